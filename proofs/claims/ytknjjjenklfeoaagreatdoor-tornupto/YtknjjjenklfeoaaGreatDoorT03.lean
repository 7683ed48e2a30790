import Derived.Test.YtknjjjenklfeoaaGreatDoorT02
import Derived.Test.YtknjjjenklfeoaaGreatDoorT00
import Derived.Test.YtknjjjenklfeoaaGreatDoorT01
import Derived.Lib.ConvBytes
set_option maxHeartbeats 8000000
set_option maxRecDepth 100000
namespace Go.Proofs.YtknjjjenklfeoaaGreatDoor
open Go.RowKit
def letter (b:UInt8):Bool:=decide (97≤b.toNat) && decide (b.toNat≤122)
def isNameB (l:List UInt8):Bool:=l.all letter && (decide (1≤l.length) && decide (l.length≤12))
def nameFrom (c:Clus) (at':Nat):Nat→Nat→Bool→List UInt8→Option (List UInt8)
 | 0,_,_,acc=>some acc
 | m+1,i,over,acc=>
   if byteAt c (at'+i)=0 then nameFrom c at' m (i+1) true acc
   else if over then none
   else nameFrom c at' m (i+1) false (acc++[c.getD (at'+i) 0])
def nameOf (c:Clus) (at':Nat):List UInt8 × Bool:=
 match nameFrom c at' 12 0 false [] with
 | none=>([],false)
 | some l=>(l,isNameB l)
def tv (T:List Nat):List Value:=T.map fun n=> .int .u16 (n:Nat)
theorem tv_length (T:List Nat):(tv T).length=T.length:=by simp [tv]
theorem tv_get (T:List Nat) (i:Nat) (h:i<T.length):(tv T)[i]? = some (.int .u16 ((T.getD i 0:Nat):Int)):=by
 simp [tv,h,List.getD]
theorem tv_one (T:List Nat): ∀ v ∈ tv T,v.oneCell'=true:=by
 intro v hv
 simp only [tv,List.mem_map] at hv
 obtain ⟨b,_,rfl⟩:=hv
 rfl
def zt:List Nat:=List.replicate 32 0
theorem zt_length:zt.length=32:=by simp [zt]
def loadTab (a:Addr):Sem Value:=loadVar 169 a
theorem loadVar_tab (a:Addr):loadVar 169 a=loadTab a:=rfl
theorem run_loadTab {w:World} {b o:Nat} (h:HasAt w b o 32):(loadTab ⟨b,o,none⟩).run Tryz.prog w= .ok (.agg (cellsAt w b o 32).toArray) w:=
 run_loadVar_has h 169 _ Tryz.underlying169 rfl (by kernel_rfl)
def storeTab (a:Addr) (v:Value):Sem Unit:=storeVar 169 a v
theorem storeVar_tab (a:Addr) (v:Value):storeVar 169 a v=storeTab a v:=rfl
theorem run_storeTab {w:World} {b o:Nat} {T:List Nat} (ht:w.there b o 32) (hT:T.length=32):(storeTab ⟨b,o,none⟩ (.agg (tv T).toArray)).run Tryz.prog w= .ok () (w.setCells b o (tv T)):=by
 have:=run_storeVar_mid (P:=Tryz.prog) w b o 169 (tv T).toArray (by simpa [tv_length,hT] using ht) (by simp only [List.size_toArray,tv_length,hT];kernel_rfl) (all_oneCell_toArray (tv_one T))
 simpa [storeTab] using this
def zeroTab:Sem Value:=zeroValue 169
theorem zeroValue_tab:zeroValue 169=zeroTab:=rfl
theorem run_zeroTab (w:World):zeroTab.run Tryz.prog w= .ok (.agg (tv zt).toArray) w:=
 (zero_of_info (P:=Tryz.prog) (t:=169) (v:= .agg (tv zt).toArray) (n:=32) (by kernel_rfl)).1 w
theorem run_storeTab_new {w:World} {z T:List Nat} (hz:z.length=32) (hT:T.length=32):
   (storeTab ⟨w.heap.size,0,none⟩ (.agg (tv T).toArray)).run Tryz.prog (w.alloc (.cells (tv z).toArray 169))= .ok () (w.alloc (.cells (tv T).toArray 169)):=
 run_storeVar_new w 169 (tv z).toArray (tv T).toArray (by simp only [List.size_toArray,tv_length,hT];kernel_rfl) (by simp [tv_length,hz,hT]) (all_oneCell_toArray (tv_one T))
theorem run_loadTab_new {w:World} {T:List Nat} (hT:T.length=32):
   (loadTab ⟨w.heap.size,0,none⟩).run Tryz.prog (w.alloc (.cells (tv T).toArray 169))= .ok (.agg (tv T).toArray) (w.alloc (.cells (tv T).toArray 169)):=
 run_loadVar_new w 169 (tv T).toArray 32 167 Tryz.underlying169 (by simp only [List.size_toArray,tv_length,hT];kernel_rfl)
def zk:List UInt8:=List.replicate 256 0
theorem zk_length:zk.length=256:=List.length_replicate
def loadCnt (a:Addr):Sem Value:=loadVar 123 a
theorem loadVar_cnt (a:Addr):loadVar 123 a=loadCnt a:=rfl
theorem run_loadCnt {w:World} {b o:Nat} (h:HasAt w b o 256):(loadCnt ⟨b,o,none⟩).run Tryz.prog w= .ok (.agg (cellsAt w b o 256).toArray) w:=
 run_loadVar_has h 123 _ Tryz.underlying123 rfl (by kernel_rfl)
def storeCnt (a:Addr) (v:Value):Sem Unit:=storeVar 123 a v
theorem storeVar_cnt (a:Addr) (v:Value):storeVar 123 a v=storeCnt a v:=rfl
theorem run_storeCnt {w:World} {b o:Nat} {c:List UInt8} (ht:w.there b o 256) (hc:c.length=256):(storeCnt ⟨b,o,none⟩ (.agg (cv c).toArray)).run Tryz.prog w= .ok () (w.setCells b o (cv c)):=by
 have:=run_storeVar_mid (P:=Tryz.prog) w b o 123 (cv c).toArray (by simpa [cv_length,hc] using ht) (by simp only [List.size_toArray,cv_length,hc];kernel_rfl) (all_oneCell_toArray (cv_one c))
 simpa [storeCnt] using this
def zeroCnt:Sem Value:=zeroValue 123
theorem zeroValue_cnt:zeroValue 123=zeroCnt:=rfl
theorem run_zeroCnt (w:World):zeroCnt.run Tryz.prog w= .ok (.agg (cv zk).toArray) w:=
 (zero_of_info (P:=Tryz.prog) (t:=123) (v:= .agg (cv zk).toArray) (n:=256) (by kernel_rfl)).1 w
theorem run_storeCnt_new {w:World} {z c:List UInt8} (hz:z.length=256) (hc:c.length=256):
   (storeCnt ⟨w.heap.size,0,none⟩ (.agg (cv c).toArray)).run Tryz.prog (w.alloc (.cells (cv z).toArray 123))= .ok () (w.alloc (.cells (cv c).toArray 123)):=
 run_storeVar_new w 123 (cv z).toArray (cv c).toArray (by simp only [List.size_toArray,cv_length,hc];kernel_rfl) (by simp [cv_length,hz,hc]) (all_oneCell_toArray (cv_one c))
theorem run_loadCnt_new {w:World} {c:List UInt8} (hc:c.length=256):
   (loadCnt ⟨w.heap.size,0,none⟩).run Tryz.prog (w.alloc (.cells (cv c).toArray 123))= .ok (.agg (cv c).toArray) (w.alloc (.cells (cv c).toArray 123)):=
 run_loadVar_new w 123 (cv c).toArray 256 5 Tryz.underlying123 (by simp only [List.size_toArray,cv_length,hc];kernel_rfl)
theorem blk_has {w:World} {b:Nat} {cs:List Value} {t:TypeId} {fr:Nat × Nat} (h:w.heap[b]? = some (.cells cs.toArray t fr)) {n:Nat} (hn:cs.length=n):HasAt w b 0 n:=hasAt_of_range (range_blk h) hn
theorem blk_cells {w:World} {b:Nat} {cs:List Value} {t:TypeId} {fr:Nat × Nat} (h:w.heap[b]? = some (.cells cs.toArray t fr)) {n:Nat} (hn:cs.length=n):cellsAt w b 0 n=cs:=cellsAt_of_range (range_blk h) hn
structure PlaceR where
 first:Nat
 inFirst:Nat
 inSecond:Nat
 second:Nat
 block:Nat
 tab:List Nat
def placeCells (p:PlaceR):List Value:= .int .i64 p.first :: .int .i64 p.inFirst :: .int .i64 p.inSecond :: .int .u16 p.second :: .int .u16 p.block :: tv p.tab
theorem placeCells_length (p:PlaceR) (h:p.tab.length=32):(placeCells p).length=37:=by simp [placeCells,tv_length,h]
theorem placeCells_one (p:PlaceR): ∀ v ∈ placeCells p,v.oneCell'=true:=by
 intro v hv
 simp only [placeCells,List.mem_cons] at hv
 rcases hv with rfl | rfl | rfl | rfl | rfl | hv
 · rfl
 · rfl
 · rfl
 · rfl
 · rfl
 · exact tv_one _ v hv
def zp:PlaceR:=⟨0,0,0,0,0,zt⟩
def loadPlace (a:Addr):Sem Value:=loadVar 171 a
theorem loadVar_place (a:Addr):loadVar 171 a=loadPlace a:=rfl
theorem run_loadPlace {w:World} {b o:Nat} (h:HasAt w b o 37):(loadPlace ⟨b,o,none⟩).run Tryz.prog w= .ok (.agg (cellsAt w b o 37).toArray) w:=
 run_loadVar_has h 171 _ Tryz.underlying171 rfl (by kernel_rfl)
def storePlace (a:Addr) (v:Value):Sem Unit:=storeVar 171 a v
theorem storeVar_place (a:Addr) (v:Value):storeVar 171 a v=storePlace a v:=rfl
theorem run_storePlace {w:World} {b o:Nat} {p:PlaceR} (ht:w.there b o 37) (hp:p.tab.length=32):(storePlace ⟨b,o,none⟩ (.agg (placeCells p).toArray)).run Tryz.prog w= .ok () (w.setCells b o (placeCells p)):=by
 have:=run_storeVar_mid (P:=Tryz.prog) w b o 171 (placeCells p).toArray (by simpa [placeCells_length p hp] using ht) (by simp only [List.size_toArray,placeCells_length p hp];kernel_rfl) (all_oneCell_toArray (placeCells_one p))
 simpa [storePlace] using this
def zeroPlace:Sem Value:=zeroValue 171
theorem zeroValue_place:zeroValue 171=zeroPlace:=rfl
theorem run_zeroPlace (w:World):zeroPlace.run Tryz.prog w= .ok (.agg (placeCells zp).toArray) w:=
 (zero_of_info (P:=Tryz.prog) (t:=171) (v:= .agg (placeCells zp).toArray) (n:=37) (by kernel_rfl)).1 w
theorem run_storePlace_new {w:World} {z p:PlaceR} (hz:z.tab.length=32) (hp:p.tab.length=32):
   (storePlace ⟨w.heap.size,0,none⟩ (.agg (placeCells p).toArray)).run Tryz.prog (w.alloc (.cells (placeCells z).toArray 171))= .ok () (w.alloc (.cells (placeCells p).toArray 171)):=
 run_storeVar_new w 171 (placeCells z).toArray (placeCells p).toArray (by simp only [List.size_toArray,placeCells_length p hp];kernel_rfl) (by simp [placeCells_length _ hz,placeCells_length _ hp]) (all_oneCell_toArray (placeCells_one p))
def bPlace (parts:Array (Nat × Value)):Sem Value:=Instr.build 171 parts
theorem build_place (parts:Array (Nat × Value)):Instr.build 171 parts=bPlace parts:=rfl
theorem run_bPlace (a b c:Nat) (w:World):(bPlace #[(0,.int .i64 a),(1,.int .i64 b),(2,.int .i64 c)]).run Tryz.prog w= .ok (.agg (placeCells ⟨a,b,c,0,0,zt⟩).toArray) w:=by
 have hz:=(zero_of_info (P:=Tryz.prog) (t:=171) (v:= .agg (placeCells zp).toArray) (n:=37) (by kernel_rfl)).1
 exact run_build_struct w 171 _ (.agg (placeCells zp).toArray) #[(0,1),(1,1),(2,1),(3,1),(4,1),(5,32)] #[(0,.int .i64 a),(1,.int .i64 b),(2,.int .i64 c)] _ Tryz.underlying171 hz (fun w=>by kernel_rfl) (by rfl)
def hv (a b:Nat):List Value:=[.int .i64 (a:Nat),.int .i64 (b:Nat)]
theorem hv_length (a b:Nat):(hv a b).length=2:=rfl
theorem hv_one (a b:Nat): ∀ v ∈ hv a b,v.oneCell'=true:=by
 intro v hv'
 simp only [hv,List.mem_cons,List.not_mem_nil,or_false] at hv'
 rcases hv' with rfl | rfl <;> rfl
def loadHead (a:Addr):Sem Value:=loadVar 128 a
theorem loadVar_head (a:Addr):loadVar 128 a=loadHead a:=rfl
theorem run_loadHead {w:World} {b o:Nat} (h:HasAt w b o 2):(loadHead ⟨b,o,none⟩).run Tryz.prog w= .ok (.agg (cellsAt w b o 2).toArray) w:=
 run_loadVar_has h 128 _ Tryz.underlying128 rfl (by kernel_rfl)
def storeHead (a:Addr) (v:Value):Sem Unit:=storeVar 128 a v
theorem storeVar_head (a:Addr) (v:Value):storeVar 128 a v=storeHead a v:=rfl
theorem run_storeHead {w:World} {b o:Nat} {x y:Nat} (ht:w.there b o 2):(storeHead ⟨b,o,none⟩ (.agg (hv x y).toArray)).run Tryz.prog w= .ok () (w.setCells b o (hv x y)):=by
 have:=run_storeVar_mid (P:=Tryz.prog) w b o 128 (hv x y).toArray (by simpa [hv_length] using ht) (by simp only [List.size_toArray,hv_length];kernel_rfl) (all_oneCell_toArray (hv_one x y))
 simpa [storeHead] using this
def zeroHead:Sem Value:=zeroValue 128
theorem zeroValue_head:zeroValue 128=zeroHead:=rfl
theorem run_zeroHead (w:World):zeroHead.run Tryz.prog w= .ok (.agg (hv 0 0).toArray) w:=
 (zero_of_info (P:=Tryz.prog) (t:=128) (v:= .agg (hv 0 0).toArray) (n:=2) (by kernel_rfl)).1 w
theorem run_storeHead_new {w:World} {a b x y:Nat}:
   (storeHead ⟨w.heap.size,0,none⟩ (.agg (hv x y).toArray)).run Tryz.prog (w.alloc (.cells (hv a b).toArray 128))= .ok () (w.alloc (.cells (hv x y).toArray 128)):=
 run_storeVar_new w 128 (hv a b).toArray (hv x y).toArray (by simp only [List.size_toArray,hv_length];kernel_rfl) (by simp [hv_length]) (all_oneCell_toArray (hv_one x y))
def bHead (parts:Array (Nat × Value)):Sem Value:=Instr.build 128 parts
theorem build_head (parts:Array (Nat × Value)):Instr.build 128 parts=bHead parts:=rfl
theorem run_bHead (a b:Nat) (w:World):(bHead #[(0,.int .i64 a),(1,.int .i64 b)]).run Tryz.prog w= .ok (.agg (hv a b).toArray) w:=by
 have hz:=(zero_of_info (P:=Tryz.prog) (t:=128) (v:= .agg (hv 0 0).toArray) (n:=2) (by kernel_rfl)).1
 exact run_build_struct w 128 _ (.agg (hv 0 0).toArray) #[(0,1),(1,1)] #[(0,.int .i64 a),(1,.int .i64 b)] _ Tryz.underlying128 hz (fun w=>by kernel_rfl) (by rfl)
structure Locs (w w':World) (os:List Obj):Prop where
 objs: ∀ i o,os[i]? = some o→w'.heap[w.heap.size+i]? = some o
 below:Below w.heap.size w w'
theorem Locs.one (w:World) (o:Obj):Locs w (w.alloc o) [o]:=⟨fun i x h=>by
 cases i with
 | zero=>simp at h;subst h;exact heap_alloc_new w o
 | succ i=>simp at h,(Below.refl _ _).alloc (Nat.le_refl _) _⟩
theorem Locs.two (w:World) (o p:Obj):Locs w ((w.alloc o).alloc p) [o,p]:=⟨fun i x h=>by
 match i with
 | 0=>simp at h;subst h;exact (Below.heap_alloc _ _ _ (by simp)).trans (heap_alloc_new w _)
 | 1=>simp at h;subst h;have:=heap_alloc_new (w.alloc o) p;rwa [World.size_alloc] at this
 | i+2=>simp at h,((Below.refl _ _).alloc (Nat.le_refl _) _).alloc (by simp) _⟩
theorem Locs.three (w:World) (o p q:Obj):Locs w (((w.alloc o).alloc p).alloc q) [o,p,q]:=⟨fun i x h=>by
 match i with
 | 0=>simp at h;subst h;exact (Below.heap_alloc _ _ _ (by simp;omega)).trans ((Below.heap_alloc _ _ _ (by simp)).trans (heap_alloc_new w _))
 | 1=>simp at h;subst h;have:=heap_alloc_new (w.alloc o) p;rw [World.size_alloc] at this;exact (Below.heap_alloc _ _ _ (by simp)).trans this
 | 2=>simp at h;subst h;have:=heap_alloc_new ((w.alloc o).alloc p) q;simp only [World.size_alloc] at this;exact this
 | i+3=>simp at h,(((Below.refl _ _).alloc (Nat.le_refl _) _).alloc (by simp) _).alloc (by simp;omega) _⟩
theorem Locs.later {w w' w2:World} {os:List Obj} (h:Locs w w' os) (hb:Below w'.heap.size w' w2):Locs w w2 os:=
 ⟨fun i o ho=>by have:=h.objs i o ho;rw [hb.block _ (blk_lt this)];exact this,h.below.trans (hb.mono h.below.size)⟩
theorem Locs.alloc {w w':World} {os:List Obj} (h:Locs w w' os) (o:Obj):Locs w (w'.alloc o) os:=h.later ((Below.refl _ _).alloc (Nat.le_refl _) _)
theorem Locs.drewN {w w':World} {os:List Obj} (h:Locs w w' os) (n:Nat):Locs w (w'.drewN n) os:=⟨h.objs,⟨h.below.os,h.below.tape,h.below.output,h.below.size,h.below.block⟩⟩
theorem Locs.drew {w w':World} {os:List Obj} (h:Locs w w' os):Locs w w'.drew os:=⟨h.objs,h.below.drew⟩
theorem Locs.put {w w' w2:World} {os:List Obj} (h:Locs w w' os) (i:Nat) (o:Obj) (hk:Kept (fun x=>x=w.heap.size+i) w' w2) (ho:w2.heap[w.heap.size+i]? = some o):Locs w w2 (os.set i o):=
 ⟨fun j x hx=>by
   rw [List.getElem?_set] at hx
   split at hx
   · rename_i e
     subst e
     split at hx
     · injection hx with hx;subst hx;exact ho
     · cases hx
   · rename_i e
     exact hk.blk (by omega) (h.objs j x hx),h.below.trans ⟨hk.os,hk.tape,hk.output,hk.size,fun k hk1=>hk.block k (Nat.lt_of_lt_of_le hk1 h.below.size) (by omega)⟩⟩
theorem Locs.setCell {w w':World} {os:List Obj} (h:Locs w w' os) (i:Nat) {cs:Array Value} {t:TypeId} {fr:Nat × Nat} (hi:os[i]? = some (.cells cs t fr)) (j:Nat) (v:Value):
   Locs w (w'.setCell ⟨w.heap.size+i,j,none⟩ v) (os.set i (.cells (cs.setIfInBounds j v) t fr)):=
 h.put i _ (Kept.only _ _ _ _) (heap_setCell_same _ _ _ _ _ _ _ (h.objs i _ hi))
theorem Kept.onlys (w:World) (f o:Nat) (vs:List Value):Kept (fun k=>k=f) w (w.setCells f o vs):=(Kept.refl (fun k=>k=f) w).setCells (Or.inl rfl) o vs
theorem Locs.setCells {w w':World} {os:List Obj} (h:Locs w w' os) (i:Nat) {cs:Array Value} {t:TypeId} {fr:Nat × Nat} (hi:os[i]? = some (.cells cs t fr)) (j:Nat) (vs:List Value):
   Locs w (w'.setCells (w.heap.size+i) j vs) (os.set i (.cells (setList cs j vs) t fr)):=
 h.put i _ (Kept.onlys _ _ _ _) (heap_setCells_same _ _ _ _ _ _ _ (h.objs i _ hi))
theorem Locs.lt {w w':World} {os:List Obj} (h:Locs w w' os) {i:Nat} {o:Obj} (hi:os[i]? = some o):w.heap.size+i<w'.heap.size:=blk_lt (h.objs i o hi)
theorem Locs.o0 {w w':World} {o:Obj} {os:List Obj} (h:Locs w w' (o :: os)):w'.heap[w.heap.size]? = some o:=h.objs 0 o rfl
theorem Locs.o1 {w w':World} {a o:Obj} {os:List Obj} (h:Locs w w' (a :: o :: os)):w'.heap[w.heap.size+1]? = some o:=h.objs 1 o rfl
theorem Locs.o2 {w w':World} {a b o:Obj} {os:List Obj} (h:Locs w w' (a :: b :: o :: os)):w'.heap[w.heap.size+1+1]? = some o:=h.objs 2 o rfl
def nv (M:List Nat):List Value:=M.map nat64
theorem nv_length (M:List Nat):(nv M).length=M.length:=by simp [nv]
theorem nv_get (M:List Nat) (n:Nat) (hn:n<M.length):(nv M)[n]? = some (.int .i64 ((M.getD n 0:Nat):Int)):=by
 unfold nv
 rw [List.getElem?_map,List.getD_eq_getElem?_getD,List.getElem?_eq_getElem hn];rfl
def zI:List Nat:=List.replicate 256 0
theorem zI_length:zI.length=256:=List.length_replicate
def zeroInts:Sem Value:=zeroValue 91
theorem zeroValue_ints:zeroValue 91=zeroInts:=rfl
theorem run_zeroInts (w:World):zeroInts.run Tryz.prog w= .ok (.agg (nv zI).toArray) w:=
 (zero_of_info (P:=Tryz.prog) (t:=91) (v:= .agg (nv zI).toArray) (n:=256) (by kernel_rfl)).1 w
attribute [local go_sem ↓] loadVar_clus zeroValue_ints
attribute [local go_sem] run_loadClus run_zeroInts
def bump (M:List Nat) (n:Nat):List Nat:=M.set n (M.getD n 0+1)
theorem bump_length (M:List Nat) (n:Nat):(bump M n).length=M.length:=by simp [bump]
def moreIn (L:List Clus) (s:Nat) (M:List Nat):Nat→List Nat
 | 0=>M
 | k+1=>if num (cl L s) (2*k)=0 then moreIn L s M k else bump (moreIn L s M k) (num (cl L s) (2*k)%32768)
def moreOut (L:List Clus) (t:Nat):Nat→List Nat
 | 0=>zI
 | i+1=>if num (cl L t) (2*i)=0 then moreOut L t i else moreIn L (num (cl L t) (2*i)%32768) (bump (moreOut L t i) (num (cl L t) (2*i)%32768)) 32
theorem moreIn_length (L:List Clus) (s:Nat) (M:List Nat): ∀ k,(moreIn L s M k).length=M.length
 | 0=>rfl
 | k+1=>by
   rw [moreIn]
   split
   · exact moreIn_length L s M k
   · rw [bump_length];exact moreIn_length L s M k
theorem moreOut_length (L:List Clus) (t:Nat): ∀ i,(moreOut L t i).length=256
 | 0=>zI_length
 | i+1=>by
   rw [moreOut]
   split
   · exact moreOut_length L t i
   · rw [moreIn_length,bump_length];exact moreOut_length L t i
def AtMost (b:Nat) (M:List Nat):Prop:= ∀ n,M.getD n 0≤b
theorem bump_most {b:Nat} {M:List Nat} (h:AtMost b M) (n:Nat):AtMost (b+1) (bump M n):=fun m=>by
 unfold bump
 rw [List.getD_eq_getElem?_getD,List.getElem?_set]
 have h1:=h n
 have h2:=h m
 rw [List.getD_eq_getElem?_getD] at h1 h2
 split
 · split
   · simp only [Option.getD_some,List.getD_eq_getElem?_getD];omega
   · simp
 · omega
theorem zI_most:AtMost 0 zI:=fun n=>by
 unfold zI
 rw [List.getD_eq_getElem?_getD,List.getElem?_replicate]
 split <;> simp
def roomFrom (L:List Clus) (M:List Nat):Nat→Nat→Bool
 | 0,_=>true
 | m+1,n=>if 254<countOf L n+M.getD n 0 then false else roomFrom L M m (n+1)
def roomR (L:List Clus) (t:Nat):Bool:=roomFrom L (moreOut L t 2) L.length 0 && decide (0<freeOf L)
end Go.Proofs.YtknjjjenklfeoaaGreatDoor
namespace Go.Proofs.YtknjjjenklfeoaaGreatDoor
open Go.RowKit
attribute [local go_sem ↓] loadVar_clus storeVar_clus zeroValue_clus
attribute [local go_sem] run_loadClus run_storeClus run_zeroClus run_storeClus_new run_loadClus_new zc_length
theorem txt_toList (l:List UInt8):(txt l).toList=l:=by rw [ByteArray.toList_eq];rfl
def nameIn (Q:List RootR) (s:List UInt8):Nat→Nat→Bool
 | 0,_=>false
 | m+1,k=>if (Q.getD k ⟨0,0,[]⟩).name=s then true else nameIn Q s m (k+1)
def entryBad (c:Clus) (i:Nat) (over:Bool):Bool:=over || (!(nameOf c (16*i+2)).2 || (byteAt c (16*i+14) != 0 || byteAt c (16*i+15) != 0))
def listFrom (c:Clus):Nat→Nat→Bool→List RootR→Bool × List RootR
 | 0,_,_,Q=>(true,Q)
 | m+1,i,over,Q=>
   if num c (16*i)=0 then (if restZero c 16 (16*i) then listFrom c m (i+1) true Q else (false,Q))
   else if entryBad c i over then (false,Q)
   else if nameIn Q (nameOf c (16*i+2)).1 (Q.length - 1) 1 then (false,Q)
   else listFrom c m (i+1) over (Q++[⟨num c (16*i),5,(nameOf c (16*i+2)).1⟩])
def listOf (R:FileR):Bool × List RootR:=listFrom (cl R.L 5) 4 0 false R.roots
end Go.Proofs.YtknjjjenklfeoaaGreatDoor
namespace Go.Proofs.YtknjjjenklfeoaaGreatDoor
theorem treeIn_L (t:Nat): ∀ m k R,(treeIn t m k R).2.L=R.L
 | 0,_,_=>rfl
 | m+1,k,R=>by
   rw [treeIn]
   split
   · exact treeIn_L t m _ R
   · split
     · rw [treeIn_L t m,tell_L]
     · exact tell_L _ _ _ _
theorem treeIn_roots (t:Nat): ∀ m k R,(treeIn t m k R).2.roots=R.roots
 | 0,_,_=>rfl
 | m+1,k,R=>by
   rw [treeIn]
   split
   · exact treeIn_roots t m _ R
   · split
     · rw [treeIn_roots t m,tell_roots]
     · exact tell_roots _ _ _ _
def treesFrom:Nat→Nat→FileR→Bool × FileR
 | 0,_,R=>(true,R)
 | m+1,i,R=>if (tree R (rootOf R i)).1 then treesFrom m (i+1) (tree R (rootOf R i)).2 else (false,(tree R (rootOf R i)).2)
def marksFrom (R:FileR):Nat→Nat→Int→Int
 | 0,_,b=>b
 | m+1,i,b=>if b<0 then marksFrom R m (i+1) (marked R (rootOf R i)).1 else b
def zeros256:List Nat:=List.replicate 256 0
def used6:List Nat:=[1,1,1,1,1,1]++List.replicate 250 0
def R0:FileR:=⟨[],[],zeros256,zeros256,-1⟩
def R1of (file:List Clus):FileR:={ R0 with L:=padTo file (num (cl file 0) 4),roots:=[⟨num (cl file 0) 6,0,[]⟩] }
def R2of (file:List Clus):FileR:={ R1of file with roots:=(listOf (R1of file)).2,used:=used6 }
def R3of (file:List Clus):Bool × FileR:=treesFrom (R2of file).roots.length 0 (R2of file)
def look (file:List Clus):FileR:=
 if headGood file=false then { R0 with bad:=0 }
 else if (listOf (R1of file)).1=false then { R1of file with roots:=(listOf (R1of file)).2,bad:=5 }
 else if (R3of file).1=false then (R3of file).2
 else { (R3of file).2 with bad:=marksFrom (R3of file).2 (R3of file).2.roots.length 0 (countsFrom (R3of file).2 256 0) }
abbrev Tells:=List (Nat × Nat)
def inTells (L:List Clus) (t:Nat):Nat→Nat→Tells
 | 0,_=>[]
 | m+1,k=>(if num (cl L t) (2*k)=0 then [] else [(num (cl L t) (2*k)%32768,3)])++inTells L t m (k+1)
def outTells (L:List Clus) (t:Nat):Nat→Nat→Tells
 | 0,_=>[]
 | m+1,i=>(if num (cl L t) (2*i)=0 then [] else (num (cl L t) (2*i)%32768,2) :: inTells L (num (cl L t) (2*i)%32768) 32 0)++outTells L t m (i+1)
def treeTells (L:List Clus) (t:Nat):Tells:=(t,1) :: outTells L t 32 0
structure OkT (L:List Clus) (ts:Tells):Prop where
 lo: ∀ x ∈ ts,6≤x.1∧x.1<L.length∧x.2≠0
 kind: ∀ x ∈ ts,∀ y ∈ ts,x.1=y.1→x.2=y.2
 once: ∀ n,ts.count (n,1)≤1
theorem OkT.pre {L:List Clus} {a b:Tells} (h:OkT L (a++b)):OkT L a:=
 ⟨fun x hx=>h.lo x (by simp [hx]),fun x hx y hy=>h.kind x (by simp [hx]) y (by simp [hy]),fun n=>by have:=h.once n;rw [List.count_append] at this;omega⟩
structure Told (L:List Clus) (rs:List RootR) (b:Int) (base:Nat→Nat) (ts:Tells) (R:FileR):Prop where
 hL:R.L=L
 hR:R.roots=rs
 hB:R.bad=b
 tl:R.told.length=256
 ul:R.used.length=256
 told: ∀ x ∈ ts,R.told.getD x.1 0=x.2
 none: ∀ n,(∀ x ∈ ts,x.1≠n)→R.told.getD n 0=0
 used: ∀ n,n<256→R.used.getD n 0=base n+(ts.map (·.1)).count n
theorem getD_setN (T:List Nat) (k n i:Nat) (hk:k<T.length):(T.set k n).getD i 0=if k=i then n else T.getD i 0:=by
 rw [List.getD_eq_getElem?_getD,List.getElem?_set]
 by_cases h:k=i
 · subst h;rw [if_pos rfl,if_pos hk,if_pos rfl];rfl
 · rw [if_neg h,if_neg h,List.getD_eq_getElem?_getD]
theorem Told.step {L:List Clus} {rs:List RootR} {b:Int} {base:Nat→Nat} {ts:Tells} {R:FileR} (h:Told L rs b base ts R) (hLL:L.length≤256) (n kind at':Nat) (ok:OkT L (ts++[(n,kind)])):
   (tell R n kind at').1=true∧Told L rs b base (ts++[(n,kind)]) (tell R n kind at').2:=by
 obtain ⟨h6,hn,hk0⟩:=ok.lo (n,kind) (by simp)
 simp only at h6 hn hk0
 have hno:noTell R n kind=false:=by
   have e1:decide (n<6)=false:=by simp;omega
   have e2:decide (R.L.length≤n)=false:=by rw [h.hL];simp;omega
   unfold noTell
   rw [e1,e2,Bool.false_or,Bool.false_or]
   by_cases hx: ∃ x ∈ ts,x.1=n
   · obtain ⟨x,hx,he⟩:=hx
     have h1:=h.told x hx
     rw [he] at h1
     have h2:=ok.kind x (by simp [hx]) (n,kind) (by simp) he
     simp only at h2
     rw [h1,h2]
     have h3:kind≠1:=by
       intro hk
       have h4:=ok.once n
       rw [List.count_append,hk] at h4
       have h5:0<ts.count (n,1):=by
         rw [List.count_pos_iff]
         have:x=(n,1):=by rw [← he,← hk,← h2]
         rw [← this];exact hx
       simp at h4
       omega
     simp [h3]
   · have h1:=h.none n (fun x hx' e=>hx ⟨x,hx',e⟩)
     rw [h1];rfl
 unfold tell
 rw [hno]
 refine ⟨rfl,⟨h.hL,h.hR,h.hB,by simp [h.tl],by simp [h.ul],?_,?_,?_⟩⟩
 · intro x hx
   show (R.told.set n kind).getD x.1 0=x.2
   rw [getD_setN _ _ _ _ (by rw [h.tl];omega)]
   by_cases e:n=x.1
   · rw [if_pos e]
     exact ok.kind (n,kind) (by simp) x hx e
   · rw [if_neg e]
     rcases List.mem_append.1 hx with y | y
     · exact h.told x y
     · exact absurd (by rw [List.mem_singleton.1 y]) e
 · intro m hm
   show (R.told.set n kind).getD m 0=0
   rw [getD_setN _ _ _ _ (by rw [h.tl];omega),if_neg (hm (n,kind) (by simp))]
   exact h.none m (fun x hx=>hm x (by simp [hx]))
 · intro m hm
   show (R.used.set n (R.used.getD n 0+1)).getD m 0=_
   rw [getD_setN _ _ _ _ (by rw [h.ul];omega),List.map_append,List.count_append]
   by_cases e:n=m
   · subst e
     rw [if_pos rfl,h.used n hm]
     simp
     omega
   · rw [if_neg e,h.used m hm]
     simp [e]
theorem treeIn_told {L:List Clus} {rs:List RootR} {b:Int} {base:Nat→Nat} (hLL:L.length≤256) (t:Nat): ∀ (m k:Nat) (ts:Tells) (R:FileR),Told L rs b base ts R→OkT L (ts++inTells L t m k)→
   (treeIn t m k R).1=true∧Told L rs b base (ts++inTells L t m k) (treeIn t m k R).2
 | 0,_,ts,R,h,_=>⟨rfl,by rw [inTells,List.append_nil];exact h⟩
 | m+1,k,ts,R,h,ok=>by
   by_cases h0:num (cl R.L t) (2*k)=0
   · rw [treeIn_zero _ _ _ _ h0]
     have h0':num (cl L t) (2*k)=0:=by rw [← h.hL];exact h0
     have e:inTells L t (m+1) k=inTells L t m (k+1):=by rw [inTells,if_pos h0'];rfl
     rw [e] at ok ⊢
     exact treeIn_told hLL t m (k+1) ts R h ok
   · have h0': ¬ num (cl L t) (2*k)=0:=by rw [← h.hL];exact h0
     have e:ts++inTells L t (m+1) k=(ts++[(num (cl L t) (2*k)%32768,3)])++inTells L t m (k+1):=by rw [inTells,if_neg h0',List.append_assoc]
     rw [e] at ok ⊢
     obtain ⟨h1,h2⟩:=h.step hLL (num (cl L t) (2*k)%32768) 3 t ok.pre
     rw [treeIn_yes _ _ _ _ h0 (by rw [h.hL];exact h1),h.hL]
     exact treeIn_told hLL t m (k+1) _ _ h2 ok
theorem treeOut_told {L:List Clus} {rs:List RootR} {b:Int} {base:Nat→Nat} (hLL:L.length≤256) (t:Nat) (hz: ∀ i,1<i→i<32→num (cl L t) (2*i)=0): ∀ (m i:Nat) (ts:Tells) (R:FileR),i+m≤32→Told L rs b base ts R→OkT L (ts++outTells L t m i)→
   (treeOut t m i R).1=true∧Told L rs b base (ts++outTells L t m i) (treeOut t m i R).2
 | 0,_,ts,R,_,h,_=>⟨rfl,by rw [outTells,List.append_nil];exact h⟩
 | m+1,i,ts,R,hm,h,ok=>by
   rw [treeOut,h.hL]
   by_cases h0:num (cl L t) (2*i)=0
   · rw [if_pos h0]
     have e:outTells L t (m+1) i=outTells L t m (i+1):=by rw [outTells,if_pos h0];rfl
     rw [e] at ok ⊢
     exact treeOut_told hLL t hz m (i+1) ts R (by omega) h ok
   · have hi: ¬ 1<i:=fun hi=>h0 (hz i hi (by omega))
     have e:ts++outTells L t (m+1) i=((ts++[(num (cl L t) (2*i)%32768,2)])++inTells L (num (cl L t) (2*i)%32768) 32 0)++outTells L t m (i+1):=by
       rw [outTells,if_neg h0];simp
     rw [e] at ok ⊢
     obtain ⟨h1,h2⟩:=h.step hLL (num (cl L t) (2*i)%32768) 2 t ok.pre.pre
     obtain ⟨h3,h4⟩:=treeIn_told hLL (num (cl L t) (2*i)%32768) 32 0 _ _ h2 ok.pre
     rw [if_neg h0,if_neg hi,if_pos h1,if_pos h3]
     exact treeOut_told hLL t hz m (i+1) _ _ (by omega) h4 ok
theorem tree_told {L:List Clus} {rs:List RootR} {b:Int} {base:Nat→Nat} (hLL:L.length≤256) (r:RootR) (hz: ∀ i,1<i→i<32→num (cl L r.N) (2*i)=0) (ts:Tells) (R:FileR) (h:Told L rs b base ts R) (ok:OkT L (ts++treeTells L r.N)):
   (tree R r).1=true∧Told L rs b base (ts++treeTells L r.N) (tree R r).2:=by
 have e:ts++treeTells L r.N=(ts++[(r.N,1)])++outTells L r.N 32 0:=by rw [treeTells];simp
 rw [e] at ok ⊢
 obtain ⟨h1,h2⟩:=h.step hLL r.N 1 r.At ok.pre
 unfold tree
 rw [if_pos h1]
 exact treeOut_told hLL r.N hz 32 0 _ _ (by omega) h2 ok
def allTells (L:List Clus) (rs:List RootR):Nat→Nat→Tells
 | 0,_=>[]
 | m+1,i=>treeTells L (rs.getD i ⟨0,0,[]⟩).N++allTells L rs m (i+1)
theorem treesFrom_told {L:List Clus} {rs:List RootR} {b:Int} {base:Nat→Nat} (hLL:L.length≤256) (hz: ∀ r ∈ rs,∀ i,1<i→i<32→num (cl L r.N) (2*i)=0): ∀ (m i:Nat) (ts:Tells) (R:FileR),i+m≤rs.length→Told L rs b base ts R→OkT L (ts++allTells L rs m i)→
   (treesFrom m i R).1=true∧Told L rs b base (ts++allTells L rs m i) (treesFrom m i R).2
 | 0,_,ts,R,_,h,_=>⟨rfl,by rw [allTells,List.append_nil];exact h⟩
 | m+1,i,ts,R,hm,h,ok=>by
   have hr:rootOf R i=rs.getD i ⟨0,0,[]⟩:=by unfold rootOf;rw [h.hR]
   have hmem:rs.getD i ⟨0,0,[]⟩ ∈ rs:=by
     rw [List.getD_eq_getElem?_getD,List.getElem?_eq_getElem (by omega)]
     exact List.getElem_mem _
   have e:ts++allTells L rs (m+1) i=(ts++treeTells L (rs.getD i ⟨0,0,[]⟩).N)++allTells L rs m (i+1):=by rw [allTells,List.append_assoc]
   rw [e] at ok ⊢
   obtain ⟨h1,h2⟩:=tree_told hLL (rs.getD i ⟨0,0,[]⟩) (hz _ hmem) ts R h ok.pre
   rw [treesFrom,hr,if_pos h1]
   exact treesFrom_told hLL hz m (i+1) _ _ (by omega) h2 ok
theorem countsFrom_good {R:FileR}: ∀ (m n:Nat),(∀ j,n≤j→j<n+m→badCount R j=false)→countsFrom R m n= -1
 | 0,_,_=>rfl
 | m+1,n,h=>by
   rw [countsFrom,h n (by omega) (by omega)]
   exact countsFrom_good m (n+1) (fun j h1 h2=>h j (by omega) (by omega))
def base6 (n:Nat):Nat:=used6.getD n 0
theorem used6_length:used6.length=256:=by kernel_rfl
theorem zeros256_length:zeros256.length=256:=by kernel_rfl
theorem base6_eq (n:Nat):base6 n=if n<6 then 1 else 0:=by
 unfold base6
 by_cases h:n<256
 · have: ∀ k:Fin 256,used6.getD k.val 0=if k.val<6 then 1 else 0:=by decide +kernel
   exact this ⟨n,h⟩
 · rw [List.getD_eq_getElem?_getD,List.getElem?_eq_none (by rw [used6_length];omega),if_neg (by omega)];rfl
section
variable {L:List Clus} {rs:List RootR} {b:Int} {R:FileR}
end
end Go.Proofs.YtknjjjenklfeoaaGreatDoor
namespace Go.Proofs.YtknjjjenklfeoaaGreatDoor
open Go.RowKit

structure PicR where
 name:List UInt8
 C:List Clus
structure DiskR where
 C:List Clus
 L:List PicR
def picCells (p:PicR):List Value:= .string (txt p.name) :: flatC p.C
def diskCells (D:DiskR) (Pv:Value):List Value:=flatC D.C++[Pv]
structure Cont (C:List Clus):Prop where
 all:All64 C
 len:C.length=64
theorem Cont.flat {C:List Clus} (h:Cont C):(flatC C).length=4096:=by rw [flatC_length C h.all,h.len]
def bDisk (parts:Array (Nat × Value)):Sem Value:=Instr.build 70 parts
theorem build_disk (parts:Array (Nat × Value)):Instr.build 70 parts=bDisk parts:=rfl
theorem run_bDisk {w:World} {C:List Clus} (hC:All64 C) (hl:C.length=64):(bDisk #[(0,.agg (flatC C).toArray)]).run Tryz.prog w= .ok (.agg (diskCells ⟨C,[]⟩ (.slice none 0 0)).toArray) w:=by
 have hz:=(zero_of_info (P:=Tryz.prog) (t:=70) (v:= .agg (diskCells ⟨zD,[]⟩ (.slice none 0 0)).toArray) (n:=4097) (by kernel_rfl)).1
 have hfl:=(Cont.mk hC hl).flat
 have hzl:=(Cont.mk (C:=zD) zD_all zD_length).flat
 have hf:Instr.fill (fun x=>(#[(0,4096),(4096,1)]:Array (Nat × Nat))[x]?) (flatC zD++[Value.slice none 0 0]).toArray [(0,Value.agg (flatC C).toArray)]=some (diskCells ⟨C,[]⟩ (.slice none 0 0)).toArray:=by
   rw [fill_one _ _ 0 0 4096 (.agg (flatC C).toArray) [] (by rfl) (by simp [Value.cells,hfl]) (by simp [hzl]),Instr.fill,show (Value.agg (flatC C).toArray).cells.toList=flatC C from rfl,
     setList_front (flatC zD) [Value.slice none 0 0] (flatC C) (by rw [hzl,hfl])]
   rfl
 exact run_build_struct w 70 _ (.agg (diskCells ⟨zD,[]⟩ (.slice none 0 0)).toArray) #[(0,4096),(4096,1)] #[(0,.agg (flatC C).toArray)] _ Tryz.underlying70 hz (fun w=>by kernel_rfl) hf
def bPic (parts:Array (Nat × Value)):Sem Value:=Instr.build 139 parts
theorem build_pic (parts:Array (Nat × Value)):Instr.build 139 parts=bPic parts:=rfl
theorem run_bPic {w:World} {nm:List UInt8} {C:List Clus} (hC:All64 C) (hl:C.length=64):(bPic #[(0,.string (txt nm)),(1,.agg (flatC C).toArray)]).run Tryz.prog w= .ok (.agg (picCells ⟨nm,C⟩).toArray) w:=by
 have hz:=(zero_of_info (P:=Tryz.prog) (t:=139) (v:= .agg (picCells ⟨[],zD⟩).toArray) (n:=4097) (by kernel_rfl)).1
 have hfl:=(Cont.mk hC hl).flat
 have hzl:=(Cont.mk (C:=zD) zD_all zD_length).flat
 have hf:Instr.fill (fun x=>(#[(0,1),(1,4096)]:Array (Nat × Nat))[x]?) ([Value.string (txt [])]++flatC zD).toArray [(0,Value.string (txt nm)),(1,Value.agg (flatC C).toArray)]=some (picCells ⟨nm,C⟩).toArray:=by
   rw [fill_one _ _ 0 0 1 (.string (txt nm)) _ (by rfl) (by rfl) (by simp),show (Value.string (txt nm)).cells.toList=[Value.string (txt nm)] from rfl,setList_front [Value.string (txt [])] (flatC zD) [Value.string (txt nm)] rfl,
     fill_one _ _ 1 1 4096 (.agg (flatC C).toArray) [] (by rfl) (by simp [Value.cells,hfl]) (by simp [hzl]),Instr.fill,show (Value.agg (flatC C).toArray).cells.toList=flatC C from rfl]
   have:=setList_back [Value.string (txt nm)] (flatC zD) (flatC C) (by rw [hzl,hfl])
   rw [show ([Value.string (txt nm)]:List Value).length=1 from rfl] at this
   rw [this]
   rfl
 exact run_build_struct w 139 _ (.agg (picCells ⟨[],zD⟩).toArray) #[(0,1),(1,4096)] #[(0,.string (txt nm)),(1,.agg (flatC C).toArray)] _ Tryz.underlying139 hz (fun w=>by kernel_rfl) hf
structure WrR where
 cl:Int
 data:Clus
def wrCells (x:WrR):List Value:= .int .i64 x.cl :: cv x.data
theorem wrCells_length {x:WrR} (h:x.data.length=64):(wrCells x).length=65:=by simp [wrCells,cv_length,h]
theorem wrCells_one (x:WrR): ∀ v ∈ wrCells x,v.oneCell'=true:=by
 intro v hv
 rcases List.mem_cons.1 hv with h | h
 · rw [h];rfl
 · exact cv_one _ v h
def flatW (l:List WrR):List Value:=l.flatMap wrCells
def wrAt (l:List WrR) (k:Nat):WrR:=l.getD k ⟨0,zc⟩
theorem flatW_length (l:List WrR) (hl: ∀ x ∈ l,x.data.length=64):(flatW l).length=l.length*65:=by
 induction l with
 | nil=>rfl
 | cons a r ih=>
   have h1:=wrCells_length (hl a (by simp))
   have h2:=ih (fun c hc=>hl c (by simp [hc]))
   simp only [flatW,List.flatMap_cons,List.length_append,List.length_cons] at*
   omega
theorem flatW_range (l:List WrR) (hl: ∀ x ∈ l,x.data.length=64) (k:Nat) (hk:k<l.length) (j:Nat) (hj:j<65):(flatW l)[k*65+j]? = (wrCells (wrAt l k))[j]? := by
 induction l generalizing k with
 | nil=>simp at hk
 | cons a r ih=>
   have h1:=wrCells_length (hl a (by simp))
   cases k with
   | zero=>
     simp only [flatW,List.flatMap_cons,wrAt,List.getD_cons_zero,Nat.zero_mul,Nat.zero_add]
     rw [List.getElem?_append_left (by omega)]
   | succ k=>
     have h2:=ih (fun c hc=>hl c (by simp [hc])) k (by simpa using hk)
     simp only [flatW,List.flatMap_cons,wrAt,List.getD_cons_succ] at*
     rw [List.getElem?_append_right (by omega),h1,← h2]
     congr 1
     omega
theorem wrAt_mem {l:List WrR} {k:Nat} (hk:k<l.length):wrAt l k ∈ l:=by
 unfold wrAt
 rw [List.getD_eq_getElem?_getD,List.getElem?_eq_getElem hk]
 exact List.getElem_mem hk
structure LRow (w:World) (v:Value) (l:List WrR):Prop where
 row:w.ownsRow 0 104 65 v l.length (flatW l)
 lens: ∀ x ∈ l,x.data.length=64
theorem LRow.kept {w w':World} {S:Nat→Prop} {v:Value} {l:List WrR} (h:LRow w v l) (hk:Kept S w w') (hs: ∀ g,v.ownBlock=some g→ ¬ S g):LRow w' v l:=⟨ownsRow_kept hk h.row hs,h.lens⟩
theorem LRow.range {w:World} {g cap:Nat} {l:List WrR} (h:LRow w (.slice (some ⟨g,0,none⟩) l.length cap) l) (k:Nat) (hk:k<l.length):w.rangeAt g (k*65) (wrCells (wrAt l k)):=by
 intro j v hv
 have hj:j<65:=by
   have:=(List.getElem?_eq_some_iff.1 hv).1
   rw [wrCells_length (h.lens _ (wrAt_mem hk))] at this;exact this
 rw [h.row.cellAt (k*65+j) (by omega),flatW_range l h.lens k hk j hj]
 exact hv
def loadWr (a:Addr):Sem Value:=loadVar 104 a
theorem loadVar_wr (a:Addr):loadVar 104 a=loadWr a:=rfl
theorem run_loadWr {w:World} {b o:Nat} (h:HasAt w b o 65):(loadWr ⟨b,o,none⟩).run Tryz.prog w= .ok (.agg (cellsAt w b o 65).toArray) w:=
 run_loadVar_has h 104 _ Tryz.underlying104 rfl (by kernel_rfl)
def storeWr (a:Addr) (v:Value):Sem Unit:=storeVar 104 a v
theorem storeVar_wr (a:Addr) (v:Value):storeVar 104 a v=storeWr a v:=rfl
def zeroWr:Sem Value:=zeroValue 104
theorem zeroValue_wr:zeroValue 104=zeroWr:=rfl
theorem run_zeroWr (w:World):zeroWr.run Tryz.prog w= .ok (.agg (wrCells ⟨0,zc⟩).toArray) w:=
 (zero_of_info (P:=Tryz.prog) (t:=104) (v:= .agg (wrCells ⟨0,zc⟩).toArray) (n:=65) (by kernel_rfl)).1 w
theorem run_storeWr_new {w:World} {z x:WrR} (hz:z.data.length=64) (hx:x.data.length=64):
   (storeWr ⟨w.heap.size,0,none⟩ (.agg (wrCells x).toArray)).run Tryz.prog (w.alloc (.cells (wrCells z).toArray 104))= .ok () (w.alloc (.cells (wrCells x).toArray 104)):=
 run_storeVar_new w 104 (wrCells z).toArray (wrCells x).toArray (by simp only [List.size_toArray,wrCells_length hx];kernel_rfl) (by simp [wrCells_length hz,wrCells_length hx]) (all_oneCell_toArray (wrCells_one x))
theorem row_set {w:World} {base g cap:Nat} {L:List Clus} (h:w.ownsRow base 38 64 (.slice (some ⟨g,0,none⟩) L.length cap) L.length (flatC L)) (hl: ∀ c ∈ L,c.length=64) (k:Nat) (hk:k<L.length) (c:Clus) (hc:c.length=64):
   (w.setCells g (k*64) (cv c)).ownsRow base 38 64 (.slice (some ⟨g,0,none⟩) L.length cap) (L.set k c).length (flatC (L.set k c)):=by
 have hl': ∀ x ∈ L.set k c,x.length=64:=by
   intro x hx
   rcases List.mem_or_eq_of_mem_set hx with y | y
   · exact hl x y
   · rw [y];exact hc
 refine ⟨flatC_length _ hl',?_⟩
 rcases h.2 with ⟨e,_⟩ | ⟨g',cap',cur,e,hb,hh,hn,hm,hs,ht⟩
 · cases e
 · obtain ⟨rfl,rfl⟩:g'=g∧cap'=cap:=by injection e with x1 _ x3;injection x1 with x1;injection x1 with x1;exact ⟨x1.symm,x3.symm⟩
   refine Or.inr ⟨g',cap',setList cur (k*64) (cv c),by simp,hb,heap_setCells_same _ _ _ _ _ _ _ hh,by simpa using hn,hm,by rw [setList_size];exact hs,?_⟩
   have hfl:=flatC_length L hl
   have e2:=setList_flatC L hl k hk c hc
   refine List.ext_getElem? fun i=> ?_
   rw [List.length_set]
   by_cases hi:i<L.length*64
   · rw [List.getElem?_take,if_pos hi,Array.getElem?_toList,setList_get _ _ _ _ (by rw [cv_length,hc,hs];have:=Nat.mul_le_mul_right 64 hn;omega)]
     have e3:(setList (flatC L).toArray (k*64) (cv c))[i]? = (flatC (L.set k c)).toArray[i]? := by rw [e2]
     rw [setList_get _ _ _ _ (by rw [cv_length,hc];simp;omega),List.getElem?_toArray,List.getElem?_toArray] at e3
     rw [← e3]
     have e4:cur[i]? = (flatC L)[i]? := by rw [← ht,List.getElem?_take,if_pos hi,Array.getElem?_toList]
     rw [e4]
   · have hfl2:=flatC_length _ hl'
     rw [List.length_set] at hfl2
     rw [List.getElem?_eq_none (by rw [List.length_take];omega),List.getElem?_eq_none (by omega)]
theorem row_there {w:World} {base g cap:Nat} {L:List Clus} (h:w.ownsRow base 38 64 (.slice (some ⟨g,0,none⟩) L.length cap) L.length (flatC L)) (k:Nat) (hk:k<L.length):w.there g (k*64) 64:=by
 rcases h.2 with ⟨e,_⟩ | ⟨g',cap',cur,e,hb,hh,hn,hm,hs,ht⟩
 · cases e
 · obtain ⟨rfl,rfl⟩:g'=g∧cap'=cap:=by injection e with x1 _ x3;injection x1 with x1;injection x1 with x1;exact ⟨x1.symm,x3.symm⟩
   exact there_blk hh _ _ (by rw [hs];have:=Nat.mul_le_mul_right 64 hn;omega)
theorem pIsName_any (s:ByteArray) (w:World) (hs:s.size≤maxLen):
   Calls Tryz.prog 82 #[.string s] w fun e w'=>e= .returned (.bool (isNameB s.data.toList))∧Below w.heap.size w w':=by
 unfold maxLen at hs
 have hlen:s.data.toList.length=s.size:=by rw [Array.length_toList];rfl
 have Hr:Hid (isNameB s.data.toList=(s.data.toList.all letter && (decide (1≤s.data.toList.length) && decide (s.data.toList.length≤12)))):=rfl
 rw [hlen] at Hr
 have Hlen:=hide hlen
 clear hlen
 by_cases h1:s.size<1
 · have d1:decide ((s.size:Int)<1)=true:=decide_eq_true (by omega)
   rw [show decide (1≤s.size)=false from decide_eq_false (by omega),Bool.false_and,Bool.and_false] at Hr
   go_enter Tryz.func82,Tryz.ntmps82
   go_wp2
   go_ret
   exact ⟨by rw [uh Hr];rfl,Below.refl _ _⟩
 have d1:decide ((s.size:Int)<1)=false:=decide_eq_false (by omega)
 rw [show decide (1≤s.size)=true from decide_eq_true (by omega),Bool.true_and] at Hr
 by_cases h12:12<s.size
 · have d2:decide ((12:Int)<(s.size:Int))=true:=decide_eq_true (by omega)
   rw [show decide (s.size≤12)=false from decide_eq_false (by omega),Bool.and_false] at Hr
   go_enter Tryz.func82,Tryz.ntmps82
   go_wp2
   go_ret
   exact ⟨by rw [uh Hr];rfl,Below.refl _ _⟩
 have d2:decide ((12:Int)<(s.size:Int))=false:=decide_eq_false (by omega)
 rw [show decide (s.size≤12)=true from decide_eq_true (by omega),Bool.and_true] at Hr
 have hconv:=Lib.run_convert_string_bytes (P:=Tryz.prog) w 9 73 5 s Tryz.underlying9 Tryz.underlying73 Tryz.underlying5
 have hB:Hid (Below w.heap.size w (Lib.bytesWorld w 5 s)):=⟨rfl,rfl,rfl,by rw [Lib.bytesWorld_size];omega,fun k hk=>Lib.bytesWorld_at_old w _ s k hk⟩
 have hC:Hid (∀ j,j<s.size→(Lib.bytesWorld w 5 s).cell? ⟨w.heap.size,j,none⟩=some (.int .u8 (s.data.toList.getD j 0).toNat)):=fun j hj=>Lib.bytesWorld_cell w _ s j hj
 generalize Lib.bytesWorld w 5 s=w1 at hconv hB hC
 generalize grownCap w s.size 0 5=cap at hconv
 go_enter Tryz.func82,Tryz.ntmps82
 go_wp2
 go_loop [16] (fun i=> ∃ k:Nat,k≤s.size∧i= .int .i64 k∧(s.data.toList.take k).all letter=true) (fun i=>s.size - (intOf i).toNat)
 case atStart=>exact ⟨0,Nat.zero_le _,rfl,by simp⟩
 case round=>
   obtain ⟨k,hk,rfl,ha⟩:=hrel
   have Ha:=hide ha
   clear ha
   by_cases hlt:k<s.size
   · have hget:s.data.toList.getD k 0=s[k]:=by
       rw [List.getD_eq_getElem?_getD,List.getElem?_eq_getElem (by rw [uh Hlen];exact hlt)];rfl
     have hcell:=uh hC k hlt
     rw [hget] at hcell
     have hts:s.data.toList.take (k+1)=s.data.toList.take k++[s[k]]:=by
       rw [List.take_succ_eq_append_getElem (by rw [uh Hlen];exact hlt)];rfl
     have hb:=s[k].toNat_lt
     have hl:letter s[k]=(decide (97≤s[k].toNat) && decide (s[k].toNat≤122)):=rfl
     have hall:letter s[k]=false→isNameB s.data.toList=false:=fun hf=>by
       have:s.data.toList.all letter=false:=by
         rw [List.all_eq_false]
         exact ⟨s[k],by rw [← List.take_append_drop (k+1) s.data.toList,hts];simp,by rw [hf];simp⟩
       rw [uh Hr,this]
     have hnext:letter s[k]=true→(s.data.toList.take (k+1)).all letter=true:=fun ht=>by rw [hts,List.all_append,uh Ha];simp [ht]
     have HA:=hide hall
     have HN:=hide hnext
     have HL:=hide hl
     clear hall hnext hl hts hget
     by_cases h97:s[k].toNat<97
     · have d3:decide ((s[k].toNat:Int)<97)=true:=decide_eq_true (by omega)
       have e:=hide (uh HA (by rw [uh HL,show decide (97≤s[k].toNat)=false from decide_eq_false (by omega)];rfl))
       go_wp2
       go_ret
       exact ⟨by rw [uh e];rfl,uh hB⟩
     · have d3:decide ((s[k].toNat:Int)<97)=false:=decide_eq_false (by omega)
       by_cases h122:122<s[k].toNat
       · have d4:decide ((122:Int)<(s[k].toNat:Int))=true:=decide_eq_true (by omega)
         have e:=hide (uh HA (by rw [uh HL,show decide (s[k].toNat≤122)=false from decide_eq_false (by omega)];simp))
         go_wp2
         go_ret
         exact ⟨by rw [uh e];rfl,uh hB⟩
       · have d4:decide ((122:Int)<(s[k].toNat:Int))=false:=decide_eq_false (by omega)
         have e:=hide (uh HN (by rw [uh HL,show decide (97≤s[k].toNat)=true from decide_eq_true (by omega),show decide (s[k].toNat≤122)=true from decide_eq_true (by omega)];rfl))
         go_wp2
         go_round
         case rel=>exact ⟨k+1,by omega,by go_num,uh e⟩
         case measure=>simp [intOf];omega
   · have hks:k=s.size:=by omega
     have hall:s.data.toList.all letter=true:=by
       have:=uh Ha
       rwa [hks,← uh Hlen,List.take_length] at this
     rw [hall] at Hr
     clear hall
     go_wp2
     go_ret
     exact ⟨by rw [uh Hr];rfl,uh hB⟩
end Go.Proofs.YtknjjjenklfeoaaGreatDoor
