import Derived.Test.YtknjjjenklfeoaaGreatDoorC00
import Derived.Test.YtknjjjenklfeoaaGreatDoorC02
import Derived.Test.YtknjjjenklfeoaaGreatDoorC01
import Derived.Lib.EndianBits
set_option maxHeartbeats 8000000
set_option maxRecDepth 100000
namespace Go.Proofs.YtknjjjenklfeoaaGreatDoor
open Go.RowKit
def tv (T:List Nat):List Value:=T.map fun n=> .int .u16 (n:Nat)
theorem tv_length (T:List Nat):(tv T).length=T.length:=by simp [tv]
theorem tv_get (T:List Nat) (i:Nat) (h:i<T.length):(tv T)[i]? = some (.int .u16 ((T.getD i 0:Nat):Int)):=by
 simp [tv,h,List.getD]
theorem tv_one (T:List Nat): ∀ v ∈ tv T,v.oneCell'=true:=by
 intro v hv
 simp only [tv,List.mem_map] at hv
 obtain ⟨b,_,rfl⟩:=hv
 rfl
def zt:List Nat:=List.replicate 32 0
theorem zt_length:zt.length=32:=by simp [zt]
def loadTab (a:Addr):Sem Value:=loadVar 169 a
theorem loadVar_tab (a:Addr):loadVar 169 a=loadTab a:=rfl
theorem run_loadTab {w:World} {b o:Nat} (h:HasAt w b o 32):(loadTab ⟨b,o,none⟩).run Tryz.prog w= .ok (.agg (cellsAt w b o 32).toArray) w:=
 run_loadVar_has h 169 _ Tryz.underlying169 rfl (by kernel_rfl)
def storeTab (a:Addr) (v:Value):Sem Unit:=storeVar 169 a v
theorem storeVar_tab (a:Addr) (v:Value):storeVar 169 a v=storeTab a v:=rfl
theorem run_storeTab {w:World} {b o:Nat} {T:List Nat} (ht:w.there b o 32) (hT:T.length=32):(storeTab ⟨b,o,none⟩ (.agg (tv T).toArray)).run Tryz.prog w= .ok () (w.setCells b o (tv T)):=by
 have:=run_storeVar_mid (P:=Tryz.prog) w b o 169 (tv T).toArray (by simpa [tv_length,hT] using ht) (by simp only [List.size_toArray,tv_length,hT];kernel_rfl) (all_oneCell_toArray (tv_one T))
 simpa [storeTab] using this
def zeroTab:Sem Value:=zeroValue 169
theorem zeroValue_tab:zeroValue 169=zeroTab:=rfl
theorem run_zeroTab (w:World):zeroTab.run Tryz.prog w= .ok (.agg (tv zt).toArray) w:=
 (zero_of_info (P:=Tryz.prog) (t:=169) (v:= .agg (tv zt).toArray) (n:=32) (by kernel_rfl)).1 w
theorem run_storeTab_new {w:World} {z T:List Nat} (hz:z.length=32) (hT:T.length=32):
   (storeTab ⟨w.heap.size,0,none⟩ (.agg (tv T).toArray)).run Tryz.prog (w.alloc (.cells (tv z).toArray 169))= .ok () (w.alloc (.cells (tv T).toArray 169)):=
 run_storeVar_new w 169 (tv z).toArray (tv T).toArray (by simp only [List.size_toArray,tv_length,hT];kernel_rfl) (by simp [tv_length,hz,hT]) (all_oneCell_toArray (tv_one T))
theorem run_loadTab_new {w:World} {T:List Nat} (hT:T.length=32):
   (loadTab ⟨w.heap.size,0,none⟩).run Tryz.prog (w.alloc (.cells (tv T).toArray 169))= .ok (.agg (tv T).toArray) (w.alloc (.cells (tv T).toArray 169)):=
 run_loadVar_new w 169 (tv T).toArray 32 167 Tryz.underlying169 (by simp only [List.size_toArray,tv_length,hT];kernel_rfl)
def zk:List UInt8:=List.replicate 256 0
theorem zk_length:zk.length=256:=List.length_replicate
def loadCnt (a:Addr):Sem Value:=loadVar 123 a
theorem loadVar_cnt (a:Addr):loadVar 123 a=loadCnt a:=rfl
theorem run_loadCnt {w:World} {b o:Nat} (h:HasAt w b o 256):(loadCnt ⟨b,o,none⟩).run Tryz.prog w= .ok (.agg (cellsAt w b o 256).toArray) w:=
 run_loadVar_has h 123 _ Tryz.underlying123 rfl (by kernel_rfl)
def storeCnt (a:Addr) (v:Value):Sem Unit:=storeVar 123 a v
theorem storeVar_cnt (a:Addr) (v:Value):storeVar 123 a v=storeCnt a v:=rfl
theorem run_storeCnt {w:World} {b o:Nat} {c:List UInt8} (ht:w.there b o 256) (hc:c.length=256):(storeCnt ⟨b,o,none⟩ (.agg (cv c).toArray)).run Tryz.prog w= .ok () (w.setCells b o (cv c)):=by
 have:=run_storeVar_mid (P:=Tryz.prog) w b o 123 (cv c).toArray (by simpa [cv_length,hc] using ht) (by simp only [List.size_toArray,cv_length,hc];kernel_rfl) (all_oneCell_toArray (cv_one c))
 simpa [storeCnt] using this
def zeroCnt:Sem Value:=zeroValue 123
theorem zeroValue_cnt:zeroValue 123=zeroCnt:=rfl
theorem run_zeroCnt (w:World):zeroCnt.run Tryz.prog w= .ok (.agg (cv zk).toArray) w:=
 (zero_of_info (P:=Tryz.prog) (t:=123) (v:= .agg (cv zk).toArray) (n:=256) (by kernel_rfl)).1 w
theorem run_storeCnt_new {w:World} {z c:List UInt8} (hz:z.length=256) (hc:c.length=256):
   (storeCnt ⟨w.heap.size,0,none⟩ (.agg (cv c).toArray)).run Tryz.prog (w.alloc (.cells (cv z).toArray 123))= .ok () (w.alloc (.cells (cv c).toArray 123)):=
 run_storeVar_new w 123 (cv z).toArray (cv c).toArray (by simp only [List.size_toArray,cv_length,hc];kernel_rfl) (by simp [cv_length,hz,hc]) (all_oneCell_toArray (cv_one c))
theorem run_loadCnt_new {w:World} {c:List UInt8} (hc:c.length=256):
   (loadCnt ⟨w.heap.size,0,none⟩).run Tryz.prog (w.alloc (.cells (cv c).toArray 123))= .ok (.agg (cv c).toArray) (w.alloc (.cells (cv c).toArray 123)):=
 run_loadVar_new w 123 (cv c).toArray 256 5 Tryz.underlying123 (by simp only [List.size_toArray,cv_length,hc];kernel_rfl)
theorem blk_has {w:World} {b:Nat} {cs:List Value} {t:TypeId} {fr:Nat × Nat} (h:w.heap[b]? = some (.cells cs.toArray t fr)) {n:Nat} (hn:cs.length=n):HasAt w b 0 n:=hasAt_of_range (range_blk h) hn
theorem blk_cells {w:World} {b:Nat} {cs:List Value} {t:TypeId} {fr:Nat × Nat} (h:w.heap[b]? = some (.cells cs.toArray t fr)) {n:Nat} (hn:cs.length=n):cellsAt w b 0 n=cs:=cellsAt_of_range (range_blk h) hn
structure PlaceR where
 first:Nat
 inFirst:Nat
 inSecond:Nat
 second:Nat
 block:Nat
 tab:List Nat
def placeCells (p:PlaceR):List Value:= .int .i64 p.first :: .int .i64 p.inFirst :: .int .i64 p.inSecond :: .int .u16 p.second :: .int .u16 p.block :: tv p.tab
theorem placeCells_length (p:PlaceR) (h:p.tab.length=32):(placeCells p).length=37:=by simp [placeCells,tv_length,h]
theorem placeCells_one (p:PlaceR): ∀ v ∈ placeCells p,v.oneCell'=true:=by
 intro v hv
 simp only [placeCells,List.mem_cons] at hv
 rcases hv with rfl | rfl | rfl | rfl | rfl | hv
 · rfl
 · rfl
 · rfl
 · rfl
 · rfl
 · exact tv_one _ v hv
def zp:PlaceR:=⟨0,0,0,0,0,zt⟩
def loadPlace (a:Addr):Sem Value:=loadVar 171 a
theorem loadVar_place (a:Addr):loadVar 171 a=loadPlace a:=rfl
theorem run_loadPlace {w:World} {b o:Nat} (h:HasAt w b o 37):(loadPlace ⟨b,o,none⟩).run Tryz.prog w= .ok (.agg (cellsAt w b o 37).toArray) w:=
 run_loadVar_has h 171 _ Tryz.underlying171 rfl (by kernel_rfl)
def storePlace (a:Addr) (v:Value):Sem Unit:=storeVar 171 a v
theorem storeVar_place (a:Addr) (v:Value):storeVar 171 a v=storePlace a v:=rfl
theorem run_storePlace {w:World} {b o:Nat} {p:PlaceR} (ht:w.there b o 37) (hp:p.tab.length=32):(storePlace ⟨b,o,none⟩ (.agg (placeCells p).toArray)).run Tryz.prog w= .ok () (w.setCells b o (placeCells p)):=by
 have:=run_storeVar_mid (P:=Tryz.prog) w b o 171 (placeCells p).toArray (by simpa [placeCells_length p hp] using ht) (by simp only [List.size_toArray,placeCells_length p hp];kernel_rfl) (all_oneCell_toArray (placeCells_one p))
 simpa [storePlace] using this
def zeroPlace:Sem Value:=zeroValue 171
theorem zeroValue_place:zeroValue 171=zeroPlace:=rfl
theorem run_zeroPlace (w:World):zeroPlace.run Tryz.prog w= .ok (.agg (placeCells zp).toArray) w:=
 (zero_of_info (P:=Tryz.prog) (t:=171) (v:= .agg (placeCells zp).toArray) (n:=37) (by kernel_rfl)).1 w
theorem run_storePlace_new {w:World} {z p:PlaceR} (hz:z.tab.length=32) (hp:p.tab.length=32):
   (storePlace ⟨w.heap.size,0,none⟩ (.agg (placeCells p).toArray)).run Tryz.prog (w.alloc (.cells (placeCells z).toArray 171))= .ok () (w.alloc (.cells (placeCells p).toArray 171)):=
 run_storeVar_new w 171 (placeCells z).toArray (placeCells p).toArray (by simp only [List.size_toArray,placeCells_length p hp];kernel_rfl) (by simp [placeCells_length _ hz,placeCells_length _ hp]) (all_oneCell_toArray (placeCells_one p))
def bPlace (parts:Array (Nat × Value)):Sem Value:=Instr.build 171 parts
theorem build_place (parts:Array (Nat × Value)):Instr.build 171 parts=bPlace parts:=rfl
theorem run_bPlace (a b c:Nat) (w:World):(bPlace #[(0,.int .i64 a),(1,.int .i64 b),(2,.int .i64 c)]).run Tryz.prog w= .ok (.agg (placeCells ⟨a,b,c,0,0,zt⟩).toArray) w:=by
 have hz:=(zero_of_info (P:=Tryz.prog) (t:=171) (v:= .agg (placeCells zp).toArray) (n:=37) (by kernel_rfl)).1
 exact run_build_struct w 171 _ (.agg (placeCells zp).toArray) #[(0,1),(1,1),(2,1),(3,1),(4,1),(5,32)] #[(0,.int .i64 a),(1,.int .i64 b),(2,.int .i64 c)] _ Tryz.underlying171 hz (fun w=>by kernel_rfl) (by rfl)
def hv (a b:Nat):List Value:=[.int .i64 (a:Nat),.int .i64 (b:Nat)]
theorem hv_length (a b:Nat):(hv a b).length=2:=rfl
theorem hv_one (a b:Nat): ∀ v ∈ hv a b,v.oneCell'=true:=by
 intro v hv'
 simp only [hv,List.mem_cons,List.not_mem_nil,or_false] at hv'
 rcases hv' with rfl | rfl <;> rfl
def loadHead (a:Addr):Sem Value:=loadVar 128 a
theorem loadVar_head (a:Addr):loadVar 128 a=loadHead a:=rfl
theorem run_loadHead {w:World} {b o:Nat} (h:HasAt w b o 2):(loadHead ⟨b,o,none⟩).run Tryz.prog w= .ok (.agg (cellsAt w b o 2).toArray) w:=
 run_loadVar_has h 128 _ Tryz.underlying128 rfl (by kernel_rfl)
def storeHead (a:Addr) (v:Value):Sem Unit:=storeVar 128 a v
theorem storeVar_head (a:Addr) (v:Value):storeVar 128 a v=storeHead a v:=rfl
theorem run_storeHead {w:World} {b o:Nat} {x y:Nat} (ht:w.there b o 2):(storeHead ⟨b,o,none⟩ (.agg (hv x y).toArray)).run Tryz.prog w= .ok () (w.setCells b o (hv x y)):=by
 have:=run_storeVar_mid (P:=Tryz.prog) w b o 128 (hv x y).toArray (by simpa [hv_length] using ht) (by simp only [List.size_toArray,hv_length];kernel_rfl) (all_oneCell_toArray (hv_one x y))
 simpa [storeHead] using this
def zeroHead:Sem Value:=zeroValue 128
theorem zeroValue_head:zeroValue 128=zeroHead:=rfl
theorem run_zeroHead (w:World):zeroHead.run Tryz.prog w= .ok (.agg (hv 0 0).toArray) w:=
 (zero_of_info (P:=Tryz.prog) (t:=128) (v:= .agg (hv 0 0).toArray) (n:=2) (by kernel_rfl)).1 w
theorem run_storeHead_new {w:World} {a b x y:Nat}:
   (storeHead ⟨w.heap.size,0,none⟩ (.agg (hv x y).toArray)).run Tryz.prog (w.alloc (.cells (hv a b).toArray 128))= .ok () (w.alloc (.cells (hv x y).toArray 128)):=
 run_storeVar_new w 128 (hv a b).toArray (hv x y).toArray (by simp only [List.size_toArray,hv_length];kernel_rfl) (by simp [hv_length]) (all_oneCell_toArray (hv_one x y))
def bHead (parts:Array (Nat × Value)):Sem Value:=Instr.build 128 parts
theorem build_head (parts:Array (Nat × Value)):Instr.build 128 parts=bHead parts:=rfl
theorem run_bHead (a b:Nat) (w:World):(bHead #[(0,.int .i64 a),(1,.int .i64 b)]).run Tryz.prog w= .ok (.agg (hv a b).toArray) w:=by
 have hz:=(zero_of_info (P:=Tryz.prog) (t:=128) (v:= .agg (hv 0 0).toArray) (n:=2) (by kernel_rfl)).1
 exact run_build_struct w 128 _ (.agg (hv 0 0).toArray) #[(0,1),(1,1)] #[(0,.int .i64 a),(1,.int .i64 b)] _ Tryz.underlying128 hz (fun w=>by kernel_rfl) (by rfl)
structure Locs (w w':World) (os:List Obj):Prop where
 objs: ∀ i o,os[i]? = some o→w'.heap[w.heap.size+i]? = some o
 below:Below w.heap.size w w'
theorem Locs.nil (w:World):Locs w w []:=⟨fun _ _ h=>by simp at h,Below.refl _ _⟩
theorem Locs.one (w:World) (o:Obj):Locs w (w.alloc o) [o]:=⟨fun i x h=>by
 cases i with
 | zero=>simp at h;subst h;exact heap_alloc_new w o
 | succ i=>simp at h,(Below.refl _ _).alloc (Nat.le_refl _) _⟩
theorem Locs.two (w:World) (o p:Obj):Locs w ((w.alloc o).alloc p) [o,p]:=⟨fun i x h=>by
 match i with
 | 0=>simp at h;subst h;exact (Below.heap_alloc _ _ _ (by simp)).trans (heap_alloc_new w _)
 | 1=>simp at h;subst h;have:=heap_alloc_new (w.alloc o) p;rwa [World.size_alloc] at this
 | i+2=>simp at h,((Below.refl _ _).alloc (Nat.le_refl _) _).alloc (by simp) _⟩
theorem Locs.three (w:World) (o p q:Obj):Locs w (((w.alloc o).alloc p).alloc q) [o,p,q]:=⟨fun i x h=>by
 match i with
 | 0=>simp at h;subst h;exact (Below.heap_alloc _ _ _ (by simp;omega)).trans ((Below.heap_alloc _ _ _ (by simp)).trans (heap_alloc_new w _))
 | 1=>simp at h;subst h;have:=heap_alloc_new (w.alloc o) p;rw [World.size_alloc] at this;exact (Below.heap_alloc _ _ _ (by simp)).trans this
 | 2=>simp at h;subst h;have:=heap_alloc_new ((w.alloc o).alloc p) q;simp only [World.size_alloc] at this;exact this
 | i+3=>simp at h,(((Below.refl _ _).alloc (Nat.le_refl _) _).alloc (by simp) _).alloc (by simp;omega) _⟩
theorem Locs.later {w w' w2:World} {os:List Obj} (h:Locs w w' os) (hb:Below w'.heap.size w' w2):Locs w w2 os:=
 ⟨fun i o ho=>by have:=h.objs i o ho;rw [hb.block _ (blk_lt this)];exact this,h.below.trans (hb.mono h.below.size)⟩
theorem Locs.alloc {w w':World} {os:List Obj} (h:Locs w w' os) (o:Obj):Locs w (w'.alloc o) os:=h.later ((Below.refl _ _).alloc (Nat.le_refl _) _)
theorem Locs.drewN {w w':World} {os:List Obj} (h:Locs w w' os) (n:Nat):Locs w (w'.drewN n) os:=⟨h.objs,⟨h.below.os,h.below.tape,h.below.output,h.below.size,h.below.block⟩⟩
theorem Locs.drew {w w':World} {os:List Obj} (h:Locs w w' os):Locs w w'.drew os:=⟨h.objs,h.below.drew⟩
theorem Locs.put {w w' w2:World} {os:List Obj} (h:Locs w w' os) (i:Nat) (o:Obj) (hk:Kept (fun x=>x=w.heap.size+i) w' w2) (ho:w2.heap[w.heap.size+i]? = some o):Locs w w2 (os.set i o):=
 ⟨fun j x hx=>by
   rw [List.getElem?_set] at hx
   split at hx
   · rename_i e
     subst e
     split at hx
     · injection hx with hx;subst hx;exact ho
     · cases hx
   · rename_i e
     exact hk.blk (by omega) (h.objs j x hx),h.below.trans ⟨hk.os,hk.tape,hk.output,hk.size,fun k hk1=>hk.block k (Nat.lt_of_lt_of_le hk1 h.below.size) (by omega)⟩⟩
theorem Locs.setCell {w w':World} {os:List Obj} (h:Locs w w' os) (i:Nat) {cs:Array Value} {t:TypeId} {fr:Nat × Nat} (hi:os[i]? = some (.cells cs t fr)) (j:Nat) (v:Value):
   Locs w (w'.setCell ⟨w.heap.size+i,j,none⟩ v) (os.set i (.cells (cs.setIfInBounds j v) t fr)):=
 h.put i _ (Kept.only _ _ _ _) (heap_setCell_same _ _ _ _ _ _ _ (h.objs i _ hi))
theorem Kept.onlys (w:World) (f o:Nat) (vs:List Value):Kept (fun k=>k=f) w (w.setCells f o vs):=(Kept.refl (fun k=>k=f) w).setCells (Or.inl rfl) o vs
theorem Locs.setCells {w w':World} {os:List Obj} (h:Locs w w' os) (i:Nat) {cs:Array Value} {t:TypeId} {fr:Nat × Nat} (hi:os[i]? = some (.cells cs t fr)) (j:Nat) (vs:List Value):
   Locs w (w'.setCells (w.heap.size+i) j vs) (os.set i (.cells (setList cs j vs) t fr)):=
 h.put i _ (Kept.onlys _ _ _ _) (heap_setCells_same _ _ _ _ _ _ _ (h.objs i _ hi))
theorem Locs.lt {w w':World} {os:List Obj} (h:Locs w w' os) {i:Nat} {o:Obj} (hi:os[i]? = some o):w.heap.size+i<w'.heap.size:=blk_lt (h.objs i o hi)
theorem Locs.o0 {w w':World} {o:Obj} {os:List Obj} (h:Locs w w' (o :: os)):w'.heap[w.heap.size]? = some o:=h.objs 0 o rfl
theorem Locs.o1 {w w':World} {a o:Obj} {os:List Obj} (h:Locs w w' (a :: o :: os)):w'.heap[w.heap.size+1]? = some o:=h.objs 1 o rfl
theorem Locs.o2 {w w':World} {a b o:Obj} {os:List Obj} (h:Locs w w' (a :: b :: o :: os)):w'.heap[w.heap.size+1+1]? = some o:=h.objs 2 o rfl
theorem Locs.o3 {w w':World} {a b c o:Obj} {os:List Obj} (h:Locs w w' (a :: b :: c :: o :: os)):w'.heap[w.heap.size+1+1+1]? = some o:=h.objs 3 o rfl
def nv (M:List Nat):List Value:=M.map nat64
theorem nv_get (M:List Nat) (n:Nat) (hn:n<M.length):(nv M)[n]? = some (.int .i64 ((M.getD n 0:Nat):Int)):=by
 unfold nv
 rw [List.getElem?_map,List.getD_eq_getElem?_getD,List.getElem?_eq_getElem hn];rfl
def zI:List Nat:=List.replicate 256 0
theorem zI_length:zI.length=256:=List.length_replicate
def zeroInts:Sem Value:=zeroValue 91
theorem zeroValue_ints:zeroValue 91=zeroInts:=rfl
theorem run_zeroInts (w:World):zeroInts.run Tryz.prog w= .ok (.agg (nv zI).toArray) w:=
 (zero_of_info (P:=Tryz.prog) (t:=91) (v:= .agg (nv zI).toArray) (n:=256) (by kernel_rfl)).1 w
attribute [local go_sem ↓] loadVar_clus zeroValue_ints
attribute [local go_sem] run_loadClus run_zeroInts
def bump (M:List Nat) (n:Nat):List Nat:=M.set n (M.getD n 0+1)
theorem bump_length (M:List Nat) (n:Nat):(bump M n).length=M.length:=by simp [bump]
theorem bump_cells (M:List Nat) (n:Nat):(nv M).toArray.setIfInBounds n (.int .i64 ((M.getD n 0:Nat)+1:Int))=(nv (bump M n)).toArray:=by
 rw [List.setIfInBounds_toArray]
 unfold bump nv
 rw [List.map_set]
 congr 2
def moreIn (L:List Clus) (s:Nat) (M:List Nat):Nat→List Nat
 | 0=>M
 | k+1=>if num (cl L s) (2*k)=0 then moreIn L s M k else bump (moreIn L s M k) (num (cl L s) (2*k)%32768)
def moreOut (L:List Clus) (t:Nat):Nat→List Nat
 | 0=>zI
 | i+1=>if num (cl L t) (2*i)=0 then moreOut L t i else moreIn L (num (cl L t) (2*i)%32768) (bump (moreOut L t i) (num (cl L t) (2*i)%32768)) 32
theorem moreIn_length (L:List Clus) (s:Nat) (M:List Nat): ∀ k,(moreIn L s M k).length=M.length
 | 0=>rfl
 | k+1=>by
   rw [moreIn]
   split
   · exact moreIn_length L s M k
   · rw [bump_length];exact moreIn_length L s M k
theorem moreOut_length (L:List Clus) (t:Nat): ∀ i,(moreOut L t i).length=256
 | 0=>zI_length
 | i+1=>by
   rw [moreOut]
   split
   · exact moreOut_length L t i
   · rw [moreIn_length,bump_length];exact moreOut_length L t i
def AtMost (b:Nat) (M:List Nat):Prop:= ∀ n,M.getD n 0≤b
theorem bump_most {b:Nat} {M:List Nat} (h:AtMost b M) (n:Nat):AtMost (b+1) (bump M n):=fun m=>by
 unfold bump
 rw [List.getD_eq_getElem?_getD,List.getElem?_set]
 have h1:=h n
 have h2:=h m
 rw [List.getD_eq_getElem?_getD] at h1 h2
 split
 · split
   · simp only [Option.getD_some,List.getD_eq_getElem?_getD];omega
   · simp
 · omega
theorem moreIn_most {b:Nat} {M:List Nat} (L:List Clus) (s:Nat) (h:AtMost b M): ∀ k,AtMost (b+k) (moreIn L s M k)
 | 0=>h
 | k+1=>by
   rw [moreIn]
   split
   · exact fun n=>by have:=moreIn_most L s h k n;omega
   · exact bump_most (moreIn_most L s h k) _
theorem zI_most:AtMost 0 zI:=fun n=>by
 unfold zI
 rw [List.getD_eq_getElem?_getD,List.getElem?_replicate]
 split <;> simp
theorem moreOut_most (L:List Clus) (t:Nat): ∀ i,AtMost (33*i) (moreOut L t i)
 | 0=>zI_most
 | i+1=>by
   rw [moreOut]
   split
   · exact fun n=>by have:=moreOut_most L t i n;omega
   · exact fun n=>by have:=moreIn_most L (num (cl L t) (2*i)%32768) (bump_most (moreOut_most L t i) (num (cl L t) (2*i)%32768)) 32 n;omega
def roomFrom (L:List Clus) (M:List Nat):Nat→Nat→Bool
 | 0,_=>true
 | m+1,n=>if 254<countOf L n+M.getD n 0 then false else roomFrom L M m (n+1)
def roomR (L:List Clus) (t:Nat):Bool:=roomFrom L (moreOut L t 2) L.length 0 && decide (0<freeOf L)
theorem refRoom_any (w:World) (f:Nat) (Lv Rv:Value) (R:FileR) (h:FileAt w f Lv Rv R) (i:Nat) (hi:i<R.roots.length) (hr1:R.roots.length≤1000) (hLL:R.L.length≤256) (hL6:6≤R.L.length) (hin:InFile R.L (rootOf R i).N):
   Calls Tryz.prog 122 #[.pointer (some ⟨f,0,none⟩),.int .i64 (i:Nat)] w fun e w'=>e= .returned (.bool (roomR R.L (rootOf R i).N))∧Below w.heap.size w w':=by
 obtain ⟨g,cap,rfl,hc⟩:=row_some h.rowL (by omega)
 obtain ⟨g2,cap2,rfl,hc2⟩:=row_some h.rowR (by omega)
 have hii:(i:Int)<(R.roots.length:Int):=by omega
 have L0:=Locs.two w (.cells (nv zI).toArray 91) (.cells (rootCells (rootOf R i)).toArray 132)
 have hB1:Below w.heap.size w (w.alloc (.cells (nv zI).toArray 91)):=(Below.refl _ _).alloc (Nat.le_refl _) _
 have h1:=h.below hB1
 have c1:=h1.cRv
 have r0:(w.alloc (.cells (nv zI).toArray 91)).cell? ⟨g2,i*3,none⟩=some (.int .i64 ((rootOf R i).N:Nat)):=by have:=root_cell h1.rowR i hi 0 (by omega);rw [Nat.add_zero] at this;exact this.trans rfl
 have r1:(w.alloc (.cells (nv zI).toArray 91)).cell? ⟨g2,i*3+1,none⟩=some (.int .i64 ((rootOf R i).At:Nat)):=(root_cell h1.rowR i hi 1 (by omega)).trans rfl
 have r2:(w.alloc (.cells (nv zI).toArray 91)).cell? ⟨g2,i*3+2,none⟩=some (.string ⟨(rootOf R i).name.toArray⟩):=(root_cell h1.rowR i hi 2 (by omega)).trans rfl
 have H:=hide h
 have L0:=hide L0
 have Hres:Hid (roomR R.L (rootOf R i).N=(roomFrom R.L (moreOut R.L (rootOf R i).N 2) R.L.length 0 && decide (0<freeOf R.L))):=rfl
 have hNi:((rootOf R i).N:Int)<(R.L.length:Int):=by have:=hin.at';omega
 clear h h1 hB1
 generalize hrr:rootOf R i=r at*
 go_enter Tryz.func122,Tryz.ntmps122
 go_wp2
 go_loopw [7] (fun j w'=> ∃ k:Nat,k≤2∧j= .int .i64 k∧Locs w w' [.cells (nv (moreOut R.L r.N k)).toArray 91,.cells (rootCells r).toArray 132]) (fun j _=>2 - (intOf j).toNat)
 case atStart=>exact ⟨0,by omega,rfl,uh L0⟩
 case round=>
   obtain ⟨k,hk,rfl,hL⟩:=hrel
   clear L0 c1 r0 r1 r2
   by_cases hlt:k<2
   · have hki:(k:Int)<2:=by omega
     have hbox:wr.cell? ⟨w.heap.size+1,0,none⟩=some (.int .i64 (r.N:Nat)):=(cell_blk hL.o1 0).trans rfl
     have hr:=(uh H).below hL.below
     have hG: ∀ d os,FileAt (Go.Sort.grow (redrawn wr d) os) f _ _ R:=fun d os=>hr.below (below_regrown wr d os)
     have c0:=fun d os=>(hG d os).cLv
     have cx:=fun d os=>cell_regrown hbox d os
     have l1:=fun d os=>row_has (hG d os).rowL hr.lens _ hin.at'
     have l2:=fun d os=>row_cells (hG d os).rowL hr.lens _ hin.at'
     have hlen:=cl_length hr.lens hin.at'
     have Hn:=hide (fun d os=>number_any (cl R.L r.N) (2*(k:Int)) (Go.Sort.grow (redrawn wr d) os) hlen (by omega) (by omega))
     rw [show (2*(k:Int)).toNat=2*k by omega] at Hn
     have hxl:=num_lt (cl R.L r.N) (2*k)
     have hsec:=hin.second k hlt
     have hblk:=hin.block k hlt
     have hstep:moreOut R.L r.N (k+1)=if num (cl R.L r.N) (2*k)=0 then moreOut R.L r.N k else moreIn R.L (num (cl R.L r.N) (2*k)%32768) (bump (moreOut R.L r.N k) (num (cl R.L r.N) (2*k)%32768)) 32:=rfl
     have hml:=moreOut_length R.L r.N k
     have hmm:=moreOut_most R.L r.N k
     generalize num (cl R.L r.N) (2*k)=x at*
     generalize moreOut R.L r.N k=M at*
     have Hstep:=hide hstep
     have Hblk:=hide hblk
     have HL:=hide hL
     clear hstep hG hblk hL
     go_wp2
     refine wp_region_quiet_below (by kernel_rfl) (by kernel_rfl) ?_
     repeat (go_big_quiet_step (exact Calls.regrown_of (uh Hn _ _)))
     refine wpQuiet_nil ?_
     intro _ hw'
     obtain ⟨⟨dq,osq⟩,hw''⟩:=hw'
     subst hw''
     clear c0 cx l1 l2 Hn
     have L2:=(uh HL).later (below_regrown wr dq osq)
     clear HL hbox hr
     generalize Go.Sort.grow (redrawn wr dq) osq=w2 at*
     by_cases hx0:x=0
     · subst hx0
       rw [if_pos rfl] at Hstep
       have HL2:=hide L2
       clear L2
       go_wp2
       go_roundw
       case rel=>exact ⟨k+1,by omega,by go_num,by rw [uh Hstep];exact uh HL2⟩
       case measure=>simp [intOf];omega
     · have dx:((x:Int) == 0)=false:=by rw [beq_eq_false_iff_ne];omega
       rw [if_neg hx0] at Hstep
       have hxL:=hsec hx0
       have hblk:=uh Hblk hx0
       generalize hcc:x%32768=c at*
       have hci:(x:Int)%32768=(c:Nat):=by omega
       have hc256:(c:Int)<256:=by omega
       have cm:w2.cell? ⟨w.heap.size,c,none⟩=some (.int .i64 ((M.getD c 0:Nat):Int)):=by
         rw [cell_blk L2.o0,List.getElem?_toArray,nv_get _ _ (by omega)]
       have fm:=frozen_blk L2.o0 c
       have hmc:=hmm c
       have L3:=L2.setCell 0 rfl c (.int .i64 ((M.getD c 0:Nat)+1:Int))
       rw [Nat.add_zero,bump_cells] at L3
       simp only [List.set_cons_zero] at L3
       have hbm:=bump_most hmm c
       have hbl:(bump M c).length=256:=by rw [bump_length];exact hml
       have HL3:=hide L3
       clear L2 L3 Hblk
       generalize M.getD c 0=mc at*
       generalize bump M c=M1 at*
       go_wp2
       generalize w2.setCell ⟨w.heap.size,c,none⟩ (.int .i64 ((mc:Nat)+1:Int))=w3 at*
       simp only [hci]
       go_loopw [9] (fun j w'=> ∃ m:Nat,m≤32∧j= .int .i64 m∧Locs w w' [.cells (nv (moreIn R.L c M1 m)).toArray 91,.cells (rootCells r).toArray 132]) (fun j _=>32 - (intOf j).toNat)
       case atStart=>exact ⟨0,by omega,rfl,uh HL3⟩
       case round=>
         obtain ⟨m,hm,rfl,hL⟩:=hrel
         clear HL3 cm fm
         by_cases hlt2:m<32
         · have hmi:(m:Int)<32:=by omega
           have hr:=(uh H).below hL.below
           have c0:=hr.cLv
           have l1:=row_has hr.rowL hr.lens _ hxL
           have l2:=row_cells hr.rowL hr.lens _ hxL
           have Hn:=hide (number_any (cl R.L c) (2*(m:Int)) wr (cl_length hr.lens hxL) (by omega) (by omega))
           rw [show (2*(m:Int)).toNat=2*m by omega] at Hn
           have hyl:=num_lt (cl R.L c) (2*m)
           have hyb:=hblk m hlt2
           have hs3:moreIn R.L c M1 (m+1)=if num (cl R.L c) (2*m)=0 then moreIn R.L c M1 m else bump (moreIn R.L c M1 m) (num (cl R.L c) (2*m)%32768):=rfl
           have hnl:(moreIn R.L c M1 m).length=256:=by rw [moreIn_length];exact hbl
           have hnm:=moreIn_most R.L c hbm m
           have hcL:(c:Int)<(R.L.length:Int):=by omega
           generalize num (cl R.L c) (2*m)=y at*
           generalize moreIn R.L c M1 m=M2 at*
           have Hs3:=hide hs3
           have HL:=hide hL
           clear hs3 hr hL
           go_wp2_with fail
           refine (uh Hn).mono ?_
           rintro e w4 ⟨rfl,hb4⟩
           have L4:=(uh HL).later hb4
           clear Hn hb4 HL c0 l1 l2
           by_cases hy0:y=0
           · subst hy0
             rw [if_pos rfl] at Hs3
             have HL4:=hide L4
             clear L4
             go_wp2
             go_roundw
             case rel=>exact ⟨m+1,by omega,by go_num,by rw [uh Hs3];exact uh HL4⟩
             case measure=>simp [intOf];omega
           · have dy:((y:Int) != 0)=true:=by rw [bne_iff_ne];omega
             rw [if_neg hy0] at Hs3
             generalize hee:y%32768=b at*
             have hbi:(y:Int)%32768=(b:Nat):=by omega
             have hb256:(b:Int)<256:=by omega
             have cm:w4.cell? ⟨w.heap.size,b,none⟩=some (.int .i64 ((M2.getD b 0:Nat):Int)):=by
               rw [cell_blk L4.o0,List.getElem?_toArray,nv_get _ _ (by omega)]
             have fm:=frozen_blk L4.o0 b
             have hmc2:=hnm b
             have L5:=L4.setCell 0 rfl b (.int .i64 ((M2.getD b 0:Nat)+1:Int))
             rw [Nat.add_zero,bump_cells] at L5
             simp only [List.set_cons_zero] at L5
             have HL5:=hide L5
             clear L4 L5
             generalize M2.getD b 0=mb at*
             go_wp2
             go_roundw
             case rel=>exact ⟨m+1,by omega,by go_num,by rw [uh Hs3];exact uh HL5⟩
             case measure=>simp [intOf];omega
         · have hm32:m=32:=by omega
           subst hm32
           have HL:=hide hL
           clear hL
           go_wp2
           go_roundw
           case rel=>exact ⟨k+1,by omega,by go_num,by rw [uh Hstep];exact uh HL⟩
           case measure=>simp [intOf];omega
   · have hk2:k=2:=by omega
     subst hk2
     have hml:=moreOut_length R.L r.N 2
     have hmm:=moreOut_most R.L r.N 2
     generalize moreOut R.L r.N 2=M at*
     have HL:=hide hL
     clear hL
     go_wp2
     go_loopw [11] (fun j w'=> ∃ n:Nat,n≤R.L.length∧j= .int .i64 n∧Locs w w' [.cells (nv M).toArray 91,.cells (rootCells r).toArray 132]∧roomFrom R.L M R.L.length 0=roomFrom R.L M (R.L.length - n) n) (fun j _=>R.L.length - (intOf j).toNat)
     case atStart=>exact ⟨0,by omega,rfl,uh HL,rfl⟩
     case round=>
       obtain ⟨n,hn,rfl,hL,he⟩:=hrel
       clear HL
       have hr:=(uh H).below hL.below
       have c0:=hr.cLv
       by_cases hlt2:n<R.L.length
       · have hni:(n:Int)<(R.L.length:Int):=by omega
         have hn256:(n:Int)<256:=by omega
         have hG: ∀ d os,FileAt (Go.Sort.grow (redrawn wr d) os) f _ _ R:=fun d os=>hr.below (below_regrown wr d os)
         have cm:wr.cell? ⟨w.heap.size,n,none⟩=some (.int .i64 ((M.getD n 0:Nat):Int)):=by
           rw [cell_blk hL.o0,List.getElem?_toArray,nv_get _ _ (by omega)]
         have cms:=fun d os=>cell_regrown cm d os
         have Hcnt:=hide (fun d os=>(count_any (Go.Sort.grow (redrawn wr d) os) f _ _ R (hG d os) (n:Int) (by omega) (by omega) (by omega)).mono (R':=fun e w'=>e= .returned (.int .i64 ((countOf R.L (n:Int).toNat:Nat):Int))∧Below (Go.Sort.grow (redrawn wr d) os).heap.size (Go.Sort.grow (redrawn wr d) os) w') (by rintro e w' ⟨rfl,rfl⟩;exact ⟨rfl,Below.refl _ _⟩))
         rw [Int.toNat_natCast] at Hcnt
         have hq:=countOf_lt R.L n
         have hmn:=hmm n
         rw [show R.L.length - n=(R.L.length - (n+1))+1 by omega,roomFrom] at he
         generalize countOf R.L n=q at*
         generalize M.getD n 0=mn at*
         have He:=hide he
         have HL:=hide hL
         clear hG cm he hL hr
         go_wp2
         refine wp_region_quiet_below (by kernel_rfl) (by kernel_rfl) ?_
         repeat (go_big_quiet_step (exact Calls.regrown_of (uh Hcnt _ _)))
         refine wpQuiet_nil ?_
         intro _ hw'
         obtain ⟨⟨dq,osq⟩,hw''⟩:=hw'
         subst hw''
         have L2:=hide ((uh HL).later (below_regrown wr dq osq))
         clear c0 cms Hcnt HL
         generalize Go.Sort.grow (redrawn wr dq) osq=w2 at*
         by_cases hgt:254<q+mn
         · have dg:decide ((254:Int)<((q:Nat):Int)+((mn:Nat):Int))=true:=decide_eq_true (by omega)
           rw [if_pos hgt] at He
           have HB:=hide (uh L2).below
           clear L2
           go_wp2
           go_ret
           exact ⟨by rw [uh Hres,uh He];rfl,uh HB⟩
         · have dg:decide ((254:Int)<((q:Nat):Int)+((mn:Nat):Int))=false:=decide_eq_false (by omega)
           rw [if_neg hgt] at He
           go_wp2
           go_roundw
           case rel=>exact ⟨n+1,by omega,by go_num,uh L2,uh He⟩
           case measure=>simp [intOf];omega
       · have hnl:n=R.L.length:=by omega
         rw [hnl,Nat.sub_self,roomFrom] at he
         have He:=hide he
         have Hf:=hide (free_any wr f _ _ R hr hLL hL6)
         have HB:=hide hL.below
         clear he hL hr hmm
         generalize freeOf R.L=fr at*
         go_wp2_with fail
         refine (uh Hf).mono ?_
         rintro e w2 ⟨rfl,rfl⟩
         by_cases hfr:0<fr
         · have df:decide ((0:Int)<((fr:Nat):Int))=true:=decide_eq_true (by omega)
           go_wp2
           go_ret
           exact ⟨by rw [uh Hres,uh He,decide_eq_true hfr];rfl,uh HB⟩
         · have df:decide ((0:Int)<((fr:Nat):Int))=false:=decide_eq_false (by omega)
           go_wp2
           go_ret
           exact ⟨by rw [uh Hres,uh He,decide_eq_false hfr];rfl,uh HB⟩
end Go.Proofs.YtknjjjenklfeoaaGreatDoor
namespace Go.Proofs.YtknjjjenklfeoaaGreatDoor
open Go.RowKit
attribute [local go_sem ↓] loadVar_clus storeVar_clus zeroValue_clus loadVar_tab storeVar_tab zeroValue_tab loadVar_cnt storeVar_cnt zeroValue_cnt loadVar_head storeVar_head zeroValue_head build_head
attribute [local go_sem] run_loadClus run_storeClus run_zeroClus run_storeClus_new run_loadClus_new zc_length run_loadTab run_storeTab run_zeroTab run_storeTab_new run_loadTab_new zt_length run_loadCnt run_storeCnt run_zeroCnt run_storeCnt_new run_loadCnt_new zk_length run_loadHead run_storeHead run_zeroHead run_storeHead_new run_bHead
theorem or_hi (a b:Nat) (ha:a<256) (hb:b<256):bits .or .u16 ((a:Int)*256) (b:Int)=((256*a+b:Nat):Int):=by
 rw [bits_join .u16 16 (by decide) wraps_u16 8 ((a:Int)*256) (b:Int) (by omega) (by omega) (by omega) (by omega) (by omega) (by omega)]
 omega
theorem or_mark (n:Nat) (hn:n<32768):bits .or .u16 (n:Int) 32768=((n+32768:Nat):Int):=by
 rw [bits_join_low .u16 16 (by decide) wraps_u16 15 (n:Int) 32768 (by omega) (by omega) (by omega) (by omega) (by omega) (by omega)]
 omega
theorem andNot_mark (n:Nat) (hn:n<65536):bits .andNot .u16 (n:Int) 32768=((n%32768:Nat):Int):=by
 have h:bits .andNot .u16 (n:Int) 32768=bits .and .u16 (n:Int) 32767:=by
   simp only [bits]
   rw [show ~~~(BitVec.ofInt IntKind.u16.bits 32768)=BitVec.ofInt IntKind.u16.bits 32767 from by decide]
 rw [h,show (32767:Int)=2 ^ 15 - 1 by decide,bits_mask .u16 16 (by decide) wraps_u16 15 (by decide) (n:Int) (by omega) (by omega)]
 omega
theorem and_mark (n:Nat) (hn:n<65536):bits .and .u16 (n:Int) 32768=if 32768≤n then 32768 else 0:=by
 have h:=(bits_nat .u16 16 (by decide) wraps_u16 n 32768 hn (by decide)).1
 rw [show ((32768:Nat):Int)=32768 from rfl] at h
 rw [h]
 have key:n &&& 2 ^ 15=if 32768≤n then 2 ^ 15 else 0:=by
   refine Nat.eq_of_testBit_eq fun i=> ?_
   rw [Nat.testBit_and,Nat.testBit_two_pow]
   by_cases hi:15=i
   · subst hi
     rw [decide_eq_true rfl,Bool.and_true,Nat.testBit_eq_decide_div_mod_eq]
     split
     · rw [show n / 2 ^ 15=1 by omega];decide
     · rw [show n / 2 ^ 15=0 by omega];decide
   · rw [decide_eq_false hi,Bool.and_false]
     split
     · rw [Nat.testBit_two_pow,decide_eq_false hi]
     · simp
 rw [show (32768:Nat)=2 ^ 15 from rfl,key]
 split <;> rfl
theorem numberAt_any (c:List UInt8) (at':Int) (w:World) (hc:c.length=64) (h0:0≤at') (h1:at'<63):
   Calls Tryz.prog 149 #[.agg (cv c).toArray,.int .i64 at'] w fun e w'=>e= .returned (.int .u16 (num c at'.toNat:Nat))∧Below w.heap.size w w':=by
 obtain ⟨n,rfl⟩:=Int.eq_ofNat_of_zero_le h0
 have b1:=byteAt_lt c n
 have b2:=byteAt_lt c (n+1)
 have k1:(w.alloc (.cells (cv c).toArray 38)).cell? ⟨w.heap.size,n,none⟩=some (.int .u8 (byteAt c n:Nat)):=by
   rw [cell_new,List.getElem?_toArray,cv_get];omega
 have k2:(w.alloc (.cells (cv c).toArray 38)).cell? ⟨w.heap.size,n+1,none⟩=some (.int .u8 (byteAt c (n+1):Nat)):=by
   rw [cell_new,List.getElem?_toArray,cv_get];omega
 go_enter Tryz.func149,Tryz.ntmps149
 go_wp2
 go_quiet (fail)
 go_wp2
 go_ret
 refine ⟨?_,?_⟩
 · exact ret_int (or_hi _ _ b1 b2)
 · exact (((Kept.refl (fun _=>False) w).alloc _).drewN _).below
theorem marked_of (n:Nat) (hn:n<65536) (w:World):Calls Tryz.prog 105 #[.int .u16 (n:Nat)] w fun e w'=>e= .returned (.bool (decide (32768≤n)))∧w'=w:=by
 go_enter Tryz.func105,Tryz.ntmps105
 go_wp2
 go_ret
 refine ⟨?_,rfl⟩
 rw [show bits BinOp.and IntKind.u16 (n:Int) 32768=_ from and_mark n hn]
 by_cases h:32768≤n
 · rw [if_pos h,decide_eq_true h];rfl
 · rw [if_neg h,decide_eq_false h];rfl
theorem cluster_of (n:Nat) (hn:n<65536) (w:World):Calls Tryz.prog 108 #[.int .u16 (n:Nat)] w fun e w'=>e= .returned (.int .i64 ((n%32768:Nat):Int))∧w'=w:=by
 go_enter Tryz.func108,Tryz.ntmps108
 go_wp2
 go_ret
 refine ⟨?_,rfl⟩
 rw [show bits BinOp.andNot IntKind.u16 (n:Int) 32768=_ from andNot_mark n hn]
 exact ret_int (IntWalk.wrap64_in _ (by omega))
theorem own_of (n:Nat) (hn:n<32768) (w:World):Calls Tryz.prog 161 #[.int .i64 (n:Nat)] w fun e w'=>e= .returned (.int .u16 ((n+32768:Nat):Int))∧w'=w:=by
 go_enter Tryz.func161,Tryz.ntmps161
 go_wp2
 go_ret
 refine ⟨?_,rfl⟩
 exact ret_int (or_mark n hn)
def putNum (c:Clus) (k n:Nat):Clus:=(c.set k (UInt8.ofNat (n / 256))).set (k+1) (UInt8.ofNat (n%256))
theorem putNum_length (c:Clus) (k n:Nat):(putNum c k n).length=c.length:=by simp [putNum]
theorem cv_setB (c:Clus) (k:Nat) (b:Nat) (hb:b<256):cv (c.set k (UInt8.ofNat b))=(cv c).set k (.int .u8 (b:Nat)):=by
 rw [cv,List.map_set]
 congr 2
 have:(UInt8.ofNat b).toNat=b:=by rw [UInt8.toNat_ofNat'];omega
 rw [this]
theorem putNumber_any (w:World) (b:Nat) (c:Clus) (t:TypeId) (hb:w.heap[b]? = some (.cells (cv c).toArray t (0,0))) (hc:c.length=64) (k n:Nat) (hk:k<63) (hn:n<65536):
   Calls Tryz.prog 169 #[.pointer (some ⟨b,0,none⟩),.int .i64 (k:Nat),.int .u16 (n:Nat)] w fun e w'=>e= .returned (.tuple #[])∧w'.heap[b]? = some (.cells (cv (putNum c k n)).toArray t (0,0))∧Kept (fun x=>x=b) w w':=by
 have f1:=frozen_blk hb k
 have f2:=frozen_blk hb (k+1)
 have c1:w.cell? ⟨b,k,none⟩=some (.int .u8 (byteAt c k:Nat)):=by rw [cell_blk hb,List.getElem?_toArray,cv_get _ _ (by omega)]
 have c2:w.cell? ⟨b,k+1,none⟩=some (.int .u8 (byteAt c (k+1):Nat)):=by rw [cell_blk hb,List.getElem?_toArray,cv_get _ _ (by omega)]
 have hki:(k:Int)<63:=by omega
 have e1:((w.setCell ⟨b,k,none⟩ (.int .u8 ((n / 256:Nat):Int))).setCell ⟨b,k+1,none⟩ (.int .u8 ((n%256:Nat):Int))).heap[b]? = some (.cells (cv (putNum c k n)).toArray t (0,0)):=by
   rw [heap_setCell_same _ _ _ _ _ _ _ (heap_setCell_same _ _ _ _ _ _ _ hb),putNum,cv_setB _ _ _ (by omega),cv_setB _ _ _ (by omega)]
   simp
 have k1:=(Kept.only w b k (.int .u8 ((n / 256:Nat):Int))).trans (Kept.only _ b (k+1) (.int .u8 ((n%256:Nat):Int)))
 rw [Int.natCast_ediv,Int.natCast_emod] at e1 k1
 have E1:=hide e1
 have K1:=hide k1
 clear e1 k1
 go_enter Tryz.func169,Tryz.ntmps169
 go_wp2
 go_region
 go_end0
 exact ⟨rfl,uh E1,(uh K1).drew⟩
def numsOf (c:Clus):List Nat:=(List.range 32).map fun i=>num c (2*i)
theorem numsOf_length (c:Clus):(numsOf c).length=32:=by simp [numsOf]
theorem numsOf_get (c:Clus) (i:Nat) (hi:i<32):(numsOf c).getD i 0=num c (2*i):=by simp [numsOf,List.getD,hi]
def numsTo (c:Clus) (k:Nat):List Nat:=(List.range 32).map fun i=>if i<k then num c (2*i) else 0
theorem numsTo_zero (c:Clus):numsTo c 0=zt:=by
 unfold numsTo zt
 refine List.eq_replicate_iff.2 ⟨by simp,fun b hb=> ?_⟩
 obtain ⟨i,_,rfl⟩:=List.mem_map.1 hb
 rw [if_neg (by omega)]
theorem numsTo_all (c:Clus):numsTo c 32=numsOf c:=by
 unfold numsTo numsOf
 refine List.map_congr_left fun i hi=> ?_
 rw [if_pos (List.mem_range.1 hi)]
theorem numsTo_length (c:Clus) (k:Nat):(numsTo c k).length=32:=by simp [numsTo]
theorem numsTo_succ (c:Clus) (k:Nat) (hk:k<32):numsTo c (k+1)=(numsTo c k).set k (num c (2*k)):=by
 refine List.ext_getElem? fun i=> ?_
 rw [List.getElem?_set]
 simp only [numsTo,List.getElem?_map,List.length_map,List.length_range]
 by_cases hi:i<32
 · rw [List.getElem?_range hi]
   by_cases e:k=i
   · subst e;simp [hk]
   · simp only [Option.map_some,if_neg e]
     congr 1
     by_cases h:i<k
     · rw [if_pos h,if_pos (by omega)]
     · rw [if_neg h,if_neg (by omega)]
 · rw [List.getElem?_eq_none (by simp;omega)]
   split
   · omega
   · rfl
theorem tv_set (T:List Nat) (k n:Nat):tv (T.set k n)=(tv T).set k (.int .u16 (n:Nat)):=by simp [tv,List.map_set]
theorem tableOf_any (w:World) (c:Clus) (hc:c.length=64):
   Calls Tryz.prog 178 #[.agg (cv c).toArray] w fun e w'=>e= .returned (.agg (tv (numsOf c)).toArray)∧Below w.heap.size w w':=by
 have L0:=hide (Locs.three w (.cells (cv c).toArray 38) (.cells (tv zt).toArray 169) (.cells (tv zt).toArray 169))
 go_enter Tryz.func178,Tryz.ntmps178
 go_wp2
 go_loopw [4,5] (fun _ i w'=> ∃ k:Nat,k≤32∧i= .int .i64 k∧Locs w w' [.cells (cv c).toArray 38,.cells (tv zt).toArray 169,.cells (tv (numsTo c k)).toArray 169]) (fun _ i _=>32 - (intOf i).toNat)
 case atStart=>exact ⟨0,by omega,rfl,by rw [numsTo_zero];exact uh L0⟩
 case round=>
   obtain ⟨k,hk,rfl,hL⟩:=hrel
   clear L0
   by_cases hlt:k<32
   · have hki:(k:Int)<32:=by omega
     have b0:=hL.o0
     have l1:=box_has b0 hc
     have l2:=box_cells b0 hc
     have Hn:=hide (numberAt_any c (2*(k:Int)) wr hc (by omega) (by omega))
     have HL:=hide hL
     have Hs:=hide (numsTo_succ c k hlt)
     clear hL b0
     go_wp2_with fail
     refine (uh Hn).mono ?_
     rintro e w1 ⟨rfl,hb1⟩
     have hL1:=(uh HL).later hb1
     have b2:=hL1.o2
     have f1:=frozen_blk b2 k
     have c1:w1.cell? ⟨w.heap.size+1+1,k,none⟩=some (.int .u16 (((numsTo c k).getD k 0:Nat):Int)):=by
       rw [cell_blk b2,List.getElem?_toArray,tv_get _ _ (by rw [numsTo_length];exact hlt)]
     have L1:=hide (hL1.setCell 2 rfl k (.int .u16 (num c (2*k):Nat)))
     rw [show (2*(k:Int)).toNat=2*k by omega]
     clear hL1 b2 hb1 HL Hn l1 l2
     go_wp2
     go_roundw
     case rel=>
       refine ⟨k+1,by omega,by go_num,?_⟩
       rw [uh Hs,tv_set]
       simpa using uh L1
     case measure=>simp [intOf];omega
   · have hk32:k=32:=by omega
     subst hk32
     rw [numsTo_all] at hL
     have b1:=hL.o1
     have b2:=hL.o2
     have l1:=blk_has b2 (n:=32) (by rw [tv_length,numsOf_length])
     have l2:=blk_cells b2 (n:=32) (by rw [tv_length,numsOf_length])
     have th:=there_blk b1 0 32 (by simp [tv_length,zt_length])
     have hnl:=numsOf_length c
     have hset:=hL.setCells 1 rfl 0 (tv (numsOf c))
     rw [setList_all _ _ (by simp [tv_length,zt_length,numsOf_length])] at hset
     have o1:=hset.o1
     have l3:=blk_has o1 (n:=32) (by rw [tv_length,numsOf_length])
     have l4:=blk_cells o1 (n:=32) (by rw [tv_length,numsOf_length])
     have HB:=hide hset.below
     clear hL b1 b2 hset o1
     go_wp2
     refine bodyPost_ret (results_cell Tryz.results178 ⟨w.heap.size+1,0,none⟩ rfl ?_) rfl ⟨rfl,uh HB⟩
     rw [loadVar_tab,run_loadTab l3,l4]
end Go.Proofs.YtknjjjenklfeoaaGreatDoor
