import Derived.Test.YtknjjjenklfeoaaGreatDoorO02
import Derived.Lib.EndianBits
set_option maxHeartbeats 8000000
set_option maxRecDepth 100000
set_option linter.all false
namespace Go.Proofs.YtknjjjenklfeoaaGreatDoor
open Go.RowKit
section
def tv (T:List Nat):List Value:=T.map fun n=> .int .u16 (n:Nat)
theorem pR (T:List Nat):(tv T).length=T.length:=by simp [tv]
theorem Oy (T:List Nat) (i:Nat) (h:i<T.length):(tv T)[i]? = some (.int .u16 ((T.getD i 0:Nat):Int)):=by
 simp [tv,h,List.getD]
theorem adG (T:List Nat): ∀ v ∈ tv T,v.oneCell'=true:=by
 intro v hv;simp only [tv,gQ] at hv;obtain ⟨b,_,rfl⟩:=hv;rfl
def zt:List Nat:=List.replicate 32 0
theorem gI:zt.length=32:=by simp [zt]
def abK (a:Addr):Sem Value:=loadVar 169 a
theorem kS (a:Addr):loadVar 169 a=abK a:=rfl
theorem kX {w:World} {b o:Nat} (h:dN w b o 32):(abK ⟨b,o,none⟩).run Tryz.prog w= .ok (.agg (dI w b o 32).toArray) w:=
 AX h 169 _ Tryz.underlying169 rfl kr
def YD (a:Addr) (v:Value):Sem Unit:=storeVar 169 a v
theorem mP (a:Addr) (v:Value):storeVar 169 a v=YD a v:=rfl
theorem mG {w:World} {b o:Nat} {T:List Nat} (ht:w.there b o 32) (hT:T.length=32):(YD ⟨b,o,none⟩ (.agg (tv T).toArray)).run Tryz.prog w= .ok () (w.setCells b o (tv T)):=by
 have:=FX (P:=Tryz.prog) w b o 169 (tv T).toArray (by simpa [pR,hT] using ht) (by simp only [iR,pR,hT];kernel_rfl) (vg (adG T))
 simpa [YD] using this
def alo:Sem Value:=zeroValue 169
theorem mV:zeroValue 169=alo:=rfl
theorem mM (w:World):alo.run Tryz.prog w= .ok (.agg (tv zt).toArray) w:=
 (uI (P:=Tryz.prog) (t:=169) (v:= .agg (tv zt).toArray) (n:=32) kr).1 w
theorem mJ {w:World} {z T:List Nat} (hz:z.length=32) (hT:T.length=32):
  (YD ⟨w.heap.size,0,none⟩ (.agg (tv T).toArray)).run Tryz.prog (w.alloc (.cells (tv z).toArray 169))= .ok () (w.alloc (.cells (tv T).toArray 169)):=
 FY w 169 (tv z).toArray (tv T).toArray (by simp only [iR,pR,hT];kernel_rfl) (by simp [pR,hz,hT]) (vg (adG T))
theorem mF {w:World} {T:List Nat} (hT:T.length=32):
  (abK ⟨w.heap.size,0,none⟩).run Tryz.prog (w.alloc (.cells (tv T).toArray 169))= .ok (.agg (tv T).toArray) (w.alloc (.cells (tv T).toArray 169)):=
 ad9 w 169 (tv T).toArray 32 167 Tryz.underlying169 (by simp only [iR,pR,hT];kernel_rfl)
def zk:List UInt8:=List.replicate 256 0
theorem iJ:zk.length=256:=zy
def abJ (a:Addr):Sem Value:=loadVar 123 a
theorem jJ (a:Addr):loadVar 123 a=abJ a:=rfl
theorem jK {w:World} {b o:Nat} (h:dN w b o 256):(abJ ⟨b,o,none⟩).run Tryz.prog w= .ok (.agg (dI w b o 256).toArray) w:=
 AX h 123 _ Tryz.underlying123 rfl kr
def Yy (a:Addr) (v:Value):Sem Unit:=storeVar 123 a v
theorem kJ (a:Addr) (v:Value):storeVar 123 a v=Yy a v:=rfl
theorem kH {w:World} {b o:Nat} {c:List UInt8} (ht:w.there b o 256) (hc:c.length=256):(Yy ⟨b,o,none⟩ (.agg (cv c).toArray)).run Tryz.prog w= .ok () (w.setCells b o (cv c)):=by
 have:=FX (P:=Tryz.prog) w b o 123 (cv c).toArray (by simpa [bg,hc] using ht) (by simp only [iR,bg,hc];kernel_rfl) (vg (zJ c))
 simpa [Yy] using this
def ald:Sem Value:=zeroValue 123
theorem jY:zeroValue 123=ald:=rfl
theorem jX (w:World):ald.run Tryz.prog w= .ok (.agg (cv zk).toArray) w:=
 (uI (P:=Tryz.prog) (t:=123) (v:= .agg (cv zk).toArray) (n:=256) kr).1 w
theorem kZ {w:World} {z c:List UInt8} (hz:z.length=256) (hc:c.length=256):
  (Yy ⟨w.heap.size,0,none⟩ (.agg (cv c).toArray)).run Tryz.prog (w.alloc (.cells (cv z).toArray 123))= .ok () (w.alloc (.cells (cv c).toArray 123)):=
 FY w 123 (cv z).toArray (cv c).toArray (by simp only [iR,bg,hc];kernel_rfl) (by simp [bg,hz,hc]) (vg (zJ c))
theorem kW {w:World} {c:List UInt8} (hc:c.length=256):
  (abJ ⟨w.heap.size,0,none⟩).run Tryz.prog (w.alloc (.cells (cv c).toArray 123))= .ok (.agg (cv c).toArray) (w.alloc (.cells (cv c).toArray 123)):=
 ad9 w 123 (cv c).toArray 256 5 Tryz.underlying123 (by simp only [iR,bg,hc];kernel_rfl)
theorem fD {w:World} {b:Nat} {cs:List Value} {t:TypeId} {fr:Nat × Nat} (h:w.heap[b]? = some (.cells cs.toArray t fr)) {n:Nat} (hn:cs.length=n):dN w b 0 n:=sV (Me h) hn
theorem fG {w:World} {b:Nat} {cs:List Value} {t:TypeId} {fr:Nat × Nat} (h:w.heap[b]? = some (.cells cs.toArray t fr)) {n:Nat} (hn:cs.length=n):dI w b 0 n=cs:=qX (Me h) hn
structure rV where
 first:Nat
 AA:Nat
 oM:Nat
 second:Nat
 block:Nat
 tab:List Nat
def iP (p:rV):List Value:= .int .i64 p.first :: .int .i64 p.AA :: .int .i64 p.oM :: .int .u16 p.second :: .int .u16 p.block :: tv p.tab
theorem AQ (p:rV) (h:p.tab.length=32):(iP p).length=37:=by simp [iP,pR,h]
theorem ajr (p:rV): ∀ v ∈ iP p,v.oneCell'=true:=by
 intro v hv;simp only [iP,dD] at hv;rcases hv with rfl | rfl | rfl | rfl | rfl | hv
 ·rfl
 ·rfl
 ·rfl
 ·rfl
 ·rfl
 ·exact adG _ v hv
def zp:rV:=⟨0,0,0,0,0,zt⟩
def aik (a:Addr):Sem Value:=loadVar 171 a
theorem qc (a:Addr):loadVar 171 a=aik a:=rfl
theorem qh {w:World} {b o:Nat} (h:dN w b o 37):(aik ⟨b,o,none⟩).run Tryz.prog w= .ok (.agg (dI w b o 37).toArray) w:=
 AX h 171 _ Tryz.underlying171 rfl kr
def YC (a:Addr) (v:Value):Sem Unit:=storeVar 171 a v
theorem qP (a:Addr) (v:Value):storeVar 171 a v=YC a v:=rfl
theorem qM {w:World} {b o:Nat} {p:rV} (ht:w.there b o 37) (hp:p.tab.length=32):(YC ⟨b,o,none⟩ (.agg (iP p).toArray)).run Tryz.prog w= .ok () (w.setCells b o (iP p)):=by
 have:=FX (P:=Tryz.prog) w b o 171 (iP p).toArray (by simpa [AQ p hp] using ht) (by simp only [iR,AQ p hp];kernel_rfl) (vg (ajr p))
 simpa [YC] using this
def alm:Sem Value:=zeroValue 171
theorem qQ:zeroValue 171=alm:=rfl
theorem qO (w:World):alm.run Tryz.prog w= .ok (.agg (iP zp).toArray) w:=
 (uI (P:=Tryz.prog) (t:=171) (v:= .agg (iP zp).toArray) (n:=37) kr).1 w
theorem qN {w:World} {z p:rV} (hz:z.tab.length=32) (hp:p.tab.length=32):
  (YC ⟨w.heap.size,0,none⟩ (.agg (iP p).toArray)).run Tryz.prog (w.alloc (.cells (iP z).toArray 171))= .ok () (w.alloc (.cells (iP p).toArray 171)):=
 FY w 171 (iP z).toArray (iP p).toArray (by simp only [iR,AQ p hp];kernel_rfl) (by simp [AQ _ hz,AQ _ hp]) (vg (ajr p))
def ae9 (parts:Array (Nat × Value)):Sem Value:=Instr.build 171 parts
theorem qF (parts:Array (Nat × Value)):Instr.build 171 parts=ae9 parts:=rfl
theorem qL (a b c:Nat) (w:World):(ae9 #[(0,.int .i64 a),(1,.int .i64 b),(2,.int .i64 c)]).run Tryz.prog w= .ok (.agg (iP ⟨a,b,c,0,0,zt⟩).toArray) w:=by
 have hz:=(uI (P:=Tryz.prog) (t:=171) (v:= .agg (iP zp).toArray) (n:=37) kr).1;exact KF w 171 _ (.agg (iP zp).toArray) #[(0,1),(1,1),(2,1),(3,1),(4,1),(5,32)] #[(0,.int .i64 a),(1,.int .i64 b),(2,.int .i64 c)] _ Tryz.underlying171 hz (fun w=>kr) (by rfl)
def hv (a b:Nat):List Value:=[.int .i64 (a:Nat),.int .i64 (b:Nat)]
theorem sD (a b:Nat):(hv a b).length=2:=rfl
theorem ahL (a b:Nat): ∀ v ∈ hv a b,v.oneCell'=true:=by
 intro v hv';simp only [hv,dD,jM,jO] at hv';rcases hv' with rfl | rfl <;> rfl
def aie (a:Addr):Sem Value:=loadVar 128 a
theorem jU (a:Addr):loadVar 128 a=aie a:=rfl
theorem jW {w:World} {b o:Nat} (h:dN w b o 2):(aie ⟨b,o,none⟩).run Tryz.prog w= .ok (.agg (dI w b o 2).toArray) w:=
 AX h 128 _ Tryz.underlying128 rfl kr
def YA (a:Addr) (v:Value):Sem Unit:=storeVar 128 a v
theorem lD (a:Addr) (v:Value):storeVar 128 a v=YA a v:=rfl
theorem lq {w:World} {b o:Nat} {x y:Nat} (ht:w.there b o 2):(YA ⟨b,o,none⟩ (.agg (hv x y).toArray)).run Tryz.prog w= .ok () (w.setCells b o (hv x y)):=by
 have:=FX (P:=Tryz.prog) w b o 128 (hv x y).toArray (by simpa [sD] using ht) (by simp only [iR,sD];kernel_rfl) (vg (ahL x y))
 simpa [YA] using this
def alh:Sem Value:=zeroValue 128
theorem lH:zeroValue 128=alh:=rfl
theorem lC (w:World):alh.run Tryz.prog w= .ok (.agg (hv 0 0).toArray) w:=
 (uI (P:=Tryz.prog) (t:=128) (v:= .agg (hv 0 0).toArray) (n:=2) kr).1 w
theorem lu {w:World} {a b x y:Nat}:
  (YA ⟨w.heap.size,0,none⟩ (.agg (hv x y).toArray)).run Tryz.prog (w.alloc (.cells (hv a b).toArray 128))= .ok () (w.alloc (.cells (hv x y).toArray 128)):=
 FY w 128 (hv a b).toArray (hv x y).toArray (by simp only [iR,sD];kernel_rfl) (by simp [sD]) (vg (ahL x y))
def aah (parts:Array (Nat × Value)):Sem Value:=Instr.build 128 parts
theorem kQ (parts:Array (Nat × Value)):Instr.build 128 parts=aah parts:=rfl
theorem kF (a b:Nat) (w:World):(aah #[(0,.int .i64 a),(1,.int .i64 b)]).run Tryz.prog w= .ok (.agg (hv a b).toArray) w:=by
 have hz:=(uI (P:=Tryz.prog) (t:=128) (v:= .agg (hv 0 0).toArray) (n:=2) kr).1;exact KF w 128 _ (.agg (hv 0 0).toArray) #[(0,1),(1,1)] #[(0,.int .i64 a),(1,.int .i64 b)] _ Tryz.underlying128 hz (fun w=>kr) (by rfl)
structure dU (w w':World) (os:List Obj):Prop where
 qg: ∀ i o,os[i]? = some o→w'.heap[w.heap.size+i]? = some o
 below:aC w w'
theorem dU.one (w:World) (o:Obj):dU w (w.alloc o) [o]:=⟨fun i x h=>by
 cases i with
 | zero=>simp at h;subst h;exact aW w o
 | succ i=>simp at h,fC⟩
theorem dU.two (w:World) (o p:Obj):dU w ((w.alloc o).alloc p) [o,p]:=⟨fun i x h=>by
 match i with
 | 0=>simp at h;subst h;exact (jE _ _ _ sm).trans (aW w _)
 | 1=>simp at h;subst h;have:=aW (w.alloc o) p;rwa [jB] at this
 | i+2=>simp at h,(fC).alloc sm _⟩
theorem dU.three (w:World) (o p q:Obj):dU w (((w.alloc o).alloc p).alloc q) [o,p,q]:=⟨fun i x h=>by
 match i with
 | 0=>simp at h;subst h;exact (jE _ _ _ (by simp;omega)).trans ((jE _ _ _ sm).trans (aW w _))
 | 1=>simp at h;subst h;have:=aW (w.alloc o) p;rw [jB] at this;exact (jE _ _ _ sm).trans this
 | 2=>simp at h;subst h;have:=aW ((w.alloc o).alloc p) q;simp only [jB] at this;exact this
 | i+3=>simp at h,((fC).alloc sm _).alloc (by simp;omega) _⟩
theorem dU.later {w w' w2:World} {os:List Obj} (h:dU w w' os) (hb:Below w'.heap.size w' w2):dU w w2 os:=
 ⟨fun i o ho=>by have:=h.qg i o ho;rw [hb.block _ (aO this)];exact this,h.below.trans (hb.mono h.below.size)⟩
theorem dU.alloc {w w':World} {os:List Obj} (h:dU w w' os) (o:Obj):dU w (w'.alloc o) os:=h.later (fC)
theorem dU.drewN {w w':World} {os:List Obj} (h:dU w w' os) (n:Nat):dU w (w'.drewN n) os:=⟨h.qg,⟨h.below.os,h.below.tape,h.below.output,h.below.size,h.below.block⟩⟩
theorem dU.drew {w w':World} {os:List Obj} (h:dU w w' os):dU w w'.drew os:=⟨h.qg,h.below.drew⟩
theorem dU.put {w w' w2:World} {os:List Obj} (h:dU w w' os) (i:Nat) (o:Obj) (hk:Kept (fun x=>x=w.heap.size+i) w' w2) (ho:w2.heap[w.heap.size+i]? = some o):dU w w2 (os.set i o):=
 ⟨fun j x hx=>by
  rw [uf] at hx
  split at hx
  ·rename_i e;subst e
   split at hx
   ·injection hx with hx;subst hx;exact ho
   ·cases hx
  ·rename_i e;exact hk.aF om (h.qg j x hx),h.below.trans ⟨hk.os,hk.tape,hk.output,hk.size,fun k hk1=>hk.block k (iZ hk1 h.below.size) om⟩⟩
theorem dU.setCell {w w':World} {os:List Obj} (h:dU w w' os) (i:Nat) {cs:Array Value} {t:TypeId} {fr:Nat × Nat} (hi:os[i]? = some (.cells cs t fr)) (j:Nat) (v:Value):
  dU w (w'.setCell ⟨w.heap.size+i,j,none⟩ v) (os.set i (.cells (cs.setIfInBounds j v) t fr)):=
 h.put i _ (Kept.only _ _ _ _) (heap_setCell_same _ _ _ _ _ _ _ (h.qg i _ hi))
theorem Kept.AP (w:World) (f o:Nat) (vs:List Value):Kept (fun k=>k=f) w (w.setCells f o vs):=(Kept.refl (fun k=>k=f) w).setCells (aA rfl) o vs
theorem dU.setCells {w w':World} {os:List Obj} (h:dU w w' os) (i:Nat) {cs:Array Value} {t:TypeId} {fr:Nat × Nat} (hi:os[i]? = some (.cells cs t fr)) (j:Nat) (vs:List Value):
  dU w (w'.setCells (w.heap.size+i) j vs) (os.set i (.cells (lU cs j vs) t fr)):=
 h.put i _ (Kept.AP _ _ _ _) (JY _ _ _ _ _ _ _ (h.qg i _ hi))
theorem dU.lt {w w':World} {os:List Obj} (h:dU w w' os) {i:Nat} {o:Obj} (hi:os[i]? = some o):w.heap.size+i<w'.heap.size:=aO (h.qg i o hi)
theorem dU.o0 {w w':World} {o:Obj} {os:List Obj} (h:dU w w' (o :: os)):w'.heap[w.heap.size]? = some o:=h.qg 0 o rfl
theorem dU.o1 {w w':World} {a o:Obj} {os:List Obj} (h:dU w w' (a :: o :: os)):w'.heap[w.heap.size+1]? = some o:=h.qg 1 o rfl
theorem dU.o2 {w w':World} {a b o:Obj} {os:List Obj} (h:dU w w' (a :: b :: o :: os)):w'.heap[w.heap.size+1+1]? = some o:=h.qg 2 o rfl
def nv (M:List Nat):List Value:=M.map zW
theorem En (M:List Nat):(nv M).length=M.length:=by simp [nv]
theorem Kr (M:List Nat) (n:Nat) (hn:n<M.length):(nv M)[n]? = some (.int .i64 ((M.getD n 0:Nat):Int)):=by
 unfold nv;rw [jD,aK,bI hn];rfl
def zI:List Nat:=List.replicate 256 0
theorem OG:zI.length=256:=zy
def ali:Sem Value:=zeroValue 91
theorem avm:zeroValue 91=ali:=rfl
theorem atb (w:World):ali.run Tryz.prog w= .ok (.agg (nv zI).toArray) w:=
 (uI (P:=Tryz.prog) (t:=91) (v:= .agg (nv zI).toArray) (n:=256) kr).1 w
attribute [local go_sem ↓] dw avm
attribute [local go_sem] dK atb
def bump (M:List Nat) (n:Nat):List Nat:=M.set n (M.getD n 0+1)
theorem PG (M:List Nat) (n:Nat):(bump M n).length=M.length:=by simp [bump]
theorem aft (M:List Nat) (n:Nat):(nv M).toArray.setIfInBounds n (.int .i64 ((M.getD n 0:Nat)+1:Int))=(nv (bump M n)).toArray:=by
 rw [Af];unfold bump nv;rw [MV]
 congr 2
def zV (L:List aj) (s:Nat) (M:List Nat):Nat→List Nat
 | 0=>M
 | k+1=>if num (cl L s) (2*k)=0 then zV L s M k else bump (zV L s M k) (num (cl L s) (2*k)%32768)
def yJ (L:List aj) (t:Nat):Nat→List Nat
 | 0=>zI
 | i+1=>if num (cl L t) (2*i)=0 then yJ L t i else zV L (num (cl L t) (2*i)%32768) (bump (yJ L t i) (num (cl L t) (2*i)%32768)) 32
theorem Ug (L:List aj) (s:Nat) (M:List Nat): ∀ k,(zV L s M k).length=M.length
 | 0=>rfl
 | k+1=>by
  rw [zV];split
  ·exact Ug L s M k
  ·rw [PG];exact Ug L s M k
theorem Qj (L:List aj) (t:Nat): ∀ i,(yJ L t i).length=256
 | 0=>OG
 | i+1=>by
  rw [yJ];split
  ·exact Qj L t i
  ·rw [Ug,PG];exact Qj L t i
def Iq (b:Nat) (M:List Nat):Prop:= ∀ n,M.getD n 0≤b
theorem VQ {b:Nat} {M:List Nat} (h:Iq b M) (n:Nat):Iq (b+1) (bump M n):=fun m=>by
 unfold bump;rw [aK,uf];have h1:=h n;have h2:=h m;rw [aK] at h1 h2;split
 ·split
  ·simp only [KR,aK];omega
  ·simp
 ·omega
theorem Xw {b:Nat} {M:List Nat} (L:List aj) (s:Nat) (h:Iq b M): ∀ k,Iq (b+k) (zV L s M k)
 | 0=>h
 | k+1=>by
  rw [zV];split
  ·exact fun n=>by have:=Xw L s h k n;omega
  ·exact VQ (Xw L s h k) _
theorem ak9:Iq 0 zI:=fun n=>by
 unfold zI;rw [aK,qU]
 split <;> simp
theorem Xx (L:List aj) (t:Nat): ∀ i,Iq (33*i) (yJ L t i)
 | 0=>ak9
 | i+1=>by
  rw [yJ];split
  ·exact fun n=>by have:=Xx L t i n;omega
  ·exact fun n=>by have:=Xw L (num (cl L t) (2*i)%32768) (VQ (Xx L t i) (num (cl L t) (2*i)%32768)) 32 n;omega
def I8 (L:List aj) (M:List Nat):Nat→Nat→Bool
 | 0,_=>true
 | m+1,n=>if 254<aS L n+M.getD n 0 then false else I8 L M m (n+1)
def Eu (L:List aj) (t:Nat):Bool:=I8 L (yJ L t 2) L.length 0 && decide (0<Eb L)
theorem X6 (w:World) (f:Nat) (Lv Rv:Value) (R:aU) (h:bV w f Lv Rv R) (i:Nat) (hi:i<R.roots.length) (hr1:R.roots.length≤1000) (jk:R.L.length≤256) (hL6:6≤R.L.length) (hin:rH R.L (rootOf R i).N):
  Calls Tryz.prog 122 #[.pointer (some ⟨f,0,none⟩),.int .i64 (i:Nat)] w fun e w'=>e= .returned (.bool (Eu R.L (rootOf R i).N))∧aC w w':=by
 obtain ⟨g,cap,rfl,hc⟩:=gB h.fF om;obtain ⟨g2,cap2,rfl,hc2⟩:=gB h.o8 om;have hii:(i:Int)<(R.roots.length:Int):=om;have L0:=dU.two w (.cells (nv zI).toArray 91) (.cells (ig (rootOf R i)).toArray 132);have hB1:aC w (w.alloc (.cells (nv zI).toArray 91)):=fC;have h1:=h.below hB1;have c1:=h1.BG;have r0:(w.alloc (.cells (nv zI).toArray 91)).cell? ⟨g2,i*3,none⟩=some (.int .i64 ((rootOf R i).N:Nat)):=by have:=xU h1.o8 i hi 0 om;rw [jL] at this;exact this.trans rfl
 have r1:(w.alloc (.cells (nv zI).toArray 91)).cell? ⟨g2,i*3+1,none⟩=some (.int .i64 ((rootOf R i).At:Nat)):=(xU h1.o8 i hi 1 om).trans rfl;have r2:(w.alloc (.cells (nv zI).toArray 91)).cell? ⟨g2,i*3+2,none⟩=some (.string ⟨(rootOf R i).name.toArray⟩):=(xU h1.o8 i hi 2 om).trans rfl;have H:=ah h;have L0:=ah L0;have BA:Hid (Eu R.L (rootOf R i).N=(I8 R.L (yJ R.L (rootOf R i).N 2) R.L.length 0 && decide (0<Eb R.L))):=rfl;have hNi:((rootOf R i).N:Int)<(R.L.length:Int):=by have:=hin.at';omega
 clear h h1 hB1;generalize hrr:rootOf R i=r at*
 go_enter Tryz.func122,Tryz.ntmps122
 go_wp2
 go_loopw [7] (fun j w'=> ∃ k:Nat,k≤2∧j= .int .i64 k∧dU w w' [.cells (nv (yJ R.L r.N k)).toArray 91,.cells (ig r).toArray 132]) (fun j _=>2 - (intOf j).toNat)
 case atStart=>exact ⟨0,om,rfl,uh L0⟩
 case round=>
  obtain ⟨k,hk,rfl,hL⟩:=hrel;clear L0 c1 r0 r1 r2
  by_cases hlt:k<2
  ·have hki:(k:Int)<2:=om;have hbox:wr.cell? ⟨w.heap.size+1,0,none⟩=some (.int .i64 (r.N:Nat)):=(aG hL.o1 0).trans rfl;have hr:=H.below hL.below;have hG: ∀ d os,bV (Go.Sort.grow (redrawn wr d) os) f _ _ R:=fun d os=>hr.below (kL wr d os);have c0:=fun d os=>(hG d os).uN;have cx:=fun d os=>Ip hbox d os;have l1:=fun d os=>oI (hG d os).fF hr.lens _ hin.at';have l2:=fun d os=>oH (hG d os).fF hr.lens _ hin.at';have hlen:=iM hr.lens hin.at';have Hn:=ah (fun d os=>Em (cl R.L r.N) (2*(k:Int)) (Go.Sort.grow (redrawn wr d) os) hlen om om);rw [show (2*(k:Int)).toNat=2*k by omega] at Hn;have hxl:=iD (cl R.L r.N) (2*k);have nD:=hin.second k hlt;have hblk:=hin.block k hlt;have hstep:yJ R.L r.N (k+1)=if num (cl R.L r.N) (2*k)=0 then yJ R.L r.N k else zV R.L (num (cl R.L r.N) (2*k)%32768) (bump (yJ R.L r.N k) (num (cl R.L r.N) (2*k)%32768)) 32:=rfl
   have hml:=Qj R.L r.N k;have hmm:=Xx R.L r.N k;generalize num (cl R.L r.N) (2*k)=x at*;generalize yJ R.L r.N k=M at*;have EW:=ah hstep;have Pg:=ah hblk;have HL:=ah hL;clear hstep hG hblk hL;go_wp2;refine CQ kr kr ?_
   repeat (go_big_quiet_step (exact zA (uh Hn _ _)))
   refine CS ?_;intro _ hw';obtain ⟨⟨dq,osq⟩,hw''⟩:=hw';subst hw'';clear c0 cx l1 l2 Hn;have L2:=HL.later (kL wr dq osq);clear HL hbox hr;generalize Go.Sort.grow (redrawn wr dq) osq=w2 at*
   by_cases hx0:x=0
   ·subst hx0;rw [au rfl] at EW;have HL2:=ah L2;clear L2;go_wp2;go_roundw
    case rel=>exact ⟨k+1,om,gn,by rw [uh EW];exact uh HL2⟩
    case measure=>exact cO
   ·have dx:((x:Int) == 0)=false:=by rw [lI];omega
    rw [ak hx0] at EW;have hxL:=nD hx0;have hblk:=uh Pg hx0;generalize hcc:x%32768=c at*;have hci:(x:Int)%32768=(c:Nat):=om;have hc256:(c:Int)<256:=om;have cm:w2.cell? ⟨w.heap.size,c,none⟩=some (.int .i64 ((M.getD c 0:Nat):Int)):=by
     rw [aG L2.o0,bW,Kr _ _ om]
    have fm:=eG L2.o0 c;have hmc:=hmm c;have L3:=L2.setCell 0 rfl c (.int .i64 ((M.getD c 0:Nat)+1:Int));rw [jL,aft] at L3;simp only [nK] at L3;have hbm:=VQ hmm c;have hbl:(bump M c).length=256:=by rw [PG];exact hml
    have HL3:=ah L3;clear L2 L3 Pg;generalize M.getD c 0=mc at*;generalize bump M c=M1 at*;go_wp2;generalize w2.setCell ⟨w.heap.size,c,none⟩ (.int .i64 ((mc:Nat)+1:Int))=w3 at*;simp only [hci]
    go_loopw [9] (fun j w'=> ∃ m:Nat,m≤32∧j= .int .i64 m∧dU w w' [.cells (nv (zV R.L c M1 m)).toArray 91,.cells (ig r).toArray 132]) (fun j _=>32 - (intOf j).toNat)
    case atStart=>exact ⟨0,om,rfl,uh HL3⟩
    case round=>
     obtain ⟨m,hm,rfl,hL⟩:=hrel;clear HL3 cm fm
     by_cases hlt2:m<32
     ·have TJ:(m:Int)<32:=om;have hr:=H.below hL.below;have c0:=hr.uN;have l1:=oI hr.fF hr.lens _ hxL;have l2:=oH hr.fF hr.lens _ hxL;have Hn:=ah (Em (cl R.L c) (2*(m:Int)) wr (iM hr.lens hxL) om om);rw [show (2*(m:Int)).toNat=2*m by omega] at Hn;have hyl:=iD (cl R.L c) (2*m);have hyb:=hblk m hlt2;have hs3:zV R.L c M1 (m+1)=if num (cl R.L c) (2*m)=0 then zV R.L c M1 m else bump (zV R.L c M1 m) (num (cl R.L c) (2*m)%32768):=rfl
      have hnl:(zV R.L c M1 m).length=256:=by rw [Ug];exact hbl
      have hnm:=Xw R.L c hbm m;have hcL:(c:Int)<(R.L.length:Int):=om;generalize num (cl R.L c) (2*m)=y at*;generalize zV R.L c M1 m=M2 at*;have Hs3:=ah hs3;have HL:=ah hL;clear hs3 hr hL
      go_wp2_with fail
      refine Hn.mono ?_;rintro e w4 ⟨rfl,hb4⟩;have L4:=HL.later hb4;clear Hn hb4 HL c0 l1 l2
      by_cases hy0:y=0
      ·subst hy0;rw [au rfl] at Hs3;have HL4:=ah L4;clear L4;go_wp2;go_roundw
       case rel=>exact ⟨m+1,om,gn,by rw [uh Hs3];exact uh HL4⟩
       case measure=>exact cO
      ·have dy:((y:Int) != 0)=true:=by rw [nR];omega
       rw [ak hy0] at Hs3;generalize hee:y%32768=b at*;have hbi:(y:Int)%32768=(b:Nat):=om;have hb256:(b:Int)<256:=om;have cm:w4.cell? ⟨w.heap.size,b,none⟩=some (.int .i64 ((M2.getD b 0:Nat):Int)):=by
        rw [aG L4.o0,bW,Kr _ _ om]
       have fm:=eG L4.o0 b;have avO:=hnm b;have L5:=L4.setCell 0 rfl b (.int .i64 ((M2.getD b 0:Nat)+1:Int));rw [jL,aft] at L5;simp only [nK] at L5;have HL5:=ah L5;clear L4 L5;generalize M2.getD b 0=mb at*;go_wp2;go_roundw
       case rel=>exact ⟨m+1,om,gn,by rw [uh Hs3];exact uh HL5⟩
       case measure=>exact cO
     ·have hm32:m=32:=om;subst hm32;have HL:=ah hL;clear hL;go_wp2;go_roundw
      case rel=>exact ⟨k+1,om,gn,by rw [uh EW];exact uh HL⟩
      case measure=>exact cO
  ·have hk2:k=2:=om;subst hk2;have hml:=Qj R.L r.N 2;have hmm:=Xx R.L r.N 2;generalize yJ R.L r.N 2=M at*;have HL:=ah hL;clear hL;go_wp2
   go_loopw [11] (fun j w'=> ∃ n:Nat,n≤R.L.length∧j= .int .i64 n∧dU w w' [.cells (nv M).toArray 91,.cells (ig r).toArray 132]∧I8 R.L M R.L.length 0=I8 R.L M (R.L.length - n) n) (fun j _=>R.L.length - (intOf j).toNat)
   case atStart=>exact ⟨0,om,rfl,uh HL,rfl⟩
   case round=>
    obtain ⟨n,hn,rfl,hL,he⟩:=hrel;clear HL;have hr:=H.below hL.below;have c0:=hr.uN
    by_cases hlt2:n<R.L.length
    ·have hni:(n:Int)<(R.L.length:Int):=om;have hn256:(n:Int)<256:=om;have hG: ∀ d os,bV (Go.Sort.grow (redrawn wr d) os) f _ _ R:=fun d os=>hr.below (kL wr d os);have cm:wr.cell? ⟨w.heap.size,n,none⟩=some (.int .i64 ((M.getD n 0:Nat):Int)):=by
      rw [aG hL.o0,bW,Kr _ _ om]
     have cms:=fun d os=>Ip cm d os;have zB:=ah (fun d os=>(SG (Go.Sort.grow (redrawn wr d) os) f _ _ R (hG d os) (n:Int) om om om).mono (R':=fun e w'=>e= .returned (.int .i64 ((aS R.L (n:Int).toNat:Nat):Int))∧Below (Go.Sort.grow (redrawn wr d) os).heap.size (Go.Sort.grow (redrawn wr d) os) w') (by rintro e w' ⟨rfl,rfl⟩;exact ⟨rfl,bG _ _⟩));rw [vC] at zB;have hq:=aaH R.L n;have hmn:=hmm n;rw [show R.L.length - n=(R.L.length - (n+1))+1 by omega,I8] at he;generalize aS R.L n=q at*;generalize M.getD n 0=mn at*;have He:=ah he;have HL:=ah hL;clear hG cm he hL hr;go_wp2;refine CQ kr kr ?_
     repeat (go_big_quiet_step (exact zA (uh zB _ _)))
     refine CS ?_;intro _ hw';obtain ⟨⟨dq,osq⟩,hw''⟩:=hw';subst hw'';have L2:=ah (HL.later (kL wr dq osq));clear c0 cms zB HL;generalize Go.Sort.grow (redrawn wr dq) osq=w2 at*
     by_cases hgt:254<q+mn
     ·have dg:decide ((254:Int)<((q:Nat):Int)+((mn:Nat):Int))=true:=eH om;rw [au hgt] at He;have HB:=ah L2.below;clear L2;go_wp2;go_ret;exact ⟨by rw [uh BA,uh He];rfl,uh HB⟩
     ·have dg:decide ((254:Int)<((q:Nat):Int)+((mn:Nat):Int))=false:=gU om;rw [ak hgt] at He;go_wp2;go_roundw
      case rel=>exact ⟨n+1,om,gn,uh L2,uh He⟩
      case measure=>exact cO
    ·have hnl:n=R.L.length:=om;rw [hnl,Bf,I8] at he;have He:=ah he;have Hf:=ah (agX wr f _ _ R hr jk hL6);have HB:=ah hL.below;clear he hL hr hmm;generalize Eb R.L=fr at*
     go_wp2_with fail
     refine Hf.mono ?_;rintro e w2 ⟨rfl,rfl⟩
     by_cases hfr:0<fr
     ·have df:decide ((0:Int)<((fr:Nat):Int))=true:=eH om;go_wp2;go_ret;exact ⟨by rw [uh BA,uh He,eH hfr];rfl,uh HB⟩
     ·have df:decide ((0:Int)<((fr:Nat):Int))=false:=gU om;go_wp2;go_ret;exact ⟨by rw [uh BA,uh He,gU hfr];rfl,uh HB⟩
end
section
attribute [local go_sem ↓] dw fP fZ kS mP mV jJ kJ jY jU lD lH kQ
attribute [local go_sem] dK fO fV gK gy aV kX mG mM mJ mF gI jK kH jX kZ kW iJ jW lq lC lu kF
theorem arp (a b:Nat) (ha:a<256) (hb:b<256):bits .or .u16 ((a:Int)*256) (b:Int)=((256*a+b:Nat):Int):=by
 rw [bits_join .u16 16 dc wraps_u16 8 ((a:Int)*256) (b:Int) om om om om om om];omega
theorem arq (n:Nat) (hn:n<32768):bits .or .u16 (n:Int) 32768=((n+32768:Nat):Int):=by
 rw [bits_join_low .u16 16 dc wraps_u16 15 (n:Int) 32768 om om om om om om];omega
theorem ae4 (n:Nat) (hn:n<65536):bits .andNot .u16 (n:Int) 32768=((n%32768:Nat):Int):=by
 have h:bits .andNot .u16 (n:Int) 32768=bits .and .u16 (n:Int) 32767:=by
  simp only [bits];rw [show ~~~(BitVec.ofInt IntKind.u16.bits 32768)=BitVec.ofInt IntKind.u16.bits 32767 from by decide]
 rw [h,show (32767:Int)=2 ^ 15 - 1 by decide,bits_mask .u16 16 dc wraps_u16 15 dc (n:Int) om om];omega
theorem ami (n:Nat) (hn:n<65536):bits .and .u16 (n:Int) 32768=if 32768≤n then 32768 else 0:=by
 have h:=(bits_nat .u16 16 dc wraps_u16 n 32768 hn dc).1;rw [show ((32768:Nat):Int)=32768 from rfl] at h;rw [h];have key:n &&& 2 ^ 15=if 32768≤n then 2 ^ 15 else 0:=by
  refine Nat.eq_of_testBit_eq fun i=> ?_;rw [Nat.testBit_and,Nat.testBit_two_pow]
  by_cases hi:15=i
  ·subst hi;rw [eH rfl,Y6,Nat.testBit_eq_decide_div_mod_eq];split
   ·rw [show n / 2 ^ 15=1 by omega];decide
   ·rw [show n / 2 ^ 15=0 by omega];decide
  ·rw [gU hi,QZ];split
   ·rw [Nat.testBit_two_pow,gU hi]
   ·simp
 rw [show (32768:Nat)=2 ^ 15 from rfl,key]
 split <;> rfl
theorem Qu (c:List UInt8) (at':Int) (w:World) (hc:c.length=64) (h0:0≤at') (h1:at'<63):
  Calls Tryz.prog 149 #[.agg (cv c).toArray,.int .i64 at'] w fun e w'=>e= .returned (.int .u16 (num c at'.toNat:Nat))∧aC w w':=by
 obtain ⟨n,rfl⟩:=CP h0;have b1:=tV c n;have b2:=tV c (n+1);have k1:(w.alloc (.cells (cv c).toArray 38)).cell? ⟨w.heap.size,n,none⟩=some (.int .u8 (aI c n:Nat)):=by
  rw [vX,bW,uO];omega
 have k2:(w.alloc (.cells (cv c).toArray 38)).cell? ⟨w.heap.size,n+1,none⟩=some (.int .u8 (aI c (n+1):Nat)):=by
  rw [vX,bW,uO];omega
 go_enter Tryz.func149,Tryz.ntmps149
 go_wp2
 go_quiet (fail)
 go_wp2;go_ret;refine ⟨?_,?_⟩
 ·exact Us (arp _ _ b1 b2)
 ·exact (((Kept.refl (fun _=>False) w).alloc _).drewN _).below
theorem Xr (n:Nat) (hn:n<65536) (w:World):Calls Tryz.prog 105 #[.int .u16 (n:Nat)] w fun e w'=>e= .returned (.bool (decide (32768≤n)))∧w'=w:=by
 go_enter Tryz.func105,Tryz.ntmps105
 go_wp2;go_ret;refine ⟨?_,rfl⟩;rw [show bits BinOp.and IntKind.u16 (n:Int) 32768=_ from ami n hn]
 by_cases h:32768≤n
 ·rw [au h,eH h];rfl
 ·rw [ak h,gU h];rfl
theorem BH (n:Nat) (hn:n<65536) (w:World):Calls Tryz.prog 108 #[.int .u16 (n:Nat)] w fun e w'=>e= .returned (.int .i64 ((n%32768:Nat):Int))∧w'=w:=by
 go_enter Tryz.func108,Tryz.ntmps108
 go_wp2;go_ret;refine ⟨?_,rfl⟩;rw [show bits BinOp.andNot IntKind.u16 (n:Int) 32768=_ from ae4 n hn];exact Us (IntWalk.wrap64_in _ om)
theorem XK (n:Nat) (hn:n<32768) (w:World):Calls Tryz.prog 161 #[.int .i64 (n:Nat)] w fun e w'=>e= .returned (.int .u16 ((n+32768:Nat):Int))∧w'=w:=by
 go_enter Tryz.func161,Tryz.ntmps161
 go_wp2;go_ret;refine ⟨?_,rfl⟩;exact Us (arq n hn)
def uU (c:aj) (k n:Nat):aj:=(c.set k (UInt8.ofNat (n / 256))).set (k+1) (UInt8.ofNat (n%256))
theorem QC (c:aj) (k n:Nat):(uU c k n).length=c.length:=by simp [uU]
theorem Ls (c:aj) (k:Nat) (b:Nat) (hb:b<256):cv (c.set k (UInt8.ofNat b))=(cv c).set k (.int .u8 (b:Nat)):=by
 rw [cv,MV]
 congr 2
 have:(UInt8.ofNat b).toNat=b:=by rw [MN];omega
 rw [this]
theorem Oe (w:World) (b:Nat) (c:aj) (t:TypeId) (hb:w.heap[b]? = some (.cells (cv c).toArray t (0,0))) (hc:c.length=64) (k n:Nat) (hk:k<63) (hn:n<65536):
  Calls Tryz.prog 169 #[.pointer (some ⟨b,0,none⟩),.int .i64 (k:Nat),.int .u16 (n:Nat)] w fun e w'=>e= .returned (.tuple #[])∧w'.heap[b]? = some (.cells (cv (uU c k n)).toArray t (0,0))∧Kept (fun x=>x=b) w w':=by
 have f1:=eG hb k;have f2:=eG hb (k+1);have c1:w.cell? ⟨b,k,none⟩=some (.int .u8 (aI c k:Nat)):=by rw [aG hb,bW,uO _ _ om]
 have c2:w.cell? ⟨b,k+1,none⟩=some (.int .u8 (aI c (k+1):Nat)):=by rw [aG hb,bW,uO _ _ om]
 have hki:(k:Int)<63:=om;have e1:((w.setCell ⟨b,k,none⟩ (.int .u8 ((n / 256:Nat):Int))).setCell ⟨b,k+1,none⟩ (.int .u8 ((n%256:Nat):Int))).heap[b]? = some (.cells (cv (uU c k n)).toArray t (0,0)):=by
  rw [heap_setCell_same _ _ _ _ _ _ _ (heap_setCell_same _ _ _ _ _ _ _ hb),uU,Ls _ _ _ om,Ls _ _ _ om]
  simp
 have k1:=(Kept.only w b k (.int .u8 ((n / 256:Nat):Int))).trans (Kept.only _ b (k+1) (.int .u8 ((n%256:Nat):Int)));rw [Int.natCast_ediv,Int.natCast_emod] at e1 k1;have E1:=ah e1;have K1:=ah k1;clear e1 k1
 go_enter Tryz.func169,Tryz.ntmps169
 go_wp2
 go_region
 go_end0
 exact ⟨rfl,uh E1,K1.drew⟩
def numsOf (c:aj):List Nat:=(List.range 32).map fun i=>num c (2*i)
theorem numsOf_length (c:aj):(numsOf c).length=32:=by simp [numsOf]
theorem uT (c:aj) (i:Nat) (hi:i<32):(numsOf c).getD i 0=num c (2*i):=by simp [numsOf,List.getD,hi]
def H8 (c:aj) (k:Nat):List Nat:=(List.range 32).map fun i=>if i<k then num c (2*i) else 0
theorem aq0 (c:aj):H8 c 0=zt:=by
 unfold H8 zt;refine List.eq_replicate_iff.2 ⟨sm,fun b hb=> ?_⟩;obtain ⟨i,_,rfl⟩:=gQ.1 hb;rw [ak om]
theorem aqX (c:aj):H8 c 32=numsOf c:=by
 unfold H8 numsOf;refine Ii fun i hi=> ?_;rw [au (Jm.1 hi)]
theorem aqY (c:aj) (k:Nat):(H8 c k).length=32:=by simp [H8]
theorem aqZ (c:aj) (k:Nat) (hk:k<32):H8 c (k+1)=(H8 c k).set k (num c (2*k)):=by
 refine uH fun i=> ?_;rw [uf];simp only [H8,jD,tH,Y5]
 by_cases hi:i<32
 ·rw [x9 hi]
  by_cases e:k=i
  ·subst e;simp [hk]
  ·simp only [EM,ak e]
   congr 1
   by_cases h:i<k
   ·rw [au h,au om]
   ·rw [ak h,ak om]
 ·rw [eu (by simp;omega)];split
  ·omega
  ·rfl
theorem YS (T:List Nat) (k n:Nat):tv (T.set k n)=(tv T).set k (.int .u16 (n:Nat)):=by simp [tv,MV]
theorem at6 (w:World) (c:aj) (hc:c.length=64):
  Calls Tryz.prog 178 #[.agg (cv c).toArray] w fun e w'=>e= .returned (.agg (tv (numsOf c)).toArray)∧aC w w':=by
 have L0:=ah (dU.three w (.cells (cv c).toArray 38) (.cells (tv zt).toArray 169) (.cells (tv zt).toArray 169))
 go_enter Tryz.func178,Tryz.ntmps178
 go_wp2
 go_loopw [4,5] (fun _ i w'=> ∃ k:Nat,k≤32∧i= .int .i64 k∧dU w w' [.cells (cv c).toArray 38,.cells (tv zt).toArray 169,.cells (tv (H8 c k)).toArray 169]) (fun _ i _=>32 - (intOf i).toNat)
 case atStart=>exact ⟨0,om,rfl,by rw [aq0];exact uh L0⟩
 case round=>
  obtain ⟨k,hk,rfl,hL⟩:=hrel;clear L0
  by_cases hlt:k<32
  ·have hki:(k:Int)<32:=om;have b0:=hL.o0;have l1:=gZ b0 hc;have l2:=gY b0 hc;have Hn:=ah (Qu c (2*(k:Int)) wr hc om om);have HL:=ah hL;have Hs:=ah (aqZ c k hlt);clear hL b0
   go_wp2_with fail
   refine Hn.mono ?_;rintro e w1 ⟨rfl,hb1⟩;have hL1:=HL.later hb1;have b2:=hL1.o2;have f1:=eG b2 k;have c1:w1.cell? ⟨w.heap.size+1+1,k,none⟩=some (.int .u16 (((H8 c k).getD k 0:Nat):Int)):=by
    rw [aG b2,bW,Oy _ _ (by rw [aqY];exact hlt)]
   have L1:=ah (hL1.setCell 2 rfl k (.int .u16 (num c (2*k):Nat)));rw [show (2*(k:Int)).toNat=2*k by omega];clear hL1 b2 hb1 HL Hn l1 l2;go_wp2;go_roundw
   case rel=>
    refine ⟨k+1,om,gn,?_⟩;rw [uh Hs,YS];simpa using uh L1
   case measure=>exact cO
  ·have hk32:k=32:=om;subst hk32;rw [aqX] at hL;have b1:=hL.o1;have b2:=hL.o2;have l1:=fD b2 (n:=32) (by rw [pR,numsOf_length]);have l2:=fG b2 (n:=32) (by rw [pR,numsOf_length]);have th:=iI b1 0 32 (by simp [pR,gI]);have hnl:=numsOf_length c;have hset:=hL.setCells 1 rfl 0 (tv (numsOf c));rw [qw _ _ (by simp [pR,gI,numsOf_length])] at hset;have o1:=hset.o1;have l3:=fD o1 (n:=32) (by rw [pR,numsOf_length]);have l4:=fG o1 (n:=32) (by rw [pR,numsOf_length]);have HB:=ah hset.below;clear hL b1 b2 hset o1;go_wp2;refine gV (qK Tryz.results178 ⟨w.heap.size+1,0,none⟩ rfl ?_) rfl ⟨rfl,uh HB⟩;rw [kS,kX l3,l4]
end
end Go.Proofs.YtknjjjenklfeoaaGreatDoor
