import Derived.Test.YtknjjjenklfeoaaGreatDoorU28
set_option maxHeartbeats 8000000
set_option maxRecDepth 100000
set_option linter.all false
namespace Go.Proofs.YtknjjjenklfeoaaGreatDoor
open Go.RowKit
section
attribute [local go_sem ↓] dw fP fV kU mZ nC jR kP kJ kF lG lI kR kQ kV ng nD l9 nJ jE pW qM qO qA xM ED EF EC DW
attribute [local go_sem] dM fO fU gW gB aV kY mP mW mQ mO gX jT kN kH lq kX iM kG lu lD lC kM jc jd nH nK kW kZ mX nT mV mM nN qc qI qK qJ qH xU Et Ew Eu Es Dy
attribute [local go_sem] pU pR Oper.semAt_some
attribute [local go_sem ↓] IY Jh
attribute [local go_sem] Jc Jf Je
def asH (E:List aW): ∀ k,k<E.length→((lv E).drop (k*2)).take 2=ev (E.getD k ze):=by
 induction E with
 | nil=>intro k hk;cases hk
 | cons e r ih=>
  intro k hk;cases k with
  | zero=>rfl
  | succ k=>
   have:=ih k (by simpa using hk)
   show ((ev e++lv r).drop ((k+1)*2)).take 2=_;rw [List.drop_append,show (ev e).drop ((k+1)*2)=[] by rw [List.drop_eq_nil_of_le];simp [ev];omega,show (k+1)*2 - (ev e).length=k*2 by simp [ev];omega,qy,this];rfl
def aub (E:List aW) (k:Nat) (hk:k<E.length) (w:World):(part 142 (lv E).toArray (k*2)).run Tryz.prog w= .ok (.agg (ev (E.getD k ze)).toArray) w:=by
 have a:(isAgg 142).run Tryz.prog w= .ok true w:=by unfold isAgg;rw [jC,yh Tryz.underlying142 w];rfl
 have b:=run_sizeOf (P:=Tryz.prog) (e:=142) (sz:=2) kr w;unfold part;rw [jC,a];simp only [sK,xk];rw [jC,b];simp only [sK]
 have:(lv E).toArray.extract (k*2) (k*2+2)=(ev (E.getD k ze)).toArray:=by
  rw [List.extract_toArray,aft,show k*2+2 - k*2=2 by omega,asH E k hk]
 rw [this];rfl
def Sj (w:World) (E:List aW) (a:E.length=4) (k:Nat) (hk:k<4):(Instr.index 144 (.agg (lv E).toArray) (.int .i64 (k:Int))).run Tryz.prog w= .ok (.agg (ev (E.getD k ze)).toArray) w:=
 Zv w _ _ 4 2 Tryz.underlying144 kr _ k hk _ (aub E k om w)
def acy (e:aW) (w:World):(Instr.field 142 (.agg (ev e).toArray) 1).run Tryz.prog w= .ok (.int .i64 (e.first:Nat)) w:=by
 kernel_rfl
def acw (e:aW) (w:World):(Instr.field 142 (.agg (ev e).toArray) 0).run Tryz.prog w= .ok (.string (bM e.name)) w:=by
 kernel_rfl
attribute [local go_sem] acw acy pU pR
def axj (w:World) (v:Nat) (Cv Lv:Value) (V:aB) (h:aP w v Cv Lv V) (t:5<V.C.length) (s:ByteArray) (hs:s.size≤maxLen) (n:Int) (i:Nat) (hi:i<lenOf (aZ (cl V.C 5))) (he:oz V s=(((i:Nat):Int),0)) (f:rX V.C ((aZ (cl V.C 5)).getD i ze).first):
  Calls Tryz.prog 98 #[.pointer (some ⟨v,0,none⟩),.string s,.int .i64 n] w fun e z=>e= .returned (.tuple #[.agg (cv (yK V s n).1).toArray,.int .i64 ((yK V s n).2:Nat)])∧aC w z:=by
 have a:=dW.one w (.cells (cv zc).toArray 38);have d:=ah (XQ _ v Cv Lv V (h.below a.below) t s hs);have H:=ah h;have a:=ah a;have hlen:=Ua h.kT f n;have I:=AQ (aZ (cl V.C 5));have x:=Ea (cl V.C 5);clear h;have hR:yK V s n=xC V.C ((aZ (cl V.C 5)).getD i ze).first n:=by unfold yK;rw [he];rfl
 rw [hR];rw [he] at d;dsimp only at d;have u:Hid (∀ W,aP W v Cv Lv V→_):=fun W g=>Lc W v Cv Lv V g t;have j:Hid (∀ W,aP W v Cv Lv V→_):=fun W g=>alK W v Cv Lv V g ((aZ (cl V.C 5)).getD i ze).first n f;have Hx:=fun W=>Sj W (aZ (cl V.C 5)) x i om;clear f hR he;generalize xC V.C ((aZ (cl V.C 5)).getD i ze).first n=R at*;obtain ⟨c,k⟩:=R;dsimp only at hlen j ⊢;generalize (aZ (cl V.C 5)).getD i ze=G at*;generalize aZ (cl V.C 5)=E at*
 go_enter Tryz.func98,Tryz.ntmps98
 go_wp2_with fail
 refine d.mono ?_;rintro e J ⟨rfl,p⟩;have l:=ah (a.later p);clear p d a
 go_wp2_with fail
 refine (uh u _ (H.below l.below)).mono ?_;rintro e A ⟨rfl,q⟩;have m:=ah (l.later q);have y:=Hx A;clear q u l Hx
 go_wp2_with fail
 refine (uh j _ (H.below m.below)).mono ?_;rintro e K ⟨rfl,r⟩;have o:=m.later r;have L:=iW o.o0 0 64 (by simp [bC,aV]);have b:=o.setCells 0 rfl 0 (cv c);rw [jW,qL _ _ (by simp [bC,aV,hlen])] at b;have B:=iD b.o0 hlen;have D:=iC b.o0 hlen;have F:=ah b.below;clear b o r j m y;go_wp2;refine iy (v:= .tuple #[.agg (cv c).toArray,.int .i64 (k:Nat)]) (by rw [FZ Tryz.results98];simp only [dw];simp [asAddr,dM B,D]) rfl ⟨rfl,uh F⟩
def axi (w:World) (v:Nat) (Cv Lv:Value) (V:aB) (h:aP w v Cv Lv V) (a:5<V.C.length) (s:ByteArray) (hs:s.size≤maxLen) (n:Int) (b: ∀ k,k<lenOf (aZ (cl V.C 5))→rX V.C ((aZ (cl V.C 5)).getD k ze).first):
  Calls Tryz.prog 98 #[.pointer (some ⟨v,0,none⟩),.string s,.int .i64 n] w fun e c=>e= .returned (.tuple #[.agg (cv (yK V s n).1).toArray,.int .i64 ((yK V s n).2:Nat)])∧aC w c:=by
 rcases XP V s with (e | e) | ⟨i,hi,e,_⟩
 ·exact am5 w v Cv Lv V h a s hs n 2 e dc
 ·exact am5 w v Cv Lv V h a s hs n 4 e dc
 ·exact axj w v Cv Lv V h a s hs n i hi e (b i hi)
def alJ {V:aB} (b: ∀ c ∈ V.C,c.length=64) (s:ByteArray) (n:Int) (a: ∀ k,k<lenOf (aZ (cl V.C 5))→rX V.C ((aZ (cl V.C 5)).getD k ze).first):(yK V s n).1.length=64:=by
 unfold yK;rcases XP V s with (e | e) | ⟨i,hi,e,_⟩
 ·rw [e];exact aV
 ·rw [e];exact aV
 ·rw [e];exact Ua b (a i hi) n
def aqe (w:World) (d v:Nat) (Cv Lv:Value) (V:aB) (h:pK w d v Cv Lv V) (o:5<V.C.length) (s:ByteArray) (hs:s.size≤maxLen) (n:Int) (g: ∀ k,k<lenOf (aZ (cl V.C 5))→rX V.C ((aZ (cl V.C 5)).getD k ze).first):
  Calls Tryz.prog 50 #[.pointer (some ⟨d,0,none⟩),.string s,.int .i64 n] w fun e p=>e= .returned (.tuple #[.agg (cv (yK V s n).1).toArray,.int .i64 ((yK V s n).2:Nat)])∧aC w p:=by
 have a:=dW.one w (.cells (cv zc).toArray 38);have f:=h.below a.below;have c0:=f.c0;have m:=ah (I4 _ d v Cv Lv V f);have i:=ah (axi _ v Cv Lv V f.bH o s hs n g);have hlen:=alJ h.bH.kT s n g;have a:=ah a;clear h f g;generalize yK V s n=R at*;obtain ⟨c,k⟩:=R;dsimp only at hlen i ⊢
 go_enter Tryz.func50,Tryz.ntmps50
 go_wp2_with fail
 refine m.mono ?_;rintro e u ⟨rfl,rfl⟩
 go_wp2_with fail
 refine i.mono ?_;rintro e x ⟨rfl,l⟩;have j:=a.later l;have y:=iW j.o0 0 64 (by simp [bC,aV]);have b:=j.setCells 0 rfl 0 (cv c);rw [jW,qL _ _ (by simp [bC,aV,hlen])] at b;have q:=iD b.o0 hlen;have r:=iC b.o0 hlen;have t:=ah b.below;clear b j l a i m;go_wp2;refine iy (v:= .tuple #[.agg (cv c).toArray,.int .i64 (k:Nat)]) (by rw [FZ Tryz.results50];simp only [dw];simp [asAddr,dM q,r]) rfl ⟨rfl,uh t⟩
end
section
attribute [local go_sem ↓] dw fP fV kU mZ nC jR kP kJ kF lG lI kR kQ kV ng nD l9 nJ jE pW qM qO qA xM ED EF EC DW
attribute [local go_sem] dM fO fU gW gB aV kY mP mW mQ mO gX jT kN kH lq kX iM kG lu lD lC kM jc jd nH nK kW kZ mX nT mV mM nN qc qI qK qJ qH xU Et Ew Eu Es Dy
attribute [local go_sem] pU pR Oper.semAt_some
attribute [local go_sem ↓] IY Jh
attribute [local go_sem] Jc Jf Je
def VO {P:Program} (w:World) (e l ty elem:TypeId) (sz b o c f:Nat) (a:Addr) (d g:Nat) (cs:List Value)
  (hu:P.underlying e=some (.slice elem)) (hs:(P.info? elem).map (·.size)=some sz) (hn:cs.length=Nat.min d c*sz)
  (h: ∀ j v,cs[j]? = some v→w.cell? (a.add j)=some v) (hc: ∀ j,j<cs.length→(w.cell? ⟨b,o+j,none⟩).isSome=true) (m: ∀ j,j<cs.length→w.frozen? ⟨b,o+j,none⟩=false) (n: ∀ v ∈ cs,v.oneCell'=true):
  (Builtin.copy_ #[e,l] ty #[.slice (some ⟨b,o,none⟩) c f,.slice (some a) d g]).run P w= .ok (goInt (Nat.min d c:Nat)) (w.setCells b o cs):=by
 have p:=run_loadCells_list (P:=P) w a cs h;have k:=run_storeCells_cells (P:=P) b o cs 0 w (by simpa using hc) (by simpa using m) n;cases hq:P.info? elem with
 | none=>simp [hq] at hs
 | some i=>
  have hi:i.size=sz:=by simpa [hq] using hs
  simp [Builtin.copy_,yh hu,Builtin.lenOf,Builtin.firstCells,Go.sizeOf,typeInfo,hq,hi,← hn,p,k]
def axr (w:World) (E:List aW) (d:E.length=4) (p:aW) (D:lenOf E<4):
  Calls Tryz.prog 89 #[.agg (lv E).toArray,.agg (ev p).toArray] w fun e l=>e= .returned (.agg (lv (E.set (lenOf E) p)).toArray)∧aC w l:=by
 have b:=dW.three w (.cells (lv E).toArray 144) (.cells (ev p).toArray 142) (.cells (lv zl).toArray 144);have m:=fH b.drew.o0 (n:=8) (by rw [dX,d]);have o:=fM b.drew.o0 (n:=8) (by rw [dX,d]);have q:=fH b.drew.o1 (n:=2) (by simp [ev]);have r:=fM b.drew.o1 (n:=2) (by simp [ev]);have j:=ah (O7 ((((w.alloc (.cells (lv E).toArray 144)).alloc (.cells (ev p).toArray 142)).alloc (.cells (lv zl).toArray 144)).drew) E d);have A:((lenOf E:Nat):Int)<4:=om;have h:=Vu E (lenOf E) om p;have g:(E.set (lenOf E) p).length=4:=by rw [rV,d]
 have b:=ah b;generalize B:lenOf E=k at*
 go_enter Tryz.func89,Tryz.ntmps89
 go_wp2
 go_region_law (
  go_simp;go_at_call 85;refine j.mono ?_;rintro e s ⟨rfl,i⟩;have c:=b.drew.later i;have t:=iW c.o0 (k*2) 2 (by rw [jm,dX,d];omega);have u:=fH c.o1 (n:=2) (by simp [ev]);have v:=fM c.o1 (n:=2) (by simp [ev]);have c:=ah c)
 all_goals
  have a:=c.setCells 0 rfl (k*2) (ev p);rw [jW] at a;generalize s.setCells w.heap.size (k*2) (ev p)=F at*;rw [Nat.mul_comm k 2,h] at a;simp only [oq] at a;have n1:=fH a.o0 (n:=8) (by rw [dX,g]);have G:=fM a.o0 (n:=8) (by rw [dX,g]);have C:=iW a.o2 0 8 (by simp [dX,zl]);have f:=a.setCells 2 rfl 0 (lv (E.set k p));rw [qL _ _ (by simp [dX,zl,d])] at f;simp only [oq,xg] at f;have x:=fH f.o2 (n:=8) (by rw [dX,g]);have y:=fM f.o2 (n:=8) (by rw [dX,g]);have z:=ah f.below;clear f a c i t u v m o q r j h;go_wp2;refine iy (qZ Tryz.results89 ⟨w.heap.size+1+1,0,none⟩ rfl ?_) rfl ⟨rfl,uh z⟩;rw [xM,xU x,y]
def jJ (E:List aW) (i:Nat):List aW:=E.eraseIdx i++[ze]
def al2 (w:World):(abB #[]).run Tryz.prog w= .ok (.agg (ev ze).toArray) w:=kr
attribute [local go_sem] al2
def axt (w:World) (E:List aW) (y:E.length=4) (i:Nat) (hi:i<4):
  Calls Tryz.prog 112 #[.agg (lv E).toArray,.int .i64 (i:Nat)] w fun e z=>e= .returned (.agg (lv (jJ E i)).toArray)∧aC w z:=by
 match E,y with
 | [f,c,b,a],_=>
 have k:=(dW.two w (.cells (lv [f,c,b,a]).toArray 144) (.cells (lv zl).toArray 144)).drew;rcases (show i=0∨i=1∨i=2∨i=3 by omega) with rfl | rfl | rfl | rfl
 ·have l:=VO (P:=Tryz.prog) _ 160 160 3 142 2 w.heap.size 0 4 4 ⟨w.heap.size,2,none⟩ 3 3 (lv [c,b,a]) Tryz.underlying160 kr (by simp [lv,ev])
   (fun j v hv=>by rw [show (⟨w.heap.size,2,none⟩:Addr).add j=⟨w.heap.size,2+j,none⟩ by simp [Addr.add];try omega];rw [aF k.o0,bZ];simpa [lv,ev,Ci] using hv)
   (fun j hj=>by rw [aF k.o0,bZ,bJ (by simp [lv,ev] at hj ⊢;try omega)];rfl) (fun j _=>eY k.o0 _) (Rl _)
  have h:=k.setCells 0 rfl 0 (lv [c,b,a]);rw [jW,show mY (lv [f,c,b,a]).toArray 0 (lv [c,b,a])=(lv [c,b,a,a]).toArray from rfl] at h;simp only [oq] at h;generalize q:World.setCells _ w.heap.size 0 (lv [c,b,a])=u at*;have r:=iW h.o0 6 2 (by simp [dX]);have d:=h.setCells 0 rfl 6 (ev ze);rw [jW,show mY (lv [c,b,a,a]).toArray 6 (ev ze)=(lv (jJ [f,c,b,a] 0)).toArray from rfl] at d;simp only [oq] at d;have n1:=fH d.o0 (n:=8) (by simp [dX,jJ]);have x:=fM d.o0 (n:=8) (by simp [dX,jJ]);have s:=iW d.o1 0 8 (by simp [dX,zl]);have g:=d.setCells 1 rfl 0 (lv (jJ [f,c,b,a] 0));rw [qL _ _ (by simp [dX,zl,jJ])] at g;simp only [oq,xg] at g;have m:=fH g.o1 (n:=8) (by simp [dX,jJ]);have o:=fM g.o1 (n:=8) (by simp [dX,jJ]);have t:(jJ [f,c,b,a] 0).length=4:=rfl;have p:=ah g.below;clear g d h k;generalize jJ [f,c,b,a] 0=F at*
  simp only [aaN,goInt] at l
  go_enter Tryz.func112,Tryz.ntmps112
  go_wp2
  go_region
  go_wp2;refine iy (qZ Tryz.results112 ⟨w.heap.size+1,0,none⟩ rfl ?_) rfl ⟨rfl,uh p⟩;rw [xM,xU m,o]
 ·have l:=VO (P:=Tryz.prog) _ 160 160 3 142 2 w.heap.size 2 3 3 ⟨w.heap.size,4,none⟩ 2 2 (lv [b,a]) Tryz.underlying160 kr (by simp [lv,ev])
   (fun j v hv=>by rw [show (⟨w.heap.size,4,none⟩:Addr).add j=⟨w.heap.size,4+j,none⟩ by simp [Addr.add];try omega];rw [aF k.o0,bZ];simpa [lv,ev,Ci] using hv)
   (fun j hj=>by rw [aF k.o0,bZ,bJ (by simp [lv,ev] at hj ⊢;try omega)];rfl) (fun j _=>eY k.o0 _) (Rl _)
  have h:=k.setCells 0 rfl 2 (lv [b,a]);rw [jW,show mY (lv [f,c,b,a]).toArray 2 (lv [b,a])=(lv [f,b,a,a]).toArray from rfl] at h;simp only [oq] at h;generalize q:World.setCells _ w.heap.size 2 (lv [b,a])=u at*;have r:=iW h.o0 6 2 (by simp [dX]);have d:=h.setCells 0 rfl 6 (ev ze);rw [jW,show mY (lv [f,b,a,a]).toArray 6 (ev ze)=(lv (jJ [f,c,b,a] 1)).toArray from rfl] at d;simp only [oq] at d;have n1:=fH d.o0 (n:=8) (by simp [dX,jJ]);have x:=fM d.o0 (n:=8) (by simp [dX,jJ]);have s:=iW d.o1 0 8 (by simp [dX,zl]);have g:=d.setCells 1 rfl 0 (lv (jJ [f,c,b,a] 1));rw [qL _ _ (by simp [dX,zl,jJ])] at g;simp only [oq,xg] at g;have m:=fH g.o1 (n:=8) (by simp [dX,jJ]);have o:=fM g.o1 (n:=8) (by simp [dX,jJ]);have t:(jJ [f,c,b,a] 1).length=4:=rfl;have p:=ah g.below;clear g d h k;generalize jJ [f,c,b,a] 1=F at*
  simp only [aaN,goInt] at l
  go_enter Tryz.func112,Tryz.ntmps112
  go_wp2
  go_region
  go_wp2;refine iy (qZ Tryz.results112 ⟨w.heap.size+1,0,none⟩ rfl ?_) rfl ⟨rfl,uh p⟩;rw [xM,xU m,o]
 ·have l:=VO (P:=Tryz.prog) _ 160 160 3 142 2 w.heap.size 4 2 2 ⟨w.heap.size,6,none⟩ 1 1 (lv [a]) Tryz.underlying160 kr (by simp [lv,ev])
   (fun j v hv=>by rw [show (⟨w.heap.size,6,none⟩:Addr).add j=⟨w.heap.size,6+j,none⟩ by simp [Addr.add];try omega];rw [aF k.o0,bZ];simpa [lv,ev,Ci] using hv)
   (fun j hj=>by rw [aF k.o0,bZ,bJ (by simp [lv,ev] at hj ⊢;try omega)];rfl) (fun j _=>eY k.o0 _) (Rl _)
  have h:=k.setCells 0 rfl 4 (lv [a]);rw [jW,show mY (lv [f,c,b,a]).toArray 4 (lv [a])=(lv [f,c,a,a]).toArray from rfl] at h;simp only [oq] at h;generalize q:World.setCells _ w.heap.size 4 (lv [a])=u at*;have r:=iW h.o0 6 2 (by simp [dX]);have d:=h.setCells 0 rfl 6 (ev ze);rw [jW,show mY (lv [f,c,a,a]).toArray 6 (ev ze)=(lv (jJ [f,c,b,a] 2)).toArray from rfl] at d;simp only [oq] at d;have n1:=fH d.o0 (n:=8) (by simp [dX,jJ]);have x:=fM d.o0 (n:=8) (by simp [dX,jJ]);have s:=iW d.o1 0 8 (by simp [dX,zl]);have g:=d.setCells 1 rfl 0 (lv (jJ [f,c,b,a] 2));rw [qL _ _ (by simp [dX,zl,jJ])] at g;simp only [oq,xg] at g;have m:=fH g.o1 (n:=8) (by simp [dX,jJ]);have o:=fM g.o1 (n:=8) (by simp [dX,jJ]);have t:(jJ [f,c,b,a] 2).length=4:=rfl;have p:=ah g.below;clear g d h k;generalize jJ [f,c,b,a] 2=F at*;simp only [aaN,goInt] at l
  go_enter Tryz.func112,Tryz.ntmps112
  go_wp2
  go_region
  go_wp2;refine iy (qZ Tryz.results112 ⟨w.heap.size+1,0,none⟩ rfl ?_) rfl ⟨rfl,uh p⟩;rw [xM,xU m,o]
 ·have l:=VO (P:=Tryz.prog) _ 160 160 3 142 2 w.heap.size 6 1 1 ⟨w.heap.size,0,none⟩ 0 0 (lv []) Tryz.underlying160 kr (by simp [lv])
   (fun j v hv=>by simp [lv] at hv) (fun j hj=>by simp [lv] at hj) (fun j _=>eY k.o0 _) (Rl _)
  have h:=k.setCells 0 rfl 6 (lv []);rw [jW,show mY (lv [f,c,b,a]).toArray 6 (lv [])=(lv [f,c,b,a]).toArray from rfl] at h;simp only [oq] at h;generalize q:World.setCells _ w.heap.size 6 (lv [])=u at*;have r:=iW h.o0 6 2 (by simp [dX]);have d:=h.setCells 0 rfl 6 (ev ze);rw [jW,show mY (lv [f,c,b,a]).toArray 6 (ev ze)=(lv (jJ [f,c,b,a] 3)).toArray from rfl] at d;simp only [oq] at d;have n1:=fH d.o0 (n:=8) (by simp [dX,jJ]);have x:=fM d.o0 (n:=8) (by simp [dX,jJ]);have s:=iW d.o1 0 8 (by simp [dX,zl]);have g:=d.setCells 1 rfl 0 (lv (jJ [f,c,b,a] 3));rw [qL _ _ (by simp [dX,zl,jJ])] at g;simp only [oq,xg] at g;have m:=fH g.o1 (n:=8) (by simp [dX,jJ]);have o:=fM g.o1 (n:=8) (by simp [dX,jJ]);have t:(jJ [f,c,b,a] 3).length=4:=rfl;have p:=ah g.below;clear g d h k;generalize jJ [f,c,b,a] 3=F at*;simp only [aaN,goInt] at l
  go_enter Tryz.func112,Tryz.ntmps112
  go_wp2
  go_region
  go_wp2;refine iy (qZ Tryz.results112 ⟨w.heap.size+1,0,none⟩ rfl ?_) rfl ⟨rfl,uh p⟩;rw [xM,xU m,o]
end
section
attribute [local go_sem ↓] dw fP fV kU mZ nC jR kP kJ kF lG lI kR kQ kV ng nD l9 nJ jE pW qM qO qA xM ED EF EC DW
attribute [local go_sem] dM fO fU gW gB aV kY mP mW mQ mO gX jT kN kH lq kX iM kG lu lD lC kM jc jd nH nK kW kZ mX nT mV mM nN qc qI qK qJ qH xU Et Ew Eu Es Dy
attribute [local go_sem] pU pR Oper.semAt_some
attribute [local go_sem ↓] IY Jh
attribute [local go_sem] Jc Jf Je
attribute [local go_sem] acw acy
def JO (c:aj) (o:Nat) (s:List UInt8):aj:=c.take o++s++c.drop (o+s.length)
def RP (c:aj) (o:Nat) (s:List UInt8) (h:o+s.length≤c.length):(JO c o s).length=c.length:=by
 simp [JO];omega
def Zf (c:aj) (o:Nat) (s:List UInt8) (h:o+s.length≤c.length):mY (cv c).toArray o (cv s)=(cv (JO c o s)).toArray:=by
 have e:c=c.take o++(c.drop o).take s.length++c.drop (o+s.length):=by
  rw [tV,← List.drop_drop,LP,LP]
 have a:=ZF (cv (c.take o)) (cv ((c.drop o).take s.length)) (cv s) (cv (c.drop (o+s.length))) (by simp [bC];omega);rw [← Ju,← Ju,← Ju,← Ju,← e,bC,yg,SV om] at a;exact a
def apf (c:aj) (o:Nat) (s:List UInt8) (h:o+s.length≤c.length) (i:Nat):aI (JO c o s) i=if o≤i∧i<o+s.length then aI s (i - o) else aI c i:=by
 have a:(c.take o).length=o:=by rw [yg];omega
 unfold aI JO;simp only [aN]
 by_cases b:i<o
 ·rw [tV,nV om,ak om,JY,au b]
 ·by_cases d:i<o+s.length
  ·rw [tV,nP om,a,nV om,au ⟨om,d⟩]
  ·rw [nP (by rw [oL];omega),ak om,Qc,oL,a]
   congr 3;omega
def apg (c:aj) (k n m:Nat) (hk:k+1<c.length) (hn:n<65536):aI (vK c k n) m=if m=k then n / 256 else if m=k+1 then n%256 else aI c m:=by
 unfold vK;rw [Bz _ _ _ _ (by rw [rV];exact hk),Bz _ _ _ _ om,toNat_ofNat _ om,toNat_ofNat _ om]
 by_cases a:m=k
 ·rw [ak om,au a.symm,au a]
 ·rw [ak a]
  by_cases b:m=k+1
  ·rw [au b.symm,au b]
  ·rw [ak (fun e=>b e.symm),ak (fun e=>a e.symm),ak b]
def mJ (L:List aW):Nat→aj
 | 0=>zc
 | k+1=>vK (JO (mJ L k) (16*k+2) (L.getD k ze).name) (16*k) (L.getD k ze).first
def ER (L:List aW):Prop:= ∀ k,(L.getD k ze).name.length≤12∧(L.getD k ze).first<65536
def IX {L:List aW} (h:ER L): ∀ k,k≤4→(mJ L k).length=64
 | 0,_=>aV
 | k+1,hk=>by
  have a:=IX h k om;have b:=(h k).1;rw [mJ,RQ,RP _ _ _ om,a]
def aph (i:Nat):aI zc i=0:=by
 unfold aI zc;rw [aN,rG]
 split <;> rfl
def abM (e:aW) (he:e.first<65536) (j:Nat):aI (zV e) j=if j=0 then e.first / 256 else if j=1 then e.first%256 else aI e.name (j - 2):=by
 match j with
 | 0=>simp only [xk];unfold aI zV;simp only [EG];exact toNat_ofNat _ om
 | 1=>simp only [xk];rw [ak dc];unfold aI zV;simp only [J5,EG];exact toNat_ofNat _ om
 | k+2=>rw [ak om,ak om];unfold aI;rw [ahZ];rfl
def ahc {L:List aW} (h:ER L): ∀ k,k≤4→ ∀ i j,j<16→aI (mJ L k) (16*i+j)=if i<k then aI (zV (L.getD i ze)) j else 0
 | 0,_,i,j,_=>by rw [ak om];exact aph _
 | k+1,hk,i,j,hj=>by
  have f:=IX h k om;obtain ⟨g,c⟩:=h k;have ih:=ahc h k om i j hj;have l: ∀ m,12≤m→aI (L.getD k ze).name m=0:=fun m hm=>by
   unfold aI;rw [aN,eG om];rfl
  rw [mJ,apg _ _ _ _ (by rw [RP _ _ _ om,f];omega) c,apf _ _ _ om,ih]
  by_cases e:i=k
  ·subst e;rw [au (show i<i+1 by omega),abM _ c]
   by_cases a:j=0
   ·rw [au om,au a]
   ·by_cases d:j=1
    ·rw [ak om,au om,ak a,au d]
    ·rw [ak om,ak om,ak a,ak d]
     by_cases n:j<2+(L.getD i ze).name.length
     ·rw [au ⟨om,om⟩];congr 1;omega
     ·rw [ak om,ak om];unfold aI;rw [aN,eG om];rfl
  ·rw [ak om,ak om,ak om]
   by_cases b:i<k
   ·rw [au b,au om]
   ·rw [ak b,ak om]
def abO {a b:aj} (d:a.length=b.length) (h: ∀ i,i<a.length→aI a i=aI b i):a=b:=by
 apply Wx d;intro i c e
 have:=h i c
 unfold aI at this;rw [aN,aN,bJ c,bJ e] at this;exact Qk.1 this
def iZ.aeH {E:List aW} (h:iZ E):ER (jy E):=fun k=>by
 refine ⟨?_,h.lt k⟩;rcases h.at k with e | ⟨_,e⟩
 ·rw [e];decide
 ·exact e.le
def iZ.Uh {E:List aW} (h:iZ E):mJ (jy E) 4=og E:=by
 refine abO (by rw [IX h.aeH 4 om,h.length]) fun i hi=> ?_;rw [IX h.aeH 4 om] at hi;have a:=ahc h.aeH 4 om (i / 16) (i%16) om;rw [show 16*(i / 16)+i%16=i by omega,au om] at a;rw [a];have b:=h.get (i / 16) om (i%16) om;rw [show 16*(i / 16)+i%16=i by omega] at b;unfold aI;rw [b]
def Zu (w:World) (b o m:Nat) (t:TypeId) (c:aj) (hc:c.length=64) (a:w.heap[b]? = some (.cells (cv c).toArray t (0,0))) (s:List UInt8) (hs:s.length≤12) (e:o+12≤64):
  (Builtin.copy_ #[73,9] 3 #[.slice (some ⟨b,o,none⟩) 12 m,.string (bM s)]).run Tryz.prog w= .ok (.int .i64 (s.length:Nat)) (w.setCells b o (cv s)):=by
 have d:(bM s).size=s.length:=by simp [bM,ByteArray.size]
 have h:=run_copy_string (P:=Tryz.prog) w 73 9 3 5 b o 12 m (bM s) Tryz.underlying73
  (run_sizeOf Tryz.aeJ) (by rw [d];exact hs) (fun j hj=>by rw [aF a,bZ,vG _ _ (by rw [hc];omega)];rfl) (fun j _=>eY a _)
 rw [h,d];rfl
def ajU (w:World) (L:List aW) (hL:L.length=4) (hs:ER L):
  Calls Tryz.prog 148 #[.agg (lv L).toArray] w fun e B=>e= .returned (.agg (cv (mJ L 4)).toArray)∧aC w B:=by
 have z:=ah (dW.three w (.cells (lv L).toArray 144) (.cells (cv zc).toArray 38) (.cells (cv zc).toArray 38));have D:=fH z.o0 (n:=8) (by rw [dX,hL]);have E:=fM z.o0 (n:=8) (by rw [dX,hL])
 go_enter Tryz.func148,Tryz.ntmps148
 go_wp2;clear D E
 go_loopw [4,5,6,8] (fun _ _ _ i B=> ∃ k:Nat,k≤4∧i= .int .i64 k∧dW w B [.cells (lv L).toArray 144,.cells (cv zc).toArray 38,.cells (cv (mJ L k)).toArray 38]) (fun _ _ _ i _=>4 - (intOf i).toNat)
 case atStart=>exact ⟨0,om,rfl,uh z⟩
 case round=>
  obtain ⟨k,hk,rfl,d⟩:=hrel;clear z
  by_cases J:k<4
  ·rcases (show k=0∨k=1∨k=2∨k=3 by omega) with rfl | rfl | rfl | rfl
   ·have h:=IX hs 0 om;obtain ⟨o,u⟩:=hs 0;have p:(Instr.index 144 (.agg (lv L).toArray) (.int .i64 0)).run Tryz.prog wr= .ok (.agg (ev (L.getD 0 ze)).toArray) wr:=Sj wr L hL 0 om;have v:Hid (mJ L 1=vK (JO (mJ L 0) 2 (L.getD 0 ze).name) 0 (L.getD 0 ze).first):=rfl;generalize L.getD 0 ze=a at*;have g:=Zf (mJ L 0) 2 a.name om;have q:=RP (mJ L 0) 2 a.name om;have f:=d.alloc (.cells (ev a).toArray 142);have b1:(wr.alloc (.cells (ev a).toArray 142)).drew.heap[wr.heap.size]? = some (.cells (ev a).toArray 142 (0,0)):=aX _ _;have c1:(wr.alloc (.cells (ev a).toArray 142)).drew.cell? ⟨wr.heap.size,0,none⟩=some (.string (bM a.name)):=(aF b1 0).trans rfl;have r:=Zu _ _ 2 62 _ _ h f.drew.o2 a.name o om;have b:=f.drew.setCells 2 rfl 2 (cv a.name);rw [g] at b;simp only [xg,oq] at b;have s:wr.heap.size≠w.heap.size+1+1:=by have:=d.lt (i:=2) rfl;omega
    have b2:((wr.alloc (.cells (ev a).toArray 142)).drew.setCells (w.heap.size+1+1) 2 (cv a.name)).heap[wr.heap.size]? = some (.cells (ev a).toArray 142 (0,0)):=(Kept.BL _ (w.heap.size+1+1) 2 (cv a.name)).aG s b1;have c2:((wr.alloc (.cells (ev a).toArray 142)).drew.setCells (w.heap.size+1+1) 2 (cv a.name)).cell? ⟨wr.heap.size,1,none⟩=some (.int .i64 (a.first:Nat)):=(aF b2 1).trans rfl;have b:=ah b;clear f d b1 b2;generalize t:(wr.alloc (.cells (ev a).toArray 142)).drew.setCells (w.heap.size+1+1) 2 (cv a.name)=x at*;have m:=ah (Py x _ _ _ b.o2 (q.trans h) 0 a.first om u);have ew:IntKind.u16.wrap (a.first:Int)=a.first:=wraps_u16 _ om om;have A:Hid (bM a.name=bM a.name):=rfl;go_wp2
    go_region
    go_wp2_with fail
    refine m.mono ?_;rintro e C ⟨rfl,j,l⟩;have c:=b.put 2 _ l j;simp only [xg,oq] at c;rw [← uh v] at c;have c:=ah c;clear b m j l r c1 c2 p t;go_wp2;go_roundw
    case rel=>exact ⟨1,om,gn,uh c⟩
    case measure=>simp [intOf]
   ·have h:=IX hs 1 om;obtain ⟨o,u⟩:=hs 1;have p:(Instr.index 144 (.agg (lv L).toArray) (.int .i64 1)).run Tryz.prog wr= .ok (.agg (ev (L.getD 1 ze)).toArray) wr:=Sj wr L hL 1 om;have v:Hid (mJ L 2=vK (JO (mJ L 1) 18 (L.getD 1 ze).name) 16 (L.getD 1 ze).first):=rfl;generalize L.getD 1 ze=a at*;have g:=Zf (mJ L 1) 18 a.name om;have q:=RP (mJ L 1) 18 a.name om;have f:=d.alloc (.cells (ev a).toArray 142);have b1:(wr.alloc (.cells (ev a).toArray 142)).drew.heap[wr.heap.size]? = some (.cells (ev a).toArray 142 (0,0)):=aX _ _;have c1:(wr.alloc (.cells (ev a).toArray 142)).drew.cell? ⟨wr.heap.size,0,none⟩=some (.string (bM a.name)):=(aF b1 0).trans rfl;have r:=Zu _ _ 18 46 _ _ h f.drew.o2 a.name o om;have b:=f.drew.setCells 2 rfl 18 (cv a.name);rw [g] at b;simp only [xg,oq] at b
    have s:wr.heap.size≠w.heap.size+1+1:=by have:=d.lt (i:=2) rfl;omega
    have b2:((wr.alloc (.cells (ev a).toArray 142)).drew.setCells (w.heap.size+1+1) 18 (cv a.name)).heap[wr.heap.size]? = some (.cells (ev a).toArray 142 (0,0)):=(Kept.BL _ (w.heap.size+1+1) 18 (cv a.name)).aG s b1;have c2:((wr.alloc (.cells (ev a).toArray 142)).drew.setCells (w.heap.size+1+1) 18 (cv a.name)).cell? ⟨wr.heap.size,1,none⟩=some (.int .i64 (a.first:Nat)):=(aF b2 1).trans rfl;have b:=ah b;clear f d b1 b2;generalize t:(wr.alloc (.cells (ev a).toArray 142)).drew.setCells (w.heap.size+1+1) 18 (cv a.name)=x at*;have m:=ah (Py x _ _ _ b.o2 (q.trans h) 16 a.first om u);have ew:IntKind.u16.wrap (a.first:Int)=a.first:=wraps_u16 _ om om;have A:Hid (bM a.name=bM a.name):=rfl;go_wp2
    go_region
    go_wp2_with fail
    refine m.mono ?_;rintro e C ⟨rfl,j,l⟩;have c:=b.put 2 _ l j;simp only [xg,oq] at c;rw [← uh v] at c;have c:=ah c;clear b m j l r c1 c2 p t;go_wp2;go_roundw
    case rel=>exact ⟨2,om,gn,uh c⟩
    case measure=>simp [intOf]
   ·have h:=IX hs 2 om;obtain ⟨o,u⟩:=hs 2;have p:(Instr.index 144 (.agg (lv L).toArray) (.int .i64 2)).run Tryz.prog wr= .ok (.agg (ev (L.getD 2 ze)).toArray) wr:=Sj wr L hL 2 om;have v:Hid (mJ L 3=vK (JO (mJ L 2) 34 (L.getD 2 ze).name) 32 (L.getD 2 ze).first):=rfl;generalize L.getD 2 ze=a at*;have g:=Zf (mJ L 2) 34 a.name om;have q:=RP (mJ L 2) 34 a.name om;have f:=d.alloc (.cells (ev a).toArray 142);have b1:(wr.alloc (.cells (ev a).toArray 142)).drew.heap[wr.heap.size]? = some (.cells (ev a).toArray 142 (0,0)):=aX _ _;have c1:(wr.alloc (.cells (ev a).toArray 142)).drew.cell? ⟨wr.heap.size,0,none⟩=some (.string (bM a.name)):=(aF b1 0).trans rfl;have r:=Zu _ _ 34 30 _ _ h f.drew.o2 a.name o om;have b:=f.drew.setCells 2 rfl 34 (cv a.name);rw [g] at b;simp only [xg,oq] at b
    have s:wr.heap.size≠w.heap.size+1+1:=by have:=d.lt (i:=2) rfl;omega
    have b2:((wr.alloc (.cells (ev a).toArray 142)).drew.setCells (w.heap.size+1+1) 34 (cv a.name)).heap[wr.heap.size]? = some (.cells (ev a).toArray 142 (0,0)):=(Kept.BL _ (w.heap.size+1+1) 34 (cv a.name)).aG s b1;have c2:((wr.alloc (.cells (ev a).toArray 142)).drew.setCells (w.heap.size+1+1) 34 (cv a.name)).cell? ⟨wr.heap.size,1,none⟩=some (.int .i64 (a.first:Nat)):=(aF b2 1).trans rfl;have b:=ah b;clear f d b1 b2;generalize t:(wr.alloc (.cells (ev a).toArray 142)).drew.setCells (w.heap.size+1+1) 34 (cv a.name)=x at*;have m:=ah (Py x _ _ _ b.o2 (q.trans h) 32 a.first om u);have ew:IntKind.u16.wrap (a.first:Int)=a.first:=wraps_u16 _ om om;have A:Hid (bM a.name=bM a.name):=rfl;go_wp2
    go_region
    go_wp2_with fail
    refine m.mono ?_;rintro e C ⟨rfl,j,l⟩;have c:=b.put 2 _ l j;simp only [xg,oq] at c;rw [← uh v] at c;have c:=ah c;clear b m j l r c1 c2 p t;go_wp2;go_roundw
    case rel=>exact ⟨3,om,gn,uh c⟩
    case measure=>simp [intOf]
   ·have h:=IX hs 3 om;obtain ⟨o,u⟩:=hs 3;have p:(Instr.index 144 (.agg (lv L).toArray) (.int .i64 3)).run Tryz.prog wr= .ok (.agg (ev (L.getD 3 ze)).toArray) wr:=Sj wr L hL 3 om;have v:Hid (mJ L 4=vK (JO (mJ L 3) 50 (L.getD 3 ze).name) 48 (L.getD 3 ze).first):=rfl;generalize L.getD 3 ze=a at*;have g:=Zf (mJ L 3) 50 a.name om;have q:=RP (mJ L 3) 50 a.name om;have f:=d.alloc (.cells (ev a).toArray 142);have b1:(wr.alloc (.cells (ev a).toArray 142)).drew.heap[wr.heap.size]? = some (.cells (ev a).toArray 142 (0,0)):=aX _ _;have c1:(wr.alloc (.cells (ev a).toArray 142)).drew.cell? ⟨wr.heap.size,0,none⟩=some (.string (bM a.name)):=(aF b1 0).trans rfl;have r:=Zu _ _ 50 14 _ _ h f.drew.o2 a.name o om;have b:=f.drew.setCells 2 rfl 50 (cv a.name);rw [g] at b;simp only [xg,oq] at b
    have s:wr.heap.size≠w.heap.size+1+1:=by have:=d.lt (i:=2) rfl;omega
    have b2:((wr.alloc (.cells (ev a).toArray 142)).drew.setCells (w.heap.size+1+1) 50 (cv a.name)).heap[wr.heap.size]? = some (.cells (ev a).toArray 142 (0,0)):=(Kept.BL _ (w.heap.size+1+1) 50 (cv a.name)).aG s b1;have c2:((wr.alloc (.cells (ev a).toArray 142)).drew.setCells (w.heap.size+1+1) 50 (cv a.name)).cell? ⟨wr.heap.size,1,none⟩=some (.int .i64 (a.first:Nat)):=(aF b2 1).trans rfl;have b:=ah b;clear f d b1 b2;generalize t:(wr.alloc (.cells (ev a).toArray 142)).drew.setCells (w.heap.size+1+1) 50 (cv a.name)=x at*;have m:=ah (Py x _ _ _ b.o2 (q.trans h) 48 a.first om u);have ew:IntKind.u16.wrap (a.first:Int)=a.first:=wraps_u16 _ om om;have A:Hid (bM a.name=bM a.name):=rfl;go_wp2
    go_region
    go_wp2_with fail
    refine m.mono ?_;rintro e C ⟨rfl,j,l⟩;have c:=b.put 2 _ l j;simp only [xg,oq] at c;rw [← uh v] at c;have c:=ah c;clear b m j l r c1 c2 p t;go_wp2;go_roundw
    case rel=>exact ⟨4,om,gn,uh c⟩
    case measure=>simp [intOf]
  ·have F:k=4:=om;subst F;have b1:=d.o1;have b2:=d.o2;have y:=IX hs 4 om;have D:=iD b2 y;have E:=iC b2 y;have K:=iW b1 0 64 (by simp [bC,aV]);have g:=d.setCells 1 rfl 0 (cv (mJ L 4));rw [qL _ _ (by simp [bC,aV,y])] at g;have o1:=g.o1;have G:=iD o1 y;have H:=iC o1 y;have I:=ah g.below;clear d b1 b2 g o1;go_wp2;refine iy (qZ Tryz.results148 ⟨w.heap.size+1,0,none⟩ rfl ?_) rfl ⟨rfl,uh I⟩;rw [dw,dM G,H]
end
section
attribute [local go_sem ↓] dw fP fV kU mZ nC jR kP kJ kF lG lI kR kQ kV ng nD l9 nJ jE pW qM qO qA xM ED EF EC DW
attribute [local go_sem] dM fO fU gW gB aV kY mP mW mQ mO gX jT kN kH lq kX iM kG lu lD lC kM jc jd nH nK kW kZ mX nT mV mM nN qc qI qK qJ qH xU Et Ew Eu Es Dy
attribute [local go_sem] pU pR Oper.semAt_some
attribute [local go_sem ↓] IY Jh
attribute [local go_sem] Jc Jf Je
def alv (w:World) (v:Nat) (Cv Lv:Value) (V:aB) (h:aP w v Cv Lv V) (L:List aW) (b:L.length=4) (hs:ER L) (y:V.C.length≤1000) (hL:V.L.length≤900000000):
  Calls Tryz.prog 88 #[.pointer (some ⟨v,0,none⟩),.agg (lv L).toArray] w fun e l=>e= .returned (.tuple #[])∧ ∃ m o,dF w l v Cv Lv m o (bQ V 5 (mJ L 4)):=by
 have a:=(Env.start h).lay (.cells (lv L).toArray 144);have z:=fH a.drew.o0 (n:=8) (by rw [dX,b]);have A:=fM a.drew.o0 (n:=8) (by rw [dX,b]);have j:=IX hs 4 om;have p:=ah (ajU (w.alloc (.cells (lv L).toArray 144)).drew L b hs);have q:Hid (∀ W d f,aP W v d f V→_):=fun W d f r=>GX W v d f V r 5 om (mJ L 4) j om om;have s:=ah a;clear a h;generalize mJ L 4=c at*
 go_enter Tryz.func88,Tryz.ntmps88
 go_wp2
 go_region_law (first
  | (
   go_simp;go_at_call 148;refine p.mono ?_;rintro e B ⟨rfl,k⟩;have g:=ah (s.drew.later k))
  | (
   go_simp;go_at_call 70;refine (uh q _ _ _ g.at').mono ?_;rintro e D ⟨rfl,t,u,i⟩;have x:=ah (g.gG i).step;clear i))
 all_goals
  go_end0
  exact ⟨rfl,t,u,uh x⟩
end
end Go.Proofs.YtknjjjenklfeoaaGreatDoor
