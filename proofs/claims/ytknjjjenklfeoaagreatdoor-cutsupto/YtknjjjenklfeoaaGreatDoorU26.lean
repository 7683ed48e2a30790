import Derived.Test.YtknjjjenklfeoaaGreatDoorU25
set_option maxHeartbeats 8000000
set_option maxRecDepth 100000
set_option linter.all false
namespace Go.Proofs.YtknjjjenklfeoaaGreatDoor
section
open Go.RowKit Go.Shelf
attribute [local go_sem ↓] dw fP fV kU mZ nC jR kP kJ kF lG lI kR kQ kV ng nD l9 nJ jE pW qM qO qA
attribute [local go_sem] dM fO fU gW gB aV kY mP mW mQ mO gX jT kN kH lq kX iM kG lu lD lC kM jc jd nH nK kW kZ mX nT mV mM nN qc qI qK qJ qH
attribute [local go_sem] pU pR Oper.semAt_some
def abz (parts:Array (Nat × Value)):Sem Value:=Instr.build 123 parts
def Xu (parts:Array (Nat × Value)):Instr.build 123 parts=abz parts:=rfl
def Zr (w:World):(abz #[]).run Tryz.prog w= .ok (.agg (cv zk).toArray) w:=by
 unfold abz Instr.build;simp only [kJ];simp [kH];rfl
attribute [local go_sem ↓] Xu
attribute [local go_sem] Zr
def alU {fn:Func} {p q:Tmp} {ty c:TypeId} (h:fn.results= #[.cell p ty,.cell q c]) {tmps:Array Value} {P:Program} {w:World} (a b:Addr) {v u:Value} (d:tmps.getD p undef= .pointer (some a)) (e:tmps.getD q undef= .pointer (some b)) (f:(loadVar ty a).run P w= .ok v w) (hm:(loadVar c b).run P w= .ok u w):
  (results fn tmps).run P w= .ok (.tuple #[v,u]) w:=by
 simp only [results,h];simp [-Array.getD_eq_getD_getElem?,asAddr,d,e,f,hm]
def GZ (C:List aj) (f:Nat):List UInt8 × Bool:=if oH (aJ C) (jA C f) then (plus (aJ C) (jA C f),true) else (zk,false)
def dW.shut {w W:World} {os:List Obj} {D:Nat} (h:dW w W os) (d:w.heap.size+os.length≤D):dW w (W.putObj D (.deferred none)) os:=by
 have b:=grownBy_putObj' W D (.deferred none);have hk:Kept (fun k=>k=D) W (W.putObj D (.deferred none)):=⟨b.os,b.tape,b.output,b.size,fun k hk hs=>b.block k hk (fun e=>hs (by injection e))⟩;refine ⟨fun i o c=>hk.aG ?_ (h.qo i o c),h.below.grown b h.below.size (fun k e=>by cases e;omega)⟩
 have:=(Ia.1 c).1
 omega
def akc {w:World} {b:Nat} {x:Bool} {t:TypeId} {fr:Nat × Nat} (h:w.heap[b]? = some (.cells #[.bool x] t fr)):(loadVar 4 ⟨b,0,none⟩).run Tryz.prog w= .ok (.bool x) w:=by
 have c:w.cell? ⟨b,0,none⟩=some (.bool x):=(aF h 0).trans rfl;simp [go_sem,c]
def amg (w:World) (v:Nat) (Cv Lv:Value) (V:aB) (h:aP w v Cv Lv V) (h5:5<V.C.length) (hC:V.C.length≤256) (first:Nat) (hF:gU V first):
  CallsIn Fence.wide 100 Tryz.prog 144 #[.pointer (some ⟨v,0,none⟩),.int .i64 (first:Nat)] w fun e w'=>e= .returned (.tuple #[.agg (cv (GZ V.C first).1).toArray,.bool (GZ V.C first).2])∧aC w w':=by
 have J:=dW.two w (.cells (cv zk).toArray 123) (.cells #[.bool false] 4);have L:=ah (MS _ v Cv Lv V (h.below J.below) om);have ad:=CY V.C h.kT om;have HR:Hid (GZ V.C first=if oH (aJ V.C) (jA V.C first) then (plus (aJ V.C) (jA V.C first),true) else (zk,false)):=rfl;have H:=ah h;have J:=ah J;have ax:v<w.heap.size:=h.lt;have P: ∀ j,eX v Cv Lv j→j<w.heap.size:=h.qV;clear h;generalize aJ V.C=k at*;refine callsIn_of_wp_marks Tryz.func144 rfl trivial ?_ rfl;simp only [Tryz.ntmps144,jm,iO,vV,Nat.reduceAdd,Nat.reduceSub,BX,BZ,Cb,Cc,qy,rU]
 gi_wp2_with fail
 refine ⟨trivial,(fE.2 L).mono ?_⟩;rintro e c ⟨rfl,ae⟩;have U:=J.later ae;have az:w.heap.size+1<c.heap.size:=aK U.o1;have m:=ah (U.alloc (.cells (cv k).toArray 123));have k2:(c.alloc (.cells (cv k).toArray 123)).heap[c.heap.size]? = some (.cells (cv k).toArray 123 (0,0)):=aX _ _;have X:=ah (V9 (c.alloc (.cells (cv k).toArray 123)) v first);simp only [jV] at X;clear L ae U J
 gi_wp2_with fail
 refine ⟨trivial,(fE.2 X).mono ?_⟩;rintro e s ⟨rfl,F⟩;have f:=(m.alloc (.cells #[.pointer (some ⟨v,0,none⟩)] 82)).alloc (.cells #[.int .i64 (first:Nat)] 3);rw [← F] at f;have aD:s.heap.size=c.heap.size+3:=by rw [F];simp
 have k3:s.heap[c.heap.size]? = some (.cells (cv k).toArray 123 (0,0)):=by
  rw [F,WH _ _ (by simp;omega),WH _ _ sm];exact k2
 have v3:s.heap[c.heap.size+1]? = some (.cells #[.pointer (some ⟨v,0,none⟩)] 82 (0,0)):=by
  rw [F,WH _ _ sm]
  have:=aX (c.alloc (.cells (cv k).toArray 123)) (.cells #[.pointer (some ⟨v,0,none⟩)] 82)
  rwa [jV] at this
 have f3:s.heap[c.heap.size+1+1]? = some (.cells #[.int .i64 (first:Nat)] 3 (0,0)):=by
  rw [F]
  have:=aX ((c.alloc (.cells (cv k).toArray 123)).alloc (.cells #[.pointer (some ⟨v,0,none⟩)] 82)) (.cells #[.int .i64 (first:Nat)] 3)
  rwa [jV,jV] at this
 have S:=aac 99 om (fun j=>j=c.heap.size∨j=w.heap.size∨j=w.heap.size+1) v (c.heap.size+1) (c.heap.size+1+1) first (s.heap.size+2) V Cv Lv s (H.below f.below) v3 f3 om om (fun p=>by have:=P _ p;omega) (fun p=>by have:=P _ p;omega) (by rintro j (rfl | rfl | rfl) <;> omega) hF;have f:=ah f;clear m k2 v3 f3 X F
 gi_wp2_with fail
 refine aee om (gf:=174) (lb:= #[.pointer (some ⟨c.heap.size+1,0,none⟩),.pointer (some ⟨c.heap.size+1+1,0,none⟩)]) rfl (enters_of Tryz.func174 kr rfl) S
  (fun A B C h k=>aT.trans (R:=dK) (fun _ _ _ a b=>tX a b) h k) (fun W o o' hl hc=>aT.turn (R:=dK) (fun _=>rfl) W _ o o' hl hc om) (bG _ _) (fun _=>rfl)
  (fun pre W=>dW w W [.cells (cv zk).toArray 123,.cells #[.bool false] 4]∧W.heap[c.heap.size]? = some (.cells (cv (plus k (wV pre))).toArray 123 (0,0))∧oH k (wV pre)=true)
  (fun pre W=>dW w W [.cells (cv zk).toArray 123,.cells #[.bool false] 4]∧oH k (wV pre)=false)
  ?atQ ?atS
  ⟨uh f,k3,rfl⟩
  (fun x Y W'=> ∃ y,c.heap.size<y∧W'.heap[y]? = some (.cells #[.int .i64 ((x.table:Nat):Int),.int .i64 ((x.index:Nat):Int),.int .u16 ((x.number:Nat):Int)] 219 (0,0))∧Y={ tmps:= #[.pointer (some ⟨v,0,none⟩),.int .i64 (first:Nat),undef,undef,.pointer (some ⟨w.heap.size,0,none⟩),.pointer (some ⟨w.heap.size+1,0,none⟩),.pointer (some ⟨c.heap.size,0,none⟩),.pointer (some ⟨y,0,none⟩),undef,.pointer (some ⟨v,0,none⟩),.agg (cv k).toArray,.pointer (some ⟨v,0,none⟩),.int .i64 (first:Nat),.func (.func 174) #[] #[.pointer (some ⟨c.heap.size+1,0,none⟩),.pointer (some ⟨c.heap.size+1+1,0,none⟩)],oK x,undef,undef,undef,undef,undef,undef,undef,undef,undef,undef,undef,undef,undef,undef],defers:=[] })
  ?atP ?assign ?body ?done ?stop
 case atQ=>
  intro pre A B row hs E hr;refine ⟨⟨fun i o q=>sQ E hr (hs.1.qo i o q) ?_,hs.1.below.grown E hs.1.below.size (fun k e=>by have:=(hr k e).1;omega)⟩,sQ E hr hs.2.1 om,hs.2.2⟩
  have:=(Ia.1 q).1
  simp only [iO,vV] at this;omega
 case atS=>
  intro pre A B row hs E hr;refine ⟨⟨fun i o q=>sQ E hr (hs.1.qo i o q) ?_,hs.1.below.grown E hs.1.below.size (fun k e=>by have:=(hr k e).1;omega)⟩,hs.2⟩
  have:=(Ia.1 q).1
  simp only [iO,vV] at this;omega
 case atP=>
  intro x Y _ A' B' row hs E hr;obtain ⟨y,h1,Z,h3⟩:=hs;refine ⟨y,h1,?_,h3⟩;rw [E.block y (aK Z) (fun e=>by
   obtain ⟨_,o,q,hc⟩:=hr y e.symm;rw [Z] at q;injection q with q;subst q;cases hc)]
  exact Z
 case assign=>
  rintro l pre x W K ⟨hL,hk,p⟩ I;unfold oK
  gi_wp2
  have hb:aC W (W.alloc (.cells #[.int .i64 ((x.table:Nat):Int),.int .i64 ((x.index:Nat):Int),.int .u16 ((x.number:Nat):Int)] 219)):=fC;exact I _ _ ((KeepsOthers.alloc _ _).from _) (aT.below (R:=dK) (fun _=>rfl) hb) ⟨hL.alloc _,(hb.block _ (aK hk)).trans hk,p⟩ ⟨_,aK hk,aX _ _,rfl⟩
 case body=>
  rintro l pre x Y W hl _ ⟨hL,hk,p⟩ ⟨y,aw,ai,rfl⟩ hlen;have O:=H.below hL.below;have aE:x.number%32768<256:=by have:=x.hc.2;omega
  have G:(plus k (wV pre)).length=256:=by rw [RN];exact ad
  have T:plus k (wV (pre++[x]))=Em (plus k (wV pre)) (x.number%32768):=by rw [akT,auq]
  have N:oH k (wV (pre++[x]))=decide (aI (plus k (wV pre)) (x.number%32768)<254):=by rw [akT,aqJ,p,um]
  have c2:W.cell? ⟨y,2,none⟩=some (.int .u16 ((x.number:Nat):Int)):=(aF ai 2).trans rfl;have L:Hid (∀ W,_):=fun W=>CW x.number x.hn W;generalize plus k (wV pre)=d at*;generalize x.number%32768=n at*;have aL:(n:Int)<256:=om;have c1:W.cell? ⟨c.heap.size,n,none⟩=some (.int .u8 (aI d n:Nat)):=by
   rw [aF hk,bZ,vG _ _ om]
  have f1:=eY hk;have aM:=uy d n;have nf: ∀ j,w.heap.size≤j→ ¬ eX v Cv Lv j:=fun j hj p=>by have:=P j p;omega
  by_cases aa:aI d n<254
  ·rw [dZ aa] at N;have aR:IntKind.u8.wrap (((aI d n:Nat):Int)+1)=(((aI d n+1)%256:Nat):Int):=by
    rw [afo];omega
   have M:aT (fun j=>j=c.heap.size∨j=w.heap.size∨j=w.heap.size+1) (fun k=>s.heap.size+2≤k) v dK W (W.setCell ⟨c.heap.size,n,none⟩ (.int .u8 (((aI d n+1)%256:Nat):Int))):=
    aT.own O (Kept.only _ _ _ _) (by rintro j rfl;exact ⟨aA rfl,nf _ om,_,hk,rfl⟩) rfl
   have ab:(cv d).toArray.setIfInBounds n (.int .u8 (((aI d n+1)%256:Nat):Int))=(cv (Em d n)).toArray:=by
    rw [Bh,Em,MV d n _ (WB _ om)]
   have af:=heap_setCell_same W c.heap.size n (.int .u8 (((aI d n+1)%256:Nat):Int)) _ _ _ hk;rw [ab,← T] at af;have f:dW w (W.setCell ⟨c.heap.size,n,none⟩ (.int .u8 (((aI d n+1)%256:Nat):Int))) [.cells (cv zk).toArray 123,.cells #[.bool false] 4]:=by
    have al:=Kept.only W c.heap.size n (.int .u8 (((aI d n+1)%256:Nat):Int));refine ⟨fun i o q=>al.aG ?_ (hL.qo i o q),hL.below.setCell (by show w.heap.size≤c.heap.size;omega) _⟩
    have:=(Ia.1 q).1
    simp only [iO,vV] at this;omega
   have f:=ah f;have M:=ah M;have dg: ¬ ((254:Int)≤((aI d n:Nat):Int)):=om;clear ab T hL O;generalize aI d n=bb at*;generalize (bb+1)%256=b2 at*
   gi_wp2_with fail
   refine ⟨trivial,(CallsIn.inRound l (fE.2 (uh L _))).mono ?_⟩;rintro e W2 ⟨rfl,rfl⟩
   gi_wp2
   exact ⟨(KeepsOthers.setCell _ _ _).from _,uh M,uh f,af,N⟩
  ·rw [gK aa] at N;have a0:(254:Int)≤((aI d n:Nat):Int):=om;have th:=iW hL.o0 0 256 (by simp [bC,iM]);have m:=hL.setCells 0 rfl 0 (cv zk);rw [jW,qL _ _ (by simp [bC,iM])] at m;simp only [oq] at m;have KA:aT (fun j=>j=c.heap.size∨j=w.heap.size∨j=w.heap.size+1) (fun k=>s.heap.size+2≤k) v dK W (W.setCells w.heap.size 0 (cv zk)):=
    aT.own O (Kept.BL _ _ _ _) (by rintro j rfl;exact ⟨ay (aA rfl),nf _ (aO _),_,hL.o0,rfl⟩) rfl
   have FA:KeepsFrom s.heap.size W (W.setCells w.heap.size 0 (cv zk)):=⟨(Kept.BL W w.heap.size 0 (cv zk)).size,fun j o hB hj _=>(Kept.BL W w.heap.size 0 (cv zk)).aG om hj⟩;generalize an:W.setCells w.heap.size 0 (cv zk)=t at*;have r1:t.cell? ⟨w.heap.size+1,0,none⟩=some (.bool false):=(aF m.o1 0).trans rfl;have f2:=eY m.o1;have f:=m.setCell 1 rfl 0 (.bool false);have KB:aT (fun j=>j=c.heap.size∨j=w.heap.size∨j=w.heap.size+1) (fun k=>s.heap.size+2≤k) v dK t (t.setCell ⟨w.heap.size+1,0,none⟩ (.bool false)):=
    aT.own (H.below m.below) (Kept.only _ _ _ _) (by rintro j rfl;exact ⟨ay (ay rfl),nf _ om,_,m.o1,rfl⟩) rfl
   have FB:KeepsFrom s.heap.size t (t.setCell ⟨w.heap.size+1,0,none⟩ (.bool false)):=(KeepsOthers.setCell _ _ _).from _
   have M:=ah (aT.trans (R:=dK) (fun _ _ _ a b=>tX a b) KA KB);have F3:=ah (FA.trans FB);have f:dW w (t.setCell ⟨w.heap.size+1,0,none⟩ (.bool false)) [.cells (cv zk).toArray 123,.cells #[.bool false] 4]:=f;have f:=ah f;clear KA KB FA FB m hL O T;generalize aI d n=bb at*
   gi_wp2_with fail
   refine ⟨trivial,(CallsIn.inRound l (fE.2 (uh L _))).mono ?_⟩;rintro e W2 ⟨rfl,rfl⟩
   gi_wp2
   exact ⟨uh F3,uh M,uh f,N⟩
 case done=>
  rintro D xs W hD hS ⟨hL,hk,p⟩ I;have ao:wV xs=jA V.C first:=by rw [hS,aae]
  rw [ao] at hk p;have hR:GZ V.C first=(plus k (jA V.C first),true):=by rw [uh HR,au p]
  have hR:=ah hR;have G:(plus k (jA V.C first)).length=256:=by rw [RN];exact ad
  generalize plus k (jA V.C first)=d at*;have l1:=fH hk (n:=256) (by rw [bC,G]);have l2:=fM hk (n:=256) (by rw [bC,G]);have th:=iW hL.o0 0 256 (by simp [bC,iM]);have m:=hL.setCells 0 rfl 0 (cv d);rw [jW,qL _ _ (by simp [bC,iM,G])] at m;simp only [oq] at m;have ag:(W.setCells w.heap.size 0 (cv d)).heap[D]? = some (.deferred (some [])):=(Kept.BL W w.heap.size 0 (cv d)).aG om I;generalize an:W.setCells w.heap.size 0 (cv d)=t at*;have r1:t.cell? ⟨w.heap.size+1,0,none⟩=some (.bool false):=(aF m.o1 0).trans rfl;have f2:=eY m.o1;have f:dW w (t.setCell ⟨w.heap.size+1,0,none⟩ (.bool true)) [.cells (cv d).toArray 123,.cells #[.bool true] 4]:=m.setCell 1 rfl 0 (.bool true);have aq:(t.setCell ⟨w.heap.size+1,0,none⟩ (.bool true)).heap[D]? = some (.deferred (some [])):=(Kept.only t (w.heap.size+1) 0 (.bool true)).aG om ag;have f:=ah f;clear m hL hk I ag S hS
  gi_wp2
  refine ⟨sm,.inl ⟨_,_,rfl,run_takeDeferred aq,?_⟩⟩;have z:=f.shut (D:=D) (by simp;omega);have n3:=fH z.o0 (n:=256) (by rw [bC,G]);have n4:=fM z.o0 (n:=256) (by rw [bC,G]);refine ⟨_,alU rfl ⟨w.heap.size,0,none⟩ ⟨w.heap.size+1,0,none⟩ rfl rfl (v:= .agg (cv d).toArray) (u:= .bool true) (by rw [jR,jT n3,n4]) (akc z.o1),?_,z.below⟩;rw [uh hR]
 case stop=>
  rintro D pre W hD ar ⟨hL,p⟩ I;have av:oH k (jA V.C first)=false:=by
   rw [← aae V first hF];refine aqI (pre:=wV pre) ?_ p;obtain ⟨r,hr⟩:=ar;exact ⟨wV r,by rw [← hr];simp [wV]⟩
  have hR:GZ V.C first=(zk,false):=by rw [uh HR,av];rfl
  have hR:=ah hR;clear S
  gi_wp2
  refine ⟨sm,.inl ⟨_,_,rfl,run_takeDeferred I,?_⟩⟩;have z:=hL.shut (D:=D) (by simp;omega);have n3:=fH z.o0 (n:=256) (by rw [bC,iM]);have n4:=fM z.o0 (n:=256) (by rw [bC,iM]);refine ⟨_,alU rfl ⟨w.heap.size,0,none⟩ ⟨w.heap.size+1,0,none⟩ rfl rfl (v:= .agg (cv zk).toArray) (u:= .bool false) (by rw [jR,jT n3,n4]) (akc z.o1),?_,z.below⟩;rw [uh hR]
end
section
open Go.RowKit Go.Shelf
section
variable {α:Type} {g:Operand} {ps:Array Tmp} {assign body:Code} {Q:Exit→Act→World→Prop} {a:Act} {w:World} {n:Nat}
def auF {l₀:Nat} {r₀:Loop} (ai:w.heap[l₀]? = some (.loop r₀)) (h1:1≤n) {gf:Nat} {lb:Array Value} (hg:a.eval g= .func (.func gf) #[] lb) (eg: ∀ args w,(callFunc gf args).run Tryz.prog w= .ok (.enter gf args) w)
  {F:α→Array Value} {k:World→World→Prop} {S Sp:List α→Prop} {N:Nat} {R:World} (af:QC (n - 1) gf lb F k S Sp N (w.heap.size+1) R)
  (q: ∀ A B C:World,k A B→k B C→k A C) (J: ∀ (W:World) (o o':Obj),W.heap[w.heap.size]? = some o→o.isCells=false→k W (W.putObj w.heap.size o')) (X:aC R w) (al: ∀ x,(F x).size=ps.size)
  (I z:List α→World→Prop) (D:OwnFrom w.heap.size I) (L:OwnFrom w.heap.size z) (h0:I [] w) (T:α→Act→World→Prop) (an: ∀ x h,OwnFrom w.heap.size (fun (_:Unit) W=>T x h W))
  (aa: ∀ (l:Nat) (pre:List α) (x:α) (W:World) (K:Act→World→Prop),I pre W→(∀ h E,KeepsFrom w.heap.size W E→k W E→I pre E→T x h E→K h E)→
   assign.wpIn (Fence.wide.inRound l) (n - 1 - 1) Tryz.prog (Exit.then K (fun _ _ _=>False)) { tmps:=(ps.zip (F x)).foldl (fun t (p,v)=>t.setIfInBounds p v) a.tmps,defers:=[] } W)
  (ab: ∀ (l:Nat) (pre:List α) (x:α) (h:Act) (W:World),w.heap.size≤l→(∃ r,W.heap[l]? = some (.loop r))→I pre W→T x h W→pre.length<N→body.wpIn (Fence.wide.inRound l) (n - 1 - 1) Tryz.prog (abx w.heap.size k I z (pre++[x]) W) h W)
  (ad: ∀ (xs:List α) (W:World),S xs→I xs W→Q .normal a W)
  (ae: ∀ (pre:List α) (W:World),Sp pre→z pre W→Code.ret.wpIn (Fence.wide.inRound l₀) n Tryz.prog Q a W):
  (Code.rangeFunc g ps assign body).wpIn (Fence.wide.inRound l₀) n Tryz.prog Q a w:=by
 refine wpIn_rangeFunc fun fn ao=> ?_;obtain ⟨rec,c⟩: ∃ rec:LoopState→Option Code→Loop,rec=fun st pe=>{ state:=st,pending:=pe,fn,tmps:=a.tmps,params:=ps,assign,body,defers:=r₀.defers }:=⟨_,rfl⟩
 let d:=w.heap.size
 let b:=w.alloc (.loop (rec .ready none))
 have aq:b.heap[d]? = some (.loop (rec .ready none)):=aX w _;have ar:I [] b:=D.alloc _ h0;have aL:b.heap.size=d+1:=by simp [b,d]
 have av:aC R b:=X.trans (((bG _ w).alloc (aO _) _).mono X.size);refine ⟨d,[],b,{ target:= .fn (.func gf) lb,args:= #[.func (.yield d) #[] #[]] },b,gf,#[.func (.yield d) #[] #[]]++lb,b,?_,?_,fun _ _=>trivial,?_,fun _=>h1,?_⟩
 ·show (Instr.enterLoop fn a.tmps ps assign body (some l₀)).run Tryz.prog w=_;rw [run_enterLoop_inner ai];simp only [b,c,d]
 ·simp only [resolve,hg];simp [go_sem]
 ·simp [invoke,go_sem,eg]
 have hJ:OwnFrom b.heap.size (fun (pre:List α) W=>I pre W∧W.heap[d]? = some (.loop (rec .ready none))):=fun s A B row hs u hr=>
  ⟨D s A B row hs.1 u (fun r e=>⟨by have:=(hr r e).1;omega,(hr r e).2⟩),sQ u hr hs.2 om⟩
 have aw:OwnFrom b.heap.size (fun (pre:List α) W=>z pre W∧W.heap[d]? = some (.loop (rec .done (some .ret)))):=fun s A B row hs u hr=>
  ⟨L s A B row hs.1 u (fun r e=>⟨by have:=(hr r e).1;omega,(hr r e).2⟩),sQ u hr hs.2 om⟩
 refine (CallsIn.inRound l₀ (af d (fun pre W=>I pre W∧W.heap[d]? = some (.loop (rec .ready none))) (fun pre W=>z pre W∧W.heap[d]? = some (.loop (rec .done (some .ret)))) b av om hJ aw ?_ ⟨ar,aq⟩)).mono ?_
 ·rintro pre x W ⟨hi,m⟩ hlen;have hy:=run_yield (P:=Tryz.prog) (args:=F x) m (by rw [c];exact al x);rw [c] at hy;refine ⟨fn,_,assign,body,hy,roundIn_of_wpIn ao (aa d pre x W _ hi fun h G GH Y ax az=> ?_)⟩;have y:=GH.same _ _ (aO _) m rfl;refine ⟨_,run_beginRound y (by rw [c]),?_⟩;have Z:(G.putObj d (.loop { rec .ready none with state:= .busy })).heap[d]? = some (.loop { rec .ready none with state:= .busy }):=World.putObj_heap_same (aK y);have ag:k G (G.putObj d (.loop { rec .ready none with state:= .busy })):=J _ _ _ y rfl;refine Wv (ab d pre x h _ (aO _) ⟨_,Z⟩ (D.putObj _ ax (aO _) y rfl) ((an x h).putObj (s:=()) _ az (aO _) y rfl) hlen) ?_;have fin: ∀ (jump:Option Code) (j:World),KeepsFrom d (G.putObj d (.loop { rec .ready none with state:= .busy })) j→
    (Instr.endRound d jump).run Tryz.prog j= .ok (.bool jump.isNone) (j.putObj d (.loop (rec (if jump.isNone then .ready else .done) jump)))∧
    j.heap[d]? = some (.loop { rec .ready none with state:= .busy })∧
    (j.putObj d (.loop (rec (if jump.isNone then .ready else .done) jump))).heap[d]? = some (.loop (rec (if jump.isNone then .ready else .done) jump)):=fun jump j aD=>by
   have f:=aD.same _ _ (aO _) Z rfl
   have:=run_endRound (P:=Tryz.prog) jump f
   rw [c] at this ⊢;exact ⟨this,by rw [c] at f;exact f,World.putObj_heap_same (aK f)⟩
  rintro e a3 j i;cases e with
  | normal=>
   obtain ⟨U,H,M⟩:=i;obtain ⟨hr,f,O⟩:=fin none j U;exact ⟨_,_,hr,q _ _ _ Y (q _ _ _ ag (q _ _ _ H (J _ _ _ f rfl))),.inl ⟨rfl,D.putObj _ M (aO _) f rfl,O⟩⟩
  | ret=>
   obtain ⟨U,H,M⟩:=i;obtain ⟨hr,f,O⟩:=fin (some .ret) j U;exact ⟨_,_,hr,q _ _ _ Y (q _ _ _ ag (q _ _ _ H (J _ _ _ f rfl))),.inr ⟨rfl,L.putObj _ M (aO _) f rfl,O⟩⟩
  | exit id=>exact i.elim
  | goto t=>exact i.elim
  | panic ch=>exact i.elim
  | outgrown=>exact i.elim
 ·rintro e W2 ⟨⟨v,rfl⟩,(⟨xs,hS,hi,m⟩ | ⟨pre,aE,hi,m⟩)⟩
  ·have V:(rec .ready none).state≠ .busy:=by rw [c];simp
   have i:(rec .ready none).pending=none:=by rw [c]
   refine ⟨_,_,run_endLoop m V,?_⟩;rw [i];exact ad xs _ hS (D.putObj _ hi (aO _) m rfl)
  ·have V:(rec .done (some .ret)).state≠ .busy:=by rw [c];simp
   have i:(rec .done (some .ret)).pending=some .ret:=by rw [c]
   refine ⟨_,_,run_endLoop m V,?_⟩;rw [i];exact ae pre _ aE (L.putObj _ hi (aO _) m rfl)
def alG {l₀:Nat} {r₀:Loop} (X:w.heap[l₀]? = some (.loop r₀)) (h1:1≤n) {gf:Nat} {lb:Array Value} (hg:a.eval g= .func (.func gf) #[] lb) (eg: ∀ args w,(callFunc gf args).run Tryz.prog w= .ok (.enter gf args) w)
  {y:α→Array Value} {i:World→World→Prop} {S:List α→Prop} {N:Nat} {E:World} (U:ML (n - 1) gf lb y i S N (w.heap.size+1) E)
  (D: ∀ A B C:World,i A B→i B C→i A C) (G: ∀ (W:World) (o o':Obj),W.heap[w.heap.size]? = some o→o.isCells=false→i W (W.putObj w.heap.size o')) (H:aC E w) (Y: ∀ x,(y x).size=ps.size)
  (I:List α→World→Prop) (q:OwnFrom w.heap.size I) (h0:I [] w) (F:α→Act→World→Prop) (Z: ∀ x c,OwnFrom w.heap.size (fun (_:Unit) W=>F x c W))
  (O: ∀ (l:Nat) (pre:List α) (x:α) (W:World) (K:Act→World→Prop),I pre W→(∀ c f,KeepsFrom w.heap.size W f→i W f→I pre f→F x c f→K c f)→
   assign.wpIn (Fence.wide.inRound l) (n - 1 - 1) Tryz.prog (Exit.then K (fun _ _ _=>False)) { tmps:=(ps.zip (y x)).foldl (fun t (p,v)=>t.setIfInBounds p v) a.tmps,defers:=[] } W)
  (R: ∀ (l:Nat) (pre:List α) (x:α) (c:Act) (W:World),w.heap.size≤l→(∃ r,W.heap[l]? = some (.loop r))→I pre W→F x c W→pre.length<N→body.wpIn (Fence.wide.inRound l) (n - 1 - 1) Tryz.prog (fun e _ f=>e= .normal∧KeepsFrom w.heap.size W f∧i W f∧I (pre++[x]) f) c W)
  (T: ∀ (xs:List α) (W:World),S xs→I xs W→Q .normal a W):
  (Code.rangeFunc g ps assign body).wpIn (Fence.wide.inRound l₀) n Tryz.prog Q a w:=by
 refine wpIn_rangeFunc fun fn aa=> ?_;obtain ⟨rec,h⟩: ∃ rec:LoopState→Option Code→Loop,rec=fun st pe=>{ state:=st,pending:=pe,fn,tmps:=a.tmps,params:=ps,assign,body,defers:=r₀.defers }:=⟨_,rfl⟩
 let d:=w.heap.size
 let b:=w.alloc (.loop (rec .ready none))
 have ab:b.heap[d]? = some (.loop (rec .ready none)):=aX w _;have ad:I [] b:=q.alloc _ h0;have ar:b.heap.size=d+1:=by simp [b,d]
 have ae:aC E b:=H.trans (((bG _ w).alloc (aO _) _).mono H.size);refine ⟨d,[],b,{ target:= .fn (.func gf) lb,args:= #[.func (.yield d) #[] #[]] },b,gf,#[.func (.yield d) #[] #[]]++lb,b,?_,?_,fun _ _=>trivial,?_,fun _=>h1,?_⟩
 ·show (Instr.enterLoop fn a.tmps ps assign body (some l₀)).run Tryz.prog w=_;rw [run_enterLoop_inner X];simp only [b,h,d]
 ·simp only [resolve,hg];simp [go_sem]
 ·simp [invoke,go_sem,eg]
 have hJ:OwnFrom b.heap.size (fun (pre:List α) W=>I pre W∧W.heap[d]? = some (.loop (rec .ready none))):=fun s A B row hs J hr=>
  ⟨q s A B row hs.1 J (fun r e=>⟨by have:=(hr r e).1;omega,(hr r e).2⟩),sQ J hr hs.2 om⟩
 refine (CallsIn.inRound l₀ (U d (fun pre W=>I pre W∧W.heap[d]? = some (.loop (rec .ready none))) b ae om hJ ?_ ⟨ad,ab⟩)).mono ?_
 ·rintro pre x W ⟨hi,u⟩ hlen;have M:=run_yield (P:=Tryz.prog) (args:=y x) u (by rw [h];exact Y x);rw [h] at M;refine ⟨fn,_,assign,body,M,roundIn_of_wpIn aa (O d pre x W _ hi fun c z GH af ag ai=> ?_)⟩;have m:=GH.same _ _ (aO _) u rfl;refine ⟨_,run_beginRound m (by rw [h]),?_⟩;have L:(z.putObj d (.loop { rec .ready none with state:= .busy })).heap[d]? = some (.loop { rec .ready none with state:= .busy }):=World.putObj_heap_same (aK m);have al:i z (z.putObj d (.loop { rec .ready none with state:= .busy })):=G _ _ _ m rfl;refine Wv (R d pre x c _ (aO _) ⟨_,L⟩ (q.putObj _ ag (aO _) m rfl) ((Z x c).putObj (s:=()) _ ai (aO _) m rfl) hlen) ?_;have fin: ∀ (jump:Option Code) (j:World),KeepsFrom d (z.putObj d (.loop { rec .ready none with state:= .busy })) j→
    (Instr.endRound d jump).run Tryz.prog j= .ok (.bool jump.isNone) (j.putObj d (.loop (rec (if jump.isNone then .ready else .done) jump)))∧
    j.heap[d]? = some (.loop { rec .ready none with state:= .busy })∧
    (j.putObj d (.loop (rec (if jump.isNone then .ready else .done) jump))).heap[d]? = some (.loop (rec (if jump.isNone then .ready else .done) jump)):=fun jump j an=>by
   have k:=an.same _ _ (aO _) L rfl
   have:=run_endRound (P:=Tryz.prog) jump k
   rw [h] at this ⊢;exact ⟨this,by rw [h] at k;exact k,World.putObj_heap_same (aK k)⟩
  rintro e a3 j ⟨rfl,Dh,V,ao⟩;obtain ⟨hr,k,aq⟩:=fin none j Dh;exact ⟨_,_,hr,rfl,⟨q.putObj _ ao (aO _) k rfl,aq⟩,D _ _ _ af (D _ _ _ al (D _ _ _ V (G _ _ _ k rfl)))⟩
 ·rintro e W2 ⟨⟨v,rfl⟩,xs,hS,hi,u⟩;have hh:(rec .ready none).state≠ .busy:=by rw [h];simp
  have hp:(rec .ready none).pending=none:=by rw [h]
  refine ⟨_,_,run_endLoop u hh,?_⟩;rw [hp];exact T xs _ hS (q.putObj _ hi (aO _) u rfl)
end
end
end Go.Proofs.YtknjjjenklfeoaaGreatDoor
