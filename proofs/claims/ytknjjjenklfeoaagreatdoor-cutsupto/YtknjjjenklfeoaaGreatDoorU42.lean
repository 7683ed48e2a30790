import Derived.Test.YtknjjjenklfeoaaGreatDoorU41
set_option maxHeartbeats 8000000
set_option maxRecDepth 100000
set_option linter.all false
namespace Go.Proofs.YtknjjjenklfeoaaGreatDoor
open Go.RowKit
section
attribute [local go_sem ↓] dw fP fV kU mZ nC jR kP kJ kF lG lI kR kQ kV ng nD l9 nJ jE
attribute [local go_sem] dM fO fU gW gB aV kY mP mW mQ mO gX jT kN kH lq kX iM kG lu lD lC kM jc jd nH nK kW kZ mX nT mV mM nN
attribute [local go_sem] Oper.semAt_some
def acF (n:Nat):aS (List.replicate n zc)=List.replicate (n*64) (.int .u8 0):=by
 induction n with
 | zero=>simp [aS]
 | succ n ih=>
  rw [Wu,show aS (zc :: List.replicate n zc)=cv zc++aS (List.replicate n zc) from rfl,ih,show cv zc=List.replicate 64 (.int .u8 0) from rfl,aaC,Nat.add_mul,Nat.one_mul,Ci]
def asI (n:Nat):madeCells (Value.cells (.agg (cv zc).toArray)) (n*64)=(aS (List.replicate n zc)).toArray:=by
 rw [acF,show Value.cells (.agg (cv zc).toArray)=(List.replicate 64 (Value.int .u8 0)).toArray from rfl];apply Array.ext
 ·simp [size_madeCells]
 ·intro i c d;have a:(List.replicate 64 (Value.int .u8 0)).toArray.size=64:=rfl;have b:i%64<64:=WB _ dc;simp only [madeCells,Array.getElem_map,Array.getElem_range,a];rw [getElem!_pos _ _ (by rw [a];exact b),List.getElem_toArray,List.getElem_toArray,List.getElem_replicate,List.getElem_replicate]
def aem {w:World} {base g cap n:Nat} {e:TypeId} {size:Nat} {xs:List Value} (h:w.ownsRow base e size (.slice (some ⟨g,0,none⟩) n cap) n xs) (j:Nat) (v:Value) (hj:xs[j]? = some v):w.cell? ⟨g,j,none⟩=some v:=by
 rcases h.2 with ⟨a,_⟩ | ⟨i,f,cur,a,_,c,_,_,_,b⟩
 ·cases a
 ·injection a with a _ _;injection a with a;injection a with a;subst a;rw [aF c];have d:j<(cur.toList.take (n*size)).length:=by
   rw [b];rcases J8 j xs.length with y | y
   ·exact y
   ·rw [eG y] at hj;cases hj
  rw [← b,S9 (by simp at d;omega)] at hj;rw [← hj]
  simp
def at7 {file:List aj} {T:Nat} (h:file.length≤T):bg file T=file++List.replicate (T - file.length) zc:=by
 apply uY;intro i;unfold bg;rw [jK]
 by_cases hi:i<T
 ·rw [yR hi]
  by_cases a:i<file.length
  ·rw [nV a];simp only [Gf,au a];unfold cl;rw [aN,bJ a];rfl
  ·rw [nP om,rG,au om];simp only [Gf,ak a]
 ·rw [eG (by simpa using hi),eG (by simp;omega)];rfl
def XU (a b:List aj):aS (a++b)=aS a++aS b:=by simp [aS]
def atr (w:World) (s:Value) (file:List aj) (b:kK w s file) (T:Nat) (h0:0<file.length) (hle:file.length≤T) (C:T≤256):
  Calls Tryz.prog 91 #[s,.int .i64 (T:Nat)] w fun e t=> ∃ g,w.heap.size≤g∧e= .returned (.agg (P5 (.slice (some ⟨g,0,none⟩) T T) (.slice none 0 0) ⟨bg file T,[],false,decide (file.length<T)⟩).toArray)∧
   t.ownsRow 0 38 64 (.slice (some ⟨g,0,none⟩) T T) T (aS (bg file T))∧aC w t:=by
 obtain ⟨D,u,y,z,A⟩:=qw Tryz.KY;obtain ⟨g,cap,rfl,N⟩:=gy b.row om;have O:decide (((file.length:Nat):Int)<((T:Nat):Int))=decide (file.length<T):=sm;have q:=fun W=>run_make (P:=Tryz.prog) W 28 38 D (.agg (cv zc).toArray) Tryz.underlying28 u y .i64 .i64 (T:Int) (T:Int) om (Int.le_refl _) (by rw [A];omega) om;simp only [tZ,z,asI] at q;have d:=dW.three w (.cells #[.slice none 0 0,.slice none 0 0,.bool false,.bool false] 119) (.cells (aS (List.replicate T zc)).toArray 38) (.cells #[.slice (some ⟨w.heap.size+1,0,none⟩) T T,.slice none 0 0,.bool false,.bool (decide (file.length<T))] 119);have m:=(b.kept (S:=fun _=>False) (Kept.dQ d.below) (fun _ _=>id)).row;have f:=zi file b.lens;have B:(aS (List.replicate T zc)).length=T*64:=by rw [acF];simp
 have o: ∀ v ∈ aS file,v.oneCell'=true:=by
  intro v hv;obtain ⟨c,_,hc⟩:=zT.1 hv;obtain ⟨x,_,rfl⟩:=gY.1 hc;rfl
 have p:Nat.min file.length T=file.length:=SV hle;have r:=VO (P:=Tryz.prog) _ 28 28 3 38 64 (w.heap.size+1) 0 T T ⟨g,0,none⟩ file.length cap (aS file) Tryz.underlying28 kr (by rw [f,p])
  (fun j v hj=>by have:=aem m j v hj;cases j with | zero=>simpa [Addr.add] using this | succ j=>simpa [Addr.add] using this)
  (fun j hj=>by rw [rE,aF d.o1,bZ,bJ (by rw [B];rw [f] at hj;exact iL hj (Qb 64 hle))];rfl)
  (fun j _=>eY d.o1 _) o
 rw [p] at r;have a:=d.setCells 1 rfl 0 (aS file);have l:mY (aS (List.replicate T zc)).toArray 0 (aS file)=(aS (bg file T)).toArray:=by
  have e:List.replicate T zc=List.replicate file.length zc++List.replicate (T - file.length) zc:=by rw [aaC,Nat.add_sub_cancel' hle]
  rw [at7 hle,e,XU,XU]
  have:=ZF [] (aS (List.replicate file.length zc)) (aS file) (aS (List.replicate (T - file.length) zc)) (by rw [f,acF];simp)
  simpa using this
 rw [l] at a;have h:(aS (bg file T)).length=T*64:=by rw [zi _ (adZ b.lens T),kL]
 have E:=ah a;have F:=(aF a.o2 0).trans rfl;have G:=(aF a.o2 1).trans rfl;have H:=(aF a.o2 2).trans rfl;have I:=(aF a.o2 3).trans rfl;have r0:=(aF a.o0 0).trans rfl;have J:=(aF a.o0 1).trans rfl;have K:=(aF a.o0 2).trans rfl;have L:=(aF a.o0 3).trans rfl;have Q:=fun i=>eY a.o0 i;simp only [bZ,J6,Gg] at F G H I r0 J K L;clear d m o l b a
 go_enter Tryz.func91,Tryz.ntmps91
 go_wp2_with fail
 generalize M:World.setCells _ (w.heap.size+1) 0 (aS file)=W at*;clear M r q;go_wp2;have k:=(((E.setCell 0 rfl 0 (.slice (some ⟨w.heap.size+1,0,none⟩) T T)).setCell 0 rfl 1 (.slice none 0 0)).setCell 0 rfl 2 (.bool false)).setCell 0 rfl 3 (.bool (decide (file.length<T)));have b0:_=some (Obj.cells [Value.slice (some ⟨w.heap.size+1,0,none⟩) T T,.slice none 0 0,.bool false,.bool (decide (file.length<T))].toArray 119 (0,0)):=k.o0;have b1:_=some (Obj.cells (aS (bg file T)).toArray 38 (0,0)):=k.o1;refine iy (qZ Tryz.results91 ⟨w.heap.size,0,none⟩ rfl ?_) rfl ⟨w.heap.size+1,om,rfl,⟨h,ay ⟨w.heap.size+1,T,_,rfl,lX _,b1,aO _,jL C dc,by simp [h],?_⟩⟩,k.below⟩
 ·exact (BQ (fH b0 (n:=4) rfl) 119 _ Tryz.underlying119 rfl kr).trans (by rw [fM b0 (n:=4) rfl];rfl)
 ·rw [List.toList_toArray,J4 (by rw [h];exact aO _)]
attribute [local go_sem ↓] pW qM qO qA xM ED EF EC DW IY Jh
attribute [local go_sem] qc qI qK qJ qH xU Et Ew Eu Es Dy pU pR Jc Jf Je
def ah2 (x y:Value):Sem Bool:=Op.equalIn 10000 142 x y
def aqv (x y:Value):Op.equalIn 10000 142 x y=ah2 x y:=rfl
def ad4 (p:aW) (w:World):(part 9 (ev p).toArray 0).run Tryz.prog w= .ok (.string (bM p.name)) w:=by
 have a:(isAgg 9).run Tryz.prog w= .ok false w:=by unfold isAgg;rw [jC,yh Tryz.underlying9 w];rfl
 unfold part;rw [jC,a];rfl
def alc (p:aW) (w:World):(part 3 (ev p).toArray 1).run Tryz.prog w= .ok (.int .i64 (p.first:Nat)) w:=by
 have a:(isAgg 3).run Tryz.prog w= .ok false w:=by unfold isAgg;rw [jC,yh Tryz.underlying3 w];rfl
 unfold part;rw [jC,a];rfl
def avq (p:aW) (w:World):(ah2 (.agg (ev p).toArray) (.agg (ev ze).toArray)).run Tryz.prog w= .ok (decide (p.name=[]) && decide (p.first=0)) w:=by
 have hs:Tryz.prog.stoodInHeld 142=false:=kr;have h0:(Op.equalIn 9999 9 (.string (bM p.name)) (.string (bM ze.name))).run Tryz.prog w= .ok ((bM p.name).toList == (bM ze.name).toList) w:=run_equalIn_string (P:=Tryz.prog) w 9998 9 (bM p.name) (bM ze.name) Tryz.underlying9;rw [NR,NR] at h0;have a:(Op.equalIn 9999 3 (.int .i64 (p.first:Nat)) (.int .i64 (ze.first:Nat))).run Tryz.prog w= .ok (((p.first:Nat):Int) == ((ze.first:Nat):Int)) w:=afG (P:=Tryz.prog) (w:=w) 9998 3 .i64 _ _ _ Tryz.underlying3;show (Op.equalIn (9999+1) 142 _ _).run Tryz.prog w=_;rw [Op.equalIn];simp only [jC,yh Tryz.underlying142,sK,WM,hs,Ce,yS];rw [← afu]
 by_cases e:p.name=[]
 ·have b:(p.name == ze.name)=true:=by rw [e];rfl
  rw [b] at h0;rw [dZ e,um]
  by_cases c:p.first=0
  ·have d:(((p.first:Nat):Int) == ((ze.first:Nat):Int))=true:=by rw [c];rfl
   rw [d] at a;rw [dZ c];simp only [Oe,Qg,jC,ad4,alc,sK,h0,a,ne_eq,String.reduceEq,Qh,xk,WG,Ce,yS,zU]
  ·have d:(((p.first:Nat):Int) == ((ze.first:Nat):Int))=false:=by
    rw [lY];show ((p.first:Nat):Int)≠((0:Nat):Int);omega
   rw [d] at a;rw [gK c];simp only [Oe,Qg,jC,ad4,alc,sK,h0,a,ne_eq,String.reduceEq,Qh,xk,WG,aaI,Ce,yS,zU]
 ·have b:(p.name == ze.name)=false:=by
   rw [lY];exact e
  rw [b] at h0;rw [gK e,J3];simp only [Oe,Qg,jC,ad4,sK,h0,ne_eq,String.reduceEq,Qh,xk,aaI,zU]
attribute [local go_sem ↓] aqv
attribute [local go_sem] al2
def aqu {c:aj} (hc:c.length=64):ER (aZ c):=fun k=>by
 rw [aN]
 by_cases hk:k<4
 ·unfold aZ;rw [jK,yR hk];refine ⟨?_,iK _ _⟩;show ((nameBytes c k).take (qC (nameBytes c k))).length≤12
  have:=akB c k hc hk
  rw [yg];omega
 ·rw [eG (by rw [Ea];omega)];exact ⟨dc,dc⟩
def apA (w:World) (v:Nat) (Cv Lv:Value) (V:aB) (h:aP w v Cv Lv V) (hG:oN w) (h5:5<V.C.length):
  Calls Tryz.prog 93 #[.pointer (some ⟨v,0,none⟩)] w fun e w'=>((xK (cl V.C 5)=true∧e= .returned .nilIface)∨(xK (cl V.C 5)=false∧ ∃ x,isIface x∧e= .returned (kS 5 x)))∧aC w w':=by
 have hc:=je h.kT h5;have m:=Ea (cl V.C 5);have ad:=aqu hc;have ax:=ah (Lc w v Cv Lv V h h5);have az:=ah (fun W (hb:aC w W)=>Oy W v Cv Lv V (h.below hb) 5 h5);have DR:=ah (fun W=>ajU W (aZ (cl V.C 5)) m ad);have a:Hid (xK (cl V.C 5)=(decide (mJ (aZ (cl V.C 5)) 4=cl V.C 5) && (yu (Iz (aZ (cl V.C 5))) (lenOf (aZ (cl V.C 5))) 0 && yu (KN (aZ (cl V.C 5))) (4 - lenOf (aZ (cl V.C 5))) (lenOf (aZ (cl V.C 5)))))):=rfl;have ae:(mJ (aZ (cl V.C 5)) 4).length=64:=IX ad 4 om;have Y:=ah hG;clear h hG;generalize xK (cl V.C 5)=Z at*;generalize cl V.C 5=c at*;generalize aZ c=E at*;generalize mJ E 4=cc at*
 go_enter Tryz.func93,Tryz.ntmps93
 go_wp2_with fail
 refine ax.mono ?_;rintro e y ⟨rfl,af⟩;have H:=ah (af.alloc af.size (.cells (lv E).toArray 144));have z:=ah (aX y (.cells (lv E).toArray 144));have SL:zl.length=4:=rfl;clear af ax
 go_wp2_with fail
 generalize aR:y.alloc (.cells (lv E).toArray 144)=l at*;clear aR;have ag: ∀ d os,(Go.Sort.grow (redrawn l d) os).heap[y.heap.size]? = some (.cells (lv E).toArray 144 (0,0)):=fun d os=>((lJ l d os).block _ (aK z)).trans z;have k1: ∀ d os,dU (Go.Sort.grow (redrawn l d) os) y.heap.size 0 8:=fun d os=>fH (ag d os) (by rw [dX,m]);have k2: ∀ d os,dO (Go.Sort.grow (redrawn l d) os) y.heap.size 0 8=lv E:=fun d os=>fM (ag d os) (by rw [dX,m]);have ai:=ah (fun d os=>uh DR (Go.Sort.grow (redrawn l d) os));have al:=ah (fun d os=>uh az (Go.Sort.grow (redrawn l d) os) (H.trans ((lJ l d os).mono H.size)));clear ag DR az
 by_cases U:cc=c
 rotate_left
 ·have he: ∀ w,(yC (.agg (cv cc).toArray) (.agg (cv c).toArray)).run Tryz.prog w= .ok false w:=fun w=>by rw [wY ae hc,gK U]
  have hg:Z=false:=by rw [uh a,gK U];rfl
  have A:=ah hg;clear hg a U;refine DJ kr kr ?_
  repeat (go_big_quiet_step (first | exact Aj (uh ai _ _) | exact Aj (uh al _ _)))
  refine DK ?_;intro _ an;obtain ⟨⟨J,I⟩,aa⟩:=an;subst aa;have M:=ah (H.trans ((lJ l J I).mono H.size));obtain ⟨t2,v2,g2⟩:=(Y.below M).err 2 om;clear k1 k2 he;go_wp2;go_ret;exact ⟨ay ⟨uh A,_,⟨_,_,rfl⟩,rfl⟩,uh M⟩
 subst U;rw [dZ rfl,um] at a;have he: ∀ w,(yC (.agg (cv cc).toArray) (.agg (cv cc).toArray)).run Tryz.prog w= .ok true w:=fun w=>by rw [wY ae hc,dZ rfl]
 refine DJ kr kr ?_
 repeat (go_big_quiet_step (first | exact Aj (uh ai _ _) | exact Aj (uh al _ _)))
 refine DK ?_;intro _ an;obtain ⟨⟨J,I⟩,aa⟩:=an;subst aa;have M:=ah (H.trans ((lJ l J I).mono H.size));have ao:=ah (((lJ l J I).block _ (aK z)).trans z);have F:=k1 J I;have P:=k2 J I;clear k1 k2 he ai al z H hc ae;generalize Go.Sort.grow (redrawn l J) I=w3 at*;have MJ:=ah (O7 w3 E m);have a5:=AQ E
 go_wp2_with fail
 refine MJ.mono ?_;rintro e w4 ⟨rfl,aq⟩;have ar:=ah (M.trans (aq.mono M.size));have av:=ah ((aq.block _ (aK ao)).trans ao);clear aq MJ M ao F P;generalize a6:lenOf E=G at*;have Ee:(G:Int)≤4:=om;go_wp2
 go_loopw [5,6,26] (fun _ _ i wr=> ∃ k:Nat,k≤G∧i= .int .i64 k∧aC w wr∧wr.heap[y.heap.size]? = some (.cells (lv E).toArray 144 (0,0))∧yu (Iz E) k 0=true) (fun _ _ i _=>G - (intOf i).toNat)
 case atStart=>exact ⟨0,om,rfl,uh ar,uh av,rfl⟩
 case round=>
  obtain ⟨k,hk,rfl,hB,b,r⟩:=hrel
  by_cases a7:k<G
  ·have a8:(k:Int)<(G:Int):=om;have zy:k<E.length:=om;have Q:=sU (n:=2) (Gw b k zy) rfl;have R:=qU (n:=2) (Gw b k zy) rfl;have o:Iz E k=(nZ (E.getD k ze).name && decide (rY E (bM (E.getD k ze).name)=(k:Int))):=rfl;have a0:=(ad k).1;generalize E.getD k ze=p at*;have f:=ah (hB.alloc hB.size (.cells (ev p).toArray 142));have B:=ah ((jX wr (.cells (ev p).toArray 142) _ (aK b)).trans b);have S:(wr.alloc (.cells (ev p).toArray 142)).cell? ⟨wr.heap.size,0,none⟩=some (.string (bM p.name)):=(wM wr _ _ _ 0).trans rfl;have HA:=ah r;have D:=ah (fun W=>adY (bM p.name) W (by rw [show (bM p.name).size=p.name.length by simp [bM,ByteArray.size]];exact jL a0 dc));rw [show (bM p.name).data.toList=p.name from rfl] at D;have N:=ah (fun W=>acC W E m (bM p.name));have s:=abw (Iz E) k 0;rw [r,um,rE] at s;clear r hB b ar av HA
   by_cases t:nZ p.name=true
   ·rw [t] at D;have F: ∀ W,aC w W→W.heap[y.heap.size]? = some (.cells (lv E).toArray 144 (0,0))→dU W y.heap.size 0 8:=fun W _ hx=>fH hx (by rw [dX,m])
    by_cases K:rY E (bM p.name)=(k:Int)
    ·rw [K] at N;have aD:yu (Iz E) (k+1) 0=true:=by rw [s,o,t,dZ K];rfl
     have a1:=ah aD;clear aD s o t K F
     go_wp2_with fail
     refine (uh D _).mono ?_;rintro e w5 ⟨rfl,g⟩;have q:=ah (f.trans (g.mono f.size));have u:=ah ((g.block _ (aK B)).trans B);have d5:w5.cell? ⟨wr.heap.size,0,none⟩=some (.string (bM p.name)):=(g.cell sm).trans S;have F:=fH u (n:=8) (by rw [dX,m]);have P:=fM u (n:=8) (by rw [dX,m]);clear g S Q R f B D
     go_wp2_with fail
     refine (uh N _).mono ?_;rintro e w6 ⟨rfl,L⟩;have X:=ah (q.trans (L.mono q.size));have a2:=ah ((L.block _ (aK u)).trans u);clear L d5 F P q u N;go_wp2;go_roundw
     case rel=>exact ⟨k+1,om,gn,uh X,uh a2,uh a1⟩
     case measure=>exact bW
    ·have O:Z=false:=by
      rw [uh a]
      have:yu (Iz E) G 0=false:=by
       rw [afB];intro T
       have:=(MP _ _ _).1 T k (lX _) om
       rw [o,gK K,SQ] at this;cases this
      rw [this];rfl
     have A:=ah O;have d0:(rY E (bM p.name) != (k:Int))=true:=by rw [ou];exact K
     generalize rY E (bM p.name)=fk at*;clear O s o t K F a
     go_wp2_with fail
     refine (uh D _).mono ?_;rintro e w5 ⟨rfl,g⟩;have q:=ah (f.trans (g.mono f.size));have u:=ah ((g.block _ (aK B)).trans B);have d5:w5.cell? ⟨wr.heap.size,0,none⟩=some (.string (bM p.name)):=(g.cell sm).trans S;have F:=fH u (n:=8) (by rw [dX,m]);have P:=fM u (n:=8) (by rw [dX,m]);clear g S Q R f B D
     go_wp2_with fail
     refine (uh N _).mono ?_;rintro e w6 ⟨rfl,L⟩;have X:=ah (q.trans (L.mono q.size));obtain ⟨t2,v2,g2⟩:=(Y.below X).err 2 om;clear L d5 F P q u N;go_wp2;go_ret;exact ⟨ay ⟨uh A,_,⟨_,_,rfl⟩,rfl⟩,uh X⟩
   ·have t:nZ p.name=false:=by simpa using t
    rw [t] at D;have O:Z=false:=by
     rw [uh a]
     have:yu (Iz E) G 0=false:=by
      rw [afB];intro T
      have:=(MP _ _ _).1 T k (lX _) om
      rw [o,t,J3] at this;cases this
     rw [this];rfl
    have A:=ah O;clear O s o t a N
    go_wp2_with fail
    refine (uh D _).mono ?_;rintro e w5 ⟨rfl,g⟩;have q:=ah (f.trans (g.mono f.size));obtain ⟨t2,v2,g2⟩:=(Y.below q).err 2 om;clear g S Q R f B D;go_wp2;go_ret;exact ⟨ay ⟨uh A,_,⟨_,_,rfl⟩,rfl⟩,uh q⟩
  ·have yG:k=G:=om;subst yG;rw [r,um] at a;have HB:=ah hB;have z:=ah b;clear r hB b ar av
   by_cases a3:k=4
   ·subst a3;rw [Bg,yu] at a;go_wp2
    go_loopw [8,50] (fun _ i wr=>i= .int .i64 0∧aC w wr) (fun _ _ _=>0)
    case atStart=>exact ⟨rfl,uh HB⟩
    case round=>
     obtain ⟨rfl,hB⟩:=hrel;have aw:=ah hB;clear hB;go_wp2;go_ret;exact ⟨aA ⟨uh a,rfl⟩,uh aw⟩
   have a9:k<4:=om;have ba: ¬ 4 - k=0:=om;go_wp2
   go_loopw [8,50] (fun _ i wr=> ∃ j:Nat,j≤4 - k∧i= .int .i64 j∧aC w wr∧wr.heap[y.heap.size]? = some (.cells (lv E).toArray 144 (0,0))∧yu (KN E) j k=true) (fun _ i _=>4 - k - (intOf i).toNat)
   case atStart=>exact ⟨0,om,rfl,uh HB,uh z,rfl⟩
   case round=>
    obtain ⟨j,hj,rfl,hB,b,r⟩:=hrel
    by_cases bb:j<4 - k
    ·have bd:(j:Int)<((4 - k:Nat):Int):=om;have aE:k+j<E.length:=om;have Q:=sU (n:=2) (Gw b (k+j) aE) rfl;have R:=qU (n:=2) (Gw b (k+j) aE) rfl;rw [Nat.add_mul] at Q R;have o:KN E (k+j)=(decide (bM (E.getD (k+j) ze).name=bM []) && decide ((E.getD (k+j) ze).first=0)):=rfl;have s:=abw (KN E) j k;rw [r,um] at s;have ab:KN E (k+j)=false→Z=false:=fun he=>by
      rw [uh a,afB];intro T
      have:=(MP _ _ _).1 T (k+j) om om
      rw [he] at this;cases this
     generalize KN E (k+j)=eb at*;generalize E.getD (k+j) ze=p at*;have f:=ah (hB.alloc hB.size (.cells (ev p).toArray 142));have B:=ah ((jX wr (.cells (ev p).toArray 142) _ (aK b)).trans b);have m1:=fH (aX wr (.cells (ev p).toArray 142)) (n:=2) rfl;have m2:=fM (aX wr (.cells (ev p).toArray 142)) (n:=2) rfl;have hq:=avq p (wr.alloc (.cells (ev p).toArray 142));have aL:decide (bM p.name=bM [])=decide (p.name=[]):=decide_eq_decide.2 ⟨fun e=>by have:=H9 ByteArray.toList e;rw [NR,NR] at this;exact this,fun e=>by rw [e]⟩;rw [aL] at o;rw [← o] at hq;have aM:=ah s;have Oj:=ah ab;clear r hB b HB z o aL s ab;cases eb with
     | true=>
      clear Oj;go_wp2;go_roundw
      case rel=>exact ⟨j+1,om,gn,uh f,uh B,uh aM⟩
      case measure=>exact bW
     | false=>
      have A:=ah (uh Oj rfl);obtain ⟨t2,v2,g2⟩:=(Y.below f).err 2 om;clear Oj aM a;go_wp2;go_ret;exact ⟨ay ⟨uh A,_,⟨_,_,rfl⟩,rfl⟩,uh f⟩
    ·have a4:j=4 - k:=om;subst a4;have A:=ah (a.trans r);have aw:=ah hB;clear r hB b HB z a;go_wp2;go_ret;exact ⟨aA ⟨uh A,rfl⟩,uh aw⟩
end
section
open Go.RowKit Go.Shelf
attribute [local go_sem ↓] dw fP fV jR kP kJ kF lG lI kR
attribute [local go_sem] dM fO fU gW gB aV jT kN kH lq kX iM kG lu lD lC kM jc jd
attribute [local go_sem ↓] Vj ZV aat
attribute [local go_sem] VP Zx Zy Zz P8
attribute [local go_sem] pU pR Oper.semAt_some
def apr (w:World) (v:Nat) (Cv Lv:Value) (V:aB) (h:aP w v Cv Lv V) (D:oN w) (R:5<V.C.length) (S:V.C.length≤256) (q: ∀ f ∈ bP V,gU V f) (E:num (cl V.C 0) 4=V.C.length):
  Calls Tryz.prog 95 #[.pointer (some ⟨v,0,none⟩)] w fun e o=>((BA (iw V) (aJ V.C) V.C.length 256 0= -1∧e= .returned .nilIface)∨ ∃ (n:Nat) (x:Value),BA (iw V) (aJ V.C) V.C.length 256 0=(n:Int)∧isIface x∧e= .returned (kS n x))∧aC w o:=by
 have F:=ah (fun (W:World) (hB:aC w W)=>fE.1 (afi W v Cv Lv V (h.below hB) R S q));have O:(iw V).length=256:=PX V _;have u:=aaj (V:=V) (bP V) q;have aa:(bP V).length≤5:=by
  unfold bP AZ
  have:=AQ (aZ (cl V.C 5))
  simp only [iO,tY,yg];omega
 have r:=ah (fun (W:World) (hB:aC w W)=>JD W v Cv Lv V (h.below hB) om);have G:=ah (fun (W:World) (hB:aC w W)=>MS W v Cv Lv V (h.below hB) om);have P:=CY V.C h.kT om;have T: ∀ n,(iw V).getD n 0≤10000:=fun n=>by have:=u n;unfold iw;omega
 rw [E] at r;have n6:=iK (cl V.C 0) 6;have U:=ah D;generalize num (cl V.C 0) 6=fst at*;generalize iw V=M at*;generalize aJ V.C=k at*;generalize V.C.length=cls at*;clear h q u D E
 go_enter Tryz.func95,Tryz.ntmps95
 go_wp2_with fail
 refine (uh F w (bG _ _)).mono ?_;rintro e X ⟨rfl,b1⟩;have p:=ah b1;clear b1 F
 go_wp2_with fail
 refine (uh r X p).mono ?_;rintro e H ⟨rfl,b2⟩;have d:=ah (p.trans (b2.mono p.size));have s:=ah (aX H (.cells (nv M).toArray 161));have d:=ah (d.alloc d.size (.cells (nv M).toArray 161));clear b2 r p
 go_wp2_with fail
 refine (uh G _ d).mono ?_;rintro e w3 ⟨rfl,t⟩;have I:=ah ((t.block _ (aK s)).trans s);have J:=ah (d.trans (t.mono d.size));clear t G d s;generalize H.heap.size=bu at*;go_wp2
 go_loopw [5,6,14] (fun _ _ i o=> ∃ j:Nat,j≤256∧i= .int .i64 j∧aC w o∧o.heap[bu]? = some (.cells (nv M).toArray 161 (0,0))∧BA M k cls 256 0=BA M k cls (256 - j) j) (fun _ _ i _=>256 - (intOf i).toNat)
 case atStart=>exact ⟨0,om,rfl,uh J,uh I,rfl⟩
 case round=>
  obtain ⟨j,hj,rfl,hB,c,a⟩:=hrel;clear J I
  by_cases y:j<256
  ·have ab:(j:Int)<256:=om;have ad:=aev wr k P j y;have ae:=uy k j;have af:=T j;have c1:wr.cell? ⟨bu,j,none⟩=some (.int .i64 ((M.getD j 0:Nat):Int)):=by rw [aF c,bZ,Lm _ _ (by rw [O];exact y)]
   obtain ⟨t3,v3,g3⟩:=(U.below hB).err 3 om;have l:256 - j=(256 - (j+1))+1:=om;have K:BA M k cls (256 - (j+1)+1) j=if TV M k cls j then (j:Int) else BA M k cls (256 - (j+1)) (j+1):=rfl
   rw [l,K] at a;clear K;have z:TV M k cls j=(decide (aI k j<M.getD j 0) || (decide (254<aI k j) || (decide (cls≤j) && decide (aI k j≠0)))):=rfl;rw [z] at a;have g:=ah hB;have L:=ah c;clear z;generalize aI k j=x at*;generalize M.getD j 0=m at*
   by_cases N:x<m
   ·have Y:decide (((x:Nat):Int)<((m:Nat):Int))=true:=dZ om;rw [dZ N,Bool.true_or,au rfl] at a;have b:=ah a;clear a hB c l;go_wp2;go_ret;exact ⟨ay ⟨j,_,uh b,⟨_,_,rfl⟩,rfl⟩,uh g⟩
   ·have Y:decide (((x:Nat):Int)<((m:Nat):Int))=false:=gK om;rw [gK N,Gh] at a
    by_cases A:254<x
    ·have Z:decide ((254:Int)<((x:Nat):Int))=true:=dZ om;rw [dZ A,Bool.true_or,au rfl] at a;have b:=ah a;clear a hB c l;go_wp2;go_ret;exact ⟨ay ⟨j,_,uh b,⟨_,_,rfl⟩,rfl⟩,uh g⟩
    ·have Z:decide ((254:Int)<((x:Nat):Int))=false:=gK om;rw [gK A,Gh] at a
     by_cases B:cls≤j
     ·have dT:decide (((cls:Nat):Int)≤((j:Nat):Int))=true:=dZ om;rw [dZ B,um] at a
      by_cases h0:x=0
      ·subst h0;rw [ak dc] at a;have b:=ah a;clear a hB c l;go_wp2;go_roundw
       case rel=>exact ⟨j+1,om,gn,uh g,uh L,uh b⟩
       case measure=>exact bW
      ·have d0:(((x:Nat):Int) != 0)=true:=by rw [ou];omega
       rw [dZ h0,au rfl] at a;have b:=ah a;clear a hB c l;go_wp2;go_ret;exact ⟨ay ⟨j,_,uh b,⟨_,_,rfl⟩,rfl⟩,uh g⟩
     ·have dT:decide (((cls:Nat):Int)≤((j:Nat):Int))=false:=gK om;rw [gK B,J3,ak dc] at a;have b:=ah a;clear a hB c l;go_wp2;go_roundw
      case rel=>exact ⟨j+1,om,gn,uh g,uh L,uh b⟩
      case measure=>exact bW
  ·have Q:j=256:=om;subst Q;have b:=ah a;have g:=ah hB;clear a hB c;go_wp2;go_ret;exact ⟨aA ⟨uh b,rfl⟩,uh g⟩
end
end Go.Proofs.YtknjjjenklfeoaaGreatDoor
