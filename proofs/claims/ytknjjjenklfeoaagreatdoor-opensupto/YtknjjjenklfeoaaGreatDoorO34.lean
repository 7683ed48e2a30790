import Derived.Test.YtknjjjenklfeoaaGreatDoorO33
set_option maxHeartbeats 8000000
set_option maxRecDepth 100000
set_option linter.all false
namespace Go.Proofs.YtknjjjenklfeoaaGreatDoor
open Go.RowKit
def nT (V:aB) (s:ByteArray):Int × Nat:=
 if oC s.data.toList=false then (0,2) else if rZ (aY (cl V.C 5)) s<0 then (0,4) else (rZ (aY (cl V.C 5)) s,0)
theorem Wn (w:World) (v:Nat) (Cv Lv:Value) (V:aB) (h:aN w v Cv Lv V) (h5:5<V.C.length) (s:ByteArray) (hs:s.size≤maxLen):
  Calls Tryz.prog 109 #[.pointer (some ⟨v,0,none⟩),.string s] w fun e w'=>e= .returned (.tuple #[.int .i64 (nT V s).1,.int .i64 ((nT V s).2:Nat)])∧aC w w':=by
 have Hi:=ah (acr s w hs);have Hh:=ah h;have HE:Hid (nT V s=if oC s.data.toList=false then (0,2) else if rZ (aY (cl V.C 5)) s<0 then (0,4) else (rZ (aY (cl V.C 5)) s,0)):=rfl;have hel:=Df (cl V.C 5);clear h;cases hb:oC s.data.toList
 ·rw [hb] at Hi HE;rw [au rfl] at HE;clear hb
  go_enter Tryz.func109,Tryz.ntmps109
  go_wp2_with fail
  refine Hi.mono ?_;rintro e w1 ⟨rfl,hb1⟩;have B1:=ah hb1;clear hb1 Hi;go_wp2;go_ret2;exact ⟨by rw [uh HE];rfl,uh B1⟩
 ·rw [hb] at Hi HE;rw [ak sm] at HE;clear hb
  go_enter Tryz.func109,Tryz.ntmps109
  go_wp2_with fail
  refine Hi.mono ?_;rintro e w1 ⟨rfl,hb1⟩;have Hl:=ah (J6 w1 v Cv Lv V (Hh.below hb1) h5);have B1:=ah hb1;clear hb1 Hi
  go_wp2_with fail
  refine Hl.mono ?_;rintro e w2 ⟨rfl,hb2⟩;have Hf:=ah (aa1 w2 (aY (cl V.C 5)) hel s);have B2:=ah (B1.trans (hb2.mono B1.size));clear hb2 Hl B1;generalize aY (cl V.C 5)=E at*
  go_wp2_with fail
  refine Hf.mono ?_;rintro e w3 ⟨rfl,hb3⟩;have B3:=ah (B2.trans (hb3.mono B2.size));clear hb3 Hf B2;generalize rZ E s=f at*
  by_cases hf:f<0
  ·have df:decide (f<0)=true:=eH hf;rw [au hf] at HE;go_wp2;go_ret2;exact ⟨by rw [uh HE];rfl,uh B3⟩
  ·have df:decide (f<0)=false:=gU hf;rw [ak hf] at HE;go_wp2;go_ret2;exact ⟨by rw [uh HE];rfl,uh B3⟩
section
attribute [local go_sem ↓] dw fP fZ kS mP mV jJ kJ jY jU lD lH kQ ku kT mQ mW lZ ny jG qc qP qQ qF xM EF EI ED DZ
attribute [local go_sem] dK fO fV gK gy aV kX mG mM mJ mF gI jK kH jX kZ kW iJ jW lq lC lu kF jc jd lY l7 kG kY mO nI lT mD nH qh qM qO qN qL xX Ey EC Ez Ew Dz
attribute [local go_sem] pW pV Oper.semAt_some
attribute [local go_sem ↓] IV Jl
attribute [local go_sem] I9 Jb Ja
theorem aaZ (E:List aX) (s:ByteArray): ∀ m k,0≤xI E s m k→ ∃ i,k≤i∧i<k+m∧xI E s m k=(i:Int)
 | 0,k,h=>by simp [xI] at h
 | m+1,k,h=>by
  unfold xI at h ⊢;split
  ·exact ⟨k,om,om,rfl⟩
  ·rename_i hn;rw [ak hn] at h;obtain ⟨i,h1,h2,h3⟩:=aaZ E s m (k+1) h;exact ⟨i,om,om,h3⟩
theorem Wj (V:aB) (s:ByteArray):(nT V s=(0,2)∨nT V s=(0,4))∨ ∃ i,i<lenOf (aY (cl V.C 5))∧nT V s=(((i:Nat):Int),0)∧rZ (aY (cl V.C 5)) s=(i:Int):=by
 unfold nT;split
 ·exact aA (aA rfl)
 ·split
  ·exact aA (ay rfl)
  ·rename_i h;obtain ⟨i,_,h2,h3⟩:=aaZ (aY (cl V.C 5)) s (lenOf (aY (cl V.C 5))) 0 (by unfold rZ at h;omega);have h4:rZ (aY (cl V.C 5)) s=(i:Int):=h3;exact ay ⟨i,om,by rw [h4],h4⟩
def xQ (V:aB) (s:ByteArray) (n:Int):aj × Nat:=
 if (nT V s).2=0 then wP V.C ((aY (cl V.C 5)).getD (nT V s).1.toNat ze).first n else (zc,(nT V s).2)
theorem ak2 (w:World) (v:Nat) (Cv Lv:Value) (V:aB) (h:aN w v Cv Lv V) (h5:5<V.C.length) (s:ByteArray) (hs:s.size≤maxLen) (n:Int) (m:Nat) (hm:nT V s=(0,m)) (hm0:m≠0):
  Calls Tryz.prog 98 #[.pointer (some ⟨v,0,none⟩),.string s,.int .i64 n] w fun e w'=>e= .returned (.tuple #[.agg (cv (xQ V s n).1).toArray,.int .i64 ((xQ V s n).2:Nat)])∧aC w w':=by
 have L0:=dU.one w (.cells (cv zc).toArray 38);have He:=ah (Wn _ v Cv Lv V (h.below L0.below) h5 s hs);have L0:=ah L0;clear h;have hR:xQ V s n=(zc,m):=by unfold xQ;rw [hm,ak hm0]
 rw [hR];rw [hm] at He;dsimp only at He ⊢;have d0:(((m:Nat):Int) != 0)=true:=by rw [nR];omega
 clear hm hR
 go_enter Tryz.func98,Tryz.ntmps98
 go_wp2_with fail
 refine He.mono ?_;rintro e w1 ⟨rfl,hb1⟩;have L1:=L0.later hb1;have th:=iI L1.o0 0 64 (by simp [bg,aV]);have L3:=L1.setCells 0 rfl 0 (cv zc);rw [jL,qw _ _ (by simp [bg,aV])] at L3;have l3:=gZ L3.o0 aV;have l4:=gY L3.o0 aV;have HB:=ah L3.below;clear L3 L1 hb1 He L0;go_wp2;refine gV (v:= .tuple #[.agg (cv zc).toArray,.int .i64 (m:Nat)]) (by rw [EK Tryz.results98];simp only [dw];simp [asAddr,dK l3,l4]) rfl ⟨rfl,uh HB⟩
theorem aqh (E:List aX): ∀ k,k<E.length→((lv E).drop (k*2)).take 2=ev (E.getD k ze):=by
 induction E with
 | nil=>intro k hk;cases hk
 | cons e r ih=>
  intro k hk;cases k with
  | zero=>rfl
  | succ k=>
   have:=ih k (by simpa using hk)
   show ((ev e++lv r).drop ((k+1)*2)).take 2=_;rw [List.drop_append,show (ev e).drop ((k+1)*2)=[] by rw [List.drop_eq_nil_of_le];simp [ev];omega,show (k+1)*2 - (ev e).length=k*2 by simp [ev];omega,ql,this];rfl
theorem arK (E:List aX) (k:Nat) (hk:k<E.length) (w:World):(part 142 (lv E).toArray (k*2)).run Tryz.prog w= .ok (.agg (ev (E.getD k ze)).toArray) w:=by
 have ha:(isAgg 142).run Tryz.prog w= .ok true w:=by unfold isAgg;rw [jh,xw Tryz.underlying142 w];rfl
 have hz:=run_sizeOf (P:=Tryz.prog) (e:=142) (sz:=2) kr w;unfold part;rw [jh,ha];simp only [rQ,wH];rw [jh,hz];simp only [rQ]
 have:(lv E).toArray.extract (k*2) (k*2+2)=(ev (E.getD k ze)).toArray:=by
  rw [List.extract_toArray,adY,show k*2+2 - k*2=2 by omega,aqh E k hk]
 rw [this];rfl
theorem QL (w:World) (E:List aX) (hE:E.length=4) (k:Nat) (hk:k<4):(Instr.index 144 (.agg (lv E).toArray) (.int .i64 (k:Int))).run Tryz.prog w= .ok (.agg (ev (E.getD k ze)).toArray) w:=
 Yg w _ _ 4 2 Tryz.underlying144 kr _ k hk _ (arK E k om w)
theorem Wv (e:aX) (w:World):(Instr.field 142 (.agg (ev e).toArray) 1).run Tryz.prog w= .ok (.int .i64 (e.first:Nat)) w:=by
 kernel_rfl
theorem Wu (e:aX) (w:World):(Instr.field 142 (.agg (ev e).toArray) 0).run Tryz.prog w= .ok (.string (bJ e.name)) w:=by
 kernel_rfl
attribute [local go_sem] Wu Wv pW pV
theorem auY (w:World) (v:Nat) (Cv Lv:Value) (V:aB) (h:aN w v Cv Lv V) (h5:5<V.C.length) (s:ByteArray) (hs:s.size≤maxLen) (n:Int) (i:Nat) (hi:i<lenOf (aY (cl V.C 5))) (he:nT V s=(((i:Nat):Int),0)) (hin:rH V.C ((aY (cl V.C 5)).getD i ze).first):
  Calls Tryz.prog 98 #[.pointer (some ⟨v,0,none⟩),.string s,.int .i64 n] w fun e w'=>e= .returned (.tuple #[.agg (cv (xQ V s n).1).toArray,.int .i64 ((xQ V s n).2:Nat)])∧aC w w':=by
 have L0:=dU.one w (.cells (cv zc).toArray 38);have He:=ah (Wn _ v Cv Lv V (h.below L0.below) h5 s hs);have H:=ah h;have L0:=ah L0;have hlen:=Sr h.kE hin n;have h4:=zU (aY (cl V.C 5));have hel:=Df (cl V.C 5);clear h;have hR:xQ V s n=wP V.C ((aY (cl V.C 5)).getD i ze).first n:=by unfold xQ;rw [he];rfl
 rw [hR];rw [he] at He;dsimp only at He;have Hl:Hid (∀ W,aN W v Cv Lv V→_):=fun W hW=>J6 W v Cv Lv V hW h5;have Hr:Hid (∀ W,aN W v Cv Lv V→_):=fun W hW=>ajM W v Cv Lv V hW ((aY (cl V.C 5)).getD i ze).first n hin;have Hx:=fun W=>QL W (aY (cl V.C 5)) hel i om;clear hin hR he;generalize wP V.C ((aY (cl V.C 5)).getD i ze).first n=R at*;obtain ⟨c,k⟩:=R;dsimp only at hlen Hr ⊢;generalize (aY (cl V.C 5)).getD i ze=ent at*;generalize aY (cl V.C 5)=E at*
 go_enter Tryz.func98,Tryz.ntmps98
 go_wp2_with fail
 refine He.mono ?_;rintro e w1 ⟨rfl,hb1⟩;have L1:=ah (L0.later hb1);clear hb1 He L0
 go_wp2_with fail
 refine (uh Hl _ (H.below L1.below)).mono ?_;rintro e w2 ⟨rfl,hb2⟩;have L2:=ah (L1.later hb2);have Hx2:=Hx w2;clear hb2 Hl L1 Hx
 go_wp2_with fail
 refine (uh Hr _ (H.below L2.below)).mono ?_;rintro e w3 ⟨rfl,hb3⟩;have L3:=L2.later hb3;have th:=iI L3.o0 0 64 (by simp [bg,aV]);have L4:=L3.setCells 0 rfl 0 (cv c);rw [jL,qw _ _ (by simp [bg,aV,hlen])] at L4;have l3:=gZ L4.o0 hlen;have l4:=gY L4.o0 hlen;have HB:=ah L4.below;clear L4 L3 hb3 Hr L2 Hx2;go_wp2;refine gV (v:= .tuple #[.agg (cv c).toArray,.int .i64 (k:Nat)]) (by rw [EK Tryz.results98];simp only [dw];simp [asAddr,dK l3,l4]) rfl ⟨rfl,uh HB⟩
theorem auX (w:World) (v:Nat) (Cv Lv:Value) (V:aB) (h:aN w v Cv Lv V) (h5:5<V.C.length) (s:ByteArray) (hs:s.size≤maxLen) (n:Int) (hin: ∀ k,k<lenOf (aY (cl V.C 5))→rH V.C ((aY (cl V.C 5)).getD k ze).first):
  Calls Tryz.prog 98 #[.pointer (some ⟨v,0,none⟩),.string s,.int .i64 n] w fun e w'=>e= .returned (.tuple #[.agg (cv (xQ V s n).1).toArray,.int .i64 ((xQ V s n).2:Nat)])∧aC w w':=by
 rcases Wj V s with (e | e) | ⟨i,hi,e,_⟩
 ·exact ak2 w v Cv Lv V h h5 s hs n 2 e dc
 ·exact ak2 w v Cv Lv V h h5 s hs n 4 e dc
 ·exact auY w v Cv Lv V h h5 s hs n i hi e (hin i hi)
theorem ajL {V:aB} (hl: ∀ c ∈ V.C,c.length=64) (s:ByteArray) (n:Int) (hin: ∀ k,k<lenOf (aY (cl V.C 5))→rH V.C ((aY (cl V.C 5)).getD k ze).first):(xQ V s n).1.length=64:=by
 unfold xQ;rcases Wj V s with (e | e) | ⟨i,hi,e,_⟩
 ·rw [e];exact aV
 ·rw [e];exact aV
 ·rw [e];exact Sr hl (hin i hi) n
theorem an7 (w:World) (d v:Nat) (Cv Lv:Value) (V:aB) (h:pq w d v Cv Lv V) (h5:5<V.C.length) (s:ByteArray) (hs:s.size≤maxLen) (n:Int) (hin: ∀ k,k<lenOf (aY (cl V.C 5))→rH V.C ((aY (cl V.C 5)).getD k ze).first):
  Calls Tryz.prog 50 #[.pointer (some ⟨d,0,none⟩),.string s,.int .i64 n] w fun e w'=>e= .returned (.tuple #[.agg (cv (xQ V s n).1).toArray,.int .i64 ((xQ V s n).2:Nat)])∧aC w w':=by
 have L0:=dU.one w (.cells (cv zc).toArray 38);have h1:=h.below L0.below;have c0:=h1.c0;have Hm:=ah (G8 _ d v Cv Lv V h1);have Hr:=ah (auX _ v Cv Lv V h1.bP h5 s hs n hin);have hlen:=ajL h.bP.kE s n hin;have L0:=ah L0;clear h h1 hin;generalize xQ V s n=R at*;obtain ⟨c,k⟩:=R;dsimp only at hlen Hr ⊢
 go_enter Tryz.func50,Tryz.ntmps50
 go_wp2_with fail
 refine Hm.mono ?_;rintro e w1 ⟨rfl,rfl⟩
 go_wp2_with fail
 refine Hr.mono ?_;rintro e w2 ⟨rfl,hb2⟩;have L2:=L0.later hb2;have th:=iI L2.o0 0 64 (by simp [bg,aV]);have L3:=L2.setCells 0 rfl 0 (cv c);rw [jL,qw _ _ (by simp [bg,aV,hlen])] at L3;have l3:=gZ L3.o0 hlen;have l4:=gY L3.o0 hlen;have HB:=ah L3.below;clear L3 L2 hb2 L0 Hr Hm;go_wp2;refine gV (v:= .tuple #[.agg (cv c).toArray,.int .i64 (k:Nat)]) (by rw [EK Tryz.results50];simp only [dw];simp [asAddr,dK l3,l4]) rfl ⟨rfl,uh HB⟩
end
section
attribute [local go_sem ↓] dw fP fZ kS mP mV jJ kJ jY jU lD lH kQ ku kT mQ mW lZ ny jG qc qP qQ qF xM EF EI ED DZ
attribute [local go_sem] dK fO fV gK gy aV kX mG mM mJ mF gI jK kH jX kZ kW iJ jW lq lC lu kF jc jd lY l7 kG kY mO nI lT mD nH qh qM qO qN qL xX Ey EC Ez Ew Dz
attribute [local go_sem] pW pV Oper.semAt_some
attribute [local go_sem ↓] IV Jl
attribute [local go_sem] I9 Jb Ja
theorem Uy {P:Program} (w:World) (dT sT ty elem:TypeId) (sz b o dLen dCap:Nat) (a:Addr) (sLen sCap:Nat) (cs:List Value)
  (hu:P.underlying dT=some (.slice elem)) (hs:(P.info? elem).map (·.size)=some sz) (hn:cs.length=Nat.min sLen dLen*sz)
  (hsrc: ∀ j v,cs[j]? = some v→w.cell? (a.add j)=some v) (hc: ∀ j,j<cs.length→(w.cell? ⟨b,o+j,none⟩).isSome=true) (hf: ∀ j,j<cs.length→w.frozen? ⟨b,o+j,none⟩=false) (h1: ∀ v ∈ cs,v.oneCell'=true):
  (Builtin.copy_ #[dT,sT] ty #[.slice (some ⟨b,o,none⟩) dLen dCap,.slice (some a) sLen sCap]).run P w= .ok (goInt (Nat.min sLen dLen:Nat)) (w.setCells b o cs):=by
 have hl:=run_loadCells_list (P:=P) w a cs hsrc;have hst:=run_storeCells_cells (P:=P) b o cs 0 w (by simpa using hc) (by simpa using hf) h1;cases hq:P.info? elem with
 | none=>simp [hq] at hs
 | some i=>
  have hi:i.size=sz:=by simpa [hq] using hs
  simp [Builtin.copy_,xw hu,Builtin.lenOf,Builtin.firstCells,Go.sizeOf,typeInfo,hq,hi,← hn,hl,hst]
theorem au5 (w:World) (E:List aX) (hE:E.length=4) (p:aX) (hl:lenOf E<4):
  Calls Tryz.prog 89 #[.agg (lv E).toArray,.agg (ev p).toArray] w fun e w'=>e= .returned (.agg (lv (E.set (lenOf E) p)).toArray)∧aC w w':=by
 have L0:=dU.three w (.cells (lv E).toArray 144) (.cells (ev p).toArray 142) (.cells (lv zl).toArray 144);have l1:=fD L0.drew.o0 (n:=8) (by rw [dW,hE]);have l2:=fG L0.drew.o0 (n:=8) (by rw [dW,hE]);have l3:=fD L0.drew.o1 (n:=2) (by simp [ev]);have l4:=fG L0.drew.o1 (n:=2) (by simp [ev]);have Hl:=ah (NT ((((w.alloc (.cells (lv E).toArray 144)).alloc (.cells (ev p).toArray 142)).alloc (.cells (lv zl).toArray 144)).drew) E hE);have hki:((lenOf E:Nat):Int)<4:=om;have hset:=Ud E (lenOf E) om p;have hsl:(E.set (lenOf E) p).length=4:=by rw [rG,hE]
 have L0:=ah L0;generalize hkk:lenOf E=k at*
 go_enter Tryz.func89,Tryz.ntmps89
 go_wp2
 go_region_law (
  go_simp;go_at_call 85;refine Hl.mono ?_;rintro e w2 ⟨rfl,hb2⟩;have L2:=L0.drew.later hb2;have th:=iI L2.o0 (k*2) 2 (by rw [iR,dW,hE];omega);have m3:=fD L2.o1 (n:=2) (by simp [ev]);have m4:=fG L2.o1 (n:=2) (by simp [ev]);have L2:=ah L2)
 all_goals
  have L3:=L2.setCells 0 rfl (k*2) (ev p);rw [jL] at L3;generalize w2.setCells w.heap.size (k*2) (ev p)=w3 at*;rw [Nat.mul_comm k 2,hset] at L3;simp only [nK] at L3;have n1:=fD L3.o0 (n:=8) (by rw [dW,hsl]);have n2:=fG L3.o0 (n:=8) (by rw [dW,hsl]);have th2:=iI L3.o2 0 8 (by simp [dW,zl]);have L4:=L3.setCells 2 rfl 0 (lv (E.set k p));rw [qw _ _ (by simp [dW,zl,hE])] at L4;simp only [nK,wG] at L4;have n3:=fD L4.o2 (n:=8) (by rw [dW,hsl]);have n4:=fG L4.o2 (n:=8) (by rw [dW,hsl]);have HB:=ah L4.below;clear L4 L3 L2 hb2 th m3 m4 l1 l2 l3 l4 Hl hset;go_wp2;refine gV (qK Tryz.results89 ⟨w.heap.size+1+1,0,none⟩ rfl ?_) rfl ⟨rfl,uh HB⟩;rw [xM,xX n3,n4]
def jr (E:List aX) (i:Nat):List aX:=E.eraseIdx i++[ze]
theorem aj2 (w:World):(aag #[]).run Tryz.prog w= .ok (.agg (ev ze).toArray) w:=kr
attribute [local go_sem] aj2
theorem au6 (w:World) (E:List aX) (hE:E.length=4) (i:Nat) (hi:i<4):
  Calls Tryz.prog 112 #[.agg (lv E).toArray,.int .i64 (i:Nat)] w fun e w'=>e= .returned (.agg (lv (jr E i)).toArray)∧aC w w':=by
 match E,hE with
 | [e0,e1,e2,e3],_=>
 have L0:=(dU.two w (.cells (lv [e0,e1,e2,e3]).toArray 144) (.cells (lv zl).toArray 144)).drew;rcases (show i=0∨i=1∨i=2∨i=3 by omega) with rfl | rfl | rfl | rfl
 ·have hcp:=Uy (P:=Tryz.prog) _ 160 160 3 142 2 w.heap.size 0 4 4 ⟨w.heap.size,2,none⟩ 3 3 (lv [e1,e2,e3]) Tryz.underlying160 kr (by simp [lv,ev])
   (fun j v hv=>by rw [show (⟨w.heap.size,2,none⟩:Addr).add j=⟨w.heap.size,2+j,none⟩ by simp [Addr.add];try omega];rw [aG L0.o0,bW];simpa [lv,ev,Bh] using hv)
   (fun j hj=>by rw [aG L0.o0,bW,bI (by simp [lv,ev] at hj ⊢;try omega)];rfl) (fun j _=>eG L0.o0 _) (Qi _)
  have L1:=L0.setCells 0 rfl 0 (lv [e1,e2,e3]);rw [jL,show lU (lv [e0,e1,e2,e3]).toArray 0 (lv [e1,e2,e3])=(lv [e1,e2,e3,e3]).toArray from rfl] at L1;simp only [nK] at L1;generalize hW1:World.setCells _ w.heap.size 0 (lv [e1,e2,e3])=W1 at*;have th1:=iI L1.o0 6 2 (by simp [dW]);have L2:=L1.setCells 0 rfl 6 (ev ze);rw [jL,show lU (lv [e1,e2,e3,e3]).toArray 6 (ev ze)=(lv (jr [e0,e1,e2,e3] 0)).toArray from rfl] at L2;simp only [nK] at L2;have n1:=fD L2.o0 (n:=8) (by simp [dW,jr]);have n2:=fG L2.o0 (n:=8) (by simp [dW,jr]);have th2:=iI L2.o1 0 8 (by simp [dW,zl]);have L3:=L2.setCells 1 rfl 0 (lv (jr [e0,e1,e2,e3] 0));rw [qw _ _ (by simp [dW,zl,jr])] at L3;simp only [nK,wG] at L3;have n3:=fD L3.o1 (n:=8) (by simp [dW,jr]);have n4:=fG L3.o1 (n:=8) (by simp [dW,jr]);have hll:(jr [e0,e1,e2,e3] 0).length=4:=rfl;have HB:=ah L3.below;clear L3 L2 L1 L0;generalize jr [e0,e1,e2,e3] 0=F at*
  simp only [Zn,goInt] at hcp
  go_enter Tryz.func112,Tryz.ntmps112
  go_wp2
  go_region
  go_wp2;refine gV (qK Tryz.results112 ⟨w.heap.size+1,0,none⟩ rfl ?_) rfl ⟨rfl,uh HB⟩;rw [xM,xX n3,n4]
 ·have hcp:=Uy (P:=Tryz.prog) _ 160 160 3 142 2 w.heap.size 2 3 3 ⟨w.heap.size,4,none⟩ 2 2 (lv [e2,e3]) Tryz.underlying160 kr (by simp [lv,ev])
   (fun j v hv=>by rw [show (⟨w.heap.size,4,none⟩:Addr).add j=⟨w.heap.size,4+j,none⟩ by simp [Addr.add];try omega];rw [aG L0.o0,bW];simpa [lv,ev,Bh] using hv)
   (fun j hj=>by rw [aG L0.o0,bW,bI (by simp [lv,ev] at hj ⊢;try omega)];rfl) (fun j _=>eG L0.o0 _) (Qi _)
  have L1:=L0.setCells 0 rfl 2 (lv [e2,e3]);rw [jL,show lU (lv [e0,e1,e2,e3]).toArray 2 (lv [e2,e3])=(lv [e0,e2,e3,e3]).toArray from rfl] at L1;simp only [nK] at L1;generalize hW1:World.setCells _ w.heap.size 2 (lv [e2,e3])=W1 at*;have th1:=iI L1.o0 6 2 (by simp [dW]);have L2:=L1.setCells 0 rfl 6 (ev ze);rw [jL,show lU (lv [e0,e2,e3,e3]).toArray 6 (ev ze)=(lv (jr [e0,e1,e2,e3] 1)).toArray from rfl] at L2;simp only [nK] at L2;have n1:=fD L2.o0 (n:=8) (by simp [dW,jr]);have n2:=fG L2.o0 (n:=8) (by simp [dW,jr]);have th2:=iI L2.o1 0 8 (by simp [dW,zl]);have L3:=L2.setCells 1 rfl 0 (lv (jr [e0,e1,e2,e3] 1));rw [qw _ _ (by simp [dW,zl,jr])] at L3;simp only [nK,wG] at L3;have n3:=fD L3.o1 (n:=8) (by simp [dW,jr]);have n4:=fG L3.o1 (n:=8) (by simp [dW,jr]);have hll:(jr [e0,e1,e2,e3] 1).length=4:=rfl;have HB:=ah L3.below;clear L3 L2 L1 L0;generalize jr [e0,e1,e2,e3] 1=F at*
  simp only [Zn,goInt] at hcp
  go_enter Tryz.func112,Tryz.ntmps112
  go_wp2
  go_region
  go_wp2;refine gV (qK Tryz.results112 ⟨w.heap.size+1,0,none⟩ rfl ?_) rfl ⟨rfl,uh HB⟩;rw [xM,xX n3,n4]
 ·have hcp:=Uy (P:=Tryz.prog) _ 160 160 3 142 2 w.heap.size 4 2 2 ⟨w.heap.size,6,none⟩ 1 1 (lv [e3]) Tryz.underlying160 kr (by simp [lv,ev])
   (fun j v hv=>by rw [show (⟨w.heap.size,6,none⟩:Addr).add j=⟨w.heap.size,6+j,none⟩ by simp [Addr.add];try omega];rw [aG L0.o0,bW];simpa [lv,ev,Bh] using hv)
   (fun j hj=>by rw [aG L0.o0,bW,bI (by simp [lv,ev] at hj ⊢;try omega)];rfl) (fun j _=>eG L0.o0 _) (Qi _)
  have L1:=L0.setCells 0 rfl 4 (lv [e3]);rw [jL,show lU (lv [e0,e1,e2,e3]).toArray 4 (lv [e3])=(lv [e0,e1,e3,e3]).toArray from rfl] at L1;simp only [nK] at L1;generalize hW1:World.setCells _ w.heap.size 4 (lv [e3])=W1 at*;have th1:=iI L1.o0 6 2 (by simp [dW]);have L2:=L1.setCells 0 rfl 6 (ev ze);rw [jL,show lU (lv [e0,e1,e3,e3]).toArray 6 (ev ze)=(lv (jr [e0,e1,e2,e3] 2)).toArray from rfl] at L2;simp only [nK] at L2;have n1:=fD L2.o0 (n:=8) (by simp [dW,jr]);have n2:=fG L2.o0 (n:=8) (by simp [dW,jr]);have th2:=iI L2.o1 0 8 (by simp [dW,zl]);have L3:=L2.setCells 1 rfl 0 (lv (jr [e0,e1,e2,e3] 2));rw [qw _ _ (by simp [dW,zl,jr])] at L3;simp only [nK,wG] at L3;have n3:=fD L3.o1 (n:=8) (by simp [dW,jr]);have n4:=fG L3.o1 (n:=8) (by simp [dW,jr]);have hll:(jr [e0,e1,e2,e3] 2).length=4:=rfl;have HB:=ah L3.below;clear L3 L2 L1 L0;generalize jr [e0,e1,e2,e3] 2=F at*;simp only [Zn,goInt] at hcp
  go_enter Tryz.func112,Tryz.ntmps112
  go_wp2
  go_region
  go_wp2;refine gV (qK Tryz.results112 ⟨w.heap.size+1,0,none⟩ rfl ?_) rfl ⟨rfl,uh HB⟩;rw [xM,xX n3,n4]
 ·have hcp:=Uy (P:=Tryz.prog) _ 160 160 3 142 2 w.heap.size 6 1 1 ⟨w.heap.size,0,none⟩ 0 0 (lv []) Tryz.underlying160 kr (by simp [lv])
   (fun j v hv=>by simp [lv] at hv) (fun j hj=>by simp [lv] at hj) (fun j _=>eG L0.o0 _) (Qi _)
  have L1:=L0.setCells 0 rfl 6 (lv []);rw [jL,show lU (lv [e0,e1,e2,e3]).toArray 6 (lv [])=(lv [e0,e1,e2,e3]).toArray from rfl] at L1;simp only [nK] at L1;generalize hW1:World.setCells _ w.heap.size 6 (lv [])=W1 at*;have th1:=iI L1.o0 6 2 (by simp [dW]);have L2:=L1.setCells 0 rfl 6 (ev ze);rw [jL,show lU (lv [e0,e1,e2,e3]).toArray 6 (ev ze)=(lv (jr [e0,e1,e2,e3] 3)).toArray from rfl] at L2;simp only [nK] at L2;have n1:=fD L2.o0 (n:=8) (by simp [dW,jr]);have n2:=fG L2.o0 (n:=8) (by simp [dW,jr]);have th2:=iI L2.o1 0 8 (by simp [dW,zl]);have L3:=L2.setCells 1 rfl 0 (lv (jr [e0,e1,e2,e3] 3));rw [qw _ _ (by simp [dW,zl,jr])] at L3;simp only [nK,wG] at L3;have n3:=fD L3.o1 (n:=8) (by simp [dW,jr]);have n4:=fG L3.o1 (n:=8) (by simp [dW,jr]);have hll:(jr [e0,e1,e2,e3] 3).length=4:=rfl;have HB:=ah L3.below;clear L3 L2 L1 L0;generalize jr [e0,e1,e2,e3] 3=F at*;simp only [Zn,goInt] at hcp
  go_enter Tryz.func112,Tryz.ntmps112
  go_wp2
  go_region
  go_wp2;refine gV (qK Tryz.results112 ⟨w.heap.size+1,0,none⟩ rfl ?_) rfl ⟨rfl,uh HB⟩;rw [xM,xX n3,n4]
end
end Go.Proofs.YtknjjjenklfeoaaGreatDoor
