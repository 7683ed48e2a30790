import Derived.Test.YtknjjjenklfeoaaGreatDoorO19
set_option maxHeartbeats 8000000
set_option maxRecDepth 100000
set_option linter.all false
namespace Go.Proofs.YtknjjjenklfeoaaGreatDoor
open Go.RowKit
section
def abm:aj:=yR++List.replicate 60 0
theorem afA (c:aj) (k n m:Nat) (hk:k+1<c.length) (hn:n<65536):aI (uU c k n) m=if m=k then n / 256 else if m=k+1 then n%256 else aI c m:=by
 have e1:(UInt8.ofNat (n / 256)).toNat=n / 256:=by rw [MN];omega
 have e2:(UInt8.ofNat (n%256)).toNat=n%256:=by rw [MN];omega
 unfold uU;rw [Aj _ _ _ _ (by simpa using hk),Aj _ _ _ _ om,e1,e2]
 by_cases h1:m=k
 ·subst h1;rw [ak om,au rfl,au rfl]
 ·rw [ak h1]
  by_cases h2:m=k+1
  ·subst h2;rw [au rfl,au rfl]
  ·rw [ak (fun e=>h2 e.symm),ak (fun e=>h1 e.symm),ak h2]
section
variable {a b:Nat}
theorem PI (ha:a<65536) (hb:b<65536) (m:Nat):aI (fE a b) m=if m=6 then b / 256 else if m=7 then b%256 else if m=4 then a / 256 else if m=5 then a%256 else aI abm m:=by
 unfold fE;rw [afA _ 6 b m (by rw [QC];decide) hb,afA _ 4 a m dc ha];rfl
theorem aqR (ha:a<65536) (hb:b<65536):num (fE a b) 4=a:=by
 unfold num;rw [PI ha hb,PI ha hb];simp only [show ¬ (4=6) by decide,show ¬ (4=7) by decide,show ¬ (4+1=6) by decide,show ¬ (4+1=7) by decide,show ¬ (4+1=4) by decide,wH,yc];omega
theorem aqS (ha:a<65536) (hb:b<65536):num (fE a b) 6=b:=by
 unfold num;rw [PI ha hb,PI ha hb];simp only [show ¬ (6+1=6) by decide,wH,yc];omega
theorem ajT (c:aj): ∀ m i,(∀ j,i≤j→j<i+m→aI c j=0)→uX c m i=true
 | 0,_,_=>rfl
 | m+1,i,h=>by
  rw [uX,au (h i om om)];exact ajT c m (i+1) (fun j h1 h2=>h j om om)
theorem ahk: ∀ j:Fin 64,8≤j.val→aI abm j.val=0:=dc
theorem ahm (ha:a<65536) (hb:b<65536):uX (fE a b) 56 8=true:=
 ajT _ _ _ fun j h1 h2=>by
  rw [PI ha hb,ak om,ak om,ak om,ak om];exact ahk ⟨j,om⟩ h1
theorem aho:(fE a b).take 4=yR:=by
 unfold fE uU;rw [Zi om,Zi om,Zi om,Zi om];rfl
end
theorem XM {C:List aj}:aZ C C.length=C:=by
 unfold aZ;apply uH;intro i;rw [jD]
 by_cases h:i<C.length
 ·rw [x9 h,EM,au h,cl,aK,bI h];rfl
 ·rw [eu (by simpa using h),eu om];rfl
theorem anE (w:World):Calls Tryz.prog 159 #[.slice none 0 0] w fun e w'=>e= .returned (.slice none 0 0)∧w'=w:=by
 have hq:=run_eql_slice_nil (P:=Tryz.prog) w 58 104 none 0 0 Tryz.underlying58
 go_enter Tryz.func159,Tryz.ntmps159
 go_wp2;go_ret;exact ⟨rfl,rfl⟩
theorem anF (w:World) (g cap:Nat):Calls Tryz.prog 159 #[.slice (some ⟨g,0,none⟩) 0 cap] w fun e w'=> ∃ v,e= .returned v∧w'.ownsRow w.heap.size 104 65 v 0 []∧aC w w':=by
 have hq:=run_eql_slice_nil (P:=Tryz.prog) w 58 104 (some ⟨g,0,none⟩) 0 cap Tryz.underlying58
 go_enter Tryz.func159,Tryz.ntmps159
 go_wp2;go_ret;exact ⟨_,rfl,acR w _ _ _ (aP _),fC⟩
theorem anC (w:World) (Lv:Value) (L:List iU) (hL: ∀ x ∈ L,x.data.length=64) (hr:w.ownsRow 0 104 65 Lv L.length (iY L)) (h1:L.length≤1000000000):
  Calls Tryz.prog 159 #[Lv] w fun e w'=> ∃ v,e= .returned v∧w'.ownsRow w.heap.size 104 65 v L.length (iY L)∧aC w w':=by
 by_cases h0:0<L.length
 ·obtain ⟨g,cap,rfl,_⟩:=gB hr h0;exact anD w g cap L hL hr h0 h1
 ·have hl:L=[]:=Y8 om;subst hl;rcases hr.2 with ⟨rfl,_⟩ | ⟨g,cap,cur,rfl,_⟩
  ·refine (anE w).mono ?_;rintro e w' ⟨rfl,rfl⟩;exact ⟨_,rfl,wF _ _ _ _,bG _ _⟩
  ·exact anF w g cap
theorem atS (w:World) (v:Nat) (Cv Lv:Value) (V:aB) (h:aN w v Cv Lv V) (h1:V.L.length≤1000000000):
  Calls Tryz.prog 102 #[.pointer (some ⟨v,0,none⟩)] w fun e w'=> ∃ x,e= .returned x∧w'.ownsRow w.heap.size 104 65 x V.L.length (iY V.L)∧aC w w':=by
 have c1:=h.c1;obtain ⟨a,cap,JV⟩:=iq h.fF;have Hc:=ah (anC w Lv V.L h.zT h.fF h1);subst JV
 go_enter Tryz.func102,Tryz.ntmps102
 go_wp2_with fail
 refine Hc.mono ?_;rintro e w1 ⟨x,rfl,hr,hb⟩;go_wp2;go_ret;exact ⟨x,rfl,hr,hb⟩
theorem auS (w:World) (v:Nat) (Cv Lv:Value) (V:aB) (h:aN w v Cv Lv V) (h1:V.L.length≤1000000000):
  Calls Tryz.prog 53 #[.pointer (some ⟨v,0,none⟩)] w fun e w'=> ∃ x,e= .returned x∧w'.ownsRow w.heap.size 104 65 x V.L.length (iY V.L)∧aC w w':=by
 have Hc:=ah (atS w v Cv Lv V h h1)
 go_enter Tryz.func53,Tryz.ntmps53
 go_wp2_with fail
 refine Hc.mono ?_;rintro e w1 ⟨x,rfl,hr,hb⟩;go_wp2;go_ret;exact ⟨x,rfl,hr,hb⟩
theorem aaO (w:World) (d v:Nat) (Cv Lv:Value) (V:aB) (h:pq w d v Cv Lv V) (h1:V.L.length≤1000000000):
  Calls Tryz.prog 24 #[.pointer (some ⟨d,0,none⟩)] w fun e w'=> ∃ x,e= .returned x∧w'.ownsRow w.heap.size 104 65 x V.L.length (iY V.L)∧aC w w':=by
 have c0:=h.c0;have Hm:=ah (G8 w d v Cv Lv V h);have Hc:=ah (auS w v Cv Lv V h.bP h1)
 go_enter Tryz.func24,Tryz.ntmps24
 go_wp2_with fail
 refine Hm.mono ?_;rintro e w1 ⟨rfl,rfl⟩
 go_wp2_with fail
 refine Hc.mono ?_;rintro e w1 ⟨x,rfl,hr,hb⟩;go_wp2;go_ret;exact ⟨x,rfl,hr,hb⟩
end
section
abbrev nm (L:List aj) (t k:Nat):Nat:=num (cl L t) (2*k)
def iH (x n:Nat):Nat:=if x≠0∧x%32768=n then 1 else 0
def sK (f:Nat→Nat):Nat→Nat→Nat
 | 0,_=>0
 | m+1,k=>f k+sK f m (k+1)
theorem adf {f g:Nat→Nat}: ∀ m k,(∀ j,k≤j→j<k+m→f j=g j)→sK f m k=sK g m k
 | 0,_,_=>rfl
 | m+1,k,h=>by rw [sK,sK,h k om om,adf m (k+1) (fun j h1 h2=>h j om om)]
theorem adg {f g:Nat→Nat} {a:Nat}: ∀ m k,k≤a→a<k+m→(∀ j,k≤j→j<k+m→j≠a→f j=g j)→sK f m k+g a=sK g m k+f a
 | 0,_,h1,h2,_=>om
 | m+1,k,h1,h2,h=>by
  rw [sK,sK]
  by_cases e:k=a
  ·subst e;rw [adf m (k+1) (fun j h3 h4=>h j om om om)];omega
  ·have:=adg m (k+1) om om (fun j h3 h4 h5=>h j om om h5)
   have:=h k om om e
   omega
theorem YH {f:Nat→Nat} {a:Nat}: ∀ m k,k≤a→a<k+m→f a≤sK f m k
 | 0,_,h1,h2=>om
 | m+1,k,h1,h2=>by
  rw [sK]
  by_cases e:k=a
  ·subst e;omega
  ·have:=YH (f:=f) m (k+1) (a:=a) om om;omega
theorem adh {f:Nat→Nat} {a b:Nat} (hab:a<b): ∀ m k,k≤a→b<k+m→f a+f b≤sK f m k
 | 0,_,h1,h2=>om
 | m+1,k,h1,h2=>by
  rw [sK]
  by_cases e:k=a
  ·subst e
   have:=YH (f:=f) m (k+1) (a:=b) om om;omega
  ·have:=adh (f:=f) hab m (k+1) om om;omega
theorem akw {f:Nat→Nat}: ∀ m k,(∀ j,k≤j→j<k+m→f j=0)→sK f m k=0
 | 0,_,_=>rfl
 | m+1,k,h=>by rw [sK,h k om om,akw m (k+1) (fun j h1 h2=>h j om om)]
theorem GU {x n:Nat} (h0:x≠0) (h:x%32768=n):iH x n=1:=by unfold iH;rw [au ⟨h0,h⟩]
theorem TF (n:Nat):iH 0 n=0:=by unfold iH;rw [ak sm]
def kN (x y:Nat):Prop:=(x=0↔y=0)∧x%32768=y%32768
theorem kN.iH {x y:Nat} (h:kN x y) (n:Nat):iH x n=iH y n:=by
 unfold Go.Proofs.YtknjjjenklfeoaaGreatDoor.iH
 by_cases e:x≠0∧x%32768=n
 ·rw [au e,au ⟨fun z=>e.1 (h.1.2 z),by rw [← h.2];exact e.2⟩]
 ·rw [ak e,ak (fun z=>e ⟨fun y0=>z.1 (h.1.1 y0),by rw [h.2];exact z.2⟩)]
theorem kN.refl (x:Nat):kN x x:=⟨Iff.rfl,rfl⟩
def yG (L:List aj) (s n:Nat):Nat:=sK (fun k=>iH (nm L s k) n) 32 0
def nJ (L:List aj) (t j n:Nat):Nat:=if nm L t j=0 then 0 else iH (nm L t j) n+yG L (nm L t j%32768) n
def kK (L:List aj) (t n:Nat):Nat:=(if t=n then 1 else 0)+(nJ L t 0 n+nJ L t 1 n)
def dM (L:List aj) (rs:List bC) (n:Nat):Nat:=(rs.map fun r=>kK L r.N n).sum
theorem ai7 (n:Nat):zX [] n=0:=rfl
theorem ach (x:Nat × Nat) (ts:wL) (n:Nat):zX (x :: ts) n=(if x.1=n then 1 else 0)+zX ts n:=by
 unfold zX;rw [jC,DI,Bh]
 simp
theorem ai6 (L:List aj) (t n:Nat): ∀ m k,zX (tY L t m k) n=sK (fun k=>iH (nm L t k) n) m k
 | 0,_=>rfl
 | m+1,k=>by
  rw [tY,sK,acg,ai6 L t n m (k+1)]
  congr 1
  by_cases h:num (cl L t) (2*k)=0
  ·rw [au h,ai7];unfold nm;rw [h,TF]
  ·rw [ak h,ach,ai7,jL];unfold iH
   by_cases e:num (cl L t) (2*k)%32768=n
   ·rw [au e,au ⟨h,e⟩]
   ·rw [ak e,ak (fun x=>e x.2)]
theorem ai8 (L:List aj) (t j n:Nat):zX (Jc L t j) n=nJ L t j n:=by
 unfold Jc nJ
 by_cases h:num (cl L t) (2*j)=0
 ·rw [au h,au h];rfl
 ·rw [ak h,ak h,ach,ai6];unfold yG iH nm
  by_cases e:num (cl L t) (2*j)%32768=n
  ·rw [au e,au ⟨h,e⟩]
  ·rw [ak e,ak (fun x=>e x.2)]
theorem ajg (L:List aj) (t:Nat): ∀ m i,(∀ j,i≤j→j<i+m→num (cl L t) (2*j)=0)→uq L t m i=[]
 | 0,_,_=>rfl
 | m+1,i,h=>by rw [uq,au (h i om om),ajg L t m (i+1) (fun j h1 h2=>h j om om)];rfl
theorem UO {L:List aj} {t:Nat} (hz: ∀ i,1<i→i<32→num (cl L t) (2*i)=0):xq L t=(t,1) :: (Jc L t 0++Jc L t 1):=by
 rw [xq,ars,ajg L t 30 2 (fun j h1 h2=>hz j om om),rU]
theorem aq1 {L:List aj} {t:Nat} (hz: ∀ i,1<i→i<32→num (cl L t) (2*i)=0) (n:Nat):zX (xq L t) n=kK L t n:=by
 rw [UO hz,ach,acg,ai8,ai8];rfl
theorem ae1 (L:List aj) (rs:List bC): ∀ m i,i+m=rs.length→lM L rs m i=(rs.drop i).flatMap fun r=>xq L r.N
 | 0,i,h=>by rw [U8 om];rfl
 | m+1,i,h=>by
  rw [lM,ae1 L rs m (i+1) om];have hi:i<rs.length:=om;rw [KO hi,qA,aK,bI hi];rfl
theorem VI (L:List aj) (rs:List bC):lM L rs rs.length 0=rs.flatMap fun r=>xq L r.N:=by
 rw [ae1 L rs rs.length 0 om,U9]
theorem ai5 (L:List aj) (n:Nat): ∀ rs:List bC,(∀ r ∈ rs,∀ i,1<i→i<32→num (cl L r.N) (2*i)=0)→zX (rs.flatMap fun r=>xq L r.N) n=dM L rs n
 | [],_=>rfl
 | r :: rs,hz=>by
  rw [qA,acg,ai5 L n rs (fun x hx=>hz x (by simp [hx])),aq1 (hz r sm)];simp [dM]
theorem N9 {L:List aj} {rs:List bC} (hz: ∀ r ∈ rs,∀ i,1<i→i<32→num (cl L r.N) (2*i)=0) (n:Nat):zX (lM L rs rs.length 0) n=dM L rs n:=by
 rw [VI,ai5 L n rs hz]
def ng (rs:List bC) (t:Nat):Prop:= ∃ r ∈ rs,r.N=t
def fB (L:List aj) (rs:List bC) (s:Nat):Prop:= ∃ r ∈ rs,∃ j,j<2∧nm L r.N j≠0∧nm L r.N j%32768=s
def oK (L:List aj) (rs:List bC) (n:Nat):Prop:= ∃ s,fB L rs s∧ ∃ k,k<32∧nm L s k≠0∧nm L s k%32768=n
structure cZ (L:List aj) (rs:List bC):Prop where
 len:L.length≤256
 qj:6≤L.length
 fst: ∀ r ∈ rs,6≤r.N∧r.N<L.length
 nodup:(rs.map (·.N)).Nodup
 zero: ∀ r ∈ rs,∀ i,1<i→i<32→nm L r.N i=0
 sec: ∀ s,fB L rs s→6≤s∧s<L.length
 aF: ∀ n,oK L rs n→6≤n∧n<L.length
 fs: ∀ t,ng rs t→ ¬ fB L rs t
 fb: ∀ t,ng rs t→ ¬ oK L rs t
 sb: ∀ t,fB L rs t→ ¬ oK L rs t
 jy: ∀ n,n<256→gX n+dM L rs n≤aS L n
 top: ∀ n,n<256→aS L n<255
 none: ∀ n,n<256→L.length≤n→aS L n=0
 BU: ∀ r ∈ rs,∀ j,j<2→32768≤nm L r.N j→aS L (nm L r.N j%32768)=1
 AB: ∀ s,fB L rs s→ ∀ k,k<32→32768≤nm L s k→aS L (nm L s k%32768)=1
structure wI (L:List aj) (rs:List bC):Prop where
 eq: ∀ n,n<256→aS L n=gX n+dM L rs n
 Xg: ∀ r ∈ rs,∀ j,j<2→nm L r.N j≠0→aS L (nm L r.N j%32768)=1→32768≤nm L r.N j
 Xh: ∀ s,fB L rs s→ ∀ k,k<32→nm L s k≠0→aS L (nm L s k%32768)=1→32768≤nm L s k
theorem aiI (L:List aj) (t:Nat) (x:Nat × Nat): ∀ m k,x ∈ tY L t m k↔ ∃ j,k≤j∧j<k+m∧nm L t j≠0∧x=(nm L t j%32768,3)
 | 0,k=>by
  rw [tY];exact ⟨fun h=>by simp at h,fun ⟨j,h1,h2,_⟩=>om⟩
 | m+1,k=>by
  rw [tY,gq,aiI L t x m (k+1)];constructor
  ·rintro (h | ⟨j,h1,h2,h3⟩)
   ·split at h
    ·simp at h
    ·rename_i h0;exact ⟨k,om,om,h0,by simpa using h⟩
   ·exact ⟨j,om,om,h3⟩
  ·rintro ⟨j,h1,h2,h3,h4⟩
   by_cases e:j=k
   ·subst e;left;rw [ak h3];simpa using h4
   ·right;exact ⟨j,om,om,h3,h4⟩
theorem Uf (L:List aj) (t j:Nat) (x:Nat × Nat):x ∈ Jc L t j↔nm L t j≠0∧(x=(nm L t j%32768,2)∨ ∃ k,k<32∧nm L (nm L t j%32768) k≠0∧x=(nm L (nm L t j%32768) k%32768,3)):=by
 unfold Jc
 by_cases h:num (cl L t) (2*j)=0
 ·rw [au h];exact ⟨fun h=>by simp at h,fun z=>absurd h z.1⟩
 ·rw [ak h,dD,aiI];constructor
  ·rintro (e | ⟨k,_,h2,h3,h4⟩)
   ·exact ⟨h,aA e⟩
   ·exact ⟨h,ay ⟨k,om,h3,h4⟩⟩
  ·rintro ⟨_,e | ⟨k,h2,h3,h4⟩⟩
   ·exact aA e
   ·exact ay ⟨k,om,om,h3,h4⟩
section
variable {L:List aj} {rs:List bC}
theorem AL (hz: ∀ r ∈ rs,∀ i,1<i→i<32→nm L r.N i=0) (x:Nat × Nat):
  x ∈ lM L rs rs.length 0↔(x.2=1∧ng rs x.1)∨(x.2=2∧fB L rs x.1)∨(x.2=3∧oK L rs x.1):=by
 rw [VI,Ae];constructor
 ·rintro ⟨r,hr,hx⟩;rw [UO (hz r hr),dD,gq,Uf,Uf] at hx;rcases hx with rfl | ⟨h0,rfl | ⟨k,hk,h1,rfl⟩⟩ | ⟨h0,rfl | ⟨k,hk,h1,rfl⟩⟩
  ·exact aA ⟨rfl,r,hr,rfl⟩
  ·exact ay (aA ⟨rfl,r,hr,0,om,h0,rfl⟩)
  ·exact ay (ay ⟨rfl,_,⟨r,hr,0,om,h0,rfl⟩,k,hk,h1,rfl⟩)
  ·exact ay (aA ⟨rfl,r,hr,1,om,h0,rfl⟩)
  ·exact ay (ay ⟨rfl,_,⟨r,hr,1,om,h0,rfl⟩,k,hk,h1,rfl⟩)
 ·have key: ∀ r ∈ rs,∀ j,j<2→ ∀ y,y ∈ Jc L r.N j→y ∈ xq L r.N:=by
   intro r hr j hj y hy;rw [UO (hz r hr),dD,gq]
   have:j=0∨j=1:=om
   rcases this with rfl | rfl
   ·exact ay (aA hy)
   ·exact ay (ay hy)
  rintro (⟨h2,r,hr,e⟩ | ⟨h2,r,hr,j,hj,h0,e⟩ | ⟨h2,s,⟨r,hr,j,hj,h0,e⟩,k,hk,h1,e2⟩)
  ·refine ⟨r,hr,?_⟩;rw [UO (hz r hr),dD];exact aA (KQ e.symm h2)
  ·exact ⟨r,hr,key r hr j hj x ((Uf _ _ _ _).2 ⟨h0,aA (KQ e.symm h2)⟩)⟩
  ·subst e;exact ⟨r,hr,key r hr j hj x ((Uf _ _ _ _).2 ⟨h0,ay ⟨k,hk,h1,KQ e2.symm h2⟩⟩)⟩
theorem an0 {t:Nat} (hz: ∀ i,1<i→i<32→nm L t i=0) (n:Nat):(xq L t).count (n,1)=if t=n then 1 else 0:=by
 have key: ∀ j,(Jc L t j).count (n,1)=0:=by
  intro j;rw [FU];intro h;obtain ⟨_,e | ⟨k,_,_,e⟩⟩:=(Uf L t j _).1 h <;> simp at e
 rw [UO hz,DI,Ik,key,key]
 by_cases e:t=n <;> simp [e]
theorem aaI (n:Nat): ∀ rs:List bC,(∀ r ∈ rs,∀ i,1<i→i<32→nm L r.N i=0)→(rs.flatMap fun r=>xq L r.N).count (n,1)=(rs.map (·.N)).count n
 | [],_=>rfl
 | r :: rs,hz=>by
  rw [qA,Ik,aaI n rs (fun x hx=>hz x (by simp [hx])),an0 (hz r sm),jC,DI,Bh]
  simp
theorem cZ.ok (h:cZ L rs):wK L (lM L rs rs.length 0):=by
 refine ⟨fun x hx=> ?_,fun x hx y hy e=> ?_,fun n=> ?_⟩
 ·rcases (AL h.zero x).1 hx with ⟨h2,r,hr,e⟩ | ⟨h2,hs⟩ | ⟨h2,hs⟩
  ·have:=h.fst r hr;omega
  ·have:=h.sec _ hs;omega
  ·have:=h.aF _ hs;omega
 ·rcases (AL h.zero x).1 hx with ⟨h2,hf⟩ | ⟨h2,hs⟩ | ⟨h2,hs⟩
  ·rcases (AL h.zero y).1 hy with ⟨k2,kf⟩ | ⟨k2,ks⟩ | ⟨k2,ks⟩
   ·omega
   ·rw [e] at hf;exact absurd ks (h.fs _ hf)
   ·rw [e] at hf;exact absurd ks (h.fb _ hf)
  ·rcases (AL h.zero y).1 hy with ⟨k2,kf⟩ | ⟨k2,ks⟩ | ⟨k2,ks⟩
   ·rw [← e] at kf;exact absurd hs (h.fs _ kf)
   ·omega
   ·rw [e] at hs;exact absurd ks (h.sb _ hs)
  ·rcases (AL h.zero y).1 hy with ⟨k2,kf⟩ | ⟨k2,ks⟩ | ⟨k2,ks⟩
   ·rw [← e] at kf;exact absurd hs (h.fb _ kf)
   ·rw [← e] at ks;exact absurd hs (h.sb _ ks)
   ·omega
 ·rw [VI,aaI n rs h.zero];exact List.nodup_iff_count.1 h.nodup n
theorem OA {r:bC} (hr:r ∈ rs) (n:Nat):kK L r.N n≤dM L rs n:=by
 unfold dM
 induction rs with
 | nil=>simp at hr
 | cons a l ih=>
  rw [jC,Il];rcases dD.1 hr with rfl | h
  ·omega
  ·have:=ih h;omega
theorem auH {t:Nat} (h:ng rs t):1≤dM L rs t:=by
 obtain ⟨r,hr,rfl⟩:=h
 have:=OA (L:=L) hr r.N
 unfold kK at this;rw [au rfl] at this;omega
theorem Om (L:List aj) (t j n:Nat) (hj:j<2):nJ L t j n≤kK L t n:=by
 unfold kK
 have:j=0∨j=1:=om
 rcases this with rfl | rfl <;> omega
theorem QV {s:Nat} (h:fB L rs s):1≤dM L rs s:=by
 obtain ⟨r,hr,j,hj,h0,e⟩:=h;have h1:=OA (L:=L) hr s;have h2:=Om L r.N j s hj;unfold nJ at h2;rw [ak h0,GU h0 e] at h2;omega
theorem QU {n:Nat} (h:oK L rs n):1≤dM L rs n:=by
 obtain ⟨s,⟨r,hr,j,hj,h0,e⟩,k,hk,h3,e2⟩:=h;have h1:=OA (L:=L) hr n;have h2:=Om L r.N j n hj;have h4:=YH (f:=fun k=>iH (nm L s k) n) (a:=k) 32 0 om om;unfold nJ yG at h2;rw [ak h0,e] at h2;simp only [GU h3 e2] at h4;omega
end
structure Shape (L L':List aj) (rs:List bC):Prop where
 t1: ∀ r ∈ rs,∀ j,j<32→kN (nm L' r.N j) (nm L r.N j)
 t2: ∀ s,fB L rs s→ ∀ k,k<32→kN (nm L' s k) (nm L s k)
section
variable {L L' L2:List aj} {rs:List bC}
theorem Shape.rJ (h:Shape L L' rs) (s:Nat):fB L' rs s↔fB L rs s:=by
 constructor
 ·rintro ⟨r,hr,j,hj,h0,e⟩
  have:=h.t1 r hr j om
  exact ⟨r,hr,j,hj,fun x=>h0 (this.1.2 x),by rw [← this.2];exact e⟩
 ·rintro ⟨r,hr,j,hj,h0,e⟩
  have:=h.t1 r hr j om
  exact ⟨r,hr,j,hj,fun x=>h0 (this.1.1 x),by rw [this.2];exact e⟩
theorem Shape.zS (h:Shape L L' rs) (n:Nat):oK L' rs n↔oK L rs n:=by
 constructor
 ·rintro ⟨s,hs,k,hk,h0,e⟩;have hs':=(h.rJ s).1 hs
  have:=h.t2 s hs' k hk
  exact ⟨s,hs',k,hk,fun x=>h0 (this.1.2 x),by rw [← this.2];exact e⟩
 ·rintro ⟨s,hs,k,hk,h0,e⟩
  have:=h.t2 s hs k hk
  exact ⟨s,(h.rJ s).2 hs,k,hk,fun x=>h0 (this.1.1 x),by rw [this.2];exact e⟩
theorem Shape.of_same (h1: ∀ r ∈ rs,cl L' r.N=cl L r.N) (h2: ∀ s,fB L rs s→cl L' s=cl L s):Shape L L' rs:=
 ⟨fun r hr j _=>by unfold nm;rw [h1 r hr];exact kN.refl _,fun s hs k _=>by unfold nm;rw [h2 s hs];exact kN.refl _⟩
theorem ahM {s n:Nat} (h: ∀ k,k<32→kN (nm L' s k) (nm L s k)):yG L' s n=yG L s n:=
 adf 32 0 fun j _ hj=>(h j om).iH n
theorem Ym {t j n:Nat} (h:kN (nm L' t j) (nm L t j)) (h2:nm L t j≠0→ ∀ k,k<32→kN (nm L' (nm L t j%32768) k) (nm L (nm L t j%32768) k)):nJ L' t j n=nJ L t j n:=by
 unfold nJ
 by_cases e:nm L t j=0
 ·rw [au e,au (h.1.2 e)]
 ·rw [ak e,ak (fun x=>e (h.1.1 x)),h.iH n,h.2,ahM (h2 e)]
theorem Shape.tree (h:Shape L L' rs) {r:bC} (hr:r ∈ rs) (n:Nat):kK L' r.N n=kK L r.N n:=by
 unfold kK;rw [Ym (h.t1 r hr 0 om) (fun h0=>h.t2 _ ⟨r,hr,0,om,h0,rfl⟩),Ym (h.t1 r hr 1 om) (fun h0=>h.t2 _ ⟨r,hr,1,om,h0,rfl⟩)]
theorem Shape.use (h:Shape L L' rs) (n:Nat):dM L' rs n=dM L rs n:=by
 unfold dM;rw [Ii (fun r hr=>h.tree hr n)]
theorem cZ.shape (h:cZ L rs) (hs:Shape L L' rs) (hl:L.length≤L'.length) (hl':L'.length≤256)
  (jy: ∀ n,n<256→gX n+dM L rs n≤aS L' n) (top: ∀ n,n<256→aS L' n<255) (none: ∀ n,n<256→L'.length≤n→aS L' n=0)
  (m1: ∀ r ∈ rs,∀ j,j<2→32768≤nm L' r.N j→aS L' (nm L' r.N j%32768)=1) (m2: ∀ s,fB L rs s→ ∀ k,k<32→32768≤nm L' s k→aS L' (nm L' s k%32768)=1):cZ L' rs where
 len:=hl'
 qj:=jZ h.qj hl
 fst:=fun r hr=>⟨(h.fst r hr).1,iZ (h.fst r hr).2 hl⟩
 nodup:=h.nodup
 zero:=fun r hr i h1 h2=>(hs.t1 r hr i h2).1.2 (h.zero r hr i h1 h2)
 sec:=fun s x=>by have:=h.sec s ((hs.rJ s).1 x);omega
 aF:=fun n x=>by have:=h.aF n ((hs.zS n).1 x);omega
 fs:=fun t ht x=>h.fs t ht ((hs.rJ t).1 x)
 fb:=fun t ht x=>h.fb t ht ((hs.zS t).1 x)
 sb:=fun t ht x=>h.sb t ((hs.rJ t).1 ht) ((hs.zS t).1 x)
 jy:=fun n hn=>by rw [hs.use];exact jy n hn
 top:=top
 none:=none
 BU:=m1
 AB:=fun s x=>m2 s ((hs.rJ s).1 x)
theorem cZ.untold (h:cZ L rs) {n:Nat} (hn:n<256) (h0:aS L n=0): ¬ ng rs n∧ ¬ fB L rs n∧ ¬ oK L rs n:=by
 have hc:=h.jy n hn;refine ⟨fun x=> ?_,fun x=> ?_,fun x=> ?_⟩
 ·have:=auH (L:=L) x;omega
 ·have:=QV x;omega
 ·have:=QU x;omega
theorem cZ.Fg (h:cZ L rs) {n:Nat} (hn:n<256) (h0:aS L n=0):6≤n:=by
 have:=h.jy n hn
 rw [vV,h0] at this
 by_cases e:n<6
 ·rw [au e] at this;omega
 ·omega
theorem aqP {t b:Nat} (hb:b<64) (h1: ∀ j,j<2→kN (nm L' t j) (nm L t j)) (h2: ∀ j,j<2→nm L t j≠0→ ∀ k,k<32→kN (nm L' (nm L t j%32768) k) (nm L (nm L t j%32768) k)):kN (bY L' t b) (bY L t b):=by
 have hj:=h1 (b / 32) om;unfold bY
 by_cases e:num (cl L t) (2*(b / 32))=0
 ·rw [au e,au (hj.1.2 e)];exact kN.refl _
 ·rw [ak e,ak (fun x=>e (hj.1.1 x))]
  have:=h2 (b / 32) om e (b%32) om
  have e2:num (cl L' t) (2*(b / 32))%32768=num (cl L t) (2*(b / 32))%32768:=hj.2;rw [e2];exact this
theorem VZ {t t':Nat} (h: ∀ b,b<64→tN L' t' b=tN L t b):dZ L' t'=dZ L t:=by
 apply uH;intro b
 by_cases hb:b<64
 ·rw [D8 _ _ _ hb,D8 _ _ _ hb,h b hb]
 ·rw [eu (by rw [Fb];omega),eu (by rw [Fb];omega)]
theorem aan {t t' b:Nat} (h:kN (bY L' t' b) (bY L t b)) (hc:bY L t b≠0→cl L' (bY L t b%32768)=cl L (bY L t b%32768)):tN L' t' b=tN L t b:=by
 rw [Lm,Lm]
 by_cases e:bY L t b=0
 ·rw [au e,au (h.1.2 e)]
 ·rw [ak e,ak (fun x=>e (h.1.1 x)),h.2,hc e]
theorem Qr {r:bC} (hr:r ∈ rs) {b:Nat} (hb:b<64) (h0:bY L r.N b≠0):oK L rs (bY L r.N b%32768):=by
 obtain ⟨h1,e⟩:=ace h0;exact ⟨_,⟨r,hr,b / 32,om,h1,rfl⟩,b%32,om,by unfold nm;rw [← e];exact h0,by unfold nm;rw [← e]⟩
theorem Shape.content (h:Shape L L' rs) (hb: ∀ n,oK L rs n→cl L' n=cl L n) {r:bC} (hr:r ∈ rs):dZ L' r.N=dZ L r.N:=
 VZ fun b hb64=>aan (aqP hb64 (fun j hj=>h.t1 r hr j om) (fun j hj h0=>h.t2 _ ⟨r,hr,j,hj,h0,rfl⟩)) (fun h0=>hb _ (Qr hr hb64 h0))
theorem cZ.roots {rs':List bC} (h:cZ L rs)
  (hr: ∀ r' ∈ rs',(6≤r'.N∧r'.N<L.length)∧ ¬ fB L rs r'.N∧ ¬ oK L rs r'.N∧ ∃ r ∈ rs,∀ j,j<32→nm L r'.N j=nm L r.N j)
  (hn:(rs'.map (·.N)).Nodup) (jy: ∀ n,n<256→gX n+dM L rs' n≤aS L n):cZ L rs':=by
 have nD: ∀ s,fB L rs' s→fB L rs s:=by
  rintro s ⟨r',hr',j,hj,h0,e⟩;obtain ⟨_,_,_,r,hr1,hs⟩:=hr r' hr';rw [hs j om] at h0 e;exact ⟨r,hr1,j,hj,h0,e⟩
 have hblk: ∀ n,oK L rs' n→oK L rs n:=fun n ⟨s,hs,x⟩=>⟨s,nD s hs,x⟩;refine ⟨h.len,h.qj,fun r' hr'=>(hr r' hr').1,hn,fun r' hr' i h1 h2=> ?_,fun s hs=>h.sec s (nD s hs),fun n hn=>h.aF n (hblk n hn),?_,?_,fun t ht x=>h.sb t (nD t ht) (hblk t x),jy,h.top,h.none,fun r' hr' j hj hm=> ?_,fun s hs=>h.AB s (nD s hs)⟩
 ·obtain ⟨_,_,_,r,hr1,hs⟩:=hr r' hr';rw [hs i h2];exact h.zero r hr1 i h1 h2
 ·rintro t ⟨r',hr',rfl⟩ x;exact (hr r' hr').2.1 (nD _ x)
 ·rintro t ⟨r',hr',rfl⟩ x;exact (hr r' hr').2.2.1 (hblk _ x)
 ·obtain ⟨_,_,_,r,hr1,hs⟩:=hr r' hr';rw [hs j om] at hm ⊢;exact h.BU r hr1 j hj hm
theorem anS {t t':Nat} (hs: ∀ j,j<32→nm L t' j=nm L t j):dZ L t'=dZ L t:=by
 refine VZ fun b hb=> ?_;rw [Lm,Lm];have e:bY L t' b=bY L t b:=by
  unfold bY
  have:=hs (b / 32) om
  unfold nm at this;rw [this]
 rw [e]
end
section
variable {L L':List aj} {rs:List bC}
theorem akX {r r':bC} (hr:r ∈ rs) (hr':r' ∈ rs) (hne:r.N≠r'.N) (n:Nat):kK L r.N n+kK L r'.N n≤dM L rs n:=by
 unfold dM
 induction rs with
 | nil=>simp at hr
 | cons a l ih=>
  rw [jC,Il];rcases dD.1 hr with e | h
  ·rcases dD.1 hr' with e' | h'
   ·rw [e,e'] at hne;exact absurd rfl hne
   ·have:=OA (L:=L) h' n
    unfold dM at this;rw [e];omega
  ·rcases dD.1 hr' with e' | h'
   ·have:=OA (L:=L) h n
    unfold dM at this;rw [e'];omega
   ·have:=ih h h';omega
theorem acY {s:Nat} (h1:dM L rs s=1) {r r':bC} {j j':Nat} (hr:r ∈ rs) (hr':r' ∈ rs) (hj:j<2) (hj':j'<2) (h0:nm L r.N j≠0) (h0':nm L r'.N j'≠0) (e:nm L r.N j%32768=s) (e':nm L r'.N j'%32768=s):r'.N=r.N∧j'=j:=by
 have key: ∀ (x:bC) (q:Nat),nm L x.N q≠0→nm L x.N q%32768=s→1≤nJ L x.N q s:=by
  intro x q h0 e;unfold nJ;rw [ak h0,GU h0 e];omega
 have k1:=key r j h0 e;have k2:=key r' j' h0' e'
 by_cases hN:r'.N=r.N
 ·refine ⟨hN,?_⟩
  by_cases hq:j'=j
  ·exact hq
  ·have:=OA (L:=L) hr s
   rw [hN] at k2;unfold kK at this
   have:(j=0∧j'=1)∨(j=1∧j'=0):=om
   rcases this with ⟨rfl,rfl⟩ | ⟨rfl,rfl⟩ <;> omega
 ·have:=akX (L:=L) hr hr' (fun x=>hN x.symm) s
  have:=Om L r.N j s hj
  have:=Om L r'.N j' s hj'
  omega
theorem akW {t a b n:Nat} (hn:(rs.map (·.N)).Nodup) (ht:ng rs t) (ho: ∀ r ∈ rs,r.N≠t→kK L' r.N n=kK L r.N n) (hc:kK L' t n+a=kK L t n+b):dM L' rs n+a=dM L rs n+b:=by
 unfold dM
 induction rs with
 | nil=>obtain ⟨r,hr,_⟩:=ht;simp at hr
 | cons x l ih=>
  rw [jC,Il,jC,Il];rw [jC,adX] at hn
  by_cases e:x.N=t
  ·have:(l.map fun r=>kK L' r.N n)=l.map fun r=>kK L r.N n:=Ii fun r hr=>ho r (by simp [hr]) (fun z=>hn.1 (by rw [e,← z];exact gQ.2 ⟨r,hr,rfl⟩))
   rw [this,e];omega
  ·have ht':ng l t:=by
    obtain ⟨r,hr,hN⟩:=ht;rcases dD.1 hr with z | z
    ·rw [z] at hN;exact absurd hN e
    ·exact ⟨r,z,hN⟩
   have:=ih hn.2 ht' (fun r hr=>ho r (by simp [hr]))
   rw [ho x sm e];omega
theorem akN {t j a b n:Nat} (hj:j<2) (ho: ∀ q,q<2→q≠j→nJ L' t q n=nJ L t q n) (hc:nJ L' t j n+a=nJ L t j n+b):kK L' t n+a=kK L t n+b:=by
 unfold kK
 have:j=0∨j=1:=om
 rcases this with rfl | rfl
 ·have:=ho 1 om om;omega
 ·have:=ho 0 om om;omega
structure RX (L L':List aj) (s k x:Nat):Prop where
 len:L'.length=L.length
 now:nm L' s k=x
 Kt: ∀ q,q<32→q≠k→nm L' s q=nm L s q
 same: ∀ t,t≠s→cl L' t=cl L t
theorem RX.count {s k x:Nat} (h:RX L L' s k x) (hs:6≤s) (n:Nat) (hn:n<256):aS L' n=aS L n:=by
 unfold aS;rw [h.same _ om]
variable {r:bC} {j s k n:Nat}
structure yg (L L':List aj) (rs:List bC) (r:bC) (j s k n:Nat):Prop where
 put:RX L L' s k (n+32768)
 hr:r ∈ rs
 hj:j<2
 hk:k<32
 h0:nm L r.N j≠0
 hs:nm L r.N j%32768=s
 one:aS L s=1
 Ko:6≤n∧n<L.length
 cn:aS L n=1
 un: ¬ ng rs n∧ ¬ fB L rs n∧ ¬ oK L rs n
theorem yg.lt {n:Nat} (h:yg L L' rs r j s k n) (hL:L.length≤256):(n+32768)%32768=n:=by have:=h.Ko;omega
theorem yg.sec (b:yg L L' rs r j s k n):fB L rs s:=⟨r,b.hr,j,b.hj,b.h0,b.hs⟩
theorem yg.akU (h:cZ L rs) (b:yg L L' rs r j s k n):dM L rs s=1:=by
 have h1:=QV b.sec;have h2:=h.sec s b.sec;have h3:=h.jy s (by have:=h.len;omega)
 have:=b.one
 omega
theorem yg.fst (h:cZ L rs) (b:yg L L' rs r j s k n) {r':bC} (hr':r' ∈ rs):cl L' r'.N=cl L r'.N:=
 b.put.same _ fun e=>h.fs _ ⟨r',hr',e⟩ b.sec
theorem yg.rJ (h:cZ L rs) (b:yg L L' rs r j s k n) (x:Nat):fB L' rs x↔fB L rs x:=by
 constructor
 ·rintro ⟨r',hr',j',hj',h0,e⟩;unfold nm at h0 e;rw [b.fst h hr'] at h0 e;exact ⟨r',hr',j',hj',h0,e⟩
 ·rintro ⟨r',hr',j',hj',h0,e⟩;refine ⟨r',hr',j',hj',?_,?_⟩
  ·unfold nm;rw [b.fst h hr'];exact h0
  ·unfold nm;rw [b.fst h hr'];exact e
theorem yg.zS (h:cZ L rs) (b:yg L L' rs r j s k n) (x:Nat) (hx:oK L' rs x):oK L rs x∨x=n:=by
 obtain ⟨s',hs',q,hq,h0,e⟩:=hx;rw [b.rJ h] at hs'
 by_cases e1:s'=s
 ·subst e1
  by_cases e2:q=k
  ·subst e2;rw [b.put.now,b.lt h.len] at e;exact ay e.symm
  ·rw [b.put.Kt q hq e2] at h0 e;exact aA ⟨s',hs',q,hq,h0,e⟩
 ·unfold nm at h0 e;rw [b.put.same s' e1] at h0 e;exact aA ⟨s',hs',q,hq,h0,e⟩
theorem yg.use (h:cZ L rs) (b:yg L L' rs r j s k n) (m:Nat):dM L' rs m+iH (nm L s k) m=dM L rs m+if n=m then 1 else 0:=by
 have h1:=b.akU h;have hn:=b.lt h.len;have hx:iH (n+32768) m=if n=m then 1 else 0:=by
  unfold iH;rw [hn]
  by_cases e:n=m
  ·rw [au e,au ⟨om,e⟩]
  ·rw [ak e,ak (fun z=>e z.2)]
 have hin:yG L' s m+iH (nm L s k) m=yG L s m+iH (n+32768) m:=by
  have:=adg (f:=fun q=>iH (nm L' s q) m) (g:=fun q=>iH (nm L s q) m) (a:=k) 32 0 om (by have:=b.hk;omega) (fun q _ hq hne=>by rw [b.put.Kt q om hne])
  simp only [b.put.now] at this;exact this
 have nD: ∀ r' ∈ rs,∀ q,q<2→(r'.N≠r.N∨q≠j)→nJ L' r'.N q m=nJ L r'.N q m:=by
  intro r' hr' q hq hne;refine Ym ?_ fun h0 k' hk'=> ?_
  ·unfold nm;rw [b.fst h hr'];exact kN.refl _
  ·unfold nm;rw [b.put.same]
   ·exact kN.refl _
   ·intro e
    have:=acY h1 b.hr hr' b.hj hq b.h0 h0 b.hs e
    omega
 have hat:nJ L' r.N j m+iH (nm L s k) m=nJ L r.N j m+iH (n+32768) m:=by
  have e:nm L' r.N j=nm L r.N j:=by unfold nm;rw [b.fst h b.hr]
  unfold nJ;rw [e,ak b.h0,ak b.h0,b.hs];omega
 rw [← hx];exact akW h.nodup ⟨r,b.hr,rfl⟩ (fun r' hr' hne=>by
  unfold kK;rw [nD r' hr' 0 om (aA hne),nD r' hr' 1 om (aA hne)]) (akN b.hj (fun q hq hne=>nD r b.hr q hq (ay hne)) hat)
theorem yg.sound (h:cZ L rs) (b:yg L L' rs r j s k n):cZ L' rs:=by
 have h6:=(h.sec s b.sec).1;have hc:=fun m hm=>b.put.count h6 m hm;have hlen:=h.len;refine ⟨by rw [b.put.len];exact h.len,by rw [b.put.len];exact h.qj,fun r' hr'=>by rw [b.put.len];exact h.fst r' hr',h.nodup,fun r' hr' i h1 h2=> ?_,fun x hx=> ?_,fun x hx=> ?_,fun t ht x=>h.fs t ht ((b.rJ h t).1 x),fun t ht x=> ?_,fun t ht x=> ?_,fun m hm=> ?_,fun m hm=>by rw [hc m hm];exact h.top m hm,fun m hm hl=>by rw [hc m hm];exact h.none m hm (by rw [← b.put.len];exact hl),fun r' hr' q hq hm=> ?_,fun x hx q hq hm=> ?_⟩
 ·unfold nm;rw [b.fst h hr'];exact h.zero r' hr' i h1 h2
 ·rw [b.put.len];exact h.sec x ((b.rJ h x).1 hx)
 ·rw [b.put.len];rcases b.zS h x hx with y | y
  ·exact h.aF x y
  ·rw [y];exact b.Ko
 ·rcases b.zS h t x with y | y
  ·exact h.fb t ht y
  ·rw [y] at ht;exact b.un.1 ht
 ·rcases b.zS h t x with y | y
  ·exact h.sb t ((b.rJ h t).1 ht) y
  ·rw [y] at ht;exact b.un.2.1 ((b.rJ h n).1 ht)
 ·rw [hc m hm];have h1:=b.use h m;have h2:=h.jy m hm
  by_cases e:n=m
  ·subst e;rw [au rfl] at h1;have h3:dM L rs n=0:=by
    by_cases z:dM L rs n=0
    ·exact z
    ·exfalso;have h4:0<dM L rs n:=om;rw [← N9 h.zero] at h4;unfold zX at h4;obtain ⟨y,hy,e⟩:=gQ.1 (Za.1 h4);rcases (AL h.zero y).1 hy with ⟨_,k1⟩ | ⟨_,k1⟩ | ⟨_,k1⟩
     ·rw [e] at k1;exact b.un.1 k1
     ·rw [e] at k1;exact b.un.2.1 k1
     ·rw [e] at k1;exact b.un.2.2 k1
   have:=b.cn
   have:=b.Ko
   rw [vV,ak om];omega
  ·rw [ak e] at h1;omega
 ·have e:nm L' r'.N q=nm L r'.N q:=by unfold nm;rw [b.fst h hr']
  rw [e] at hm ⊢;have hx:=h.sec _ ⟨r',hr',q,hq,om,rfl⟩;rw [hc _ om];exact h.BU r' hr' q hq hm
 ·rw [b.rJ h] at hx
  by_cases e1:x=s
  ·subst e1
   by_cases e2:q=k
   ·subst e2;rw [b.put.now,b.lt h.len,hc n (by have:=b.Ko;omega)];exact b.cn
   ·rw [b.put.Kt q hq e2] at hm ⊢;have hy:=h.aF _ ⟨x,hx,q,hq,om,rfl⟩;rw [hc _ om];exact h.AB x hx q hq hm
  ·have e:nm L' x q=nm L x q:=by unfold nm;rw [b.put.same x e1]
   rw [e] at hm ⊢;have hy:=h.aF _ ⟨x,hx,q,hq,om,rfl⟩;rw [hc _ om];exact h.AB x hx q hq hm
theorem yg.content (h:cZ L rs) (b:yg L L' rs r j s k n) {r':bC} (hr':r' ∈ rs):
  dZ L' r'.N=if r'.N=r.N then (dZ L r'.N).set (32*j+k) (cl L n) else dZ L r'.N:=by
 have h1:=b.akU h;have hsn:n≠s:=fun e=>b.un.2.1 (by rw [e];exact b.sec);have hbl: ∀ x,oK L rs x→cl L' x=cl L x:=fun x hx=>b.put.same x fun e=>h.sb s b.sec (by rw [← e];exact hx);have hn:cl L' n=cl L n:=b.put.same n hsn;have hj:=b.hj;have hk:=b.hk;have key: ∀ c,c<64→(r'.N≠r.N∨c≠32*j+k)→tN L' r'.N c=tN L r'.N c:=by
  intro c hc hne;have e:bY L' r'.N c=bY L r'.N c:=by
   unfold bY;rw [b.fst h hr']
   by_cases h0:num (cl L r'.N) (2*(c / 32))=0
   ·rw [au h0,au h0]
   ·rw [ak h0,ak h0]
    by_cases e1:num (cl L r'.N) (2*(c / 32))%32768=s
    ·have:=acY h1 b.hr hr' b.hj om b.h0 h0 b.hs e1
     rw [e1];exact b.put.Kt (c%32) om om
    ·rw [b.put.same _ e1]
  exact aan (by rw [e];exact kN.refl _) (fun h0=>hbl _ (Qr hr' hc h0))
 by_cases e:r'.N=r.N
 ·rw [au e];apply uH;intro c;rw [uf]
  by_cases hc:c<64
  ·by_cases e2:32*j+k=c
   ·rw [au e2,au (by rw [Fb];omega),D8 _ _ _ hc,Lm];have e3:bY L' r'.N c=n+32768:=by
     unfold bY;rw [b.fst h hr',e,show c / 32=j by omega,show c%32=k by omega,ak b.h0]
     have:=b.put.now
     unfold nm at this;have hs:=b.hs;unfold nm at hs;rw [hs];exact this
    rw [e3,ak om,b.lt h.len,hn]
   ·rw [ak e2,D8 _ _ _ hc,D8 _ _ _ hc,key c hc (ay (fun z=>e2 z.symm))]
  ·rw [ak om,eu (by rw [Fb];omega),eu (by rw [Fb];omega)]
 ·rw [ak e];exact VZ fun c hc=>key c hc (aA e)
end
end
end Go.Proofs.YtknjjjenklfeoaaGreatDoor
