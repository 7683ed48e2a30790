import Derived.Test.YtknjjjenklfeoaaGreatDoorU22
set_option maxHeartbeats 8000000
set_option maxRecDepth 100000
set_option linter.all false
namespace Go.Proofs.YtknjjjenklfeoaaGreatDoor
def qg (L:List fZ) (last gn:Nat) (gs:Nat→Bool):Nat→List fZ
 | 0=>[]
 | k+1=>if Bv last gn gs k=true then qg L last gn gs k else qg L last gn gs k++[rP L k]
def vS (x:Nat × aj):fZ:=⟨(x.1:Nat),x.2⟩
def sJ (C:List aj):List (Nat × aj)→List (Nat × aj)
 | []=>[]
 | x :: r=>if x.1<C.length∧cl C x.1=x.2 then sJ C r else x :: sJ (iV C x) r
def aar: ∀ (a:List (Nat × aj)) (C:List aj),(sJ C a).Sublist a
 | [],_=>List.Sublist.refl _
 | x :: r,C=>by
  unfold sJ;split
  ·exact (aar r C).cons x
  ·exact (aar r _).cons_cons x
def alz {V:aB} {n:Nat} {data:aj} (h:n<V.C.length∧cl V.C n=data):bQ V n data=V:=by unfold bQ;rw [au h]
def aus {V:aB} {n:Nat} {data:aj} (hs:V.short=false) (h: ¬ (n<V.C.length∧cl V.C n=data)):bQ V n data=⟨iV V.C (n,data),V.L++[vS (n,data)],true,false⟩:=by
 unfold bQ;rw [ak h];unfold FM;rw [abZ hs];rfl
def Zk: ∀ (a:List (Nat × aj)) (V:aB),V.short=false→(jr V a).L=V.L++(sJ V.C a).map vS∧(jr V a).short=false∧(V.loose=false→((jr V a).loose=true↔sJ V.C a≠[]))∧(V.loose=true→(jr V a).loose=true)
 | [],V,hs=>⟨by simp [jr,sJ],hs,fun h=>by simp [jr,sJ,h],id⟩
 | x :: r,V,hs=>by
  have e:jr V (x :: r)=jr (bQ V x.1 x.2) r:=rfl;rw [e]
  by_cases h:x.1<V.C.length∧cl V.C x.1=x.2
  ·rw [alz h];have ih:=Zk r V hs;have b:sJ V.C (x :: r)=sJ V.C r:=by rw [sJ,au h]
   rw [b];exact ih
  ·rw [aus hs h];obtain ⟨d,g,_,c⟩:=Zk r ⟨iV V.C x,V.L++[vS x],true,false⟩ rfl;have b:sJ V.C (x :: r)=x :: sJ (iV V.C x) r:=by rw [sJ,ak h]
   rw [b];refine ⟨?_,g,fun _=>⟨fun _=>sm,fun _=>c rfl⟩,fun _=>c rfl⟩;show (jr ⟨iV V.C x,V.L++[vS x],true,false⟩ r).L=_;rw [d]
   simp
def FC (V:aB):List (Nat × aj):=if V.short then [(V.C.length - 1,cl V.C (V.C.length - 1))] else []
def ahy (V:aB):(iG V).L=V.L++(FC V).map vS:=by
 unfold iG FC;split
 ·rfl
 ·simp
def alA: ∀ (a:List (Nat × aj)) (V:aB),(sJ V.C a=[]∧jr V a=V)∨(sJ V.C a≠[]∧(jr V a).L=V.L++(FC V++sJ V.C a).map vS∧(jr V a).short=false∧(jr V a).loose=true)
 | [],V=>aA ⟨rfl,rfl⟩
 | x :: r,V=>by
  have e:jr V (x :: r)=jr (bQ V x.1 x.2) r:=rfl;rw [e]
  by_cases h:x.1<V.C.length∧cl V.C x.1=x.2
  ·rw [alz h];have b:sJ V.C (x :: r)=sJ V.C r:=by rw [sJ,au h]
   rw [b];exact alA r V
  ·right
   have c:bQ V x.1 x.2=⟨iV V.C x,V.L++(FC V).map vS++[vS x],true,false⟩:=by
    unfold bQ;rw [ak h];unfold FM;rw [ahy];rfl
   rw [c];obtain ⟨d,g,_,i⟩:=Zk r ⟨iV V.C x,V.L++(FC V).map vS++[vS x],true,false⟩ rfl;have b:sJ V.C (x :: r)=x :: sJ (iV V.C x) r:=by rw [sJ,ak h]
   rw [b];refine ⟨sm,?_,g,i rfl⟩;rw [d]
   simp
def ah1 (V:aB) (a:List (Nat × aj)) (b:V.loose=false):eH V a=V∨((eH V a).loose=false∧(eH V a).L=V.L++((FC V++sJ V.C a).map vS++[zq])):=by
 unfold eH;rcases alA a V with ⟨_,e⟩ | ⟨_,e,_,c⟩
 ·left
  rw [e];unfold fF;rw [b];rfl
 ·right
  refine ⟨OE _,?_⟩;unfold fF;rw [au c];show (jr V a).L++[zq]=_;rw [e,tV]
def yP (V:aB):List (List (Nat × aj))→aB
 | []=>V
 | a :: r=>yP (eH V a) r
def DV (P:List aj→Prop) (V:aB):List (List (Nat × aj))→Prop
 | []=>P V.C
 | a :: r=>(∀ b:List (Nat × aj),b.Sublist a→P (dG V.C b))∧DV P (eH V a) r
def aep (V:aB): ∀ (es fs:List (List (Nat × aj))),yP V (es++fs)=yP (yP V es) fs
 | [],_=>rfl
 | a :: r,fs=>aep (eH V a) r fs
def DV.app {P:List aj→Prop}: ∀ (es:List (List (Nat × aj))) {V:aB} {fs:List (List (Nat × aj))},DV P V es→DV P (yP V es) fs→DV P V (es++fs)
 | [],_,_,_,a=>a
 | _ :: r,_,_,b,a=>⟨b.1,DV.app r b.2 a⟩
def aer (es:List (List (Nat × aj))): ∀ V:aB,V.loose=false→(yP V es).loose=false∧ ∃ t,(yP V es).L=V.L++t:=by
 induction es with
 | nil=>intro V a;exact ⟨a,[],by simp [yP]⟩
 | cons b r ih=>
  intro V a;show (yP (eH V b) r).loose=false∧ ∃ t,(yP (eH V b) r).L=_;rcases ah1 V b a with e | ⟨c,d⟩
  ·rw [e];exact ih V a
  ·obtain ⟨g,t,h⟩:=ih (eH V b) c;exact ⟨g,_,by rw [h,d,tV]⟩
section
variable {A R:List fZ} {ws:List (Nat × aj)} {gn:Nat} {gs:Nat→Bool}
def aan (X:List fZ) (i:Nat) (hi:i<A.length):rP (A++X) i=rP A i:=by
 unfold rP;rw [aN,aN,nV hi]
def ana (j:Nat) (hj:j<ws.length):rP (A++(ws.map vS++R)) (A.length+j)=vS (ws[j]):=by
 unfold rP;rw [aN,nP om,show A.length+j - A.length=j by omega,nV (by simpa using hj),jK,bJ hj];rfl
def ar7 (a:A=[]∨ ∃ l,A=l++[zq]) (X:List fZ):uG (A++X) A.length=A.length:=by
 rcases a with e | ⟨l,e⟩
 ·rw [e];rfl
 ·have b:A.length=l.length+1:=by rw [e];simp
  rw [b,uG,au];rw [aan X _ om,e];unfold rP;rw [aN,nP (aO _),Bg];show (-1:Int)<0
  decide
def ajM (a:A=[]∨ ∃ l,A=l++[zq]): ∀ j,j≤ws.length→uG (A++(ws.map vS++R)) (A.length+j)=A.length
 | 0,_=>ar7 a _
 | j+1,hj=>by
  rw [← LW,uG,ana j om,ak (by unfold vS;simp),ajM a j om]
def au5 (C:List aj) (x:Nat × aj):FQ C (vS x)=iV C x:=by
 unfold FQ vS;rw [ak sm];rfl
def ahM (X:List fZ): ∀ k,k≤A.length→qg (A++X) A.length gn gs k=A.take k
 | 0,_=>by simp [qg]
 | k+1,hk=>by
  have b:rP A k=A[k]'om:=by
   unfold rP;rw [aN,bJ om];rfl
  have a:Bv A.length gn gs k=false:=by unfold Bv;rw [gK om];rfl
  rw [qg,ahM X k om,aan X k om,a,b,x9 om];rfl
def ahN: ∀ j,j≤ws.length→ ∃ a:List (Nat × aj),a.Sublist (ws.take j)∧qg (A++(ws.map vS++R)) A.length gn gs (A.length+j)=A++a.map vS
 | 0,_=>⟨[],List.nil_sublist _,by rw [jW,ahM _ _ (aO _),H7];simp⟩
 | j+1,hj=>by
  obtain ⟨a,b,e⟩:=ahN j om;have c:ws.take (j+1)=ws.take j++[ws[j]'om]:=x9 om;rw [← LW,qg,e,ana j om]
  by_cases d:Bv A.length gn gs (A.length+j)=true
  ·rw [au d];exact ⟨a,by rw [c];exact b.trans (List.sublist_append_left _ _),rfl⟩
  ·rw [ak d];exact ⟨a++[ws[j]'om],by rw [c];exact b.append (List.Sublist.refl _),sm⟩
end
def alR: ∀ (a:List (Nat × aj)) (C:List aj),replay C (a.map vS)=dG C a
 | [],_=>rfl
 | x :: r,C=>by
  show replay (FQ C (vS x)) (r.map vS)=dG (iV C x) r;rw [au5,alR r]
def au6 (C:List aj) (a b:List fZ):replay C (a++b)=replay (replay C a) b:=afv ..
def aur {V:aB} (h:0<V.C.length):iV V.C (V.C.length - 1,cl V.C (V.C.length - 1))=V.C:=by
 unfold iV;show (oW V.C (V.C.length - 1+1)).set (V.C.length - 1) (cl V.C (V.C.length - 1))=V.C;rw [aiJ om,amf _ _ om]
def Um (P:List aj→Prop) (base:List aj) (gn:Nat) (gs:Nat→Bool) {V:aB} {L R:List fZ} {ws:List (Nat × aj)} (b:uN base V) (c:V.loose=false) (hL:L=V.L++(ws.map vS++R)) (d: ∀ a:List (Nat × aj),a.Sublist ws→P (dG V.C a)) (n:Nat) (h:V.L.length≤n) (i:n≤V.L.length+ws.length):P (replay base (qg L (uG L n) gn gs n)):=by
 obtain ⟨j,rfl⟩: ∃ j,n=V.L.length+j:=⟨n - V.L.length,om⟩;rw [hL,ajM (b.tail c) j om];obtain ⟨a,e,g⟩:=ahN (A:=V.L) (ws:=ws) (R:=R) (gn:=gn) (gs:=gs) j om;rw [g,au6,b.rep,alR];exact d a (e.trans (List.take_sublist _ _))
def akQ {P:List aj→Prop} {base:List aj} {V:aB} {ws:List (Nat × aj)} (e:uN base V) (g: ∀ c:List (Nat × aj),c.Sublist ws→P (dG V.C c)) (c:List (Nat × aj)) (i:c.Sublist (FC V++ws)):P (dG V.C c):=by
 obtain ⟨a,b,rfl,d,j⟩:=List.sublist_append_iff.1 i;have k:a.foldl iV V.C=V.C:=by
  unfold FC at d
  split at d
  ·rename_i hs;cases d with
   | cons _ h=>rw [N8.1 h];rfl
   | cons_cons _ h=>rw [N8.1 h];exact aur (e.some hs)
  ·rw [N8.1 d];rfl
 have l:dG V.C (a++b)=dG V.C b:=by
  unfold dG;rw [afv,k]
 rw [l];exact g b j
def XI (P:List aj→Prop) (base:List aj) (gn:Nat) (gs:Nat→Bool): ∀ (es:List (List (Nat × aj))) (V:aB),uN base V→V.loose=false→DV P V es→
  ∀ n,V.L.length≤n→n≤(yP V es).L.length→P (replay base (qg (yP V es).L (uG (yP V es).L n) gn gs n))
 | [],V,b,g,d,n,h,c=>Um P base gn gs (ws:=[]) (R:=[]) b g (by simp [yP]) (fun l j=>by rw [N8.1 j];exact d) n h c
 | a :: r,V,b,g,d,n,h,c=>by
  have i:yP V (a :: r)=yP (eH V a) r:=rfl;rcases ah1 V a g with e | ⟨m,o⟩
  ·have k:=d.2;rw [i,e] at c ⊢;rw [e] at k;exact XI P base gn gs r V b g k n h c
  ·obtain ⟨_,t,p⟩:=aer r (eH V a) m
   by_cases hn:n≤V.L.length+(FC V++sJ V.C a).length
   ·exact Um P base gn gs (ws:=FC V++sJ V.C a) (R:=[zq]++t) b g (by rw [i,p,o];simp) (akQ b fun l j=>d.1 l (j.trans (aar a V.C))) n h hn
   ·have hle:(eH V a).L.length≤n:=by rw [o];simp at hn ⊢;omega
    rw [i] at c ⊢;exact XI P base gn gs r (eH V a) (b.jr (NH (iJ.refl V) a)) m d.2 n hle c
def atl (c:aj):numsOf c=[num c 0,num c 2]++(List.range 30).map (fun i=>num c (2*(i+2))):=by
 apply uY;intro i;unfold numsOf;rw [jK]
 by_cases hi:i<32
 ·rw [yR hi]
  match i,hi with
  | 0,_=>rfl
  | 1,_=>rfl
  | k+2,hk=>rw [nP sm,jK,yR (by simp;omega)];simp
 ·rw [eG (by simpa using hi),eG (by simp;omega)];rfl
def awH (c:aj) (h: ∀ i,1<i→i<32→num c (2*i)=0):dJ (numsOf c)=dJ [num c 0,num c 2]:=by
 unfold dJ;rw [atl,Qe];have b:((List.range 30).map (fun i=>num c (2*(i+2)))).filter (· != 0)=[]:=by
  rw [aaL];intro a d;obtain ⟨i,hi,rfl⟩:=gY.1 d
  have:=G9.1 hi
  rw [h (i+2) om om]
  decide
 rw [b,sN]
def amy (f:Nat→Nat): ∀ m k,((List.range m).map fun i=>f (k+i)).sum=tC f m k
 | 0,_=>rfl
 | m+1,k=>by
  rw [tC,List.range_succ_eq_map,jU,Jk,Qd,← amy f m (k+1)]
  congr 2
  apply Ji;intro i _;simp only [Function.comp]
  congr 1
  omega
def ap2 (C:List aj) (s m:Nat):(dJ (numsOf (cl C s))).count m=zC C s m:=by
 rw [ab9];unfold numsOf zC nm;rw [Qd]
 have:=amy (fun k=>iT (num (cl C s) (2*k)) m) 32 0
 rw [← this]
 congr 1
def XH {C:List aj} {f:Nat} (b: ∀ i,1<i→i<32→nm C f i=0) (m:Nat):(jA C f).count m=oh C f 0 m+oh C f 1 m:=by
 unfold jA;rw [awH _ b];have key: ∀ x:Nat,((dJ [x]).flatMap fun s=>s :: dJ (numsOf (cl C s))).count m=if x=0 then 0 else iT x m+zC C (x%32768) m:=by
  intro x;unfold dJ
  by_cases h:x=0
  ·subst h;simp
  ·have e:([x].filter (· != 0))=[x]:=by simp [h]
   rw [e,jU,LQ,qx,Qi,sN,ak h,EH]
   have:=ap2 C (x%32768) m
   unfold dJ at this;rw [this,Ci]
   congr 1
   by_cases a:x%32768=m
   ·rw [IL h a,au (by simp [a])]
   ·rw [ak (by simp [a])];unfold iT;rw [ak (fun z=>a z.2)]
 have e:dJ [num (cl C f) 0,num (cl C f) 2]=dJ [num (cl C f) 0]++dJ [num (cl C f) 2]:=by
  unfold dJ;rw [← rQ,← Qe];rfl
 rw [e,Td,Jj,key,key];rfl
def XG {C:List aj} {f:Nat} (a: ∀ i,1<i→i<32→nm C f i=0) (m:Nat):(mF C f).count m=lH C f m:=by
 unfold mF lH;rw [EH,XH a,Ci]
 congr 1
 by_cases e:f=m
 ·rw [au e,au (by simp [e])]
 ·rw [ak e,ak (by simp [e])]
def YM {C:List aj} {f c:Nat} (d: ∀ i,1<i→i<32→nm C f i=0) (h:c ∈ jA C f):
  ∃ j,j<2∧nm C f j≠0∧(nm C f j%32768=c∨ ∃ k,k<32∧nm C (nm C f j%32768) k≠0∧nm C (nm C f j%32768) k%32768=c):=by
 unfold jA at h;obtain ⟨s,hs,hc⟩:=zT.1 h;obtain ⟨i,hi,h0,e⟩:=YN hs;have a:i<2:=by
  by_cases g:i<2
  ·exact g
  ·exact absurd (d i om hi) h0
 refine ⟨i,a,h0,?_⟩;rcases cO.1 hc with x | x
 ·exact aA (e.trans x.symm)
 ·obtain ⟨k,hk,b,l⟩:=YN x;refine ay ⟨k,hk,?_,?_⟩
  ·show num (cl C (num (cl C f) (2*i)%32768)) (2*k)≠0;rw [e];exact b
  ·show num (cl C (num (cl C f) (2*i)%32768)) (2*k)%32768=c;rw [e];exact l
def awE {C:List aj} {f j:Nat} (hj:j<2) (h0:nm C f j≠0):nm C f j%32768 ∈ jA C f:=
 zT.2 ⟨_,V7 om h0,sm⟩
def awF {C:List aj} {f j k:Nat} (hj:j<2) (h0:nm C f j≠0) (hk:k<32) (a:nm C (nm C f j%32768) k≠0):nm C (nm C f j%32768) k%32768 ∈ jA C f:=
 zT.2 ⟨_,V7 om h0,cO.2 (ay (V7 hk a))⟩
def uX (n:Nat):Nat:=n%32768
def aeG:Marks uX:=fun n _ _ _=>⟨by unfold uX;omega,by unfold uX;omega⟩
def wB (c:aj):aj:=bytesOf (wO uX (numsOf c))
def Xq (c:aj) (q:Nat) (a:q<32):num (wB c) (2*q)=num c (2*q)%32768:=by
 have:=ahj uX c (fun q _ _=>by unfold uX;omega) q a
 unfold wB;rw [this]
 by_cases h:num c (2*q)=0
 ·rw [au h,h]
 ·rw [ak h];rfl
def ao3 (c:aj):(wB c).length=64:=bytesOf_length _
def ao4 (c:aj):wB (wB c)=wB c:=by
 have e:wO uX (numsOf (wB c))=wO uX (numsOf c):=by
  apply ajX
  ·rw [Uf,Uf,numsOf_length,numsOf_length]
  ·intro i hi;rw [Uf,numsOf_length] at hi;rw [KF,KF,vJ _ _ hi,vJ _ _ hi,Xq _ _ hi];unfold uX
   by_cases h:num c (2*i)=0
   ·simp [h]
   ·by_cases a:num c (2*i)%32768=0
    ·simp [a]
    ·rw [ak a,ak h];omega
 show bytesOf (wO uX (numsOf (wB c)))=bytesOf (wO uX (numsOf c));rw [e]
def auX (V:aB) (t:Nat):Ae uX V t=bQ V t (wB (cl V.C t)):=rfl
def ao5 (a:List aj) (b:List Nat): ∀ V:aB,(∀ t ∈ b,t<V.C.length)→(∀ t,t<V.C.length→cl V.C t=cl a t∨cl V.C t=wB (cl a t))→
  rM uX V b=jr V (b.map fun t=>(t,wB (cl a t))):=by
 induction b with
 | nil=>intro V _ _;rfl
 | cons t r ih=>
  intro V d g;have h:=d t sm;have e:Ae uX V t=bQ V t (wB (cl a t)):=by
   rw [auX];rcases g t h with x | x
   ·rw [x]
   ·rw [x,ao4]
  rw [alO,e,jU,aeb];dsimp only;have hlen:=zL V t (wB (cl a t));refine ih (bQ V t (wB (cl a t))) (fun x c=>by rw [hlen];have:=d x (by simp [c]);omega) (fun x c=> ?_)
  by_cases ex:t=x
  ·subst ex;rw [abS];exact ay rfl
  ·rw [Ug _ _ _ _ (by rw [hlen] at c;omega) ex];exact g x (by rw [hlen] at c;omega)
def EU (a:List aj) (f:Nat):List (Nat × aj):=(f :: dJ (numsOf (cl a f))).map fun t=>(t,wB (cl a t))
section
variable {L:List aj} {rs:List bI} {f:Nat}
def dH.atb (h:dH L rs) (z:f ∈ rs.map (·.N)) {t q:Nat} (l:nX rs t∨fD L rs t) (hn:t ∉ f :: dJ (numsOf (cl L f))) (c:q<32) (h0:nm L t q≠0) (u:aQ L (nm L t q%32768)=1):(jA L f).count (nm L t q%32768)=0:=by
 obtain ⟨m,a,rfl⟩:=gY.1 z;refine H8.2 fun hm=> ?_;have C:=h.Ad l q c h0;have hlen:=h.len;have D:=h.afh l q c h0;have F:=h.jI (nm L t q%32768) om;have hu:dN L rs (nm L t q%32768)=1:=om;obtain ⟨v,d,b,hc⟩:=YM (fun i u B=>h.zero m a i u B) hm;rcases l with ⟨r,hr,rfl⟩ | ⟨r,hr,j,hj,p,e⟩
 ·have s:q<2:=by
   by_cases x:q<2
   ·exact x
   ·exact absurd (h.zero r hr q om c) h0
  rcases hc with e | ⟨k,hk,g,e⟩
  ·have:=aeC hu hr a s d h0 b rfl e
   exact hn (by rw [this.1];simp)
  ·exact h.sb _ ⟨r,hr,q,s,h0,rfl⟩ ⟨_,⟨m,a,v,d,b,rfl⟩,k,hk,g,e⟩
 ·have y:oU L rs (nm L t q%32768):=⟨t,⟨r,hr,j,hj,p,e⟩,q,c,h0,rfl⟩;rcases hc with o | ⟨k,hk,g,o⟩
  ·exact h.sb _ ⟨m,a,v,d,b,o⟩ y
  ·have w:nm L (nm L r.N j%32768) q=nm L t q:=by rw [e]
   have:=agT hu hr a hj d c hk p b (by rw [w];exact h0) g (by rw [w]) o
   refine hn (cO.2 (ay ?_));rw [← e,← this.1,← this.2.1];exact V7 om b
end
section
variable {base:List aj} {V:aB} {N0:Nat} {E:List aW} {f n:Nat}
def jP (V:aB) (f n:Nat):aB:=fF (rM uX (dS V [n]) (tH (dS V [n]) f))
def sS (C:List aj) (f n:Nat):List UInt8:=(plus (aJ C) (jA C f)).set n 1
def copyV (V:aB) (f n:Nat):aB:=fF (bQ (lT (jP V f n) (sS V.C f n) 4) n (cl (lT (jP V f n) (sS V.C f n) 4).C f))
def zH (C:List aj) (f t:Nat):Prop:=t ∈ f :: dJ (numsOf (cl C f))
def dH.aeB {L:List aj} {rs:List bI} (h:dH L rs) {t:Nat} (b:nX rs t∨fD L rs t) (q:Nat) (a:q<32):lQ (num (wB (cl L t)) (2*q)) (nm L t q):=by
 rw [Xq _ _ a];show lQ (nm L t q%32768) (nm L t q);refine ⟨⟨fun e=> ?_,fun e=> ?_⟩,om⟩
 ·by_cases h0:nm L t q=0
  ·exact h0
  ·have:=h.Ad b q a h0;omega
 ·rw [e]
def aY.ab6 (h:aY base V N0 E) (D:f ∈ (aH N0 E).map (·.N)) (hn:n<256):
  jP V f n=eH (dS V [n]) (EU (dS V [n]).C f)∧(∀ c,(∀ x ∈ c,x ∈ EU (dS V [n]).C f)→Ok (dG (dS V [n]).C c) (jq V.C [n]) N0 E (bD V.C N0 E))∧
   Ok (jP V f n).C (jq V.C [n]) N0 E (bD V.C N0 E)∧(jP V f n).C.length=V.C.length∧(∀ t,t≠0→zH V.C f t→cl (jP V f n).C t=wB (cl V.C t))∧(∀ t,t≠0→ ¬ zH V.C f t→cl (jP V f n).C t=cl V.C t):=by
 obtain ⟨F,o,J,i,K⟩:=h.longer [n] (by rw [O6];exact hn);have hlen:=h.sound.len;have l: ∀ t,zH V.C f t→nX (aH N0 E) t∨fD V.C (aH N0 E) t:=fun t a=>ZY h.sound D a;have d: ∀ t,zH V.C f t→6≤t∧t<V.C.length:=fun t a=>h.sound.LK (l t a);have I:=d f (by unfold zH;simp);have ef:cl (dS V [n]).C f=cl V.C f:=i f om;have e:jP V f n=eH (dS V [n]) (EU (dS V [n]).C f):=by
  unfold jP eH EU tH;rw [ao5 (dS V [n]).C _ (dS V [n]) (fun t a=> ?_) (fun t _=>aA rfl)];rw [ef] at a;rw [o];exact (d t a).2
 have g: ∀ x ∈ EU (dS V [n]).C f,zH V.C f x.1∧x.2=wB (cl V.C x.1):=by
  intro x b;unfold EU at b;rw [ef] at b;obtain ⟨t,a,rfl⟩:=gY.1 b;exact ⟨a,by rw [i t (by have:=d t a;omega)]⟩
 have p: ∀ t q,t≠0→t<V.C.length→nm (bg (dS V [n]).C (jq V.C [n])) t q=nm V.C t q:=by
  intro t q h0 a;rw [GU _ _ _ _ (by unfold jq;omega),ny (by rw [o];exact a),i t h0]
 have v: ∀ c,(∀ x ∈ c,x ∈ EU (dS V [n]).C f)→Ok (dG (dS V [n]).C c) (jq V.C [n]) N0 E (bD V.C N0 E):=by
  intro c B;refine F.marks c fun x b=> ?_;obtain ⟨b1,b2⟩:=g x (B x b);have G:=d x.1 b1;have H: ∀ s,fD V.C (aH N0 E) s→fD (bg (dS V [n]).C (jq V.C [n])) (aH N0 E) s:=by
   rintro s ⟨r,hr,j,hj,h0,e⟩
   have:=h.sound.fst r hr
   exact ⟨r,hr,j,hj,by rw [p _ _ om this.2];exact h0,by rw [p _ _ om this.2];exact e⟩
  refine ⟨?_,by rw [b2];exact ao3 _,fun q u=> ?_,fun q u hm=> ?_⟩
  ·rcases l _ b1 with y | y
   ·exact aA y
   ·exact ay (H _ y)
  ·rw [p _ _ om G.2,b2];exact h.sound.aeB (l _ b1) q u
  ·rw [b2,Xq _ _ u] at hm;omega
 have k:(jP V f n).C=dG (dS V [n]).C (EU (dS V [n]).C f):=by rw [e,uz]
 have m:(jP V f n).C.length=V.C.length:=by
  rw [k]
  have:=ND (EU (dS V [n]).C f) (dS V [n]).C V.C.length om (fun x b=>(d _ (g x b).1).2)
  omega
 refine ⟨e,v,by rw [k];exact v _ (fun x b=>b),m,fun t h0 a=> ?_,fun t h0 a=> ?_⟩
 ·have:=d t a
  rw [← ny (by rw [m];exact this.2),k];exact am6 (fun t=>wB (cl V.C t)) t _ _ (fun x b=>(g x b).2) ⟨(t,wB (cl (dS V [n]).C t)),by
   unfold EU;rw [ef];exact gY.2 ⟨t,a,rfl⟩,rfl⟩
 ·by_cases w:t<V.C.length
  ·rw [← ny (by rw [m];exact w),k,FW t _ _ (fun x b z=>a (by rw [← z];exact (g x b).1)),ny (by rw [o];exact w),i t h0]
  ·rw [D7 om,D7 om]
def aY.ahI (h:aY base V N0 E) (d:f ∈ (aH N0 E).map (·.N)) (hn:n<256) (b:oH (aJ V.C) (jA V.C f)=true):(sS V.C f n).length=256∧(∀ m,m<256→aI (sS V.C f n) m=if n=m then 1 else aQ V.C m+(jA V.C f).count m)∧(∀ u ∈ jA V.C f,6≤u∧u<V.C.length):=by
 obtain ⟨a,e⟩:=h.ok.Gu rfl;obtain ⟨r,hr,rfl⟩:=gY.1 d;have hlen:=h.sound.len;have hu: ∀ u ∈ jA V.C r.N,6≤u∧u<V.C.length:=fun u hu=>by
  obtain ⟨j,hj,h0,x | ⟨k,hk,c,x⟩⟩:=YM (fun i g l=>h.sound.zero r hr i g l) hu
  ·exact h.sound.sec _ ⟨r,hr,j,hj,h0,x⟩
  ·exact h.sound.aG _ ⟨_,⟨r,hr,j,hj,h0,rfl⟩,k,hk,c,x⟩
 refine ⟨by unfold sS;rw [rV,RN,a],fun m hm=> ?_,hu⟩;unfold sS;rw [Bz _ _ _ _ (by rw [RN,a];exact hn),alp _ _ _ (fun u h=>by rw [a];have:=hu u h;omega) b,e m hm];rfl
def aY.copied (h:aY base V N0 E) (B:f ∈ (aH N0 E).map (·.N)) (hn:n<256) (h0:aQ V.C n=0) (J:oH (aJ V.C) (jA V.C f)=true):
  copyV V f n=eH (jP V f n) (jv (sS V.C f n)++[(n,cl (jP V f n).C f)])∧
   (∀ l,(∀ x ∈ l,x ∈ jv (sS V.C f n)++[(n,cl (jP V f n).C f)])→Ok (dG (jP V f n).C l) (jq V.C [n]) N0 E (bD V.C N0 E))∧
   Ok (copyV V f n).C (jq V.C [n]) N0 E (bD V.C N0 E)∧(copyV V f n).C.length=jq V.C [n]∧
   (∀ m,m<256→aQ (copyV V f n).C m=if n=m then 1 else aQ V.C m+(jA V.C f).count m)∧cl (copyV V f n).C n=wB (cl V.C f)∧
   (∀ t,5≤t→t<V.C.length→t≠n→zH V.C f t→cl (copyV V f n).C t=wB (cl V.C t))∧(∀ t,5≤t→t<V.C.length→t≠n→ ¬ zH V.C f t→cl (copyV V f n).C t=cl V.C t)∧Shape V.C (copyV V f n).C (aH N0 E):=by
 obtain ⟨a0,a1,T,a3,G,U⟩:=h.ab6 B hn;obtain ⟨Z,o,W⟩:=h.ahI B hn J;have hT:jq V.C [n]=max V.C.length (n+1):=rfl;have h6:=h.sound.Fe hn h0;have h7:=h.file.seven;have hlen:=h.sound.len;have g:=h.sound.untold hn h0;have K: ∀ t,zH V.C f t→nX (aH N0 E) t∨fD V.C (aH N0 E) t:=fun t a=>ZY h.sound B a;have aa:=h.sound.LK (K f (by unfold zH;simp));have ab: ¬ zH V.C f n:=fun x=>by
  rcases K n x with y | y
  ·exact g.1 y
  ·exact g.2.1 y
 have same: ∀ t,(nX (aH N0 E) t∨fD V.C (aH N0 E) t)→ ∀ q,q<32→lQ (nm (bg (jP V f n).C (jq V.C [n])) t q) (nm V.C t q)∧(32768≤nm (bg (jP V f n).C (jq V.C [n])) t q→ ¬ zH V.C f t∧nm (bg (jP V f n).C (jq V.C [n])) t q=nm V.C t q):=by
  intro t a q c
  have:=h.sound.LK a
  rw [GU _ _ _ _ om,ny om]
  by_cases b:zH V.C f t
  ·rw [G t om b];exact ⟨h.sound.aeB a q c,fun hm=>by rw [Xq _ _ c] at hm;omega⟩
  ·rw [U t om b];exact ⟨lQ.refl _,fun _=>⟨b,rfl⟩⟩
 have w:Shape V.C (bg (jP V f n).C (jq V.C [n])) (aH N0 E):=⟨fun r hr j hj=>(same _ (aA ⟨r,hr,rfl⟩) j hj).1,fun s hs k hk=>(same s (ay hs) k hk).1⟩;have key: ∀ t,(nX (aH N0 E) t∨fD V.C (aH N0 E) t)→ ∀ q,q<32→32768≤nm (bg (jP V f n).C (jq V.C [n])) t q→aI (sS V.C f n) (nm (bg (jP V f n).C (jq V.C [n])) t q%32768)=1:=by
  intro t a q c hm;obtain ⟨b,e⟩:=(same t a q c).2 hm;rw [e] at hm ⊢;have ad:=h.sound.Ad a q c om;have D:=h.sound.YK a q c hm;rw [o _ om];have hz:=h.sound.atb B a b c om D;split
  ·rfl
  ·omega
 have M: ∀ l,(∀ x ∈ l,x ∈ jv (sS V.C f n)++[(n,cl (jP V f n).C f)])→Ok (dG (jP V f n).C l) (jq V.C [n]) N0 E (bD V.C N0 E):=by
  intro l X;refine T.counts (sS V.C f n) Z (fun m=>m=n) (fun m hm=> ?_) (fun m hm=> ?_) (fun m hm=> ?_) (fun m hm ae=> ?_) (fun r hr j hj hm=>key r.N (aA ⟨r,hr,rfl⟩) j om hm) (fun s hs q c hm=>key s (ay ((w.rZ s).1 hs)) q c hm) l (fun x d=> ?_)
  ·rw [hm];exact ⟨om,h6,g.1,fun x=>g.2.1 ((w.rZ n).1 x),fun x=>g.2.2 ((w.AO n).1 x)⟩
  ·rw [w.use,o m hm]
   by_cases e:n=m
   ·subst e;rw [au rfl,JX h.sound g,wK,ak om];omega
   ·rw [ak e]
    have:=h.sound.jI m hm
    omega
  ·rw [o m hm];split
   ·omega
   ·obtain ⟨c1,c2⟩:=h.ok.Gu rfl
    by_cases O:m ∈ jA V.C f
    ·have:=(acE _ _ (fun u hu=>by rw [c1];have:=W u hu;omega)).1 J m O
     rw [c2 m hm] at this;omega
    ·rw [H8.2 O]
     have:=h.sound.top m hm
     omega
  ·rw [o m hm,ak om,h.sound.none m hm om,H8.2 (fun x=>by have:=W m x;omega)]
  ·rcases fK.1 (X x d) with y | y
   ·exact aA (KH y)
   ·rw [iP.1 y];refine ay ⟨rfl,?_⟩;exact T.file.lens _ (by
     unfold cl;rw [aN,bJ om];exact o9 _)
 have e:copyV V f n=eH (jP V f n) (jv (sS V.C f n)++[(n,cl (jP V f n).C f)]):=by
  unfold copyV eH;rw [Zi,← alu,PD];dsimp only;rw [ahm _ om f om 4 om,ak om]
 have v:(copyV V f n).C=dG (jP V f n).C (jv (sS V.C f n)++[(n,cl (jP V f n).C f)]):=by rw [e,uz]
 have H:dG (jP V f n).C (jv (sS V.C f n)++[(n,cl (jP V f n).C f)])=iV (dG (jP V f n).C (jv (sS V.C f n))) (n,cl (jP V f n).C f):=by simp [dG]
 have Y:(dG (jP V f n).C (jv (sS V.C f n))).length=V.C.length:=by
  have:=ND (jv (sS V.C f n)) (jP V f n).C V.C.length om (fun x d=>by obtain ⟨p,hp,rfl⟩:=KH d;simp only;omega)
  omega
 have hl:(copyV V f n).C.length=jq V.C [n]:=by
  rw [v,H,LC,Y];rfl
 have P: ∀ t,5≤t→t<V.C.length→t≠n→cl (copyV V f n).C t=cl (jP V f n).C t:=fun t F a i=>by
  rw [← ny om,v,H,zQ,ak (fun z=>i z.symm),FW t _ _ (fun x d=>by obtain ⟨p,hp,rfl⟩:=KH d;simp only;omega),ny om]
 have Q: ∀ t,5≤t→t<V.C.length→t≠n→zH V.C f t→cl (copyV V f n).C t=wB (cl V.C t):=fun t F a i b=>by rw [P t F a i,G t om b]
 have S: ∀ t,5≤t→t<V.C.length→t≠n→ ¬ zH V.C f t→cl (copyV V f n).C t=cl V.C t:=fun t F a i b=>by rw [P t F a i,U t om b]
 have I: ∀ t,(nX (aH N0 E) t∨fD V.C (aH N0 E) t)→ ∀ q,q<32→lQ (nm (copyV V f n).C t q) (nm V.C t q):=fun t a q c=>by
  have D:=h.sound.LK a;have i:t≠n:=fun z=>by
   rw [z] at a;rcases a with y | y
   ·exact g.1 y
   ·exact g.2.1 y
  unfold nm
  by_cases b:zH V.C f t
  ·rw [Q t om D.2 i b];exact h.sound.aeB a q c
  ·rw [S t om D.2 i b];exact lQ.refl _
 refine ⟨e,M,by rw [v];exact M _ (fun x d=>d),hl,fun m hm=> ?_,?_,Q,S,⟨fun r hr j hj=>I _ (aA ⟨r,hr,rfl⟩) j hj,fun s hs k hk=>I s (ay hs) k hk⟩⟩
 ·have:=afj (jP V f n).C (sS V.C f n) m hm [(n,cl (jP V f n).C f)] (fun x d=>by rw [iP.1 d];simp only;omega)
  unfold aQ;rw [← ny om,v,this,o m hm];rfl
 ·rw [← ny om,v,H,zQ,au rfl,G f om (by unfold zH;simp)]
end
structure CS (L L':List aj):Prop where
 len:L'.length=L.length
 same: ∀ t,t≠0→t≠5→cl L' t=cl L t
section
variable {L L':List aj} {rs:List bI}
def CS.nm (h:CS L L') {t:Nat} (a:6≤t) (q:Nat):nm L' t q=nm L t q:=by
 unfold Go.Proofs.YtknjjjenklfeoaaGreatDoor.nm;rw [h.same t om om]
def CS.count (h:CS L L') (n:Nat) (hn:n<256):aQ L' n=aQ L n:=by
 unfold aQ;rw [h.same _ om om]
def CS.shape (h:CS L L') (hs:dH L rs):Shape L L' rs:=
 Shape.of_same (fun r hr=>h.same _ (by have:=hs.fst r hr;omega) (by have:=hs.fst r hr;omega)) (fun s a=>h.same _ (by have:=hs.sec s a;omega) (by have:=hs.sec s a;omega))
def CS.sound (h:CS L L') (hs:dH L rs):dH L' rs:=by
 have hlen:=hs.len;refine hs.shape (h.shape hs) (by rw [h.len];exact aO _) (by rw [h.len];exact hs.len) (fun n hn=>by rw [h.count n hn];exact hs.jI n hn) (fun n hn=>by rw [h.count n hn];exact hs.top n hn) (fun n hn c=>by rw [h.count n hn];exact hs.none n hn (by rw [← h.len];exact c)) (fun r hr j hj hm=> ?_) (fun s a k hk hm=> ?_)
 ·have b:=hs.fst r hr;rw [h.nm b.1] at hm ⊢
  have:=hs.Ad (aA ⟨r,hr,rfl⟩) j om om
  rw [h.count _ om];exact hs.Dl r hr j hj hm
 ·have b:=hs.sec s a;rw [h.nm b.1] at hm ⊢
  have:=hs.Ad (ay a) k hk om
  rw [h.count _ om];exact hs.BI s a k hk hm
def CS.content (h:CS L L') (hs:dH L rs) {r:bI} (hr:r ∈ rs):eu L' r.N=eu L r.N:=
 (h.shape hs).content (fun n hn=>h.same n (by have:=hs.aG n hn;omega) (by have:=hs.aG n hn;omega)) hr
def CS.tree (h:CS L L') (hs:dH L rs) {r:bI} (hr:r ∈ rs) (m:Nat):lH L' r.N m=lH L r.N m:=(h.shape hs).tree hr m
def CS.exact (h:CS L L') (hs:dH L rs) (c:wJ L rs):wJ L' rs:=by
 have hlen:=hs.len;refine ⟨fun n hn=>by rw [h.count n hn,(h.shape hs).use];exact c.eq n hn,fun r hr j hj h0 a=> ?_,fun s b k hk h0 a=> ?_⟩
 ·have d:=hs.fst r hr;rw [h.nm d.1] at h0 a ⊢
  have:=hs.Ad (aA ⟨r,hr,rfl⟩) j om h0
  rw [h.count _ om] at a;exact c.Vk r hr j hj h0 a
 ·rw [(h.shape hs).rZ] at b;have d:=hs.sec s b;rw [h.nm d.1] at h0 a ⊢
  have:=hs.Ad (ay b) k hk h0
  rw [h.count _ om] at a;exact c.Vl s b k hk h0 a
end
def aea {C:List aj} {p:Nat} {c:aj} (i:p<C.length) (h:p=0∨p=5):CS C (dG C [(p,c)])∧cl (dG C [(p,c)]) p=c∧ ∀ t,t≠p→cl (dG C [(p,c)]) t=cl C t:=by
 have e:dG C [(p,c)]=iV C (p,c):=rfl;have d:(iV C (p,c)).length=C.length:=by rw [LC];simp only;omega
 have a: ∀ t,t≠p→cl (iV C (p,c)) t=cl C t:=fun t g=>by
  by_cases b:t<C.length
  ·rw [← ny om,zQ,ak (fun z=>g z.symm),ny b]
  ·rw [D7 om,D7 om]
 rw [e];exact ⟨⟨d,fun t h0 j=>a t om⟩,by rw [← ny om,zQ,au rfl],a⟩
section
variable {base:List aj} {V:aB} {N0:Nat} {E:List aW} {f n:Nat}
structure Qn (base:List aj) (V:aB) (N0:Nat) (E:List aW) (V':aB) (N1:Nat) (E':List aW) (D':dR):Prop where
 bH:aY base V' N1 E'
 holds:bD V'.C N1 E'=D'
 exact:wJ V.C (aH N0 E)→wJ V'.C (aH N1 E')
def aqp {L L':List aj} (a:bD L' N0 E=bD L N0 E): ∀ r ∈ aH N0 E,eu L' r.N=eu L r.N:=by
 intro r hr;rcases Dx.1 hr with z | ⟨x,c,z⟩
 ·rw [z];exact H9 dR.C a
 ·rw [z];obtain ⟨i,hi,rfl⟩:=Tf c;have d:(E.map fun e=>(⟨e.name,eu L' e.first⟩:kD))=E.map fun e=>⟨e.name,eu L e.first⟩:=H9 dR.L a;have b:=H9 (fun l=>l[i]?) d;simp only [jK,bJ hi,Gf,jH] at b;exact H9 kD.C b
def Zj (V:aB) (f n:Nat):iJ V (copyV V f n):=by
 unfold copyV jP;exact ((Zl (alD (aed (iJ.refl V) [n]) uX _).flush _ 4).put _ _).flush
def aY.ahH (h:aY base V N0 E) (b:f ∈ (aH N0 E).map (·.N)) (hn:n<256) (h0:aQ V.C n=0) (d:oH (aJ V.C) (jA V.C f)=true):
  dH (copyV V f n).C (aH N0 E)∧(∀ j,j<32→nm (copyV V f n).C n j=nm (copyV V f n).C f j)∧(∀ m,lH (copyV V f n).C n m=(if n=m then 1 else 0)+(jA V.C f).count m)∧
   (¬ nX (aH N0 E) n∧ ¬ fD (copyV V f n).C (aH N0 E) n∧ ¬ oU (copyV V f n).C (aH N0 E) n)∧eu (copyV V f n).C n=eu (copyV V f n).C f∧(∀ r ∈ aH N0 E,eu (copyV V f n).C r.N=eu V.C r.N)∧(jA V.C f).count n=0:=by
 obtain ⟨e,I,i,l,J,w,B,K,c⟩:=h.copied b hn h0 d;obtain ⟨M,O,P⟩:=h.ahI b hn d;have a:=h.sound.untold hn h0;obtain ⟨r,hr,rfl⟩:=gY.1 b;have q:=h.sound.fst r hr;have s:r.N≠n:=fun z=>a.1 ⟨r,hr,z⟩;have D:cl (copyV V r.N n).C n=cl (copyV V r.N n).C r.N:=by rw [w,B r.N om q.2 s (by unfold zH;simp)]
 have en: ∀ j,nm (copyV V r.N n).C n j=nm (copyV V r.N n).C r.N j:=fun j=>by unfold nm;rw [D]
 have hs:=i.sound;rw [sG l] at hs;have t: ¬ nX (aH N0 E) n∧ ¬ fD (copyV V r.N n).C (aH N0 E) n∧ ¬ oU (copyV V r.N n).C (aH N0 E) n:=⟨a.1,fun x=>a.2.1 ((c.rZ n).1 x),fun x=>a.2.2 ((c.AO n).1 x)⟩;have o:=i.holds;rw [sG l] at o;refine ⟨hs,fun j _=>en j,fun m=> ?_,t,apV (fun j _=>en j),fun F u=> ?_,?_⟩
 ·have G:lH (copyV V r.N n).C r.N m=lH V.C r.N m:=c.tree hr m;have H:=XH (h.sound.zero r hr) m;unfold lH at G ⊢;have p: ∀ j,oh (copyV V r.N n).C n j m=oh (copyV V r.N n).C r.N j m:=fun j=>by unfold oh;rw [en j]
  rw [p 0,p 1,H];omega
 ·exact aqp o F u
 ·refine H8.2 fun x=> ?_;obtain ⟨j,hj,g,y | ⟨k,hk,v,y⟩⟩:=YM (h.sound.zero r hr) x
  ·exact a.2.1 ⟨r,hr,j,hj,g,y⟩
  ·exact a.2.2 ⟨_,⟨r,hr,j,hj,g,rfl⟩,k,hk,v,y⟩
def aY.apZ (h:aY base V N0 E) (s:f ∈ (aH N0 E).map (·.N)) (hn:n<256) (h0:aQ V.C n=0) (D:oH (aJ V.C) (jA V.C f)=true) (u:wJ V.C (aH N0 E)) {t:Nat} (c:nX (aH N0 E) t∨fD V.C (aH N0 E) t) (q:Nat) (b:q<32) (G:nm (copyV V f n).C t q≠0)
  (P:aQ (copyV V f n).C (nm (copyV V f n).C t q%32768)=1):32768≤nm (copyV V f n).C t q:=by
 obtain ⟨e,U,W,X,Q,Y,Z,S,v⟩:=h.copied s hn h0 D;have o:=h.sound.untold hn h0;have hlen:=h.sound.len;have H:=h.sound.LK c;have I:t≠n:=fun z=>by
  rw [z] at c;rcases c with y | y
  ·exact o.1 y
  ·exact o.2.1 y
 obtain ⟨r,hr,rfl⟩:=gY.1 s;have same:lQ (nm (copyV V r.N n).C t q) (nm V.C t q):=by
  rcases c with ⟨g,d,rfl⟩ | y
  ·exact v.t1 g d q b
  ·exact v.t2 t y q b
 have a:nm V.C t q≠0:=fun z=>G (same.1.2 z);have T:=h.sound.Ad c q b a;have J:=h.sound.afh c q b a;have K:=h.sound.jI _ (show nm V.C t q%32768<256 by omega);have M:nm V.C t q%32768≠n:=fun z=>by rw [z] at K J;omega
 rw [same.2,Q _ om,ak (fun z=>M z.symm)] at P
 by_cases w:zH V.C r.N t
 ·exfalso;have F:nm V.C t q%32768 ∈ jA V.C r.N:=by
   rcases cO.1 w with z | z
   ·rw [z] at a ⊢;have l:q<2:=by
     by_cases x:q<2
     ·exact x
     ·exact absurd (h.sound.zero r hr q om b) a
    exact awE l a
   ·obtain ⟨i,hi,p,m⟩:=YN z;have O:i<2:=by
     by_cases x:i<2
     ·exact x
     ·exact absurd (h.sound.zero r hr i om hi) p
    have B:nm V.C r.N i%32768=t:=m
    have:=awF (C:=V.C) (f:=r.N) (j:=i) (k:=q) O p b (by rw [B];exact a)
    rw [B] at this;exact this
  have:=aax.2 F
  omega
 ·have m:nm (copyV V r.N n).C t q=nm V.C t q:=by unfold nm;rw [S t om H.2 I w]
  rw [m];rcases c with ⟨g,d,rfl⟩ | y
  ·have l:q<2:=by
    by_cases x:q<2
    ·exact x
    ·exact absurd (h.sound.zero g d q om b) a
   exact u.Vk g d q l a om
  ·exact u.Vl t y q b a om
def ach (L:List aj) (a:Nat) (b:List aW):(bD L a b).C=eu L a:=by simp only [bD]
def QJ (L:List aj) (b:Nat) (a:List aW):(bD L b a).L=a.map fun e=>(⟨e.name,eu L e.first⟩:kD):=by simp only [bD]
def aci {L:List aj} {a:Nat} {b:List aW} {c:List aj} {l:List kD} (d:eu L a=c) (hB:(b.map fun e=>(⟨e.name,eu L e.first⟩:kD))=l):bD L a b=⟨c,l⟩:=by rw [← d,← hB];rfl
def G7 (V:aB) (f n:Nat) (a:List aW):aB:=fF (bQ (copyV V f n) 5 (og a))
def SB (D:dR) (s:List UInt8):dR:={ D with L:=D.L++[⟨s,D.C⟩] }
def avg (N0:Nat) (E:List aW) (e:aW):aH N0 (E++[e])=aH N0 E++[lU e]:=by simp [aH]
def amZ (L:List aj) (rs:List bI) (r:bI) (m:Nat):dN L (rs++[r]) m=dN L rs m+lH L r.N m:=by simp [dN]
def iZ.snoc (h:iZ E) {s:List UInt8} (hs:nZ s=true) (d:s ∉ E.map (·.name)) (j:E.length<4) (g:n≠0) (hn:n<65536):iZ (E++[⟨s,n⟩]):=by
 refine ⟨by simp;omega,fun e he=> ?_,?_⟩
 ·rcases fK.1 he with x | x
  ·exact h.all e x
  ·rw [iP.1 x];exact ⟨hs,g,hn⟩
 ·rw [rQ,afw];refine ⟨h.nodup,sm,fun a i b c=> ?_⟩;simp only [jU,LQ,iP] at c;rw [c];exact fun z=>d (by rw [← z];exact i)
def aY.take (h:aY base V N0 E) {s:List UInt8} (hs:nZ s=true) (aa:s ∉ E.map (·.name)) (h4:E.length<4) (hn:n<256) (h0:aQ V.C n=0) (G:oH (aJ V.C) (jA V.C N0)=true):
  G7 V N0 n (E++[⟨s,n⟩])=eH (copyV V N0 n) [(5,og (E++[⟨s,n⟩]))]∧Qn base V N0 E (G7 V N0 n (E++[⟨s,n⟩])) N0 (E++[⟨s,n⟩]) (SB (bD V.C N0 E) s):=by
 have J:N0 ∈ (aH N0 E).map (·.N):=by simp [aH]
 have F:(⟨N0,0,[]⟩:bI) ∈ aH N0 E:=by simp [aH]
 obtain ⟨e,a1,w,S,T,a5,a6,a7,K⟩:=h.copied J hn h0 G;obtain ⟨b1,b2,X,M,b5,Y,Z⟩:=h.ahH J hn h0 G;have h6:=h.sound.Fe hn h0;have hT:jq V.C [n]=max V.C.length (n+1):=rfl;have h7:=h.file.seven;have hlen:=h.sound.len;have P:=h.file.iR.snoc hs aa h4 (show n≠0 by omega) om;have y:G7 V N0 n (E++[⟨s,n⟩])=eH (copyV V N0 n) [(5,og (E++[⟨s,n⟩]))]:=by unfold G7 eH;rw [PD]
 have hC:(G7 V N0 n (E++[⟨s,n⟩])).C=dG (copyV V N0 n).C [(5,og (E++[⟨s,n⟩]))]:=by rw [y,uz]
 obtain ⟨c1,c2,c3⟩:=aea (C:=(copyV V N0 n).C) (p:=5) (c:=og (E++[⟨s,n⟩])) om (ay rfl);rw [← hC] at c1 c2 c3;have ad:(G7 V N0 n (E++[⟨s,n⟩])).loose=false:=by rw [y];exact OE _
 have U9:iJ V (G7 V N0 n (E++[⟨s,n⟩])):=by rw [y];exact NH (Zj V N0 n) _
 have H:=fun (i:wJ V.C (aH N0 E)) {t:Nat} ht q hq=>h.apZ J hn h0 G i (t:=t) ht q hq;refine ⟨y,?_⟩;clear y e a1 a5 a6 a7;generalize G7 V N0 n (E++[⟨s,n⟩])=W at*;generalize copyV V N0 n=U at*;have o:aH N0 (E++[⟨s,n⟩])=aH N0 E++[⟨n,5,s⟩]:=avg _ _ _;have ab: ∀ m,m<256→aQ (U).C m=gZ m+dN (U).C (aH N0 (E++[⟨s,n⟩])) m∨gZ m+dN V.C (aH N0 E) m<aQ V.C m:=fun m hm=>by
  rw [o,amZ,K.use,T m hm];simp only;rw [X m]
  by_cases z:n=m
  ·subst z
   left
   rw [au rfl,au rfl,JX h.sound (h.sound.untold hn h0),Z,wK,ak om]
  ·rw [ak z,ak z]
   have:=h.sound.jI m hm
   omega
 have s1:dH (U).C (aH N0 (E++[⟨s,n⟩])):=by
  refine b1.roots (fun l d=> ?_) ?_ (fun m hm=> ?_)
  ·rw [o] at d;rcases fK.1 d with x | x
   ·exact ⟨b1.fst l x,b1.fs _ ⟨l,x,rfl⟩,b1.fb _ ⟨l,x,rfl⟩,l,x,fun j _=>rfl⟩
   ·rw [iP.1 x];exact ⟨⟨h6,by rw [S];simp only;omega⟩,M.2.1,M.2.2,_,F,fun j hj=>b2 j hj⟩
  ·rw [o,rQ,afw];refine ⟨b1.nodup,sm,fun a ha b hb=> ?_⟩;simp only [jU,LQ,iP] at hb;rw [hb];intro z;obtain ⟨l,d,e2⟩:=gY.1 ha;exact M.1 ⟨l,d,e2.trans z⟩
  ·rw [o,amZ,K.use,T m hm];simp only;rw [X m]
   have:=h.sound.jI m hm
   by_cases z:n=m
   ·subst z;rw [au rfl,au rfl,JX h.sound (h.sound.untold hn h0),Z,wK,ak om];exact aO _
   ·rw [ak z,ak z];omega
 have s2:=c1.sound s1;have O:(W).C.length=jq V.C [n]:=by rw [c1.len,S]
 have OW:lK (W).C (jq V.C [n]) N0 (E++[⟨s,n⟩]):=by
  refine ⟨?_,om,om,w.file.seven,w.file.most,w.file.n0,by rw [c3 0 om];exact w.file.head,c2,P⟩;rw [hC];exact RS _ _ w.file.lens (fun x i=>by rw [iP.1 i];exact P.length)
 have hD:bD (W).C N0 (E++[⟨s,n⟩])=SB (bD V.C N0 E) s:=by
  have g: ∀ r ∈ aH N0 (E++[⟨s,n⟩]),eu (W).C r.N=eu (U).C r.N:=fun r hr=>c1.content s1 hr;have gn:=g ⟨n,5,s⟩ (by rw [o];simp);have g0:=g ⟨N0,0,[]⟩ (by rw [o];simp [aH]);simp only at gn g0;have I:=Y _ F;simp only at I;have hA:eu (W).C N0=(bD V.C N0 E).C:=by rw [ach,g0,I]
  have hB:((E++[(⟨s,n⟩:aW)]).map fun e:aW=>(⟨e.name,eu (W).C e.first⟩:kD))=(bD V.C N0 E).L++[⟨s,(bD V.C N0 E).C⟩]:=by
   have u:(E.map fun e=>(⟨e.name,eu (W).C e.first⟩:kD))=E.map fun e=>(⟨e.name,eu V.C e.first⟩:kD):=by
    apply Ji;intro x i;have Q:lU x ∈ aH N0 E:=Dx.2 (ay ⟨x,i,rfl⟩);have g1:=g (lU x) (by rw [o];exact fK.2 (aA Q));have g2:=Y (lU x) Q;simp only [lU] at g1 g2;rw [g1,g2]
   rw [rQ,u,QJ,ach,jU,LQ];simp only;rw [gn,b5,I]
  exact aci hA hB
 have ok:Ok W.C (jq V.C [n]) N0 (E++[⟨s,n⟩]) (SB (bD V.C N0 E) s):=⟨OW,by rw [sG O];exact s2,by rw [sG O];exact hD⟩;refine ⟨ok.bH O ad (h.log.jr U9),hD,fun i=>c1.exact s1 ⟨fun m hm=> ?_,fun l d j hj v u=> ?_,fun s' ae k hk v u=> ?_⟩⟩
 ·rcases ab m hm with z | z
  ·exact z
  ·have:=i.eq m hm;omega
 ·rw [o] at d;rcases fK.1 d with x | x
  ·exact H i (aA ⟨l,x,rfl⟩) j om v u
  ·rw [iP.1 x] at v u ⊢;simp only at v u ⊢;rw [b2 j om] at v u ⊢;exact H i (aA ⟨_,F,rfl⟩) j om v u
 ·have:fD V.C (aH N0 E) s':=by
   rw [← K.rZ];obtain ⟨l,d,j,hj,B,D⟩:=ae;rw [o] at d;rcases fK.1 d with x | x
   ·exact ⟨l,x,j,hj,B,D⟩
   ·rw [iP.1 x] at B D;simp only at B D;rw [b2 j om] at B D;exact ⟨_,F,j,hj,B,D⟩
  exact H i (ay this) k hk v u
end
end Go.Proofs.YtknjjjenklfeoaaGreatDoor
