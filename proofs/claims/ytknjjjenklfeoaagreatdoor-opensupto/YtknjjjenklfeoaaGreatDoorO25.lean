import Derived.Test.YtknjjjenklfeoaaGreatDoorO24
set_option maxHeartbeats 8000000
set_option maxRecDepth 100000
set_option linter.all false
namespace Go.Proofs.YtknjjjenklfeoaaGreatDoor
open Go.RowKit
def anO:aj:=List.replicate 7 1++List.replicate 57 0
def AO:List aj:=[fE 7 6,anO,zc,zc,zc,zc,zc]
theorem XC:zf.C=AO:=kr
theorem XD: ∀ n:Fin 256,aS AO n.val=(if n.val<6 then 1 else 0)+(if n.val=6 then 1 else 0):=by decide +kernel
theorem Qo: ∀ i:Fin 32,num (cl AO 6) (2*i.val)=0:=by decide +kernel
theorem aqH:cl AO 5=nG []:=kr
theorem aqC:dZ AO 6=List.replicate 64 zc:=kr
theorem aqG: ∀ c ∈ AO,c.length=64:=by decide +kernel
theorem aom:iL []:=⟨dc,fun e he=>(by cases he),List.nodup_nil⟩
theorem Ui {r:bC} (h:r ∈ aH 6 []):r.N=6:=by
 rcases Cj.1 h with x | ⟨e,he,_⟩
 ·rw [x]
 ·cases he
theorem Qn (s:Nat): ¬ fB AO (aH 6 []) s:=by
 rintro ⟨r,hr,j,hj,h0,_⟩;rw [Ui hr] at h0;exact h0 (Qo ⟨j,om⟩)
theorem aiW (s:Nat): ¬ oK AO (aH 6 []) s:=fun ⟨x,hx,_⟩=>Qn x hx
theorem aiX (n:Nat):dM AO (aH 6 []) n=if n=6 then 1 else 0:=by
 have h0:nm AO 6 0=0:=Qo ⟨0,om⟩;have h1:nm AO 6 1=0:=Qo ⟨1,om⟩;show kK AO 6 n+0=_;unfold kK nJ;rw [au h0,au h1]
 by_cases e:n=6
 ·rw [au e.symm,au e]
 ·rw [ak (fun z=>e z.symm),ak e]
theorem aqK:cZ AO (aH 6 []):=by
 refine ⟨dc,dc,fun r hr=>by rw [Ui hr];decide,dc,fun r hr i _ h2=>by rw [Ui hr];exact Qo ⟨i,h2⟩,fun s hs=>absurd hs (Qn s),fun n hn=>absurd hn (aiW n),fun t _ hs=>Qn t hs,fun t _ hs=>aiW t hs,fun t hs=>absurd hs (Qn t),fun n hn=> ?_,fun n hn=> ?_,fun n hn hl=> ?_,fun r hr j hj hm=> ?_,fun s hs=>absurd hs (Qn s)⟩
 ·rw [vV,aiX,XD ⟨n,hn⟩];exact aP _
 ·rw [XD ⟨n,hn⟩];split <;> split <;> omega
 ·have:AO.length=7:=rfl
  rw [XD ⟨n,hn⟩,ak (by simp only;omega),ak (by simp only;omega)]
 ·rw [Ui hr] at hm;have h0:nm AO 6 j=0:=Qo ⟨j,om⟩;omega
theorem aqE:wI AO (aH 6 []):=
 ⟨fun n hn=>by rw [vV,aiX,XD ⟨n,hn⟩],fun r hr j hj h0=>absurd (by rw [Ui hr];exact Qo ⟨j,om⟩) h0,fun s hs=>absurd hs (Qn s)⟩
theorem aqL:bD [] zf 6 []:=by
 refine ⟨?_,by rw [XC];exact aqK,aqJ,ap4⟩;rw [XC];exact ⟨aqG,dc,aP _,dc,dc,dc,rfl,aqH,aom⟩
def avj:dY:=⟨List.replicate 64 zc,[]⟩
theorem aqD:bU zf.C 6 []=avj:=by
 rw [XC];unfold bU;rw [aqC];rfl
theorem aqF:wI zf.C (aH 6 []):=by rw [XC];exact aqE
theorem aqI:zf.L.length≤20:=by
 have:zf.L.length=9:=kr
 omega
theorem acG (ps:List (Nat × aj)): ∀ V:aB,(o7 V ps).L.length≤V.L.length+2*ps.length:=by
 induction ps with
 | nil=>intro V;exact aP _
 | cons x r ih=>
  intro V;have h1:=tZ V x.1 x.2;have h2:=ih (bT V x.1 x.2);rw [acF];simp only [iQ];omega
theorem PN (V:aB) (ps:List (Nat × aj)):(jR V ps).L.length≤V.L.length+2*ps.length+1:=by
 have h1:=acG ps V;have h2:=yD (o7 V ps);unfold jR;omega
theorem ah1 (V:aB) (F:List Nat):(dQ V F).L.length≤V.L.length+3:=by
 unfold dQ;split
 ·have h1:=tZ V 0 (fE (uo F+1) (num (cl V.C 0) 6));have h2:=yD (bT V 0 (fE (uo F+1) (num (cl V.C 0) 6)));omega
 ·omega
theorem afL (V:aB) (F:List Nat):(wR V F).L.length≤V.L.length+11:=by
 rw [aaw];have h1:=acG (jo (fU (aJ (dQ V F).C) F)) (dQ V F);have h2:=ah1 V F
 have:(jo (fU (aJ (dQ V F).C) F)).length=4:=rfl
 omega
theorem apU (V:aB) (us:List Nat):(jI V us).L.length≤V.L.length+9:=by
 rw [ah4]
 have:=PN V (jo (minus (aJ V.C) us))
 have h:(jo (minus (aJ V.C) us)).length=4:=rfl;omega
theorem aoA (V:aB):(bK V).length≤5:=by
 unfold bK zZ
 have:=zU (aY (cl V.C 5))
 simp
 omega
theorem ak4 (V:aB) (p:rV) (data:aj):(uz V p data).L.length≤V.L.length+20:=by
 have h1:=afL V (dG (aJ V.C) 1);have h2:=tZ (wR V (dG (aJ V.C) 1)) ((dG (aJ V.C) 1).getD 0 0) data;have h3:=yD (bT (wR V (dG (aJ V.C) 1)) ((dG (aJ V.C) 1).getD 0 0) data);have h4:=fun c=>tZ (rC V data) (p.second%32768) c;have h5:=fun W=>yD W;unfold uz Ce;have h6:=h4 (bytesOf ((numsOf (cl (rC V data).C (p.second%32768))).set p.oM ((dG (aJ V.C) 1).getD 0 0+32768)));have h7:=h5 (bT (rC V data) (p.second%32768) (bytesOf ((numsOf (cl (rC V data).C (p.second%32768))).set p.oM ((dG (aJ V.C) 1).getD 0 0+32768))));have h8:(rC V data).L.length≤V.L.length+14:=by unfold rC;omega
 omega
theorem ak5 (V:aB) (p:rV) (data:aj):(uD V p data).L.length≤V.L.length+20:=by
 have h1:=afL V (dG (aJ V.C) 2);have h2:=tZ (wR V (dG (aJ V.C) 2)) ((dG (aJ V.C) 2).getD 0 0) (bytesOf (MI V p));have h2':=tZ (bT (wR V (dG (aJ V.C) 2)) ((dG (aJ V.C) 2).getD 0 0) (bytesOf (MI V p))) ((dG (aJ V.C) 2).getD 1 0) data;have h3:=yD (bT (bT (wR V (dG (aJ V.C) 2)) ((dG (aJ V.C) 2).getD 0 0) (bytesOf (MI V p))) ((dG (aJ V.C) 2).getD 1 0) data);have h8:(rD V p data).L.length≤V.L.length+16:=by unfold rD;omega
 have h6:=tZ (rD V p data) p.first (bytesOf ((numsOf (cl (rD V p data).C p.first)).set p.AA ((dG (aJ V.C) 2).getD 0 0+32768)));have h7:=yD (bT (rD V p data) p.first (bytesOf ((numsOf (cl (rD V p data).C p.first)).set p.AA ((dG (aJ V.C) 2).getD 0 0+32768))));unfold uD Ce;omega
section
variable {base:List aj} {V:aB} {N0:Nat} {E:List aX} {n:Int} {data:aj}
theorem Ok.lets {W:aB} {T:Nat} {D:dY} (h:Ok W.C T N0 E D) (hT:W.C.length=T) (hL:W.L.length≤600000000) (ns:List Nat) (hns: ∀ m ∈ ns,m<65536∧m%32768<256) (hnl:ns.length≤100) (hl:Lets W N0 E (dL ns)) (v:Nat):Nh v W (oD W (dL ns)) ns:=by
 have h7:=h.file.seven;obtain ⟨a1,a2,_,_⟩:=h.TS hT hl;have s1:=a1.sound;rw [rP a2] at s1;intro X C1 L1 bx bs hV hbx hbs hf;exact apV v W om (by rw [hT];exact h.file.most) hL ns hns hnl (fun f hf=>by rw [a1.Au] at hf;exact s1.Di hf) X C1 L1 bx bs hV hbx hbs hf
theorem bD.ai1 (h:bD base V N0 E) {b:Nat} (hb:b<64):bY V.C N0 b<65536∧bY V.C N0 b%32768<256:=by
 have hm:=h.file.most;refine ⟨by unfold bY;split;omega;exact iD _ _,?_⟩
 by_cases h0:bY V.C N0 b=0
 ·rw [h0];decide
 ·have:=h.sound.aF _ (Qr (r:=⟨N0,0,[]⟩) (by simp [aH]) hb h0)
  simp only at this;omega
theorem bD.aqQ (h:bD base V N0 E) {j:Nat} (hj:j<2):nm V.C N0 j<65536∧nm V.C N0 j%32768<256:=by
 have hm:=h.file.most;refine ⟨iD _ _,?_⟩
 by_cases h0:nm V.C N0 j=0
 ·rw [h0];decide
 ·have:=h.sound.sec (nm V.C N0 j%32768) ⟨⟨N0,0,[]⟩,by simp [aH],j,hj,h0,rfl⟩
  omega
theorem bD.aoc (h:bD base V N0 E) {w:World} {d v:Nat} {Cv Lv:Value} (hw:pq w d v Cv Lv V) (hL:V.L.length≤500000000) (n:Int) (hd:data.length=64):
  Calls Tryz.prog 26 #[.pointer (some ⟨d,0,none⟩),.int .i64 n,.agg (cv data).toArray] w fun e w'=>e= .returned (.int .i64 ((FT V n data).2:Nat))∧ ∃ C1 L1,bZ w w' v Cv Lv C1 L1 (FT V n data).1:=by
 have h7:=h.file.seven;have hr0:(⟨N0,0,[]⟩:bC) ∈ aH N0 E:=by simp [aH]
 refine aod w d v Cv Lv V _ _ hw om h.file.most hL n data hd (by rw [h.file.Cc];exact h.sound.JZ hr0) (fun hb h2 hf=> ?_) (fun hb h2 h3 hf=> ?_)
 ·obtain ⟨s,n',hF,hsn,hn,h0,h1⟩:=abR hf;rw [Gq h.file.lens om _ om] at h0 h1;have hlt:=Nq hb;rw [h.place n];obtain ⟨e,c1,c2,_⟩:=h.adi hlt hF hsn hn h0 h1 hd;have hl:=(h.adN hlt hF hsn hn h0 h1 hd).1;have hlen:=ak5 V (dP V.C N0 n.toNat) data;refine c1.lets c2 om _ (fun m hm=> ?_) sm hl v;simp only [dD,jM,jO] at hm;rcases hm with rfl | rfl
  ·exact h.aqQ om
  ·exact h.ai1 hlt
 ·obtain ⟨n',hF,hn,h0⟩:=NW hf;rw [Gq h.file.lens om _ om] at h0;have hlt:=Nq hb;rw [h.place n] at h2 ⊢;obtain ⟨e,c1,c2,_⟩:=h.aam hlt hF hn h0 hd h2;have hl:=(h.adM hlt hF hn h0 hd h2).1;have hlen:=ak4 V (dP V.C N0 n.toNat) data;refine c1.lets c2 om _ (fun m hm=> ?_) sm hl v;rw [jw.1 hm];exact h.ai1 hlt
theorem bD.read (h:bD base V N0 E) (n:Int):wP V.C (num (cl V.C 0) 6) n=if kP n then (cl (bU V.C N0 E).C n.toNat,0) else (zc,1):=by
 unfold wP;rw [h.file.Cc]
 by_cases hb:kP n=true
 ·rw [au hb,au hb];have e:tN V.C N0 n.toNat=cl (bU V.C N0 E).C n.toNat:=by
   unfold bU cl;rw [aK,D8 _ _ _ (Nq hb)];rfl
  rw [e]
 ·rw [ak hb,ak hb]
end
theorem akG (c:aj) (h: ∀ i,1<i→i<32→num c (2*i)=0):(dL (numsOf c)).length≤2:=by
 have e:numsOf c=[num c 0,num c 2]++(List.range 30).map (fun i=>num c (2*(i+2))):=by
  apply uH;intro i;unfold numsOf;rw [jD]
  by_cases hi:i<32
  ·rw [x9 hi]
   match i,hi with
   | 0,_=>rfl
   | 1,_=>rfl
   | k+2,hk=>rw [nP sm,jD,x9 (by simp;omega)];simp
  ·rw [eu (by simpa using hi),eu (by simp;omega)];rfl
 unfold dL;rw [tH,e,OO,oO];have e2:((List.range 30).map (fun i=>num c (2*(i+2)))).filter (· != 0)=[]:=by
  rw [ad1];intro a ha;obtain ⟨i,hi,rfl⟩:=gQ.1 ha
  have:=Jm.1 hi
  rw [h (i+2) om om]
  decide
 rw [e2]
 have:=adS (· != 0) [num c 0,num c 2]
 simp only [iQ,vk] at this ⊢;omega
section
variable {base:List aj} {V:aB} {T N0:Nat} {E:List aX} {D:dY}
theorem Ok.aqd (h:Ok V.C T N0 E D) (hT:V.C.length=T):(BR (aJ V.C) V.C (bK V)).length≤15:=by
 have hs:=h.sound;rw [h.LX hT] at hs;have h5:=aoA V;have key: ∀ fs:List Nat,(∀ f ∈ fs,f ∈ (aH N0 E).map (·.N))→(BR (aJ V.C) V.C fs).length≤3*fs.length:=by
  intro fs
  induction fs with
  | nil=>intro _;exact aP _
  | cons f r ih=>
   intro hf;have hi:=ih (fun x hx=>hf x (by simp [hx]));obtain ⟨r0,hr0,e0⟩:=gQ.1 (hf f sm);have h2:=akG (cl V.C f) (fun i h1 h2=>by rw [← e0];exact hs.zero r0 hr0 i h1 h2);unfold BR at hi ⊢;rw [qA,oO,tH,iQ,iQ];omega
 have:=key (bK V) (fun f hf=>by rw [h.Au] at hf;exact hf)
 omega
theorem Ok.TT {us:List Nat} (h:Ok V.C T N0 E D) (hT:V.C.length=T) (hl:Lets V N0 E us):(oD V us).L.length≤V.L.length+40:=by
 obtain ⟨a1,a2,_,_⟩:=h.TS hT hl;have h1:=apU V us;have h2:=a1.aqd a2;have h3:=acG (BR (aJ (jI V us).C) (jI V us).C (bK (jI V us))) (jI V us);have h4:=yD (sF (jI V us));have h5:(sF (jI V us)).L.length≤(jI V us).L.length+30:=by rw [a1.Ue a2];omega
 unfold oD;omega
theorem bD.avf {data:aj} (h:bD base V N0 E) (n:Int) (hd:data.length=64):(FT V n data).1.L.length≤V.L.length+60:=by
 have h7:=h.file.seven;unfold FT Jk
 by_cases hb:kP n=true
 ·have hlt:=Nq hb;rw [ak (by rw [hb];decide),h.place n];obtain ⟨p1,p2,p3,p4,p5⟩:=XR (V:=V) (N0:=N0) n.toNat;rw [p1,p2]
  by_cases h2:nm V.C N0 (n.toNat / 32)<32768
  ·rw [au h2]
   by_cases hf:2≤(dG (aJ V.C) 2).length
   ·rw [au hf];obtain ⟨s,n',hF,hsn,hn,h0,h1⟩:=abR hf;rw [Gq h.file.lens om _ om] at h0 h1;obtain ⟨e,c1,c2,_⟩:=h.adi hlt hF hsn hn h0 h1 hd;have hl:=c1.TT c2 (h.adN hlt hF hsn hn h0 h1 hd).1;have hw:=ak5 V (dP V.C N0 n.toNat) data;generalize oD (uD V (dP V.C N0 n.toNat) data) (dL [nm V.C N0 (n.toNat / 32),bY V.C N0 n.toNat])=W at*;dsimp only;omega
   ·rw [ak hf];dsimp only;omega
  ·rw [ak h2]
   by_cases h3:bY V.C N0 n.toNat<32768
   ·rw [au h3]
    by_cases hf:0<(dG (aJ V.C) 1).length
    ·rw [au hf];obtain ⟨n',hF,hn,h0⟩:=NW hf;rw [Gq h.file.lens om _ om] at h0;obtain ⟨e,c1,c2,_⟩:=h.aam hlt hF hn h0 hd om;have hl:=c1.TT c2 (h.adM hlt hF hn h0 hd om).1;have hw:=ak4 V (dP V.C N0 n.toNat) data;generalize oD (uz V (dP V.C N0 n.toNat) data) (dL [bY V.C N0 n.toNat])=W at*;dsimp only;omega
    ·rw [ak hf];dsimp only;omega
   ·rw [ak h3];have h4:=tZ V (bY V.C N0 n.toNat%32768) data;have h5:=yD (bT V (bY V.C N0 n.toNat%32768) data);dsimp only;omega
 ·have hb':kP n=false:=by simpa using hb
  rw [au hb'];dsimp only;omega
end
end Go.Proofs.YtknjjjenklfeoaaGreatDoor
