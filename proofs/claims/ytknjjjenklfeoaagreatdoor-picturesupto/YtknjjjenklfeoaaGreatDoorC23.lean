import Derived.Test.YtknjjjenklfeoaaGreatDoorC22
set_option maxHeartbeats 8000000
set_option maxRecDepth 100000
namespace Go.Proofs.YtknjjjenklfeoaaGreatDoor
open Go.RowKit
def putC (C:List Clus) (x:Nat × Clus):List Clus:=(growTo C (x.1+1)).set x.1 x.2
def putsC (C:List Clus) (ps:List (Nat × Clus)):List Clus:=ps.foldl putC C
theorem putsC_cons (C:List Clus) (x:Nat × Clus) (ps:List (Nat × Clus)):putsC C (x :: ps)=putsC (putC C x) ps:=rfl
theorem putC_length (C:List Clus) (x:Nat × Clus):(putC C x).length=max C.length (x.1+1):=by simp only [putC,List.length_set,growTo_length]
theorem vw_growTo (C:List Clus) (n t:Nat):vw (growTo C n) t=vw C t:=by
 unfold vw
 rw [growTo_length]
 by_cases h:t<C.length
 · rw [if_pos (by omega),if_pos h,cl_growTo _ _ h]
 · rw [if_neg h]
   by_cases h2:t<max C.length n
   · rw [if_pos h2]
     unfold cl growTo
     rw [List.getD_eq_getElem?_getD,List.getElem?_append_right (by omega),List.getElem?_replicate,if_pos (by omega)];rfl
   · rw [if_neg h2]
theorem vw_putC (C:List Clus) (x:Nat × Clus) (t:Nat):vw (putC C x) t=if x.1=t then x.2 else vw C t:=by
 have hl:=putC_length C x
 by_cases e:x.1=t
 · rw [if_pos e,vw_at (by omega)]
   unfold putC
   rw [cl_setN _ _ _ _ (by rw [growTo_length];omega),if_pos e]
 · rw [if_neg e,← vw_growTo C (x.1+1) t]
   unfold vw putC
   rw [List.length_set]
   by_cases h:t<(growTo C (x.1+1)).length
   · rw [if_pos h,if_pos h,cl_setN _ _ _ _ (by rw [growTo_length];omega),if_neg e]
   · rw [if_neg h,if_neg h]
theorem vw_puts_none (t:Nat): ∀ (ps:List (Nat × Clus)) (C:List Clus),(∀ x ∈ ps,x.1≠t)→vw (putsC C ps) t=vw C t
 | [],_,_=>rfl
 | x :: r,C,h=>by rw [putsC_cons,vw_puts_none t r _ (fun y hy=>h y (by simp [hy])),vw_putC,if_neg (h x (by simp))]
theorem vw_puts (t:Nat): ∀ (ps:List (Nat × Clus)) (C:List Clus),vw (putsC C ps) t=vw C t∨ ∃ x ∈ ps,x.1=t∧vw (putsC C ps) t=x.2
 | [],_=>Or.inl rfl
 | x :: r,C=>by
   rw [putsC_cons]
   rcases vw_puts t r (putC C x) with h | ⟨y,hy,h1,h2⟩
   · rw [vw_putC] at h
     by_cases e:x.1=t
     · rw [if_pos e] at h;exact Or.inr ⟨x,by simp,e,h⟩
     · rw [if_neg e] at h;exact Or.inl h
   · exact Or.inr ⟨y,by simp [hy],h1,h2⟩
theorem vw_puts_new (new:Nat→Clus) (t:Nat) (ps:List (Nat × Clus)) (C:List Clus) (hn: ∀ x ∈ ps,x.2=new x.1) (hx: ∃ x ∈ ps,x.1=t):vw (putsC C ps) t=new t:=by
 induction ps generalizing C with
 | nil=>obtain ⟨x,hx,_⟩:=hx;simp at hx
 | cons x r ih=>
   rw [putsC_cons]
   by_cases hr: ∃ y ∈ r,y.1=t
   · exact ih _ (fun y hy=>hn y (by simp [hy])) hr
   · rw [vw_puts_none t r _ (fun y hy e=>hr ⟨y,hy,e⟩),vw_putC]
     obtain ⟨y,hy,e⟩:=hx
     rcases List.mem_cons.1 hy with z | z
     · rw [← z,if_pos e,hn y (by simp [z]),e]
     · exact absurd ⟨y,z,e⟩ hr
theorem putsC_length: ∀ (ps:List (Nat × Clus)) (C:List Clus) (T:Nat),C.length≤T→(∀ x ∈ ps,x.1<T)→C.length≤(putsC C ps).length∧(putsC C ps).length≤T
 | [],C,T,h,_=>⟨Nat.le_refl _,h⟩
 | x :: r,C,T,h,hx=>by
   have h1:=putC_length C x
   have h2:=hx x (by simp)
   have:=putsC_length r (putC C x) T (by omega) (fun y hy=>hx y (by simp [hy]))
   rw [putsC_cons]
   omega
theorem putsC_lens: ∀ (ps:List (Nat × Clus)) (C:List Clus),(∀ c ∈ C,c.length=64)→(∀ x ∈ ps,x.2.length=64)→ ∀ c ∈ putsC C ps,c.length=64
 | [],_,h,_=>h
 | x :: r,C,h,hx=>by
   rw [putsC_cons]
   refine putsC_lens r _ (fun c hc=> ?_) (fun y hy=>hx y (by simp [hy]))
   rcases List.mem_or_eq_of_mem_set hc with y | y
   · exact growTo_lens h _ c y
   · rw [y];exact hx x (by simp)
def puts (V:VolR) (ps:List (Nat × Clus)):VolR:=ps.foldl (fun V x=>putV V x.1 x.2) V
def epoch (V:VolR) (ps:List (Nat × Clus)):VolR:=flushV (puts V ps)
theorem puts_C (ps:List (Nat × Clus)): ∀ V:VolR,(puts V ps).C=putsC V.C ps:=by
 induction ps with
 | nil=>intro V;rfl
 | cons x r ih=>
   intro V
   show (puts (putV V x.1 x.2) r).C=putsC (putC V.C x) r
   rw [ih,putV_C]
   rfl
theorem epoch_C (V:VolR) (ps:List (Nat × Clus)):(epoch V ps).C=putsC V.C ps:=by unfold epoch;rw [flushV_C,puts_C]
theorem puts_puts {V V1:VolR} (h:Puts V V1) (ps:List (Nat × Clus)):Puts V (puts V1 ps):=by
 unfold puts
 induction ps generalizing V1 with
 | nil=>exact h
 | cons x r ih=>exact ih (h.put x.1 x.2)
theorem puts_epoch {V V1:VolR} (h:Puts V V1) (ps:List (Nat × Clus)):Puts V (epoch V1 ps):=(puts_puts h ps).flush
section
variable {C:List Clus} {T N0:Nat} {E:List EntR}
theorem FileE.puts (h:FileE C T N0 E) (ps:List (Nat × Clus)) (hp: ∀ x ∈ ps,x.1<T∧x.1≠0∧x.1≠5∧x.2.length=64):FileE (putsC C ps) T N0 E:=by
 have hl:=putsC_length ps C T h.le (fun x hx=>(hp x hx).1)
 have h6:=h.six
 refine ⟨putsC_lens ps C h.lens (fun x hx=>(hp x hx).2.2.2),by omega,hl.2,h.seven,h.most,h.n0,?_,?_,h.ents⟩
 · have:=vw_puts_none 0 ps C (fun x hx=>(hp x hx).2.1)
   rw [vw_at (by omega),vw_at (by omega)] at this
   rw [this];exact h.head
 · have:=vw_puts_none 5 ps C (fun x hx=>(hp x hx).2.2.1)
   rw [vw_at (by omega),vw_at (by omega)] at this
   rw [this];exact h.list
structure Ok (C:List Clus) (T N0:Nat) (E:List EntR) (D:DiskR):Prop where
 file:FileE C T N0 E
 sound:SoundL (padTo C T) (rsOf N0 E)
 holds:dskOf (padTo C T) N0 E=D
theorem countOf_pad (C:List Clus) (T n:Nat) (hT:5≤T) (hn:n<256):countOf (padTo C T) n=byteAt (vw C (1+n / 64)) (n%64):=by
 unfold countOf
 rw [cl_padTo _ _ _ (by omega)]
theorem nm_pad (C:List Clus) (T t k:Nat) (ht:t<T):nm (padTo C T) t k=num (vw C t) (2*k):=by
 unfold nm
 rw [cl_padTo _ _ _ ht]
theorem dskOf_same {L L':List Clus} {N0:Nat} {E:List EntR} (h: ∀ r ∈ rsOf N0 E,contentOf L' r.N=contentOf L r.N):dskOf L' N0 E=dskOf L N0 E:=by
 unfold dskOf
 have h0:=h ⟨N0,0,[]⟩ (by simp [rsOf])
 simp only at h0
 rw [h0]
 congr 1
 refine List.map_congr_left fun e he=> ?_
 have:=h (rootE e) (rsOf_mem.2 (Or.inr ⟨e,he,rfl⟩))
 have:contentOf L' e.first=contentOf L e.first:=this
 rw [this]
theorem Ok.change {D:DiskR} (h:Ok C T N0 E D) (ps:List (Nat × Clus)) (hp: ∀ x ∈ ps,x.1<T∧x.1≠0∧x.1≠5∧x.2.length=64)
   (hblk: ∀ n,IsBlk (padTo C T) (rsOf N0 E) n→ ∀ x ∈ ps,x.1≠n) (hs:Shape (padTo C T) (padTo (putsC C ps) T) (rsOf N0 E))
   (cnt: ∀ n,n<256→base6 n+useOf (padTo C T) (rsOf N0 E) n≤countOf (padTo (putsC C ps) T) n) (top: ∀ n,n<256→countOf (padTo (putsC C ps) T) n<255) (none: ∀ n,n<256→T≤n→countOf (padTo (putsC C ps) T) n=0)
   (m1: ∀ r ∈ rsOf N0 E,∀ j,j<2→32768≤nm (padTo (putsC C ps) T) r.N j→countOf (padTo (putsC C ps) T) (nm (padTo (putsC C ps) T) r.N j%32768)=1)
   (m2: ∀ s,IsSec (padTo C T) (rsOf N0 E) s→ ∀ k,k<32→32768≤nm (padTo (putsC C ps) T) s k→countOf (padTo (putsC C ps) T) (nm (padTo (putsC C ps) T) s k%32768)=1):Ok (putsC C ps) T N0 E D:=by
 refine ⟨h.file.puts ps hp,h.sound.shape hs (by rw [padTo_length,padTo_length];exact Nat.le_refl _) (by rw [padTo_length];exact h.file.most) cnt top (by rw [padTo_length];exact none) m1 m2,?_⟩
 rw [← h.holds]
 refine dskOf_same fun r hr=>hs.content (fun n hn=> ?_) hr
 have hlt:=(h.sound.blk n hn).2
 rw [padTo_length] at hlt
 rw [cl_padTo _ _ _ hlt,cl_padTo _ _ _ hlt,vw_puts_none n ps C (hblk n hn)]
theorem Ok.counts {D:DiskR} (h:Ok C T N0 E D) (k:List UInt8) (hk:k.length=256) (Un:Nat→Prop)
   (hun: ∀ n,Un n→n<T∧6≤n∧ ¬ IsFst (rsOf N0 E) n∧ ¬ IsSec (padTo C T) (rsOf N0 E) n∧ ¬ IsBlk (padTo C T) (rsOf N0 E) n)
   (cnt: ∀ n,n<256→base6 n+useOf (padTo C T) (rsOf N0 E) n≤byteAt k n) (top: ∀ n,n<256→byteAt k n<255) (none: ∀ n,n<256→T≤n→byteAt k n=0)
   (m1: ∀ r ∈ rsOf N0 E,∀ j,j<2→32768≤nm (padTo C T) r.N j→byteAt k (nm (padTo C T) r.N j%32768)=1)
   (m2: ∀ s,IsSec (padTo C T) (rsOf N0 E) s→ ∀ q,q<32→32768≤nm (padTo C T) s q→byteAt k (nm (padTo C T) s q%32768)=1)
   (ps:List (Nat × Clus)) (hp: ∀ x ∈ ps,(∃ p,p<4∧x=(1+p,partOf k p))∨(Un x.1∧x.2.length=64)):Ok (putsC C ps) T N0 E D:=by
 have h7:=h.file.seven
 have hsnd:=h.sound
 have key: ∀ t,6≤t→ ¬ Un t→vw (putsC C ps) t=vw C t:=by
   intro t ht hu
   refine vw_puts_none t ps C fun x hx e=> ?_
   rcases hp x hx with ⟨p,hp4,rfl⟩ | ⟨hU,_⟩
   · simp only at e;omega
   · rw [e] at hU;exact hu hU
 have hcount: ∀ n,n<256→countOf (padTo (putsC C ps) T) n=countOf (padTo C T) n∨countOf (padTo (putsC C ps) T) n=byteAt k n:=by
   intro n hn
   rw [countOf_pad _ _ _ (by omega) hn,countOf_pad _ _ _ (by omega) hn]
   rcases vw_puts (1+n / 64) ps C with e | ⟨x,hx,e1,e2⟩
   · rw [e];exact Or.inl rfl
   · rcases hp x hx with ⟨p,hp4,rfl⟩ | ⟨hU,_⟩
     · simp only at e1 e2
       rw [e2,show p=n / 64 by omega,byteAt_part];exact Or.inr rfl
     · have:=(hun _ hU).2.1;omega
 have hfst: ∀ r ∈ rsOf N0 E,∀ j,nm (padTo (putsC C ps) T) r.N j=nm (padTo C T) r.N j:=by
   intro r hr j
   have hb:=hsnd.fst r hr
   rw [padTo_length] at hb
   rw [nm_pad _ _ _ _ hb.2,nm_pad _ _ _ _ hb.2,key _ hb.1 (fun hu=>(hun _ hu).2.2.1 ⟨r,hr,rfl⟩)]
 have hsec: ∀ s,IsSec (padTo C T) (rsOf N0 E) s→ ∀ q,nm (padTo (putsC C ps) T) s q=nm (padTo C T) s q:=by
   intro s hs q
   have hb:=hsnd.sec s hs
   rw [padTo_length] at hb
   rw [nm_pad _ _ _ _ hb.2,nm_pad _ _ _ _ hb.2,key _ hb.1 (fun hu=>(hun _ hu).2.2.2.1 hs)]
 refine h.change ps (fun x hx=> ?_) (fun n hn x hx e=> ?_) ⟨fun r hr j _=>by rw [hfst r hr j];exact SameN.refl _,fun s hs q _=>by rw [hsec s hs q];exact SameN.refl _⟩ (fun n hn=> ?_) (fun n hn=> ?_) (fun n hn hT=> ?_) (fun r hr j hj hm=> ?_) (fun s hs q hq hm=> ?_)
 · rcases hp x hx with ⟨p,hp4,rfl⟩ | ⟨hU,h64⟩
   · exact ⟨by simp only;omega,by simp only;omega,by simp only;omega,partOf_length k p hk (by omega)⟩
   · have:=hun _ hU;exact ⟨this.1,by omega,by omega,h64⟩
 · have hb:=hsnd.blk n hn
   rcases hp x hx with ⟨p,hp4,rfl⟩ | ⟨hU,_⟩
   · simp only at e;omega
   · rw [e] at hU;exact (hun _ hU).2.2.2.2 hn
 · rcases hcount n hn with e | e
   · rw [e];exact hsnd.cnt n hn
   · rw [e];exact cnt n hn
 · rcases hcount n hn with e | e
   · rw [e];exact hsnd.top n hn
   · rw [e];exact top n hn
 · rcases hcount n hn with e | e
   · rw [e];exact hsnd.none n hn (by rw [padTo_length];exact hT)
   · rw [e];exact none n hn hT
 · rw [hfst r hr j] at hm ⊢
   have hb:=hsnd.sec _ ⟨r,hr,j,hj,by omega,rfl⟩
   have hT:=h.file.most
   rw [padTo_length] at hb
   rcases hcount (nm (padTo C T) r.N j%32768) (by omega) with e | e
   · rw [e];exact hsnd.mark1 r hr j hj hm
   · rw [e];exact m1 r hr j hj hm
 · rw [hsec s hs q] at hm ⊢
   have hb:=hsnd.blk _ ⟨s,hs,q,hq,by omega,rfl⟩
   have hT:=h.file.most
   rw [padTo_length] at hb
   rcases hcount (nm (padTo C T) s q%32768) (by omega) with e | e
   · rw [e];exact hsnd.mark2 s hs q hq hm
   · rw [e];exact m2 s hs q hq hm
theorem Ok.marks {D:DiskR} (h:Ok C T N0 E D) (ps:List (Nat × Clus))
   (hp: ∀ x ∈ ps,(IsFst (rsOf N0 E) x.1∨IsSec (padTo C T) (rsOf N0 E) x.1)∧x.2.length=64∧(∀ q,q<32→SameN (num x.2 (2*q)) (nm (padTo C T) x.1 q))∧
     ∀ q,q<32→32768≤num x.2 (2*q)→countOf (padTo C T) (nm (padTo C T) x.1 q%32768)=1):Ok (putsC C ps) T N0 E D:=by
 have h7:=h.file.seven
 have hsnd:=h.sound
 have hlo: ∀ x ∈ ps,6≤x.1∧x.1<T:=by
   intro x hx
   rcases (hp x hx).1 with ⟨r,hr,e⟩ | hs
   · have:=hsnd.fst r hr
     rw [padTo_length] at this
     omega
   · have:=hsnd.sec _ hs
     rw [padTo_length] at this
     exact this
 have hcount: ∀ n,n<256→countOf (padTo (putsC C ps) T) n=countOf (padTo C T) n:=by
   intro n hn
   rw [countOf_pad _ _ _ (by omega) hn,countOf_pad _ _ _ (by omega) hn,vw_puts_none _ ps C (fun x hx e=>by have:=hlo x hx;omega)]
 have hnum: ∀ t,t<T→(∀ q,q<32→nm (padTo (putsC C ps) T) t q=nm (padTo C T) t q)∨((∀ q,q<32→SameN (nm (padTo (putsC C ps) T) t q) (nm (padTo C T) t q))∧ ∀ q,q<32→32768≤nm (padTo (putsC C ps) T) t q→countOf (padTo C T) (nm (padTo C T) t q%32768)=1):=by
   intro t ht
   rcases vw_puts t ps C with e | ⟨x,hx,e1,e2⟩
   · exact Or.inl fun q _=>by rw [nm_pad _ _ _ _ ht,nm_pad _ _ _ _ ht,e]
   · obtain ⟨_,_,h3,h4⟩:=hp x hx
     rw [e1] at h3 h4
     refine Or.inr ⟨fun q hq=> ?_,fun q hq hm=> ?_⟩
     · rw [nm_pad (putsC C ps) _ _ _ ht,e2];exact h3 q hq
     · rw [nm_pad (putsC C ps) _ _ _ ht,e2] at hm
       exact h4 q hq hm
 have hsame: ∀ t,t<T→ ∀ q,q<32→SameN (nm (padTo (putsC C ps) T) t q) (nm (padTo C T) t q):=by
   intro t ht q hq
   rcases hnum t ht with e | e
   · rw [e q hq];exact SameN.refl _
   · exact e.1 q hq
 have hT:=h.file.most
 refine h.change ps (fun x hx=> ?_) (fun n hn x hx e=> ?_) ⟨fun r hr j hj=> ?_,fun s hs q hq=> ?_⟩ (fun n hn=>by rw [hcount n hn];exact hsnd.cnt n hn) (fun n hn=>by rw [hcount n hn];exact hsnd.top n hn) (fun n hn hT=>by rw [hcount n hn];exact hsnd.none n hn (by rw [padTo_length];exact hT)) (fun r hr j hj hm=> ?_) (fun s hs q hq hm=> ?_)
 · have:=hlo x hx
   exact ⟨this.2,by omega,by omega,(hp x hx).2.1⟩
 · rcases (hp x hx).1 with hf | hs
   · rw [e] at hf;exact hsnd.fb n hf hn
   · rw [e] at hs;exact hsnd.sb n hs hn
 · have hb:=hsnd.fst r hr
   rw [padTo_length] at hb
   exact hsame _ hb.2 j hj
 · have hb:=hsnd.sec s hs
   rw [padTo_length] at hb
   exact hsame _ hb.2 q hq
 · have hb:=hsnd.fst r hr
   rw [padTo_length] at hb
   have hsm:=hsame _ hb.2 j (by omega)
   have h0:nm (padTo C T) r.N j≠0:=fun e=>by have:=hsm.1.2 e;omega
   have hb2:=hsnd.sec _ ⟨r,hr,j,hj,h0,rfl⟩
   rw [padTo_length] at hb2
   rw [hsm.2,hcount _ (by omega)]
   rcases hnum _ hb.2 with e | e
   · rw [e j (by omega)] at hm;exact hsnd.mark1 r hr j hj hm
   · exact e.2 j (by omega) hm
 · have hb:=hsnd.sec s hs
   rw [padTo_length] at hb
   have hsm:=hsame _ hb.2 q hq
   have h0:nm (padTo C T) s q≠0:=fun e=>by have:=hsm.1.2 e;omega
   have hb2:=hsnd.blk _ ⟨s,hs,q,hq,h0,rfl⟩
   rw [padTo_length] at hb2
   rw [hsm.2,hcount _ (by omega)]
   rcases hnum _ hb.2 with e | e
   · rw [e q hq] at hm;exact hsnd.mark2 s hs q hq hm
   · exact e.2 q hq hm
theorem Ok.longer {D:DiskR} (h:Ok C T N0 E D) (T':Nat) (hT:T≤T') (hT':T'≤256):Ok (putsC C [(0,headBytes T' N0)]) T' N0 E D:=by
 have h6:=h.file.six
 have h7:=h.file.seven
 have hle:=h.file.le
 have hsnd:=h.sound
 have hF:putsC C [(0,headBytes T' N0)]=putC C (0,headBytes T' N0):=rfl
 have hv:=vw_putC C (0,headBytes T' N0)
 have hlen:=putC_length C (0,headBytes T' N0)
 rw [hF]
 have hvw: ∀ t,t≠0→vw (putC C (0,headBytes T' N0)) t=vw C t:=fun t ht=>by rw [hv,if_neg (fun e=>ht e.symm)]
 have hfile:FileE (putC C (0,headBytes T' N0)) T' N0 E:=by
   refine ⟨putsC_lens [(0,headBytes T' N0)] C h.file.lens (fun x hx=>by rw [List.mem_singleton.1 hx];exact headBytes_length _ _),by omega,by simp only at hlen;omega,by omega,hT',h.file.n0,?_,?_,h.file.ents⟩
   · have:=hv 0
     rw [if_pos rfl,vw_at (by omega)] at this
     exact this
   · have:=hvw 5 (by omega)
     rw [vw_at (by omega),vw_at (by omega)] at this
     rw [this];exact h.file.list
 have hnm: ∀ t,6≤t→t<T→ ∀ q,nm (padTo (putC C (0,headBytes T' N0)) T') t q=nm (padTo C T) t q:=fun t h1 h2 q=>by
   rw [nm_pad _ _ _ _ (by omega),nm_pad _ _ _ _ h2,hvw t (by omega)]
 have hcount: ∀ n,n<256→countOf (padTo (putC C (0,headBytes T' N0)) T') n=countOf (padTo C T) n:=fun n hn=>by
   rw [countOf_pad _ _ _ (by omega) hn,countOf_pad _ _ _ (by omega) hn,hvw _ (by omega)]
 have hshape:Shape (padTo C T) (padTo (putC C (0,headBytes T' N0)) T') (rsOf N0 E):=by
   refine ⟨fun r hr j _=> ?_,fun s hs q _=> ?_⟩
   · have hb:=hsnd.fst r hr
     rw [padTo_length] at hb
     rw [hnm _ hb.1 hb.2];exact SameN.refl _
   · have hb:=hsnd.sec s hs
     rw [padTo_length] at hb
     rw [hnm _ hb.1 hb.2];exact SameN.refl _
 refine ⟨hfile,hsnd.shape hshape (by rw [padTo_length,padTo_length];exact hT) (by rw [padTo_length];exact hT') (fun n hn=>by rw [hcount n hn];exact hsnd.cnt n hn) (fun n hn=>by rw [hcount n hn];exact hsnd.top n hn) (fun n hn hl=>by rw [padTo_length] at hl;rw [hcount n hn];exact hsnd.none n hn (by rw [padTo_length];omega)) (fun r hr j hj hm=> ?_) (fun s hs q hq hm=> ?_),?_⟩
 · have hb:=hsnd.fst r hr
   rw [padTo_length] at hb
   rw [hnm _ hb.1 hb.2] at hm ⊢
   have hb2:=hsnd.sec _ ⟨r,hr,j,hj,by omega,rfl⟩
   rw [padTo_length] at hb2
   rw [hcount _ (by omega)]
   exact hsnd.mark1 r hr j hj hm
 · have hb:=hsnd.sec s hs
   rw [padTo_length] at hb
   rw [hnm _ hb.1 hb.2] at hm ⊢
   have hb2:=hsnd.blk _ ⟨s,hs,q,hq,by omega,rfl⟩
   rw [padTo_length] at hb2
   rw [hcount _ (by omega)]
   exact hsnd.mark2 s hs q hq hm
 · rw [← h.holds]
   refine dskOf_same fun r hr=>hshape.content (fun n hn=> ?_) hr
   have hb:=hsnd.blk n hn
   rw [padTo_length] at hb
   rw [cl_padTo _ _ _ (by omega),cl_padTo _ _ _ hb.2,hvw n (by omega)]
end
theorem minus1_get (k:List UInt8) (n m:Nat) (hn:n<k.length) (h1:1≤byteAt k n):byteAt (minus1 k n) m=if n=m then byteAt k n - 1 else byteAt k m:=by
 have hlt:=byteAt_lt k n
 unfold minus1
 rw [byteAt_set _ _ _ _ hn]
 by_cases e:n=m
 · rw [if_pos e,if_pos e,UInt8.toNat_ofNat'];omega
 · rw [if_neg e,if_neg e]
theorem minus_get: ∀ (us:List Nat) (k:List UInt8) (m:Nat),(∀ u ∈ us,u<k.length)→(∀ u,us.count u≤byteAt k u)→byteAt (minus k us) m+us.count m=byteAt k m
 | [],k,m,_,_=>by simp [minus]
 | a :: r,k,m,hl,hc=>by
   have ha:=hl a (by simp)
   have h1:1≤byteAt k a:=by have:=hc a;rw [List.count_cons] at this;simp at this;omega
   have ih:=minus_get r (minus1 k a) m (fun u hu=>by simp only [minus1,List.length_set];exact hl u (by simp [hu])) (fun u=>by
     have:=hc u
     rw [List.count_cons] at this
     rw [minus1_get k a u ha h1]
     by_cases e:a=u
     · subst e;rw [if_pos rfl];simp at this;omega
     · rw [if_neg e];simp [e] at this;omega)
   show byteAt (minus (minus1 k a) r) m+_=_
   rw [minus1_get k a m ha h1] at ih
   rw [List.count_cons]
   by_cases e:a=m
   · subst e;rw [if_pos rfl] at ih;simp;omega
   · rw [if_neg e] at ih;simp [e];omega
def cntPuts (k:List UInt8):List (Nat × Clus):=[(1,partOf k 0),(2,partOf k 1),(3,partOf k 2),(4,partOf k 3)]
theorem putCnt_puts (V:VolR) (k:List UInt8):putCnt V k 4=puts V (cntPuts k):=rfl
theorem cntPuts_mem {k:List UInt8} {x:Nat × Clus} (h:x ∈ cntPuts k): ∃ p,p<4∧x=(1+p,partOf k p):=by
 simp only [cntPuts,List.mem_cons,List.not_mem_nil,or_false] at h
 rcases h with rfl | rfl | rfl | rfl
 · exact ⟨0,by omega,rfl⟩
 · exact ⟨1,by omega,rfl⟩
 · exact ⟨2,by omega,rfl⟩
 · exact ⟨3,by omega,rfl⟩
theorem vw_cntPuts (C:List Clus) (k:List UInt8) (n:Nat) (hn:n<256) (qs:List (Nat × Clus)) (hq: ∀ x ∈ qs,5≤x.1):byteAt (vw (putsC C (cntPuts k++qs)) (1+n / 64)) (n%64)=byteAt k n:=by
 have e:putsC C (cntPuts k++qs)=putsC (putsC C (cntPuts k)) qs:=by simp [putsC]
 rw [e,vw_puts_none _ qs _ (fun x hx=>by have:=hq x hx;omega)]
 have hp:n / 64=0∨n / 64=1∨n / 64=2∨n / 64=3:=by omega
 have hb:=byteAt_part k n
 show byteAt (vw (putC (putC (putC (putC C (1,partOf k 0)) (2,partOf k 1)) (3,partOf k 2)) (4,partOf k 3)) (1+n / 64)) (n%64)=_
 rw [vw_putC,vw_putC,vw_putC,vw_putC]
 rcases hp with h | h | h | h <;> rw [h] at hb ⊢ <;> simp only [Nat.reduceAdd,Nat.reduceEqDiff,if_true,if_false] <;> exact hb
section
variable {C:List Clus} {T N0:Nat} {E:List EntR} {D:DiskR}
theorem chg_num (ch:Nat→Nat) (c:Clus) (hch: ∀ q,q<32→num c (2*q)≠0→ch (num c (2*q))<65536) (q:Nat) (hq:q<32):num (bytesOf (chgT ch (numsOf c))) (2*q)=if num c (2*q)=0 then 0 else ch (num c (2*q)):=by
 rw [num_bytesOf _ _ q hq,chgT_get,numsOf_get _ _ hq]
 intro i
 rw [chgT_get]
 by_cases hi:i<32
 · rw [numsOf_get _ _ hi]
   split
   · decide
   · rename_i h;exact hch i hi h
 · rw [List.getD_eq_getElem?_getD,List.getElem?_eq_none (by rw [numsOf_length];omega)]
   simp
theorem loneOf_lt (k:List UInt8) (n:Nat) (h:n<65536):loneOf k n<65536:=by unfold loneOf;split <;> omega
theorem loneOf_mod (k:List UInt8) (n:Nat):loneOf k n%32768=n%32768:=by unfold loneOf;split <;> omega
theorem loneOf_zero (k:List UInt8) (n:Nat) (h0:n≠0):loneOf k n≠0:=by unfold loneOf;split <;> omega
theorem loneOf_twice (k:List UInt8) (n:Nat):loneOf k (loneOf k n)=loneOf k n:=by
 by_cases e:byteAt k (n%32768)=1
 · have e1:loneOf k n=n%32768+32768:=by unfold loneOf;rw [if_pos e]
   have e2:(n%32768+32768)%32768=n%32768:=by omega
   rw [e1]
   unfold loneOf
   rw [e2,if_pos e]
 · have e1:loneOf k n=n:=by unfold loneOf;rw [if_neg e]
   rw [e1,e1]
def loneTab (k:List UInt8) (c:Clus):Clus:=bytesOf (chgT (loneOf k) (numsOf c))
theorem lone_num (k:List UInt8) (c:Clus) (q:Nat) (hq:q<32):num (loneTab k c) (2*q)=if num c (2*q)=0 then 0 else loneOf k (num c (2*q)):=
 chg_num _ c (fun _ _ _=>loneOf_lt k _ (num_lt _ _)) q hq
theorem loneTab_length (k:List UInt8) (c:Clus):(loneTab k c).length=64:=bytesOf_length _
theorem loneTab_same (k:List UInt8) (c:Clus) (q:Nat) (hq:q<32):SameN (num (loneTab k c) (2*q)) (num c (2*q)):=by
 rw [lone_num k c q hq]
 by_cases e:num c (2*q)=0
 · rw [if_pos e,e];exact SameN.refl _
 · rw [if_neg e]
   exact ⟨⟨fun x=>absurd x (loneOf_zero k _ e),fun x=>absurd x e⟩,loneOf_mod k _⟩
theorem loneTab_twice (k:List UInt8) (c:Clus):loneTab k (loneTab k c)=loneTab k c:=by
 refine clus_ext (loneTab_length k _) (loneTab_length k _) fun q hq=> ?_
 rw [lone_num k _ q hq,lone_num k c q hq]
 by_cases e:num c (2*q)=0
 · rw [if_pos e];rfl
 · rw [if_neg e,if_neg (loneOf_zero k _ e),loneOf_twice k _]
theorem toldBy_same {T1 T2:List Nat} (hl:T1.length=T2.length) (h: ∀ i,SameN (T1.getD i 0) (T2.getD i 0)):toldBy T1=toldBy T2:=by
 induction T1 generalizing T2 with
 | nil=>
   cases T2 with
   | nil=>rfl
   | cons b s=>simp at hl
 | cons a r ih=>
   cases T2 with
   | nil=>simp at hl
   | cons b s=>
     have h0:=h 0
     simp only [List.getD_cons_zero] at h0
     have ih':=ih (T2:=s) (by simpa using hl) (fun i=>by have:=h (i+1);simpa using this)
     unfold toldBy at ih' ⊢
     simp only [List.filter_cons]
     by_cases e:a=0
     · rw [if_neg (by simp [e]),if_neg (by simp [h0.1.1 e])]
       exact ih'
     · have eb:b≠0:=fun x=>e (h0.1.2 x)
       rw [if_pos (by simpa using e),if_pos (by simpa using eb),List.map_cons,List.map_cons,ih',h0.2]
theorem loneTab_told (k:List UInt8) (c:Clus):toldBy (numsOf (loneTab k c))=toldBy (numsOf c):=by
 refine toldBy_same (by rw [numsOf_length,numsOf_length]) fun i=> ?_
 by_cases hi:i<32
 · rw [numsOf_get _ _ hi,numsOf_get _ _ hi];exact loneTab_same k _ i hi
 · rw [List.getD_eq_getElem?_getD,List.getElem?_eq_none (by rw [numsOf_length];omega),List.getD_eq_getElem?_getD,List.getElem?_eq_none (by rw [numsOf_length];omega)];exact SameN.refl _
theorem renumV_cons (ch:Nat→Nat) (V:VolR) (t:Nat) (r:List Nat):renumV ch V (t :: r)=renumV ch (renumTab ch V t) r:=rfl
theorem puts_cons (V:VolR) (x:Nat × Clus) (r:List (Nat × Clus)):puts V (x :: r)=puts (putV V x.1 x.2) r:=rfl
theorem puts_append (V:VolR) (a b:List (Nat × Clus)):puts V (a++b)=puts (puts V a) b:=by simp [puts]
theorem loneV_cons (k:List UInt8) (V:VolR) (f:Nat) (r:List Nat):loneV k V (f :: r)=loneV k (renumV (loneOf k) V (tabsOf V f)) r:=rfl
theorem renumTab_lone (k:List UInt8) (V:VolR) (t:Nat):renumTab (loneOf k) V t=putV V t (loneTab k (cl V.C t)):=rfl
theorem renum_puts (k:List UInt8) (C0:List Clus) (ts:List Nat): ∀ V:VolR,(∀ t ∈ ts,t<V.C.length)→(∀ t,t<V.C.length→cl V.C t=cl C0 t∨cl V.C t=loneTab k (cl C0 t))→
   renumV (loneOf k) V ts=puts V (ts.map fun t=>(t,loneTab k (cl C0 t))):=by
 induction ts with
 | nil=>intro V _ _;rfl
 | cons t r ih=>
   intro V ht hC
   have htl:=ht t (by simp)
   have e:renumTab (loneOf k) V t=putV V t (loneTab k (cl C0 t)):=by
     rw [renumTab_lone]
     rcases hC t htl with x | x
     · rw [x]
     · rw [x,loneTab_twice]
   rw [renumV_cons,e,List.map_cons,puts_cons]
   dsimp only
   have hlen:=putV_lenC V t (loneTab k (cl C0 t))
   refine ih (putV V t (loneTab k (cl C0 t))) (fun x hx=>by rw [hlen];have:=ht x (by simp [hx]);omega) (fun x hx=> ?_)
   by_cases ex:t=x
   · subst ex;rw [cl_putV_at];exact Or.inr rfl
   · rw [cl_putV_ne _ _ _ _ (by rw [hlen] at hx;omega) ex]
     exact hC x (by rw [hlen] at hx;omega)
def loneList (k:List UInt8) (C0:List Clus) (fs:List Nat):List (Nat × Clus):=fs.flatMap fun f=>(f :: toldBy (numsOf (cl C0 f))).map fun t=>(t,loneTab k (cl C0 t))
theorem lone_puts (k:List UInt8) (C0:List Clus) (fs:List Nat): ∀ V:VolR,V.C.length=C0.length→(∀ f ∈ fs,∀ t ∈ f :: toldBy (numsOf (cl C0 f)),t<C0.length)→(∀ t,t<V.C.length→cl V.C t=cl C0 t∨cl V.C t=loneTab k (cl C0 t))→
   loneV k V fs=puts V (loneList k C0 fs):=by
 induction fs with
 | nil=>intro V _ _ _;rfl
 | cons f r ih=>
   intro V hl ht hC
   have hf:=ht f (by simp) f (by simp)
   have etab:tabsOf V f=f :: toldBy (numsOf (cl C0 f)):=by
     unfold tabsOf
     rcases hC f (by omega) with x | x
     · rw [x]
     · rw [x,loneTab_told]
   have e1:=renum_puts k C0 (f :: toldBy (numsOf (cl C0 f))) V (fun t h=>by rw [hl];exact ht f (by simp) t h) hC
   rw [loneV_cons,etab,e1]
   have e2:loneList k C0 (f :: r)=((f :: toldBy (numsOf (cl C0 f))).map fun t=>(t,loneTab k (cl C0 t)))++loneList k C0 r:=by unfold loneList;rw [List.flatMap_cons]
   rw [e2,puts_append]
   have hlen:(puts V ((f :: toldBy (numsOf (cl C0 f))).map fun t=>(t,loneTab k (cl C0 t)))).C.length=C0.length:=by
     rw [puts_C]
     have:=putsC_length ((f :: toldBy (numsOf (cl C0 f))).map fun t=>(t,loneTab k (cl C0 t))) V.C C0.length (by omega) (fun x hx=>by
       obtain ⟨t,h1,rfl⟩:=List.mem_map.1 hx
       exact ht f (by simp) t h1)
     omega
   refine ih _ hlen (fun g hg=>ht g (by simp [hg])) (fun t hT=> ?_)
   rw [hlen] at hT
   rw [puts_C]
   have hv:=vw_puts t ((f :: toldBy (numsOf (cl C0 f))).map fun t=>(t,loneTab k (cl C0 t))) V.C
   have hlen2:=hlen
   rw [puts_C] at hlen2
   rw [vw_at (by omega),vw_at (by omega)] at hv
   rcases hv with x | ⟨x,hx,h1,h2⟩
   · rw [x];exact hC t (by omega)
   · obtain ⟨u,_,rfl⟩:=List.mem_map.1 hx
     simp only at h1 h2
     rw [h1] at h2
     exact Or.inr h2
end
section
variable {V:VolR} {T N0:Nat} {E:List EntR} {D:DiskR}
theorem Ok.padV (_h:Ok V.C T N0 E D) (hT:V.C.length=T):padTo V.C T=V.C:=padTo_self hT
theorem mem_toldBy {c:Clus} {t:Nat} (h:t ∈ toldBy (numsOf c)): ∃ i,i<32∧num c (2*i)≠0∧num c (2*i)%32768=t:=by
 unfold toldBy at h
 obtain ⟨n,hn,rfl⟩:=List.mem_map.1 h
 obtain ⟨h1,h2⟩:=List.mem_filter.1 hn
 obtain ⟨i,hi,rfl⟩:=List.mem_iff_getElem.1 h1
 rw [numsOf_length] at hi
 have e:(numsOf c)[i]'(by rw [numsOf_length];exact hi)=num c (2*i):=by simp [numsOf]
 rw [e] at h2 ⊢
 exact ⟨i,hi,by simpa using h2,rfl⟩
theorem toldBy_mem {c:Clus} {i:Nat} (hi:i<32) (h0:num c (2*i)≠0):num c (2*i)%32768 ∈ toldBy (numsOf c):=by
 unfold toldBy
 refine List.mem_map.2 ⟨num c (2*i),List.mem_filter.2 ⟨?_,by simpa using h0⟩,rfl⟩
 unfold numsOf
 exact List.mem_map.2 ⟨i,List.mem_range.2 hi,rfl⟩
theorem tabs_kind {L:List Clus} {rs:List RootR} (h:SoundL L rs) {f t:Nat} (hf:f ∈ rs.map (·.N)) (ht:t ∈ f :: toldBy (numsOf (cl L f))):IsFst rs t∨IsSec L rs t:=by
 obtain ⟨r,hr,rfl⟩:=List.mem_map.1 hf
 rcases List.mem_cons.1 ht with e | e
 · exact Or.inl ⟨r,hr,e.symm⟩
 · obtain ⟨i,hi,h0,e2⟩:=mem_toldBy e
   by_cases h2:i<2
   · exact Or.inr ⟨r,hr,i,h2,h0,e2⟩
   · exact absurd (h.zero r hr i (by omega) hi) h0
theorem kind_tabs {L:List Clus} {rs:List RootR} {t:Nat} (h:IsFst rs t∨IsSec L rs t): ∃ f ∈ rs.map (·.N),t ∈ f :: toldBy (numsOf (cl L f)):=by
 rcases h with ⟨r,hr,e⟩ | ⟨r,hr,j,hj,h0,e⟩
 · exact ⟨r.N,List.mem_map.2 ⟨r,hr,rfl⟩,by rw [e];simp⟩
 · exact ⟨r.N,List.mem_map.2 ⟨r,hr,rfl⟩,List.mem_cons.2 (Or.inr (by rw [← e];exact toldBy_mem (by omega) h0))⟩
theorem SoundL.tab_lt {L:List Clus} {rs:List RootR} (h:SoundL L rs) {t:Nat} (ht:IsFst rs t∨IsSec L rs t):6≤t∧t<L.length:=by
 rcases ht with ⟨r,hr,rfl⟩ | hs
 · exact h.fst r hr
 · exact h.sec t hs
theorem SoundL.num_in {L:List Clus} {rs:List RootR} (h:SoundL L rs) {t:Nat} (ht:IsFst rs t∨IsSec L rs t) (q:Nat) (hq:q<32) (h0:nm L t q≠0):6≤nm L t q%32768∧nm L t q%32768<L.length:=by
 rcases ht with ⟨r,hr,rfl⟩ | hs
 · by_cases h2:q<2
   · exact h.sec _ ⟨r,hr,q,h2,h0,rfl⟩
   · exact absurd (h.zero r hr q (by omega) hq) h0
 · exact h.blk _ ⟨t,hs,q,hq,h0,rfl⟩
theorem SoundL.marked1 {L:List Clus} {rs:List RootR} (h:SoundL L rs) {t:Nat} (ht:IsFst rs t∨IsSec L rs t) (q:Nat) (hq:q<32) (hm:32768≤nm L t q):countOf L (nm L t q%32768)=1:=by
 rcases ht with ⟨r,hr,rfl⟩ | hs
 · by_cases h2:q<2
   · exact h.mark1 r hr q h2 hm
   · have:=h.zero r hr q (by omega) hq;omega
 · exact h.mark2 t hs q hq hm
theorem SoundL.used1 {L:List Clus} {rs:List RootR} (h:SoundL L rs) {t:Nat} (ht:IsFst rs t∨IsSec L rs t) (q:Nat) (hq:q<32) (h0:nm L t q≠0):1≤useOf L rs (nm L t q%32768):=by
 rcases ht with ⟨r,hr,rfl⟩ | hs
 · by_cases h2:q<2
   · exact use_sec ⟨r,hr,q,h2,h0,rfl⟩
   · exact absurd (h.zero r hr q (by omega) hq) h0
 · exact use_blk ⟨t,hs,q,hq,h0,rfl⟩
theorem SoundL.tabOK {V:VolR} {rs:List RootR} (h:SoundL V.C rs) {t:Nat} (ht:IsFst rs t∨IsSec V.C rs t):TabOK V t:=by
 refine ⟨h.tab_lt ht,fun i=>⟨numsOf_lt _ _,fun h0=> ?_⟩⟩
 by_cases hi:i<32
 · rw [numsOf_get _ _ hi] at h0 ⊢
   exact h.num_in ht i hi h0
 · rw [List.getD_eq_getElem?_getD,List.getElem?_eq_none (by rw [numsOf_length];omega)] at h0
   exact absurd rfl h0
theorem SoundL.firstOK {V:VolR} {rs:List RootR} (h:SoundL V.C rs) {f:Nat} (hf:f ∈ rs.map (·.N)):FirstOK V f:=by
 obtain ⟨r,hr,rfl⟩:=List.mem_map.1 hf
 refine ⟨h.tabOK (Or.inl ⟨r,hr,rfl⟩),fun i=>⟨numsOf_lt _ _,fun h0=> ?_⟩⟩
 by_cases hi:i<32
 · rw [numsOf_get _ _ hi] at h0 ⊢
   by_cases h2:i<2
   · exact h.tabOK (Or.inr ⟨r,hr,i,h2,h0,rfl⟩)
   · exact absurd (h.zero r hr i (by omega) hi) h0
 · rw [List.getD_eq_getElem?_getD,List.getElem?_eq_none (by rw [numsOf_length];omega)] at h0
   exact absurd rfl h0
theorem Ok.firsts (h:Ok V.C T N0 E D):firstsOf V=(rsOf N0 E).map (·.N):=by
 unfold firstsOf
 rw [h.file.num6,h.file.ents.picFirsts h.file.list]
 simp [rsOf,rootE]
structure Lets (V:VolR) (N0:Nat) (E:List EntR) (us:List Nat):Prop where
 lt: ∀ u ∈ us,u<256
 cnt: ∀ m,m<256→base6 m+useOf V.C (rsOf N0 E) m+us.count m≤countOf V.C m
section
variable {us:List Nat}
theorem Ok.cnts (h:Ok V.C T N0 E D) (hT:V.C.length=T):(cntsOf V.C).length=256∧ ∀ n,n<256→byteAt (cntsOf V.C) n=countOf V.C n:=by
 have h7:=h.file.seven
 exact ⟨cntsOf_length _ h.file.lens (by omega),fun n hn=>byteAt_cnts h.file.lens (by omega) n hn⟩
theorem Lets.get (hl:Lets V N0 E us) (h:Ok V.C T N0 E D) (hT:V.C.length=T) (m:Nat) (hm:m<256):byteAt (minus (cntsOf V.C) us) m+us.count m=countOf V.C m:=by
 obtain ⟨h1,h2⟩:=h.cnts hT
 rw [minus_get us (cntsOf V.C) m (fun u hu=>by rw [h1];exact hl.lt u hu) (fun u=> ?_),h2 m hm]
 by_cases hu:u<256
 · rw [h2 u hu];have:=hl.cnt u hu;omega
 · rw [List.count_eq_zero.2 (fun x=>hu (hl.lt u x))];exact Nat.zero_le _
theorem Ok.letCounts (h:Ok V.C T N0 E D) (hT:V.C.length=T) (hl:Lets V N0 E us) (ps:List (Nat × Clus)) (hp: ∀ x ∈ ps,x ∈ cntPuts (minus (cntsOf V.C) us)):Ok (putsC V.C ps) T N0 E D:=by
 have hpad:=h.padV hT
 have hsnd:=h.sound
 rw [hpad] at hsnd
 have hmost:=h.file.most
 obtain ⟨h1,h2⟩:=h.cnts hT
 have key: ∀ t,(IsFst (rsOf N0 E) t∨IsSec V.C (rsOf N0 E) t)→ ∀ q,q<32→32768≤nm V.C t q→byteAt (minus (cntsOf V.C) us) (nm V.C t q%32768)=1:=by
   intro t ht q hq hm
   have a1:=hsnd.marked1 ht q hq hm
   have a2:=hsnd.used1 ht q hq (by omega)
   have a3:=hsnd.num_in ht q hq (by omega)
   have a4:=hl.cnt (nm V.C t q%32768) (by omega)
   have a5:=hl.get h hT (nm V.C t q%32768) (by omega)
   omega
 refine h.counts (minus (cntsOf V.C) us) (by rw [minus_length];exact h1) (fun _=>False) (fun n hn=>hn.elim) (fun n hn=> ?_) (fun n hn=> ?_) (fun n hn hTn=> ?_) (fun r hr j hj hm=> ?_) (fun s hs q hq hm=> ?_) ps (fun x hx=>Or.inl (cntPuts_mem (hp x hx)))
 · rw [hpad]
   have:=hl.get h hT n hn
   have:=hl.cnt n hn
   omega
 · have:=hl.get h hT n hn
   have:=hsnd.top n hn
   omega
 · have:=hl.get h hT n hn
   have:=hsnd.none n hn (by omega)
   omega
 · rw [hpad] at hm ⊢
   exact key r.N (Or.inl ⟨r,hr,rfl⟩) j (by omega) hm
 · rw [hpad] at hs hm ⊢
   exact key s (Or.inr hs) q hq hm
theorem letGoV1_epoch (V:VolR) (us:List Nat):letGoV1 V us=epoch V (cntPuts (minus (cntsOf V.C) us)):=rfl
theorem Ok.lenPuts (h:Ok V.C T N0 E D) (hT:V.C.length=T) (ps:List (Nat × Clus)) (hp: ∀ x ∈ ps,x.1<T):(epoch V ps).C.length=T:=by
 rw [epoch_C]
 have:=putsC_length ps V.C T h.file.le hp
 omega
theorem Ok.letGo1 (h:Ok V.C T N0 E D) (hT:V.C.length=T) (hl:Lets V N0 E us):Ok (letGoV1 V us).C T N0 E D∧(letGoV1 V us).C.length=T∧(∀ m,m<256→countOf (letGoV1 V us).C m+us.count m=countOf V.C m)∧(∀ t,5≤t→cl (letGoV1 V us).C t=cl V.C t):=by
 have h7:=h.file.seven
 have hlen:=h.lenPuts hT (cntPuts (minus (cntsOf V.C) us)) (fun x hx=>by obtain ⟨p,hp,rfl⟩:=cntPuts_mem hx;simp only;omega)
 rw [letGoV1_epoch]
 refine ⟨by rw [epoch_C];exact h.letCounts hT hl _ (fun x hx=>hx),hlen,fun m hm=> ?_,fun t ht=> ?_⟩
 · have e:countOf (epoch V (cntPuts (minus (cntsOf V.C) us))).C m=byteAt (minus (cntsOf V.C) us) m:=by
     unfold countOf
     rw [← vw_at (by rw [hlen];omega),epoch_C]
     have:=vw_cntPuts V.C (minus (cntsOf V.C) us) m hm [] (fun x hx=>by cases hx)
     rw [List.append_nil] at this
     exact this
   rw [e];exact hl.get h hT m hm
 · by_cases htl:t<T
   · rw [← vw_at (by rw [hlen];exact htl),← vw_at (by omega),epoch_C]
     exact vw_puts_none t _ _ (fun x hx=>by obtain ⟨p,hp,rfl⟩:=cntPuts_mem hx;simp only;omega)
   · rw [cl_past (by omega),cl_past (by omega)]
theorem Ok.loneOK (h:Ok V.C T N0 E D) (hT:V.C.length=T): ∀ x ∈ loneList (cntsOf V.C) V.C (firstsOf V),(IsFst (rsOf N0 E) x.1∨IsSec V.C (rsOf N0 E) x.1)∧x.2=loneTab (cntsOf V.C) (cl V.C x.1):=by
 have hsnd:=h.sound
 rw [h.padV hT] at hsnd
 intro x hx
 unfold loneList at hx
 obtain ⟨f,hf,hx⟩:=List.mem_flatMap.1 hx
 obtain ⟨t,ht,rfl⟩:=List.mem_map.1 hx
 rw [h.firsts] at hf
 exact ⟨tabs_kind hsnd hf ht,by dsimp only⟩
theorem Ok.markOK (h:Ok V.C T N0 E D) (hT:V.C.length=T) (ps:List (Nat × Clus)) (hp: ∀ x ∈ ps,x ∈ loneList (cntsOf V.C) V.C (firstsOf V)):Ok (putsC V.C ps) T N0 E D:=by
 have hpad:=h.padV hT
 have hsnd:=h.sound
 rw [hpad] at hsnd
 have hmost:=h.file.most
 obtain ⟨h1,h2⟩:=h.cnts hT
 refine h.marks ps fun x hx=> ?_
 obtain ⟨hk,e⟩:=h.loneOK hT x (hp x hx)
 rw [hpad,e]
 refine ⟨hk,loneTab_length _ _,fun q hq=>loneTab_same _ _ q hq,fun q hq hm=> ?_⟩
 rw [lone_num _ _ q hq] at hm
 split at hm
 · omega
 · rename_i h0
   have hin:=hsnd.num_in hk q hq h0
   unfold loneOf at hm
   split at hm
   · rename_i hc
     rw [h2 _ (by unfold nm at hin;omega)] at hc
     exact hc
   · exact hsnd.marked1 hk q hq hm
theorem Ok.markLone (h:Ok V.C T N0 E D) (hT:V.C.length=T):markLoneV V=puts V (loneList (cntsOf V.C) V.C (firstsOf V)):=by
 have hsnd:=h.sound
 rw [h.padV hT] at hsnd
 unfold markLoneV
 refine lone_puts _ _ _ V rfl (fun f hf t ht=> ?_) (fun t _=>Or.inl rfl)
 rw [h.firsts] at hf
 exact (hsnd.tab_lt (tabs_kind hsnd hf ht)).2
theorem Ok.marked (h:Ok V.C T N0 E D) (hT:V.C.length=T):Ok (markLoneV V).C T N0 E D∧(markLoneV V).C.length=T∧(∀ m,m<256→countOf (markLoneV V).C m=countOf V.C m)∧
   (∀ t,(IsFst (rsOf N0 E) t∨IsSec V.C (rsOf N0 E) t)→ ∀ q,q<32→nm (markLoneV V).C t q=if nm V.C t q=0 then 0 else loneOf (cntsOf V.C) (nm V.C t q)):=by
 have hsnd:=h.sound
 rw [h.padV hT] at hsnd
 have h7:=h.file.seven
 have hlo: ∀ x ∈ loneList (cntsOf V.C) V.C (firstsOf V),6≤x.1∧x.1<T:=fun x hx=>by
   have:=hsnd.tab_lt (h.loneOK hT x hx).1
   omega
 have hlen:(markLoneV V).C.length=T:=by
   rw [h.markLone hT,puts_C]
   have:=putsC_length (loneList (cntsOf V.C) V.C (firstsOf V)) V.C T h.file.le (fun x hx=>(hlo x hx).2)
   omega
 refine ⟨by rw [h.markLone hT,puts_C];exact h.markOK hT _ (fun x hx=>hx),hlen,fun m hm=> ?_,fun t ht q hq=> ?_⟩
 · unfold countOf
   rw [← vw_at (by rw [hlen];omega),← vw_at (by omega),h.markLone hT,puts_C,vw_puts_none _ _ _ (fun x hx=>by have:=hlo x hx;omega)]
 · have htl:=hsnd.tab_lt ht
   have hin: ∃ x ∈ loneList (cntsOf V.C) V.C (firstsOf V),x.1=t:=by
     obtain ⟨f,hf,hx⟩:=kind_tabs ht
     rw [← h.firsts] at hf
     exact ⟨(t,loneTab (cntsOf V.C) (cl V.C t)),List.mem_flatMap.2 ⟨f,hf,List.mem_map.2 ⟨t,hx,rfl⟩⟩,rfl⟩
   unfold nm
   rw [← vw_at (by rw [hlen];omega),h.markLone hT,puts_C,vw_puts_new (fun t=>loneTab (cntsOf V.C) (cl V.C t)) t _ _ (fun x hx=>(h.loneOK hT x hx).2) hin]
   exact lone_num _ _ q hq
theorem Ok.letGo (h:Ok V.C T N0 E D) (hT:V.C.length=T) (hl:Lets V N0 E us):Ok (letGoV V us).C T N0 E D∧(letGoV V us).C.length=T∧(letGoV V us).loose=false∧
   ((∀ m,m<256→countOf V.C m=base6 m+useOf V.C (rsOf N0 E) m+us.count m)→ExactS (letGoV V us).C (rsOf N0 E)):=by
 obtain ⟨a1,a2,a3,a4⟩:=h.letGo1 hT hl
 obtain ⟨b1,b2,b3,b4⟩:=a1.marked a2
 have eC:(letGoV V us).C=(markLoneV (letGoV1 V us)).C:=by unfold letGoV;rw [flushV_C]
 rw [eC]
 refine ⟨b1,b2,flushV_loose _,fun hx=> ?_⟩
 have s0:=h.sound
 rw [h.padV hT] at s0
 have s1:=a1.sound
 rw [a1.padV a2] at s1
 have s2:=b1.sound
 rw [padTo_self b2] at s2
 have hmost:=h.file.most
 obtain ⟨c1,c2⟩:=a1.cnts a2
 have sh1:Shape V.C (letGoV1 V us).C (rsOf N0 E):=Shape.of_same (fun r hr=>a4 _ (by have:=s0.fst r hr;omega)) (fun s hs=>a4 _ (by have:=s0.sec s hs;omega))
 have sh2:Shape (letGoV1 V us).C (markLoneV (letGoV1 V us)).C (rsOf N0 E):=by
   have key: ∀ t,(IsFst (rsOf N0 E) t∨IsSec (letGoV1 V us).C (rsOf N0 E) t)→ ∀ q,q<32→SameN (nm (markLoneV (letGoV1 V us)).C t q) (nm (letGoV1 V us).C t q):=by
     intro t ht q hq
     rw [b4 t ht q hq]
     by_cases e:nm (letGoV1 V us).C t q=0
     · rw [if_pos e,e];exact SameN.refl _
     · rw [if_neg e]
       exact ⟨⟨fun x=>absurd x (loneOf_zero _ _ e),fun x=>absurd x e⟩,loneOf_mod _ _⟩
   exact ⟨fun r hr j hj=>key r.N (Or.inl ⟨r,hr,rfl⟩) j hj,fun s hs q hq=>key s (Or.inr hs) q hq⟩
 have key: ∀ t,(IsFst (rsOf N0 E) t∨IsSec (letGoV1 V us).C (rsOf N0 E) t)→ ∀ q,q<32→nm (markLoneV (letGoV1 V us)).C t q≠0→countOf (markLoneV (letGoV1 V us)).C (nm (markLoneV (letGoV1 V us)).C t q%32768)=1→32768≤nm (markLoneV (letGoV1 V us)).C t q:=by
   intro t ht q hq h0 h1
   rw [b4 t ht q hq] at h0 h1 ⊢
   by_cases e:nm (letGoV1 V us).C t q=0
   · rw [if_pos e] at h0;exact absurd rfl h0
   · rw [if_neg e] at h1 ⊢
     have hin:=s1.num_in ht q hq e
     rw [loneOf_mod,b3 _ (by omega),← c2 _ (by omega)] at h1
     unfold loneOf
     rw [if_pos h1]
     omega
 refine ⟨fun n hn=> ?_,fun r hr j hj h0 h1=>key r.N (Or.inl ⟨r,hr,rfl⟩) j (by omega) h0 h1,fun s hs q hq h0 h1=>key s (Or.inr ((sh2.isSec s).1 hs)) q hq h0 h1⟩
 rw [b3 n hn,sh2.use,sh1.use]
 have:=a3 n hn
 have:=hx n hn
 omega
end
end
end Go.Proofs.YtknjjjenklfeoaaGreatDoor
