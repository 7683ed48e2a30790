import Derived.Test.YtknjjjenklfeoaaGreatDoorC23
set_option maxHeartbeats 8000000
set_option maxRecDepth 100000
namespace Go.Proofs.YtknjjjenklfeoaaGreatDoor
open Go.RowKit
section
variable {base:List Clus} {V:VolR} {T N0:Nat} {E:List EntR} {D:DiskR}
theorem countOf_padC {C:List Clus} (h5:5≤C.length) (T n:Nat) (hT:5≤T) (hn:n<256):countOf (padTo C T) n=countOf C n:=by
 rw [countOf_pad _ _ _ hT hn]
 unfold countOf
 rw [vw_at (by omega)]
theorem Vol.ok (h:Vol base V N0 E):Ok V.C V.C.length N0 E (dskOf V.C N0 E):=⟨h.file,by rw [padTo_same];exact h.sound,by rw [padTo_same]⟩
theorem Ok.vol (h:Ok V.C T N0 E D) (hT:V.C.length=T) (hf:V.loose=false) (hl:Logged base V):Vol base V N0 E:=by
 have hs:=h.sound
 rw [padTo_self hT] at hs
 exact ⟨by rw [hT];exact h.file,hs,hf,hl⟩
def lenTo (C:List Clus) (F:List Nat):Nat:=max C.length (lastOf F+1)
theorem Vol.longer (h:Vol base V N0 E) (F:List Nat) (hF:lastOf F<256):Ok (lengthenV V F).C (lenTo V.C F) N0 E (dskOf V.C N0 E)∧(lengthenV V F).C.length=V.C.length∧(lengthenV V F).loose=false∧(∀ t,t≠0→cl (lengthenV V F).C t=cl V.C t)∧Puts V (lengthenV V F):=by
 have h7:=h.file.seven
 have hm:=h.file.most
 refine ⟨?_,?_,?_,fun t ht=> ?_,puts_lengthen (Puts.refl V) F⟩
 · unfold lengthenV
   rw [h.file.num4,h.file.num6]
   unfold lenTo
   by_cases hc:V.C.length≤lastOf F
   · rw [if_pos hc,flushV_C,putV_C,show max V.C.length (lastOf F+1)=lastOf F+1 by omega]
     exact h.ok.longer (lastOf F+1) (by omega) (by omega)
   · rw [if_neg hc,show max V.C.length (lastOf F+1)=V.C.length by omega]
     exact h.ok
 · exact lengthenV_lenC V F (by omega)
 · unfold lengthenV
   split
   · exact flushV_loose _
   · exact h.firm
 · unfold lengthenV
   split
   · rw [flushV_C]
     by_cases htl:t<V.C.length
     · exact cl_putV_ne _ _ _ _ htl (fun e=>ht e.symm)
     · rw [cl_past (by rw [putV_lenC];omega),cl_past (by omega)]
   · rfl
theorem Ok.claim (h:Ok V.C T N0 E D) (F:List Nat) (hF: ∀ n ∈ F,n<T∧countOf V.C n=0) (ps:List (Nat × Clus)) (hp: ∀ x ∈ ps,x ∈ cntPuts (ones (cntsOf V.C) F)∨(x.1 ∈ F∧x.2.length=64)):Ok (putsC V.C ps) T N0 E D:=by
 have h6:=h.file.six
 have h7:=h.file.seven
 have hm:=h.file.most
 have hs:=h.sound
 have hc: ∀ n,n<256→countOf (padTo V.C T) n=countOf V.C n:=fun n hn=>countOf_padC (by omega) T n (by omega) hn
 have hb: ∀ n,n<256→byteAt (ones (cntsOf V.C) F) n=if n ∈ F then 1 else countOf V.C n:=fun n hn=>by
   rw [byteAt_ones n F _ (cntsOf_length _ h.file.lens (by omega)) (fun m hm'=>by have:=(hF m hm').1;omega),byteAt_cnts h.file.lens (by omega) n hn]
 have hun: ∀ n,n ∈ F→ ¬ IsFst (rsOf N0 E) n∧ ¬ IsSec (padTo V.C T) (rsOf N0 E) n∧ ¬ IsBlk (padTo V.C T) (rsOf N0 E) n:=fun n hn=>hs.untold (by have:=(hF n hn).1;omega) (by rw [hc n (by have:=(hF n hn).1;omega)];exact (hF n hn).2)
 have hsix: ∀ n,n ∈ F→6≤n:=fun n hn=>hs.free_six (by have:=(hF n hn).1;omega) (by rw [hc n (by have:=(hF n hn).1;omega)];exact (hF n hn).2)
 have key: ∀ t,(IsFst (rsOf N0 E) t∨IsSec (padTo V.C T) (rsOf N0 E) t)→ ∀ q,q<32→32768≤nm (padTo V.C T) t q→byteAt (ones (cntsOf V.C) F) (nm (padTo V.C T) t q%32768)=1:=by
   intro t ht q hq hmk
   have hin:=hs.num_in ht q hq (by omega)
   rw [padTo_length] at hin
   have h1:=hs.marked1 ht q hq hmk
   rw [hc _ (by omega)] at h1
   rw [hb _ (by omega)]
   split
   · rfl
   · exact h1
 refine h.counts (ones (cntsOf V.C) F) (by rw [ones_length];exact cntsOf_length _ h.file.lens (by omega)) (fun n=>n ∈ F) (fun n hn=>⟨(hF n hn).1,hsix n hn,hun n hn⟩) (fun n hn=> ?_) (fun n hn=> ?_) (fun n hn hTn=> ?_) (fun r hr j hj hmk=>key r.N (Or.inl ⟨r,hr,rfl⟩) j (by omega) hmk) (fun s hs' q hq hmk=>key s (Or.inr hs') q hq hmk) ps (fun x hx=> ?_)
 · rw [hb n hn]
   split
   · rename_i hnF
     rw [use_none hs (hun n hnF),base6_eq,if_neg (by have:=hsix n hnF;omega)]
     omega
   · rw [← hc n hn];exact hs.cnt n hn
 · rw [hb n hn]
   split
   · omega
   · rw [← hc n hn];exact hs.top n hn
 · rw [hb n hn,if_neg (fun hnF=>by have:=(hF n hnF).1;omega),← hc n hn]
   exact hs.none n hn (by rw [padTo_length];exact hTn)
 · rcases hp x hx with y | y
   · exact Or.inl (cntPuts_mem y)
   · exact Or.inr y
theorem Ok.claimed (h:Ok V.C T N0 E D) (F:List Nat) (hF: ∀ n ∈ F,n<T∧countOf V.C n=0) (qs:List (Nat × Clus)) (hq: ∀ x ∈ qs,x.1 ∈ F∧x.2.length=64) (hend:V.C.length=T∨ ∃ x ∈ qs,x.1+1=T):
   Ok (epoch V (cntPuts (ones (cntsOf V.C) F)++qs)).C T N0 E D∧(epoch V (cntPuts (ones (cntsOf V.C) F)++qs)).C.length=T∧
     (∀ m,m<256→countOf (epoch V (cntPuts (ones (cntsOf V.C) F)++qs)).C m=if m ∈ F then 1 else countOf V.C m)∧
     (∀ t,5≤t→t<V.C.length→(∀ x ∈ qs,x.1≠t)→cl (epoch V (cntPuts (ones (cntsOf V.C) F)++qs)).C t=cl V.C t)∧
     (∀ t,5≤t→t<T→(∀ x ∈ qs,x.1≠t)→cl (epoch V (cntPuts (ones (cntsOf V.C) F)++qs)).C t=vw V.C t)∧
     Shape (padTo V.C T) (epoch V (cntPuts (ones (cntsOf V.C) F)++qs)).C (rsOf N0 E):=by
 have h6:=h.file.six
 have h7:=h.file.seven
 have hm:=h.file.most
 have hs:=h.sound
 have hc: ∀ n,n<256→countOf (padTo V.C T) n=countOf V.C n:=fun n hn=>countOf_padC (by omega) T n (by omega) hn
 have hsix: ∀ n,n ∈ F→6≤n:=fun n hn=>hs.free_six (by have:=(hF n hn).1;omega) (by rw [hc n (by have:=(hF n hn).1;omega)];exact (hF n hn).2)
 have hun: ∀ n,n ∈ F→ ¬ IsFst (rsOf N0 E) n∧ ¬ IsSec (padTo V.C T) (rsOf N0 E) n∧ ¬ IsBlk (padTo V.C T) (rsOf N0 E) n:=fun n hn=>hs.untold (by have:=(hF n hn).1;omega) (by rw [hc n (by have:=(hF n hn).1;omega)];exact (hF n hn).2)
 have hok:Ok (epoch V (cntPuts (ones (cntsOf V.C) F)++qs)).C T N0 E D:=by
   rw [epoch_C]
   refine h.claim F hF _ fun x hx=> ?_
   rcases List.mem_append.1 hx with y | y
   · exact Or.inl y
   · exact Or.inr (hq x y)
 have hlt: ∀ x ∈ cntPuts (ones (cntsOf V.C) F)++qs,x.1<T:=fun x hx=>by
   rcases List.mem_append.1 hx with y | y
   · obtain ⟨p,hp,rfl⟩:=cntPuts_mem y;simp only;omega
   · exact (hF _ (hq x y).1).1
 have hlen:(epoch V (cntPuts (ones (cntsOf V.C) F)++qs)).C.length=T:=by
   have hl:=putsC_length (cntPuts (ones (cntsOf V.C) F)++qs) V.C T h.file.le hlt
   rw [epoch_C]
   rcases hend with e | ⟨x,hx,e⟩
   · omega
   · have hgt:x.1<(putsC V.C (cntPuts (ones (cntsOf V.C) F)++qs)).length:=by
       have key: ∀ (ps:List (Nat × Clus)) (C:List Clus),x ∈ ps→x.1<(putsC C ps).length:=by
         intro ps
         induction ps with
         | nil=>intro C h;cases h
         | cons y r ih=>
           intro C hy
           rw [putsC_cons]
           rcases List.mem_cons.1 hy with z | z
           · subst z
             have h1:=putC_length C x
             have h2: ∀ (ps:List (Nat × Clus)) (C:List Clus),C.length≤(putsC C ps).length:=by
               intro ps
               induction ps with
               | nil=>intro C;exact Nat.le_refl _
               | cons y r ih=>
                 intro C
                 have h3:=putC_length C y
                 have:=ih (putC C y)
                 rw [putsC_cons];omega
             have:=h2 r (putC C x)
             omega
           · exact ih _ z
       exact key _ _ (List.mem_append.2 (Or.inr hx))
     omega
 have hvw: ∀ t,5≤t→t<T→(∀ x ∈ qs,x.1≠t)→cl (epoch V (cntPuts (ones (cntsOf V.C) F)++qs)).C t=vw V.C t:=fun t h5 ht hne=>by
   rw [← vw_at (by rw [hlen];exact ht),epoch_C]
   refine vw_puts_none t _ _ fun x hx=> ?_
   rcases List.mem_append.1 hx with y | y
   · obtain ⟨p,hp,rfl⟩:=cntPuts_mem y;simp only;omega
   · exact hne x y
 refine ⟨hok,hlen,fun m hm'=> ?_,fun t h5 ht hne=>by rw [hvw t h5 (by have:=h.file.le;omega) hne,vw_at ht],hvw,Shape.of_same (fun r hr=> ?_) (fun s hs'=> ?_)⟩
 · have e:countOf (epoch V (cntPuts (ones (cntsOf V.C) F)++qs)).C m=byteAt (ones (cntsOf V.C) F) m:=by
     unfold countOf
     rw [← vw_at (by rw [hlen];omega),epoch_C]
     exact vw_cntPuts V.C _ m hm' qs (fun x hx=>by have:=hsix _ (hq x hx).1;omega)
   rw [e,byteAt_ones m F _ (cntsOf_length _ h.file.lens (by omega)) (fun n hn=>by have:=(hF n hn).1;omega),byteAt_cnts h.file.lens (by omega) m hm']
 · have hb:=hs.fst r hr
   rw [padTo_length] at hb
   rw [cl_padTo _ _ _ hb.2,hvw _ (by omega) hb.2 (fun x hx e=>(hun _ (hq x hx).1).1 ⟨r,hr,e.symm⟩)]
 · have hb:=hs.sec s hs'
   rw [padTo_length] at hb
   rw [cl_padTo _ _ _ hb.2,hvw _ (by omega) hb.2 (fun x hx e=>(hun _ (hq x hx).1).2.1 (by rw [e];exact hs'))]
theorem blk_place {L:List Clus} {rs:List RootR} {n:Nat} (h1:useOf L rs n=1) {r r':RootR} {j j' k k':Nat} (hr:r ∈ rs) (hr':r' ∈ rs) (hj:j<2) (hj':j'<2) (hk:k<32) (hk':k'<32)
   (h0:nm L r.N j≠0) (h0':nm L r'.N j'≠0) (b0:nm L (nm L r.N j%32768) k≠0) (b0':nm L (nm L r'.N j'%32768) k'≠0) (e:nm L (nm L r.N j%32768) k%32768=n) (e':nm L (nm L r'.N j'%32768) k'%32768=n):r'.N=r.N∧j'=j∧k'=k:=by
 have one: ∀ (x:RootR) (q c:Nat),c<32→nm L x.N q≠0→nm L (nm L x.N q%32768) c≠0→nm L (nm L x.N q%32768) c%32768=n→1≤secOcc L x.N q n:=by
   intro x q c hc h0 b0 e
   have:=sumFrom_ge (f:=fun k=>hit (nm L (nm L x.N q%32768) k) n) (a:=c) 32 0 (by omega) (by omega)
   simp only [hit_one b0 e] at this
   unfold secOcc inOcc
   rw [if_neg h0]
   omega
 have k1:=one r j k hk h0 b0 e
 have k2:=one r' j' k' hk' h0' b0' e'
 by_cases hN:r'.N=r.N
 · rw [hN] at h0' b0' e' k2
   have ht:=useOf_tree (L:=L) hr n
   by_cases hjj:j'=j
   · refine ⟨hN,hjj,?_⟩
     rw [hjj] at b0' e'
     by_cases hkk:k'=k
     · exact hkk
     · exfalso
       have h2:=secOcc_tree L r.N j n hj
       have:2≤secOcc L r.N j n:=by
         unfold secOcc inOcc
         rw [if_neg h0]
         rcases Nat.lt_or_gt_of_ne hkk with hl | hl
         · have:=sumFrom_two (f:=fun k=>hit (nm L (nm L r.N j%32768) k) n) hl 32 0 (by omega) (by omega)
           simp only [hit_one b0 e,hit_one b0' e'] at this
           omega
         · have:=sumFrom_two (f:=fun k=>hit (nm L (nm L r.N j%32768) k) n) hl 32 0 (by omega) (by omega)
           simp only [hit_one b0 e,hit_one b0' e'] at this
           omega
       omega
   · exfalso
     unfold treeOcc at ht
     have:(j=0∧j'=1)∨(j=1∧j'=0):=by omega
     rcases this with ⟨rfl,rfl⟩ | ⟨rfl,rfl⟩ <;> omega
 · exfalso
   have:=use_roots (L:=L) hr hr' (fun x=>hN x.symm) n
   have:=secOcc_tree L r.N j n hj
   have:=secOcc_tree L r'.N j' n hj'
   omega
def setD (D:DiskR) (c:Nat) (x:Clus):DiskR:={ D with C:=D.C.set c x }
theorem rsOf_n0 {L:List Clus} (h:SoundL L (rsOf N0 E)): ∀ e ∈ E,e.first≠N0:=by
 have hn:=h.nodup
 unfold rsOf at hn
 rw [List.map_cons,List.nodup_cons] at hn
 intro e he e2
 exact hn.1 (by rw [← e2];exact List.mem_map.2 ⟨rootE e,List.mem_map.2 ⟨e,he,rfl⟩,rfl⟩)
theorem dskOf_set {L L':List Clus} {c:Nat} {x:Clus} (hs:SoundL L (rsOf N0 E)) (h: ∀ r ∈ rsOf N0 E,contentOf L' r.N=if r.N=N0 then (contentOf L r.N).set c x else contentOf L r.N):dskOf L' N0 E=setD (dskOf L N0 E) c x:=by
 unfold dskOf setD
 have h0:=h ⟨N0,0,[]⟩ (by simp [rsOf])
 simp only [if_true] at h0
 simp only
 rw [h0]
 congr 1
 refine List.map_congr_left fun e he=> ?_
 have:=h (rootE e) (rsOf_mem.2 (Or.inr ⟨e,he,rfl⟩))
 have h1:contentOf L' e.first=if e.first=N0 then (contentOf L e.first).set c x else contentOf L e.first:=this
 rw [h1,if_neg (rsOf_n0 hs e he)]
theorem numAt_eq {L L':List Clus} {t c:Nat} (h1:nm L' t (c / 32)=nm L t (c / 32)) (h2:nm L t (c / 32)≠0→nm L' (nm L t (c / 32)%32768) (c%32)=nm L (nm L t (c / 32)%32768) (c%32)):numAt L' t c=numAt L t c:=by
 unfold nm at h1 h2
 unfold numAt
 rw [h1]
 by_cases h0:num (cl L t) (2*(c / 32))=0
 · rw [if_pos h0,if_pos h0]
 · rw [if_neg h0,if_neg h0];exact h2 h0
theorem Vol.inPlace (h:Vol base V N0 E) {b:Nat} {data:Clus} (hb:b<64) (hd:data.length=64) (h3:32768≤numAt V.C N0 b):
   Ok (putsC V.C [(numAt V.C N0 b%32768,data)]) V.C.length N0 E (setD (dskOf V.C N0 E) b data)∧(ExactS V.C (rsOf N0 E)→ExactS (putsC V.C [(numAt V.C N0 b%32768,data)]) (rsOf N0 E))∧(putsC V.C [(numAt V.C N0 b%32768,data)]).length=V.C.length:=by
 have hs:=h.sound
 have hr0:(⟨N0,0,[]⟩:RootR) ∈ rsOf N0 E:=by simp [rsOf]
 obtain ⟨n0,en⟩:=numAt_ne (show numAt V.C N0 b≠0 by omega)
 have hsec:IsSec V.C (rsOf N0 E) (nm V.C N0 (b / 32)%32768):=⟨_,hr0,b / 32,by omega,n0,rfl⟩
 have en':numAt V.C N0 b=nm V.C (nm V.C N0 (b / 32)%32768) (b%32):=en
 have hblk:IsBlk V.C (rsOf N0 E) (numAt V.C N0 b%32768):=⟨_,hsec,b%32,by omega,by rw [← en'];omega,by rw [← en']⟩
 have hbl:=hs.blk _ hblk
 have hmost:=h.file.most
 have hone:countOf V.C (numAt V.C N0 b%32768)=1:=by rw [en'];exact hs.mark2 _ hsec (b%32) (by omega) (by rw [← en'];exact h3)
 have huse:useOf V.C (rsOf N0 E) (numAt V.C N0 b%32768)=1:=by
   have:=hs.cnt (numAt V.C N0 b%32768) (by omega)
   have:=use_blk hblk
   omega
 have hF:putsC V.C [(numAt V.C N0 b%32768,data)]=putC V.C (numAt V.C N0 b%32768,data):=rfl
 have hlen:(putC V.C (numAt V.C N0 b%32768,data)).length=V.C.length:=by rw [putC_length];simp only;omega
 have hcl: ∀ t,cl (putC V.C (numAt V.C N0 b%32768,data)) t=if numAt V.C N0 b%32768=t then data else cl V.C t:=fun t=>by
   by_cases ht:t<V.C.length
   · rw [← vw_at (by rw [hlen];exact ht),vw_putC,vw_at ht]
   · rw [cl_past (by omega),cl_past (by omega),if_neg (by omega)]
 have hsh:Shape V.C (putC V.C (numAt V.C N0 b%32768,data)) (rsOf N0 E):=Shape.of_same (fun r hr=>by rw [hcl,if_neg (fun e=>hs.fb _ ⟨r,hr,e.symm⟩ hblk)]) (fun s hs'=>by rw [hcl,if_neg (fun e=>hs.sb _ (by rw [e];exact hs') hblk)])
 have hnm: ∀ t,(IsFst (rsOf N0 E) t∨IsSec V.C (rsOf N0 E) t)→ ∀ q,nm (putC V.C (numAt V.C N0 b%32768,data)) t q=nm V.C t q:=fun t ht q=>by
   unfold nm
   rw [hcl,if_neg]
   intro e
   rcases ht with hf | hf
   · exact hs.fb _ hf (by rw [← e];exact hblk)
   · exact hs.sb _ hf (by rw [← e];exact hblk)
 have hcnt: ∀ m,m<256→countOf (putC V.C (numAt V.C N0 b%32768,data)) m=countOf V.C m:=fun m hm=>by
   unfold countOf
   rw [hcl,if_neg (by omega)]
 have hpad:padTo (putC V.C (numAt V.C N0 b%32768,data)) V.C.length=putC V.C (numAt V.C N0 b%32768,data):=padTo_self hlen
 have hsnd:SoundL (putC V.C (numAt V.C N0 b%32768,data)) (rsOf N0 E):=by
   refine hs.shape hsh (by omega) (by omega) (fun n hn=>by rw [hcnt n hn];exact hs.cnt n hn) (fun n hn=>by rw [hcnt n hn];exact hs.top n hn) (fun n hn hl=>by rw [hcnt n hn];exact hs.none n hn (by omega)) (fun r hr j hj hm=> ?_) (fun s hs' q hq hm=> ?_)
   · rw [hnm _ (Or.inl ⟨r,hr,rfl⟩)] at hm ⊢
     have:=hs.num_in (Or.inl ⟨r,hr,rfl⟩) j (by omega) (by omega)
     rw [hcnt _ (by omega)]
     exact hs.mark1 r hr j hj hm
   · rw [hnm _ (Or.inr hs')] at hm ⊢
     have:=hs.num_in (Or.inr hs') q hq (by omega)
     rw [hcnt _ (by omega)]
     exact hs.mark2 s hs' q hq hm
 rw [hF]
 refine ⟨⟨?_,by rw [hpad];exact hsnd,?_⟩,fun hx=> ?_,hlen⟩
 · exact h.file.puts [(numAt V.C N0 b%32768,data)] (fun x hx=>by rw [List.mem_singleton.1 hx];exact ⟨hbl.2,by simp only;omega,by simp only;omega,hd⟩)
 · rw [hpad]
   refine dskOf_set hs fun r hr=> ?_
   have hsn: ∀ c,c<64→numAt (putC V.C (numAt V.C N0 b%32768,data)) r.N c=numAt V.C r.N c:=fun c hc=>by
     exact numAt_eq (hnm r.N (Or.inl ⟨r,hr,rfl⟩) (c / 32)) (fun h0=>hnm _ (Or.inr ⟨r,hr,c / 32,by omega,h0,rfl⟩) (c%32))
   have key: ∀ c,c<64→blkOf (putC V.C (numAt V.C N0 b%32768,data)) r.N c=if r.N=N0∧c=b then data else blkOf V.C r.N c:=by
     intro c hc
     rw [blkOf_numAt,blkOf_numAt,hsn c hc]
     by_cases e0:numAt V.C r.N c=0
     · rw [if_pos e0,if_pos e0,if_neg]
       rintro ⟨e1,e2⟩
       rw [e1,e2] at e0;omega
     · rw [if_neg e0,if_neg e0,hcl]
       by_cases e1:numAt V.C N0 b%32768=numAt V.C r.N c%32768
       · obtain ⟨m0,em⟩:=numAt_ne e0
         have em':numAt V.C r.N c=nm V.C (nm V.C r.N (c / 32)%32768) (c%32):=em
         have:=blk_place huse hr0 hr (show b / 32<2 by omega) (show c / 32<2 by omega) (show b%32<32 by omega) (show c%32<32 by omega) n0 m0 (by rw [← en'];omega) (by rw [← em'];exact e0) (by rw [← en']) (by rw [← em'];exact e1.symm)
         rw [if_pos e1,if_pos ⟨this.1,by omega⟩]
       · rw [if_neg e1,if_neg]
         rintro ⟨e2,e3⟩
         rw [e2,e3] at e1;exact e1 rfl
   apply List.ext_getElem?
   intro c
   by_cases hc:c<64
   · rw [contentOf_get _ _ _ hc,key c hc]
     by_cases e:r.N=N0
     · rw [if_pos e,List.getElem?_set]
       by_cases e2:b=c
       · rw [if_pos ⟨e,e2.symm⟩,if_pos e2,if_pos (by rw [contentOf_length];exact hb)]
       · rw [if_neg (fun z=>e2 z.2.symm),if_neg e2,contentOf_get _ _ _ hc]
     · rw [if_neg e,if_neg (fun z=>e z.1),contentOf_get _ _ _ hc]
   · rw [List.getElem?_eq_none (by rw [contentOf_length];omega),List.getElem?_eq_none]
     split
     · rw [List.length_set,contentOf_length];omega
     · rw [contentOf_length];omega
 · refine ⟨fun n hn=>by rw [hcnt n hn,hsh.use];exact hx.eq n hn,fun r hr j hj h0 h1=> ?_,fun s hs' q hq h0 h1=> ?_⟩
   · rw [hnm _ (Or.inl ⟨r,hr,rfl⟩)] at h0 h1 ⊢
     have:=hs.num_in (Or.inl ⟨r,hr,rfl⟩) j (by omega) h0
     rw [hcnt _ (by omega)] at h1
     exact hx.lone1 r hr j hj h0 h1
   · have hs2:=(hsh.isSec s).1 hs'
     rw [hnm _ (Or.inr hs2)] at h0 h1 ⊢
     have:=hs.num_in (Or.inr hs2) q hq h0
     rw [hcnt _ (by omega)] at h1
     exact hx.lone2 s hs2 q hq h0 h1
end
section
variable {base:List Clus} {V:VolR} {N0:Nat} {E:List EntR} {b:Nat} {data:Clus}
theorem set_num (T:List Nat) (hT: ∀ i,T.getD i 0<65536) (hl:T.length=32) (i x q:Nat) (hx:x<65536) (hq:q<32):num (bytesOf (T.set i x)) (2*q)=if i=q then x else T.getD q 0:=by
 have hg: ∀ j,(T.set i x).getD j 0=if i=j∧j<32 then x else T.getD j 0:=fun j=>by
   rw [List.getD_eq_getElem?_getD,List.getElem?_set,hl]
   by_cases e:i=j
   · subst e
     by_cases hj:i<32
     · rw [if_pos rfl,if_pos hj,if_pos ⟨rfl,hj⟩];rfl
     · rw [if_pos rfl,if_neg hj,if_neg (fun z=>hj z.2),List.getD_eq_getElem?_getD,List.getElem?_eq_none (by omega)]
   · rw [if_neg e,if_neg (fun z=>e z.1),List.getD_eq_getElem?_getD]
 rw [num_bytesOf _ (fun j=>by rw [hg j];split;exact hx;exact hT j) q hq,hg q]
 by_cases e:i=q
 · rw [if_pos ⟨e,hq⟩,if_pos e]
 · rw [if_neg (fun z=>e z.1),if_neg e]
theorem count_toldBy (ns:List Nat) (m:Nat):(toldBy ns).count m=(ns.map fun x=>hit x m).sum:=by
 induction ns with
 | nil=>rfl
 | cons x r ih=>
   rw [List.map_cons,List.sum_cons,← ih]
   unfold toldBy
   rw [List.filter_cons]
   by_cases e:x=0
   · rw [if_neg (by simp [e]),e,hit_zero];omega
   · rw [if_pos (by simpa using e),List.map_cons,List.count_cons]
     unfold hit
     by_cases e2:x%32768=m
     · have e3:(x%32768 == m)=true:=by simpa using e2
       rw [e3,if_pos rfl,if_pos ⟨e,e2⟩];omega
     · have e3:(x%32768 == m)=false:=by simpa using e2
       rw [e3,if_neg (by decide),if_neg (fun z=>e2 z.2)];omega
theorem claimV_puts (V:VolR) (F:List Nat):claimV V F=puts (lengthenV V F) (cntPuts (ones (cntsOf (lengthenV V F).C) F)):=by unfold claimV;exact putCnt_puts _ _
theorem puts_one (V:VolR) (x:Nat × Clus):puts V [x]=putV V x.1 x.2:=rfl
theorem puts_two (V:VolR) (x y:Nat × Clus):puts V [x,y]=putV (putV V x.1 x.2) y.1 y.2:=rfl
theorem lastOf_one (n:Nat):lastOf [n]=n:=rfl
theorem lastOf_two (s n:Nat):lastOf [s,n]=n:=rfl
theorem putN_of {C:List Clus} {T s k x:Nat} (hl:C.length=T) (hs:s<T) (hk:k<32) (hx:x<65536):PutN C (putsC C [(s,bytesOf ((numsOf (cl C s)).set k x))]) s k x:=by
 have hF:putsC C [(s,bytesOf ((numsOf (cl C s)).set k x))]=putC C (s,bytesOf ((numsOf (cl C s)).set k x)):=rfl
 have hlen:(putC C (s,bytesOf ((numsOf (cl C s)).set k x))).length=C.length:=by rw [putC_length];simp only;omega
 have hat:cl (putC C (s,bytesOf ((numsOf (cl C s)).set k x))) s=bytesOf ((numsOf (cl C s)).set k x):=by rw [← vw_at (by omega),vw_putC,if_pos rfl]
 rw [hF]
 refine ⟨hlen,?_,fun q hq hne=> ?_,fun t ht=> ?_⟩
 · unfold nm;rw [hat,set_num _ (numsOf_lt _) (numsOf_length _) _ _ _ hx hk,if_pos rfl]
 · unfold nm;rw [hat,set_num _ (numsOf_lt _) (numsOf_length _) _ _ _ hx hq,if_neg (fun e=>hne e.symm),numsOf_get _ _ hq]
 · by_cases htl:t<C.length
   · rw [← vw_at (by omega),vw_putC,if_neg (fun e=>ht e.symm),vw_at htl]
   · rw [cl_past (by omega),cl_past (by omega)]
theorem FileE.put1 {C:List Clus} {T:Nat} (h:FileE C T N0 E) {s:Nat} {c:Clus} (h1:s<T) (h2:s≠0) (h3:s≠5) (hc:c.length=64):FileE (putsC C [(s,c)]) T N0 E:=
 h.puts _ (fun x hx=>by rw [List.mem_singleton.1 hx];exact ⟨h1,h2,h3,hc⟩)
structure Wrote (base:List Clus) (V V':VolR) (N0:Nat) (E:List EntR) (D':DiskR):Prop where
 vol:Vol base V' N0 E
 holds:dskOf V'.C N0 E=D'
 exact:ExactS V.C (rsOf N0 E)→ExactS V'.C (rsOf N0 E)
theorem Vol.count1 (h:Vol base V N0 E) (F:List Nat) (hF:lastOf F<256) (m:Nat) (hm:m<256):countOf (lengthenV V F).C m=countOf V.C m:=by
 unfold countOf
 rw [(h.longer F hF).2.2.2.1 _ (by omega)]
theorem Vol.blk1 (h:Vol base V N0 E) {n:Nat} (hF:lowFree (cntsOf V.C) 1=[n]) (hn:n<256) (h0:countOf V.C n=0) (hd:data.length=64):
   wnb1 V data=epoch (lengthenV V [n]) (cntPuts (ones (cntsOf (lengthenV V [n]).C) [n])++[(n,data)])∧Ok (wnb1 V data).C (lenTo V.C [n]) N0 E (dskOf V.C N0 E)∧(wnb1 V data).C.length=lenTo V.C [n]∧
     (∀ m,m<256→countOf (wnb1 V data).C m=if m=n then 1 else countOf V.C m)∧cl (wnb1 V data).C n=data∧(∀ t,5≤t→t<V.C.length→t≠n→cl (wnb1 V data).C t=cl V.C t)∧Shape V.C (wnb1 V data).C (rsOf N0 E):=by
 obtain ⟨a1,a2,a3,a4,a5⟩:=h.longer [n] (by rw [lastOf_one];exact hn)
 have hc:=fun m hm=>h.count1 [n] (by rw [lastOf_one];exact hn) m hm
 have e:wnb1 V data=epoch (lengthenV V [n]) (cntPuts (ones (cntsOf (lengthenV V [n]).C) [n])++[(n,data)]):=by
   unfold wnb1
   rw [hF]
   unfold epoch
   rw [puts_append,← claimV_puts,puts_one]
   simp only [List.getD_cons_zero]
 have hT:lenTo V.C [n]=max V.C.length (n+1):=rfl
 have h6:=h.sound.free_six hn h0
 obtain ⟨b1,b2,b3,b4,b5,b6⟩:=a1.claimed [n] (fun m hm=>by rw [List.mem_singleton.1 hm];exact ⟨by omega,by rw [hc n hn];exact h0⟩) [(n,data)] (fun x hx=>by rw [List.mem_singleton.1 hx];exact ⟨by simp,hd⟩) (by
   rw [a2]
   by_cases hx:V.C.length≤n
   · exact Or.inr ⟨(n,data),by simp,by simp only;omega⟩
   · exact Or.inl (by omega))
 rw [e]
 have hun:=h.sound.untold hn h0
 have hcl: ∀ t,5≤t→t<V.C.length→t≠n→cl (epoch (lengthenV V [n]) (cntPuts (ones (cntsOf (lengthenV V [n]).C) [n])++[(n,data)])).C t=cl V.C t:=fun t h5 ht hne=>by
   rw [b4 t h5 (by omega) (fun x hx=>by rw [List.mem_singleton.1 hx];exact fun z=>hne z.symm),a4 t (by omega)]
 refine ⟨rfl,b1,b2,fun m hm=> ?_,?_,hcl,Shape.of_same (fun r hr=>hcl _ ?_ ?_ ?_) (fun s hs=>hcl _ ?_ ?_ ?_)⟩
 · rw [b3 m hm,hc m hm];simp
 · rw [← vw_at (by rw [b2];omega),epoch_C]
   have e2:putsC (lengthenV V [n]).C (cntPuts (ones (cntsOf (lengthenV V [n]).C) [n])++[(n,data)])=putC (putsC (lengthenV V [n]).C (cntPuts (ones (cntsOf (lengthenV V [n]).C) [n]))) (n,data):=by simp [putsC]
   rw [e2,vw_putC,if_pos rfl]
 · have:=h.sound.fst r hr;omega
 · exact (h.sound.fst r hr).2
 · exact fun z=>hun.1 ⟨r,hr,z⟩
 · have:=h.sound.sec s hs;omega
 · exact (h.sound.sec s hs).2
 · exact fun z=>hun.2.1 (by rw [← z];exact hs)
theorem placed (b:Nat):(findR V.C N0 b).second=nm V.C N0 (b / 32)∧(findR V.C N0 b).block=numAt V.C N0 b∧(findR V.C N0 b).inSecond=b%32∧(findR V.C N0 b).inFirst=b / 32∧(findR V.C N0 b).first=N0:=⟨rfl,rfl,rfl,rfl,rfl⟩
theorem Vol.blk3 (h:Vol base V N0 E) {n:Nat} (hb:b<64) (hF:lowFree (cntsOf V.C) 1=[n]) (hn:n<256) (h0:countOf V.C n=0) (hd:data.length=64) (h2:32768≤nm V.C N0 (b / 32)):
   wnbV V (findR V.C N0 b) data=epoch (wnb1 V data) [(nm V.C N0 (b / 32)%32768,bytesOf ((numsOf (cl (wnb1 V data).C (nm V.C N0 (b / 32)%32768))).set (b%32) (n+32768)))]∧
   Ok (wnbV V (findR V.C N0 b) data).C (lenTo V.C [n]) N0 E (setD (dskOf V.C N0 E) b data)∧(wnbV V (findR V.C N0 b) data).C.length=lenTo V.C [n]∧
     (∀ m,m<256→countOf (wnbV V (findR V.C N0 b) data).C m=if m=n then 1 else countOf V.C m)∧(∀ m,useOf (wnbV V (findR V.C N0 b) data).C (rsOf N0 E) m+hit (numAt V.C N0 b) m=useOf V.C (rsOf N0 E) m+if n=m then 1 else 0):=by
 obtain ⟨_,b1,b2,b3,b4,b5,b6⟩:=h.blk1 (data:=data) hF hn h0 hd
 have hr0:(⟨N0,0,[]⟩:RootR) ∈ rsOf N0 E:=by simp [rsOf]
 have hT:lenTo V.C [n]=max V.C.length (n+1):=rfl
 have hmost:=h.file.most
 have h6:=h.sound.free_six hn h0
 have hun:=h.sound.untold hn h0
 have hs:IsSec V.C (rsOf N0 E) (nm V.C N0 (b / 32)%32768):=⟨_,hr0,b / 32,by omega,by show nm V.C N0 (b / 32)≠0;omega,rfl⟩
 have hsr:=h.sound.sec _ hs
 have hone:countOf V.C (nm V.C N0 (b / 32)%32768)=1:=h.sound.mark1 _ hr0 (b / 32) (by omega) h2
 have hsn:nm V.C N0 (b / 32)%32768≠n:=fun e=>hun.2.1 (by rw [← e];exact hs)
 have hN:=h.sound.fst _ hr0
 simp only at hN
 have hNn:N0≠n:=fun e=>hun.1 ⟨_,hr0,e⟩
 have e:wnbV V (findR V.C N0 b) data=epoch (wnb1 V data) [(nm V.C N0 (b / 32)%32768,bytesOf ((numsOf (cl (wnb1 V data).C (nm V.C N0 (b / 32)%32768))).set (b%32) (n+32768)))]:=by
   unfold wnbV epoch putNumV
   rw [hF,puts_one]
   simp only [List.getD_cons_zero]
   obtain ⟨p1,p2,p3,p4,p5⟩:=placed (V:=V) (N0:=N0) b
   rw [p1,p3]
 have s2:=b1.sound
 rw [padTo_self b2] at s2
 have hput:=putN_of (x:=n+32768) (k:=b%32) b2 (show nm V.C N0 (b / 32)%32768<lenTo V.C [n] by omega) (by omega) (by omega)
 have hC3:(wnbV V (findR V.C N0 b) data).C=putsC (wnb1 V data).C [(nm V.C N0 (b / 32)%32768,bytesOf ((numsOf (cl (wnb1 V data).C (nm V.C N0 (b / 32)%32768))).set (b%32) (n+32768)))]:=by rw [e,epoch_C]
 rw [← hC3] at hput
 have e1:nm (wnb1 V data).C N0 (b / 32)=nm V.C N0 (b / 32):=by unfold nm;rw [b5 N0 (by omega) (by omega) hNn]
 have hB:BlkIn (wnb1 V data).C (wnbV V (findR V.C N0 b) data).C (rsOf N0 E) ⟨N0,0,[]⟩ (b / 32) (nm V.C N0 (b / 32)%32768) (b%32) n:=by
   refine ⟨hput,hr0,by omega,by omega,by show nm (wnb1 V data).C N0 (b / 32)≠0;rw [e1];omega,by show nm (wnb1 V data).C N0 (b / 32)%32768=_;rw [e1],?_,⟨h6,by omega⟩,by rw [b3 n hn,if_pos rfl],hun.1,fun x=>hun.2.1 ((b6.isSec n).1 x),fun x=>hun.2.2 ((b6.isBlk n).1 x)⟩
   rw [b3 _ (by omega),if_neg hsn];exact hone
 have s3:=hB.sound s2
 have hlen:(wnbV V (findR V.C N0 b) data).C.length=lenTo V.C [n]:=by rw [hput.len,b2]
 refine ⟨e,⟨?_,by rw [padTo_self hlen];exact s3,?_⟩,hlen,fun m hm=>by rw [hput.count hsr.1 m hm,b3 m hm],fun m=> ?_⟩
 · rw [hC3]
   exact b1.file.put1 (by omega) (by omega) (by omega) (bytesOf_length _)
 · rw [padTo_self hlen]
   have hd2:=b1.holds
   rw [padTo_self b2] at hd2
   rw [← hd2]
   refine dskOf_set s2 fun r hr=> ?_
   have:=hB.content s2 hr
   rw [this,b4,show 32*(b / 32)+b%32=b by omega]
 · have:=hB.use s2 m
   rw [b6.use] at this
   have e2:nm (wnb1 V data).C (nm V.C N0 (b / 32)%32768) (b%32)=numAt V.C N0 b:=by
     unfold nm numAt
     rw [if_neg (by unfold nm at h2;omega),b5 _ (by omega) hsr.2 hsn]
   rw [e2] at this
   exact this
theorem Vol.writeBlock (h:Vol base V N0 E) {n:Nat} (hb:b<64) (hF:lowFree (cntsOf V.C) 1=[n]) (hn:n<256) (h0:countOf V.C n=0) (hd:data.length=64) (h2:32768≤nm V.C N0 (b / 32)):
   Lets (wnbV V (findR V.C N0 b) data) N0 E (toldBy [numAt V.C N0 b])∧Wrote base V (letGoV (wnbV V (findR V.C N0 b) data) (toldBy [numAt V.C N0 b])) N0 E (setD (dskOf V.C N0 E) b data):=by
 obtain ⟨e,c1,c2,c3,c4⟩:=h.blk3 hb hF hn h0 hd h2
 have h6:=h.sound.free_six hn h0
 have hmost:=h.file.most
 have hnone:=use_none h.sound (h.sound.untold hn h0)
 have hcount: ∀ m,(toldBy [numAt V.C N0 b]).count m=hit (numAt V.C N0 b) m:=fun m=>by rw [count_toldBy];simp
 have hl:Lets (wnbV V (findR V.C N0 b) data) N0 E (toldBy [numAt V.C N0 b]):=by
   refine ⟨fun u hu=> ?_,fun m hm=> ?_⟩
   · unfold toldBy at hu
     obtain ⟨x,hx,rfl⟩:=List.mem_map.1 hu
     obtain ⟨hx1,hx2⟩:=List.mem_filter.1 hx
     rw [List.mem_singleton.1 hx1] at hx2 ⊢
     have:=h.sound.blk _ (numAt_isBlk (r:=⟨N0,0,[]⟩) (by simp [rsOf]) hb (by simpa using hx2))
     simp only at this
     omega
   · have:=c4 m
     rw [hcount,c3 m hm]
     by_cases e1:m=n
     · subst e1
       rw [if_pos rfl] at this
       rw [if_pos rfl,base6_eq,if_neg (by omega)]
       omega
     · rw [if_neg (fun z=>e1 z.symm)] at this
       rw [if_neg e1]
       have:=h.sound.cnt m hm
       omega
 obtain ⟨d1,d2,d3,d4⟩:=c1.letGo c2 hl
 refine ⟨hl,d1.vol d2 d3 (h.log.puts (puts_letGo (puts_wnb (Puts.refl V) _ _) _)),?_,fun hx=>d4 fun m hm=> ?_⟩
 · have:=d1.holds
   rw [padTo_self d2] at this
   exact this
 · have:=c4 m
   rw [hcount,c3 m hm]
   by_cases e1:m=n
   · subst e1
     rw [if_pos rfl] at this
     rw [if_pos rfl,base6_eq,if_neg (by omega)]
     omega
   · rw [if_neg (fun z=>e1 z.symm)] at this
     rw [if_neg e1,hx.eq m hm]
     omega
end
section
variable {base:List Clus} {V:VolR} {N0:Nat} {E:List EntR} {b:Nat} {data:Clus}
theorem zt_get (i:Nat):zt.getD i 0=0:=by
 unfold zt
 rw [List.getD_eq_getElem?_getD,List.getElem?_replicate]
 split <;> rfl
theorem tab_get (q:Nat) (hq:q<32):(findR V.C N0 b).tab.getD q 0=oldNum V.C N0 (b / 32) q:=by
 unfold findR oldNum nm
 dsimp only
 by_cases e:num (cl V.C N0) (2*(b / 32))=0
 · rw [if_pos e,if_pos e,zt_get]
 · rw [if_neg e,if_neg e,numsOf_get _ _ hq]
theorem Vol.tab1 (h:Vol base V N0 E) {s n:Nat} (p:PlaceR) (hF:lowFree (cntsOf V.C) 2=[s,n]) (hsn:s<n) (hn:n<256) (h0:countOf V.C s=0) (h1:countOf V.C n=0) (hd:data.length=64):
   wnt1 V p data=epoch (lengthenV V [s,n]) (cntPuts (ones (cntsOf (lengthenV V [s,n]).C) [s,n])++[(s,bytesOf (p.tab.set p.inSecond (n+32768))),(n,data)])∧Ok (wnt1 V p data).C (lenTo V.C [s,n]) N0 E (dskOf V.C N0 E)∧(wnt1 V p data).C.length=lenTo V.C [s,n]∧
     (∀ m,m<256→countOf (wnt1 V p data).C m=if m=s∨m=n then 1 else countOf V.C m)∧cl (wnt1 V p data).C n=data∧cl (wnt1 V p data).C s=bytesOf (p.tab.set p.inSecond (n+32768))∧(∀ t,5≤t→t<V.C.length→t≠s→t≠n→cl (wnt1 V p data).C t=cl V.C t)∧Shape V.C (wnt1 V p data).C (rsOf N0 E):=by
 obtain ⟨a1,a2,a3,a4,a5⟩:=h.longer [s,n] (by rw [lastOf_two];exact hn)
 have hc:=fun m hm=>h.count1 [s,n] (by rw [lastOf_two];exact hn) m hm
 have et:wntT V p=p.tab.set p.inSecond (n+32768):=by unfold wntT;rw [hF];rfl
 have e:wnt1 V p data=epoch (lengthenV V [s,n]) (cntPuts (ones (cntsOf (lengthenV V [s,n]).C) [s,n])++[(s,bytesOf (p.tab.set p.inSecond (n+32768))),(n,data)]):=by
   unfold wnt1
   rw [et,hF]
   unfold epoch
   rw [puts_append,← claimV_puts,puts_two]
   simp only [List.getD_cons_zero,List.getD_cons_succ]
 have hT:lenTo V.C [s,n]=max V.C.length (n+1):=rfl
 have h6:=h.sound.free_six (by omega) h0
 have htl:(bytesOf (p.tab.set p.inSecond (n+32768))).length=64:=bytesOf_length _
 generalize bytesOf (p.tab.set p.inSecond (n+32768))=tb at*
 obtain ⟨b1,b2,b3,b4,b5,b6⟩:=a1.claimed [s,n] (fun m hm=>by
   simp only [List.mem_cons,List.not_mem_nil,or_false] at hm
   rcases hm with rfl | rfl
   · exact ⟨by omega,by rw [hc _ (by omega)];exact h0⟩
   · exact ⟨by omega,by rw [hc _ hn];exact h1⟩) [(s,tb),(n,data)] (fun x hx=>by
   simp only [List.mem_cons,List.not_mem_nil,or_false] at hx
   rcases hx with rfl | rfl
   · exact ⟨by simp,htl⟩
   · exact ⟨by simp,hd⟩) (by
   rw [a2]
   by_cases hx:V.C.length≤n
   · exact Or.inr ⟨(n,data),by simp,by simp only;omega⟩
   · exact Or.inl (by omega))
 have hus:=h.sound.untold (by omega) h0
 have hun:=h.sound.untold hn h1
 have hcl: ∀ t,5≤t→t<V.C.length→t≠s→t≠n→cl (epoch (lengthenV V [s,n]) (cntPuts (ones (cntsOf (lengthenV V [s,n]).C) [s,n])++[(s,tb),(n,data)])).C t=cl V.C t:=fun t h5 ht hne hne2=>by
   rw [b4 t h5 (by omega) (fun x hx=>by
     simp only [List.mem_cons,List.not_mem_nil,or_false] at hx
     rcases hx with rfl | rfl
     · exact fun z=>hne z.symm
     · exact fun z=>hne2 z.symm),a4 t (by omega)]
 have e2:putsC (lengthenV V [s,n]).C (cntPuts (ones (cntsOf (lengthenV V [s,n]).C) [s,n])++[(s,tb),(n,data)])=putC (putC (putsC (lengthenV V [s,n]).C (cntPuts (ones (cntsOf (lengthenV V [s,n]).C) [s,n]))) (s,tb)) (n,data):=by simp [putsC]
 rw [e]
 refine ⟨rfl,b1,b2,fun m hm=> ?_,?_,?_,hcl,Shape.of_same (fun r hr=>hcl _ ?_ ?_ ?_ ?_) (fun x hs=>hcl _ ?_ ?_ ?_ ?_)⟩
 · rw [b3 m hm,hc m hm];simp
 · rw [← vw_at (by rw [b2];omega),epoch_C,e2,vw_putC,if_pos rfl]
 · rw [← vw_at (by rw [b2];omega),epoch_C,e2,vw_putC,if_neg (by simp only;omega),vw_putC,if_pos rfl]
 · have:=h.sound.fst r hr;omega
 · exact (h.sound.fst r hr).2
 · exact fun z=>hus.1 ⟨r,hr,z⟩
 · exact fun z=>hun.1 ⟨r,hr,z⟩
 · have:=h.sound.sec x hs;omega
 · exact (h.sound.sec x hs).2
 · exact fun z=>hus.2.1 (by rw [← z];exact hs)
 · exact fun z=>hun.2.1 (by rw [← z];exact hs)
theorem Vol.tab3 (h:Vol base V N0 E) {s n:Nat} (hb:b<64) (hF:lowFree (cntsOf V.C) 2=[s,n]) (hsn:s<n) (hn:n<256) (h0:countOf V.C s=0) (h1:countOf V.C n=0) (hd:data.length=64):
   wntV V (findR V.C N0 b) data=epoch (wnt1 V (findR V.C N0 b) data) [(N0,bytesOf ((numsOf (cl (wnt1 V (findR V.C N0 b) data).C N0)).set (b / 32) (s+32768)))]∧
   Ok (wntV V (findR V.C N0 b) data).C (lenTo V.C [s,n]) N0 E (setD (dskOf V.C N0 E) b data)∧(wntV V (findR V.C N0 b) data).C.length=lenTo V.C [s,n]∧
     (∀ m,m<256→countOf (wntV V (findR V.C N0 b) data).C m=if m=s∨m=n then 1 else countOf V.C m)∧(∀ m,useOf (wntV V (findR V.C N0 b) data).C (rsOf N0 E) m+(hit (nm V.C N0 (b / 32)) m+hit (numAt V.C N0 b) m)=useOf V.C (rsOf N0 E) m+((if s=m then 1 else 0)+if n=m then 1 else 0)):=by
 obtain ⟨_,b1,b2,b3,b4,b4',b5,b6⟩:=h.tab1 (data:=data) (findR V.C N0 b) hF hsn hn h0 h1 hd
 have hr0:(⟨N0,0,[]⟩:RootR) ∈ rsOf N0 E:=by simp [rsOf]
 have hT:lenTo V.C [s,n]=max V.C.length (n+1):=rfl
 have hmost:=h.file.most
 have h6:=h.sound.free_six (by omega) h0
 have hus:=h.sound.untold (by omega) h0
 have hun:=h.sound.untold hn h1
 have hN:=h.sound.fst _ hr0
 simp only at hN
 have hNs:N0≠s:=fun e=>hus.1 ⟨_,hr0,e⟩
 have hNn:N0≠n:=fun e=>hun.1 ⟨_,hr0,e⟩
 have e:wntV V (findR V.C N0 b) data=epoch (wnt1 V (findR V.C N0 b) data) [(N0,bytesOf ((numsOf (cl (wnt1 V (findR V.C N0 b) data).C N0)).set (b / 32) (s+32768)))]:=by
   unfold wntV epoch putNumV
   rw [hF,puts_one]
   simp only [List.getD_cons_zero]
   obtain ⟨p1,p2,p3,p4,p5⟩:=placed (V:=V) (N0:=N0) b
   rw [p4,p5]
 have s2:=b1.sound
 rw [padTo_self b2] at s2
 have hput:=putN_of (x:=s+32768) (k:=b / 32) b2 (show N0<lenTo V.C [s,n] by omega) (by omega) (by omega)
 have hC3:(wntV V (findR V.C N0 b) data).C=putsC (wnt1 V (findR V.C N0 b) data).C [(N0,bytesOf ((numsOf (cl (wnt1 V (findR V.C N0 b) data).C N0)).set (b / 32) (s+32768)))]:=by rw [e,epoch_C]
 rw [← hC3] at hput
 have e1: ∀ q,nm (wnt1 V (findR V.C N0 b) data).C N0 q=nm V.C N0 q:=fun q=>by unfold nm;rw [b5 N0 (by omega) (by omega) hNs hNn]
 have eo: ∀ q,q<32→oldNum (wnt1 V (findR V.C N0 b) data).C N0 (b / 32) q=oldNum V.C N0 (b / 32) q:=fun q hq=>by
   unfold oldNum
   rw [e1]
   by_cases z:nm V.C N0 (b / 32)=0
   · rw [if_pos z,if_pos z]
   · rw [if_neg z,if_neg z]
     have hs:IsSec V.C (rsOf N0 E) (nm V.C N0 (b / 32)%32768):=⟨_,hr0,b / 32,by omega,z,rfl⟩
     have hsr:=h.sound.sec _ hs
     unfold nm
     rw [b5 _ (by omega) hsr.2 (fun z=>hus.2.1 (by rw [← z];exact hs)) (fun z=>hun.2.1 (by rw [← z];exact hs))]
 have htn: ∀ q,q<32→nm (wnt1 V (findR V.C N0 b) data).C s q=if b%32=q then n+32768 else oldNum V.C N0 (b / 32) q:=fun q hq=>by
   unfold nm
   rw [b4',show (findR V.C N0 b).inSecond=b%32 from rfl,set_num _ (findR_lt V.C N0 b).2.2 (findR_tab _ _ _) _ _ _ (by omega) hq,tab_get q hq]
 have hB:TabIn (wnt1 V (findR V.C N0 b) data).C (wntV V (findR V.C N0 b) data).C (rsOf N0 E) ⟨N0,0,[]⟩ (b / 32) s (b%32) n:=by
   refine ⟨hput,hr0,by omega,by omega,by rw [htn _ (by omega),if_pos rfl],fun q hq hne=> ?_,by omega,⟨h6,by omega⟩,⟨by omega,by omega⟩,by rw [b3 _ (by omega),if_pos (Or.inl rfl)],by rw [b3 _ hn,if_pos (Or.inr rfl)],⟨hus.1,fun x=>hus.2.1 ((b6.isSec s).1 x),fun x=>hus.2.2 ((b6.isBlk s).1 x)⟩,hun.1,fun x=>hun.2.1 ((b6.isSec n).1 x),fun x=>hun.2.2 ((b6.isBlk n).1 x)⟩
   rw [htn q hq,if_neg (fun z=>hne z.symm)]
   exact (eo q hq).symm
 have s3:=hB.sound s2
 have hlen:(wntV V (findR V.C N0 b) data).C.length=lenTo V.C [s,n]:=by rw [hput.len,b2]
 refine ⟨e,⟨?_,by rw [padTo_self hlen];exact s3,?_⟩,hlen,fun m hm=>by rw [hput.count hN.1 m hm,b3 m hm],fun m=> ?_⟩
 · rw [hC3]
   exact b1.file.put1 (by omega) (by omega) (by omega) (bytesOf_length _)
 · rw [padTo_self hlen]
   have hd2:=b1.holds
   rw [padTo_self b2] at hd2
   rw [← hd2]
   refine dskOf_set s2 fun r hr=> ?_
   have:=hB.content s2 hr
   rw [this,b4,show 32*(b / 32)+b%32=b by omega]
 · have:=hB.use s2 m
   rw [b6.use] at this
   simp only at this
   rw [e1,eo _ (by omega)] at this
   have e2:oldNum V.C N0 (b / 32) (b%32)=numAt V.C N0 b:=rfl
   rw [e2] at this
   exact this
theorem Vol.writeTable (h:Vol base V N0 E) {s n:Nat} (hb:b<64) (hF:lowFree (cntsOf V.C) 2=[s,n]) (hsn:s<n) (hn:n<256) (h0:countOf V.C s=0) (h1:countOf V.C n=0) (hd:data.length=64):
   Lets (wntV V (findR V.C N0 b) data) N0 E (toldBy [nm V.C N0 (b / 32),numAt V.C N0 b])∧Wrote base V (letGoV (wntV V (findR V.C N0 b) data) (toldBy [nm V.C N0 (b / 32),numAt V.C N0 b])) N0 E (setD (dskOf V.C N0 E) b data):=by
 obtain ⟨e,c1,c2,c3,c4⟩:=h.tab3 hb hF hsn hn h0 h1 hd
 have h6:=h.sound.free_six (by omega) h0
 have hmost:=h.file.most
 have hu1:=use_none h.sound (h.sound.untold (by omega) h0)
 have hu2:=use_none h.sound (h.sound.untold hn h1)
 have hcount: ∀ m,(toldBy [nm V.C N0 (b / 32),numAt V.C N0 b]).count m=hit (nm V.C N0 (b / 32)) m+hit (numAt V.C N0 b) m:=fun m=>by rw [count_toldBy];simp
 have hl:Lets (wntV V (findR V.C N0 b) data) N0 E (toldBy [nm V.C N0 (b / 32),numAt V.C N0 b]):=by
   refine ⟨fun u hu=> ?_,fun m hm=> ?_⟩
   · unfold toldBy at hu
     obtain ⟨x,hx,rfl⟩:=List.mem_map.1 hu
     obtain ⟨hx1,hx2⟩:=List.mem_filter.1 hx
     simp only [List.mem_cons,List.not_mem_nil,or_false] at hx1
     rcases hx1 with rfl | rfl
     · have:=h.sound.sec (nm V.C N0 (b / 32)%32768) ⟨⟨N0,0,[]⟩,by simp [rsOf],b / 32,by omega,by simpa using hx2,rfl⟩
       omega
     · have:=h.sound.blk _ (numAt_isBlk (r:=⟨N0,0,[]⟩) (by simp [rsOf]) hb (by simpa using hx2))
       simp only at this
       omega
   · have:=c4 m
     rw [hcount,c3 m hm]
     by_cases e1:m=s
     · subst e1
       rw [if_pos rfl,if_neg (by omega)] at this
       rw [if_pos (Or.inl rfl),base6_eq,if_neg (by omega)]
       omega
     · by_cases e2:m=n
       · subst e2
         rw [if_neg (by omega),if_pos rfl] at this
         rw [if_pos (Or.inr rfl),base6_eq,if_neg (by omega)]
         omega
       · rw [if_neg (by omega),if_neg (by omega)] at this
         rw [if_neg (by omega)]
         have:=h.sound.cnt m hm
         omega
 obtain ⟨d1,d2,d3,d4⟩:=c1.letGo c2 hl
 refine ⟨hl,d1.vol d2 d3 (h.log.puts (puts_letGo (puts_wnt (Puts.refl V) _ _) _)),?_,fun hx=>d4 fun m hm=> ?_⟩
 · have:=d1.holds
   rw [padTo_self d2] at this
   exact this
 · have:=c4 m
   rw [hcount,c3 m hm]
   by_cases e1:m=s
   · subst e1
     rw [if_pos rfl,if_neg (by omega)] at this
     rw [if_pos (Or.inl rfl),base6_eq,if_neg (by omega)]
     omega
   · by_cases e2:m=n
     · subst e2
       rw [if_neg (by omega),if_pos rfl] at this
       rw [if_pos (Or.inr rfl),base6_eq,if_neg (by omega)]
       omega
     · rw [if_neg (by omega),if_neg (by omega)] at this
       rw [if_neg (by omega),hx.eq m hm]
       omega
theorem SoundL.free_all {C:List Clus} {rs:List RootR} (h:SoundL C rs) (hl: ∀ c ∈ C,c.length=64):freeOf C=cntTo (fun m=>byteAt (cntsOf C) m == 0) 256:=by
 have h6:=h.six
 have hm:=h.len
 have cong: ∀ (p q:Nat→Bool) (k:Nat),(∀ j,j<k→p j=q j)→cntTo p k=cntTo q k:=by
   intro p q k
   induction k with
   | zero=>intro _;rfl
   | succ k ih=>intro h;simp only [cntTo];rw [ih (fun j hj=>h j (by omega)),h k (by omega)]
 have more: ∀ (p:Nat→Bool) (n m:Nat),(∀ j,n≤j→j<n+m→p j=true)→cntTo p (n+m)=cntTo p n+m:=by
   intro p n m
   induction m with
   | zero=>intro _;rfl
   | succ m ih=>
     intro h
     rw [← Nat.add_assoc]
     simp only [cntTo]
     rw [ih (fun j h1 h2=>h j h1 (by omega)),if_pos (h (n+m) (by omega) (by omega))]
     omega
 have e:=cong (fun m=>byteAt (cntsOf C) m == 0) (fun m=>countOf C m == 0) 256 (fun j hj=>by rw [byteAt_cnts hl (by omega) j hj])
 rw [e]
 have e2:=more (fun m=>countOf C m == 0) C.length (256 - C.length) (fun j h1 h2=>by rw [h.none j (by omega) h1];rfl)
 rw [show C.length+(256 - C.length)=256 by omega] at e2
 rw [e2]
 unfold freeOf
 rw [Nat.add_comm]
 congr 1
 refine cong _ _ _ fun j hj=> ?_
 by_cases hj6:6≤j
 · simp [hj6]
 · have:=h.cnt j (by omega)
   rw [base6_eq,if_pos (by omega)] at this
   have:countOf C j≠0:=by omega
   simp [this,hj6]
theorem free_few {C:List Clus} {rs:List RootR} (h:SoundL C rs) (hl: ∀ c ∈ C,c.length=64) (want:Nat) (hf:(lowFree (cntsOf C) want).length<want):freeOf C<want:=by
 rw [h.free_all hl,← lowTo_all _ want 256 hf];exact hf
def writeV (V:VolR) (n:Int) (data:Clus):VolR × Nat:=writeR V n data (letGoV (wntV V (placeOf V n) data) (toldBy [(placeOf V n).second,(placeOf V n).block])) (letGoV (wnbV V (placeOf V n) data) (toldBy [(placeOf V n).block]))
theorem Vol.place (h:Vol base V N0 E) (n:Int):placeOf V n=findR V.C N0 n.toNat:=by unfold placeOf;rw [h.file.num6]
theorem blockB_lt {n:Int} (hb:blockB n=true):n.toNat<64:=by
 unfold blockB at hb
 simp at hb
 omega
theorem Wrote.refl (h:Vol base V N0 E):Wrote base V V N0 E (dskOf V.C N0 E):=⟨h,rfl,id⟩
theorem Vol.write (h:Vol base V N0 E) (n:Int) (hd:data.length=64):
   (blockB n=false∧writeV V n data=(V,1))∨(blockB n=true∧(writeV V n data).2=0∧Wrote base V (writeV V n data).1 N0 E (setD (dskOf V.C N0 E) n.toNat data))∨
     (blockB n=true∧writeV V n data=(V,5)∧ ∀ R:FileR,R.L=V.C→R.roots=rsOf N0 E→freeOf V.C<needs R n.toNat):=by
 have h7:=h.file.seven
 have hm:=h.file.most
 unfold writeV writeR
 by_cases hb:blockB n=true
 · have hlt:=blockB_lt hb
   rw [if_neg (by rw [hb];decide),h.place n]
   obtain ⟨p1,p2,p3,p4,p5⟩:=placed (V:=V) (N0:=N0) n.toNat
   rw [p1,p2]
   by_cases h2:nm V.C N0 (n.toNat / 32)<32768
   · rw [if_pos h2]
     by_cases hf:2≤(lowFree (cntsOf V.C) 2).length
     · rw [if_pos hf]
       obtain ⟨s,n',hF,hsn,hn,h0,h1⟩:=lowFree_two hf
       rw [byteAt_cnts h.file.lens (by omega) _ (by omega)] at h0 h1
       have hw:=(h.writeTable hlt hF hsn hn h0 h1 hd).2
       generalize letGoV (wntV V (findR V.C N0 n.toNat) data) (toldBy [nm V.C N0 (n.toNat / 32),numAt V.C N0 n.toNat])=W at*
       exact Or.inr (Or.inl ⟨hb,rfl,hw⟩)
     · rw [if_neg hf]
       refine Or.inr (Or.inr ⟨hb,rfl,fun R hL hR=> ?_⟩)
       have:=free_few h.sound h.file.lens 2 (by omega)
       unfold needs rootOf
       rw [hL,hR,if_pos (by exact h2)]
       exact this
   · rw [if_neg h2]
     by_cases h3:numAt V.C N0 n.toNat<32768
     · rw [if_pos h3]
       by_cases hf:0<(lowFree (cntsOf V.C) 1).length
       · rw [if_pos hf]
         obtain ⟨n',hF,hn,h0⟩:=lowFree_one hf
         rw [byteAt_cnts h.file.lens (by omega) _ (by omega)] at h0
         have hw:=(h.writeBlock hlt hF hn h0 hd (by omega)).2
         generalize letGoV (wnbV V (findR V.C N0 n.toNat) data) (toldBy [numAt V.C N0 n.toNat])=W at*
         exact Or.inr (Or.inl ⟨hb,rfl,hw⟩)
       · rw [if_neg hf]
         refine Or.inr (Or.inr ⟨hb,rfl,fun R hL hR=> ?_⟩)
         have:=free_few h.sound h.file.lens 1 (by omega)
         have e2:num (cl V.C (num (cl V.C N0) (2*(n.toNat / 32))%32768)) (2*(n.toNat%32))<32768:=by
           unfold numAt at h3
           rw [if_neg (by unfold nm at h2;omega)] at h3
           exact h3
         unfold needs rootOf
         rw [hL,hR,if_neg (by exact h2),if_pos (by exact e2)]
         exact this
     · rw [if_neg h3]
       obtain ⟨o1,o2,o3⟩:=h.inPlace (data:=data) hlt hd (by omega)
       have eC:(flushV (putV V (numAt V.C N0 n.toNat%32768) data)).C=putsC V.C [(numAt V.C N0 n.toNat%32768,data)]:=by rw [flushV_C,putV_C];rfl
       refine Or.inr (Or.inl ⟨hb,rfl,?_⟩)
       show Wrote base V (flushV (putV V (numAt V.C N0 n.toNat%32768) data)) N0 E _
       refine ⟨Ok.vol (T:=V.C.length) (D:=setD (dskOf V.C N0 E) n.toNat data) (by rw [eC];exact o1) (by rw [eC];exact o3) (flushV_loose _) (h.log.puts ((Puts.refl V).put _ _).flush),?_,fun hx=>by rw [eC];exact o2 hx⟩
       rw [eC]
       have:=o1.holds
       rw [padTo_self o3] at this
       exact this
 · have hb':blockB n=false:=by simpa using hb
   rw [if_pos hb']
   exact Or.inl ⟨hb',rfl⟩
end
end Go.Proofs.YtknjjjenklfeoaaGreatDoor
