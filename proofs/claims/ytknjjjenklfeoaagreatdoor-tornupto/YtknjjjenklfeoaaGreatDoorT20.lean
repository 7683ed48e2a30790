import Derived.Test.YtknjjjenklfeoaaGreatDoorT19
set_option maxHeartbeats 8000000
set_option maxRecDepth 100000
namespace Go.Proofs.YtknjjjenklfeoaaGreatDoor
open Go.RowKit
theorem minus1_get (k:List UInt8) (n m:Nat) (hn:n<k.length) (h1:1≤byteAt k n):byteAt (minus1 k n) m=if n=m then byteAt k n - 1 else byteAt k m:=by
 have hlt:=byteAt_lt k n
 unfold minus1
 rw [byteAt_set _ _ _ _ hn]
 by_cases e:n=m
 · rw [if_pos e,if_pos e,UInt8.toNat_ofNat'];omega
 · rw [if_neg e,if_neg e]
theorem minus_get: ∀ (us:List Nat) (k:List UInt8) (m:Nat),(∀ u ∈ us,u<k.length)→(∀ u,us.count u≤byteAt k u)→byteAt (minus k us) m+us.count m=byteAt k m
 | [],k,m,_,_=>by simp [minus]
 | a :: r,k,m,hl,hc=>by
   have ha:=hl a (by simp)
   have h1:1≤byteAt k a:=by have:=hc a;rw [List.count_cons] at this;simp at this;omega
   have ih:=minus_get r (minus1 k a) m (fun u hu=>by simp only [minus1,List.length_set];exact hl u (by simp [hu])) (fun u=>by
     have:=hc u
     rw [List.count_cons] at this
     rw [minus1_get k a u ha h1]
     by_cases e:a=u
     · subst e;rw [if_pos rfl];simp at this;omega
     · rw [if_neg e];simp [e] at this;omega)
   show byteAt (minus (minus1 k a) r) m+_=_
   rw [minus1_get k a m ha h1] at ih
   rw [List.count_cons]
   by_cases e:a=m
   · subst e;rw [if_pos rfl] at ih;simp;omega
   · rw [if_neg e] at ih;simp [e];omega
def cntPuts (k:List UInt8):List (Nat × Clus):=[(1,partOf k 0),(2,partOf k 1),(3,partOf k 2),(4,partOf k 3)]
theorem putCnt_puts (V:VolR) (k:List UInt8):putCnt V k 4=puts V (cntPuts k):=rfl
theorem cntPuts_mem {k:List UInt8} {x:Nat × Clus} (h:x ∈ cntPuts k): ∃ p,p<4∧x=(1+p,partOf k p):=by
 simp only [cntPuts,List.mem_cons,List.not_mem_nil,or_false] at h
 rcases h with rfl | rfl | rfl | rfl
 · exact ⟨0,by omega,rfl⟩
 · exact ⟨1,by omega,rfl⟩
 · exact ⟨2,by omega,rfl⟩
 · exact ⟨3,by omega,rfl⟩
theorem vw_cntPuts (C:List Clus) (k:List UInt8) (n:Nat) (hn:n<256) (qs:List (Nat × Clus)) (hq: ∀ x ∈ qs,5≤x.1):byteAt (vw (putsC C (cntPuts k++qs)) (1+n / 64)) (n%64)=byteAt k n:=by
 have e:putsC C (cntPuts k++qs)=putsC (putsC C (cntPuts k)) qs:=by simp [putsC]
 rw [e,vw_puts_none _ qs _ (fun x hx=>by have:=hq x hx;omega)]
 have hp:n / 64=0∨n / 64=1∨n / 64=2∨n / 64=3:=by omega
 have hb:=byteAt_part k n
 show byteAt (vw (putC (putC (putC (putC C (1,partOf k 0)) (2,partOf k 1)) (3,partOf k 2)) (4,partOf k 3)) (1+n / 64)) (n%64)=_
 rw [vw_putC,vw_putC,vw_putC,vw_putC]
 rcases hp with h | h | h | h <;> rw [h] at hb ⊢ <;> simp only [Nat.reduceAdd,Nat.reduceEqDiff,if_true,if_false] <;> exact hb
section
variable {C:List Clus} {T N0:Nat} {E:List EntR} {D:DiskR}
theorem chg_num (ch:Nat→Nat) (c:Clus) (hch: ∀ q,q<32→num c (2*q)≠0→ch (num c (2*q))<65536) (q:Nat) (hq:q<32):num (bytesOf (chgT ch (numsOf c))) (2*q)=if num c (2*q)=0 then 0 else ch (num c (2*q)):=by
 rw [num_bytesOf _ _ q hq,chgT_get,numsOf_get _ _ hq]
 intro i
 rw [chgT_get]
 by_cases hi:i<32
 · rw [numsOf_get _ _ hi]
   split
   · decide
   · rename_i h;exact hch i hi h
 · rw [List.getD_eq_getElem?_getD,List.getElem?_eq_none (by rw [numsOf_length];omega)]
   simp
theorem loneOf_lt (k:List UInt8) (n:Nat) (h:n<65536):loneOf k n<65536:=by unfold loneOf;split <;> omega
theorem loneOf_mod (k:List UInt8) (n:Nat):loneOf k n%32768=n%32768:=by unfold loneOf;split <;> omega
theorem loneOf_zero (k:List UInt8) (n:Nat) (h0:n≠0):loneOf k n≠0:=by unfold loneOf;split <;> omega
theorem loneOf_twice (k:List UInt8) (n:Nat):loneOf k (loneOf k n)=loneOf k n:=by
 by_cases e:byteAt k (n%32768)=1
 · have e1:loneOf k n=n%32768+32768:=by unfold loneOf;rw [if_pos e]
   have e2:(n%32768+32768)%32768=n%32768:=by omega
   rw [e1]
   unfold loneOf
   rw [e2,if_pos e]
 · have e1:loneOf k n=n:=by unfold loneOf;rw [if_neg e]
   rw [e1,e1]
def loneTab (k:List UInt8) (c:Clus):Clus:=bytesOf (chgT (loneOf k) (numsOf c))
theorem lone_num (k:List UInt8) (c:Clus) (q:Nat) (hq:q<32):num (loneTab k c) (2*q)=if num c (2*q)=0 then 0 else loneOf k (num c (2*q)):=
 chg_num _ c (fun _ _ _=>loneOf_lt k _ (num_lt _ _)) q hq
theorem loneTab_length (k:List UInt8) (c:Clus):(loneTab k c).length=64:=bytesOf_length _
theorem loneTab_same (k:List UInt8) (c:Clus) (q:Nat) (hq:q<32):SameN (num (loneTab k c) (2*q)) (num c (2*q)):=by
 rw [lone_num k c q hq]
 by_cases e:num c (2*q)=0
 · rw [if_pos e,e];exact SameN.refl _
 · rw [if_neg e]
   exact ⟨⟨fun x=>absurd x (loneOf_zero k _ e),fun x=>absurd x e⟩,loneOf_mod k _⟩
theorem loneTab_twice (k:List UInt8) (c:Clus):loneTab k (loneTab k c)=loneTab k c:=by
 refine clus_ext (loneTab_length k _) (loneTab_length k _) fun q hq=> ?_
 rw [lone_num k _ q hq,lone_num k c q hq]
 by_cases e:num c (2*q)=0
 · rw [if_pos e];rfl
 · rw [if_neg e,if_neg (loneOf_zero k _ e),loneOf_twice k _]
theorem toldBy_same {T1 T2:List Nat} (hl:T1.length=T2.length) (h: ∀ i,SameN (T1.getD i 0) (T2.getD i 0)):toldBy T1=toldBy T2:=by
 induction T1 generalizing T2 with
 | nil=>
   cases T2 with
   | nil=>rfl
   | cons b s=>simp at hl
 | cons a r ih=>
   cases T2 with
   | nil=>simp at hl
   | cons b s=>
     have h0:=h 0
     simp only [List.getD_cons_zero] at h0
     have ih':=ih (T2:=s) (by simpa using hl) (fun i=>by have:=h (i+1);simpa using this)
     unfold toldBy at ih' ⊢
     simp only [List.filter_cons]
     by_cases e:a=0
     · rw [if_neg (by simp [e]),if_neg (by simp [h0.1.1 e])]
       exact ih'
     · have eb:b≠0:=fun x=>e (h0.1.2 x)
       rw [if_pos (by simpa using e),if_pos (by simpa using eb),List.map_cons,List.map_cons,ih',h0.2]
theorem loneTab_told (k:List UInt8) (c:Clus):toldBy (numsOf (loneTab k c))=toldBy (numsOf c):=by
 refine toldBy_same (by rw [numsOf_length,numsOf_length]) fun i=> ?_
 by_cases hi:i<32
 · rw [numsOf_get _ _ hi,numsOf_get _ _ hi];exact loneTab_same k _ i hi
 · rw [List.getD_eq_getElem?_getD,List.getElem?_eq_none (by rw [numsOf_length];omega),List.getD_eq_getElem?_getD,List.getElem?_eq_none (by rw [numsOf_length];omega)];exact SameN.refl _
theorem renumV_cons (ch:Nat→Nat) (V:VolR) (t:Nat) (r:List Nat):renumV ch V (t :: r)=renumV ch (renumTab ch V t) r:=rfl
theorem puts_cons (V:VolR) (x:Nat × Clus) (r:List (Nat × Clus)):puts V (x :: r)=puts (putV V x.1 x.2) r:=rfl
theorem puts_append (V:VolR) (a b:List (Nat × Clus)):puts V (a++b)=puts (puts V a) b:=by simp [puts]
theorem loneV_cons (k:List UInt8) (V:VolR) (f:Nat) (r:List Nat):loneV k V (f :: r)=loneV k (renumV (loneOf k) V (tabsOf V f)) r:=rfl
theorem renumTab_lone (k:List UInt8) (V:VolR) (t:Nat):renumTab (loneOf k) V t=putV V t (loneTab k (cl V.C t)):=rfl
theorem renum_puts (k:List UInt8) (C0:List Clus) (ts:List Nat): ∀ V:VolR,(∀ t ∈ ts,t<V.C.length)→(∀ t,t<V.C.length→cl V.C t=cl C0 t∨cl V.C t=loneTab k (cl C0 t))→
   renumV (loneOf k) V ts=puts V (ts.map fun t=>(t,loneTab k (cl C0 t))):=by
 induction ts with
 | nil=>intro V _ _;rfl
 | cons t r ih=>
   intro V ht hC
   have htl:=ht t (by simp)
   have e:renumTab (loneOf k) V t=putV V t (loneTab k (cl C0 t)):=by
     rw [renumTab_lone]
     rcases hC t htl with x | x
     · rw [x]
     · rw [x,loneTab_twice]
   rw [renumV_cons,e,List.map_cons,puts_cons]
   dsimp only
   have hlen:=putV_lenC V t (loneTab k (cl C0 t))
   refine ih (putV V t (loneTab k (cl C0 t))) (fun x hx=>by rw [hlen];have:=ht x (by simp [hx]);omega) (fun x hx=> ?_)
   by_cases ex:t=x
   · subst ex;rw [cl_putV_at];exact Or.inr rfl
   · rw [cl_putV_ne _ _ _ _ (by rw [hlen] at hx;omega) ex]
     exact hC x (by rw [hlen] at hx;omega)
def loneList (k:List UInt8) (C0:List Clus) (fs:List Nat):List (Nat × Clus):=fs.flatMap fun f=>(f :: toldBy (numsOf (cl C0 f))).map fun t=>(t,loneTab k (cl C0 t))
theorem lone_puts (k:List UInt8) (C0:List Clus) (fs:List Nat): ∀ V:VolR,V.C.length=C0.length→(∀ f ∈ fs,∀ t ∈ f :: toldBy (numsOf (cl C0 f)),t<C0.length)→(∀ t,t<V.C.length→cl V.C t=cl C0 t∨cl V.C t=loneTab k (cl C0 t))→
   loneV k V fs=puts V (loneList k C0 fs):=by
 induction fs with
 | nil=>intro V _ _ _;rfl
 | cons f r ih=>
   intro V hl ht hC
   have hf:=ht f (by simp) f (by simp)
   have etab:tabsOf V f=f :: toldBy (numsOf (cl C0 f)):=by
     unfold tabsOf
     rcases hC f (by omega) with x | x
     · rw [x]
     · rw [x,loneTab_told]
   have e1:=renum_puts k C0 (f :: toldBy (numsOf (cl C0 f))) V (fun t h=>by rw [hl];exact ht f (by simp) t h) hC
   rw [loneV_cons,etab,e1]
   have e2:loneList k C0 (f :: r)=((f :: toldBy (numsOf (cl C0 f))).map fun t=>(t,loneTab k (cl C0 t)))++loneList k C0 r:=by unfold loneList;rw [List.flatMap_cons]
   rw [e2,puts_append]
   have hlen:(puts V ((f :: toldBy (numsOf (cl C0 f))).map fun t=>(t,loneTab k (cl C0 t)))).C.length=C0.length:=by
     rw [puts_C]
     have:=putsC_length ((f :: toldBy (numsOf (cl C0 f))).map fun t=>(t,loneTab k (cl C0 t))) V.C C0.length (by omega) (fun x hx=>by
       obtain ⟨t,h1,rfl⟩:=List.mem_map.1 hx
       exact ht f (by simp) t h1)
     omega
   refine ih _ hlen (fun g hg=>ht g (by simp [hg])) (fun t hT=> ?_)
   rw [hlen] at hT
   rw [puts_C]
   have hv:=vw_puts t ((f :: toldBy (numsOf (cl C0 f))).map fun t=>(t,loneTab k (cl C0 t))) V.C
   have hlen2:=hlen
   rw [puts_C] at hlen2
   rw [vw_at (by omega),vw_at (by omega)] at hv
   rcases hv with x | ⟨x,hx,h1,h2⟩
   · rw [x];exact hC t (by omega)
   · obtain ⟨u,_,rfl⟩:=List.mem_map.1 hx
     simp only at h1 h2
     rw [h1] at h2
     exact Or.inr h2
end
section
variable {V:VolR} {T N0:Nat} {E:List EntR} {D:DiskR}
theorem Ok.padV (_h:Ok V.C T N0 E D) (hT:V.C.length=T):padTo V.C T=V.C:=padTo_self hT
theorem mem_toldBy {c:Clus} {t:Nat} (h:t ∈ toldBy (numsOf c)): ∃ i,i<32∧num c (2*i)≠0∧num c (2*i)%32768=t:=by
 unfold toldBy at h
 obtain ⟨n,hn,rfl⟩:=List.mem_map.1 h
 obtain ⟨h1,h2⟩:=List.mem_filter.1 hn
 obtain ⟨i,hi,rfl⟩:=List.mem_iff_getElem.1 h1
 rw [numsOf_length] at hi
 have e:(numsOf c)[i]'(by rw [numsOf_length];exact hi)=num c (2*i):=by simp [numsOf]
 rw [e] at h2 ⊢
 exact ⟨i,hi,by simpa using h2,rfl⟩
theorem toldBy_mem {c:Clus} {i:Nat} (hi:i<32) (h0:num c (2*i)≠0):num c (2*i)%32768 ∈ toldBy (numsOf c):=by
 unfold toldBy
 refine List.mem_map.2 ⟨num c (2*i),List.mem_filter.2 ⟨?_,by simpa using h0⟩,rfl⟩
 unfold numsOf
 exact List.mem_map.2 ⟨i,List.mem_range.2 hi,rfl⟩
theorem tabs_kind {L:List Clus} {rs:List RootR} (h:SoundL L rs) {f t:Nat} (hf:f ∈ rs.map (·.N)) (ht:t ∈ f :: toldBy (numsOf (cl L f))):IsFst rs t∨IsSec L rs t:=by
 obtain ⟨r,hr,rfl⟩:=List.mem_map.1 hf
 rcases List.mem_cons.1 ht with e | e
 · exact Or.inl ⟨r,hr,e.symm⟩
 · obtain ⟨i,hi,h0,e2⟩:=mem_toldBy e
   by_cases h2:i<2
   · exact Or.inr ⟨r,hr,i,h2,h0,e2⟩
   · exact absurd (h.zero r hr i (by omega) hi) h0
theorem kind_tabs {L:List Clus} {rs:List RootR} {t:Nat} (h:IsFst rs t∨IsSec L rs t): ∃ f ∈ rs.map (·.N),t ∈ f :: toldBy (numsOf (cl L f)):=by
 rcases h with ⟨r,hr,e⟩ | ⟨r,hr,j,hj,h0,e⟩
 · exact ⟨r.N,List.mem_map.2 ⟨r,hr,rfl⟩,by rw [e];simp⟩
 · exact ⟨r.N,List.mem_map.2 ⟨r,hr,rfl⟩,List.mem_cons.2 (Or.inr (by rw [← e];exact toldBy_mem (by omega) h0))⟩
theorem SoundL.tab_lt {L:List Clus} {rs:List RootR} (h:SoundL L rs) {t:Nat} (ht:IsFst rs t∨IsSec L rs t):6≤t∧t<L.length:=by
 rcases ht with ⟨r,hr,rfl⟩ | hs
 · exact h.fst r hr
 · exact h.sec t hs
theorem SoundL.num_in {L:List Clus} {rs:List RootR} (h:SoundL L rs) {t:Nat} (ht:IsFst rs t∨IsSec L rs t) (q:Nat) (hq:q<32) (h0:nm L t q≠0):6≤nm L t q%32768∧nm L t q%32768<L.length:=by
 rcases ht with ⟨r,hr,rfl⟩ | hs
 · by_cases h2:q<2
   · exact h.sec _ ⟨r,hr,q,h2,h0,rfl⟩
   · exact absurd (h.zero r hr q (by omega) hq) h0
 · exact h.blk _ ⟨t,hs,q,hq,h0,rfl⟩
theorem SoundL.marked1 {L:List Clus} {rs:List RootR} (h:SoundL L rs) {t:Nat} (ht:IsFst rs t∨IsSec L rs t) (q:Nat) (hq:q<32) (hm:32768≤nm L t q):countOf L (nm L t q%32768)=1:=by
 rcases ht with ⟨r,hr,rfl⟩ | hs
 · by_cases h2:q<2
   · exact h.mark1 r hr q h2 hm
   · have:=h.zero r hr q (by omega) hq;omega
 · exact h.mark2 t hs q hq hm
theorem SoundL.used1 {L:List Clus} {rs:List RootR} (h:SoundL L rs) {t:Nat} (ht:IsFst rs t∨IsSec L rs t) (q:Nat) (hq:q<32) (h0:nm L t q≠0):1≤useOf L rs (nm L t q%32768):=by
 rcases ht with ⟨r,hr,rfl⟩ | hs
 · by_cases h2:q<2
   · exact use_sec ⟨r,hr,q,h2,h0,rfl⟩
   · exact absurd (h.zero r hr q (by omega) hq) h0
 · exact use_blk ⟨t,hs,q,hq,h0,rfl⟩
theorem SoundL.tabOK {V:VolR} {rs:List RootR} (h:SoundL V.C rs) {t:Nat} (ht:IsFst rs t∨IsSec V.C rs t):TabOK V t:=by
 refine ⟨h.tab_lt ht,fun i=>⟨numsOf_lt _ _,fun h0=> ?_⟩⟩
 by_cases hi:i<32
 · rw [numsOf_get _ _ hi] at h0 ⊢
   exact h.num_in ht i hi h0
 · rw [List.getD_eq_getElem?_getD,List.getElem?_eq_none (by rw [numsOf_length];omega)] at h0
   exact absurd rfl h0
theorem SoundL.firstOK {V:VolR} {rs:List RootR} (h:SoundL V.C rs) {f:Nat} (hf:f ∈ rs.map (·.N)):FirstOK V f:=by
 obtain ⟨r,hr,rfl⟩:=List.mem_map.1 hf
 refine ⟨h.tabOK (Or.inl ⟨r,hr,rfl⟩),fun i=>⟨numsOf_lt _ _,fun h0=> ?_⟩⟩
 by_cases hi:i<32
 · rw [numsOf_get _ _ hi] at h0 ⊢
   by_cases h2:i<2
   · exact h.tabOK (Or.inr ⟨r,hr,i,h2,h0,rfl⟩)
   · exact absurd (h.zero r hr i (by omega) hi) h0
 · rw [List.getD_eq_getElem?_getD,List.getElem?_eq_none (by rw [numsOf_length];omega)] at h0
   exact absurd rfl h0
theorem Ok.firsts (h:Ok V.C T N0 E D):firstsOf V=(rsOf N0 E).map (·.N):=by
 unfold firstsOf
 rw [h.file.num6,h.file.ents.picFirsts h.file.list]
 simp [rsOf,rootE]
structure Lets (V:VolR) (N0:Nat) (E:List EntR) (us:List Nat):Prop where
 lt: ∀ u ∈ us,u<256
 cnt: ∀ m,m<256→base6 m+useOf V.C (rsOf N0 E) m+us.count m≤countOf V.C m
section
variable {us:List Nat}
theorem Ok.cnts (h:Ok V.C T N0 E D) (hT:V.C.length=T):(cntsOf V.C).length=256∧ ∀ n,n<256→byteAt (cntsOf V.C) n=countOf V.C n:=by
 have h7:=h.file.seven
 exact ⟨cntsOf_length _ h.file.lens (by omega),fun n hn=>byteAt_cnts h.file.lens (by omega) n hn⟩
theorem Lets.get (hl:Lets V N0 E us) (h:Ok V.C T N0 E D) (hT:V.C.length=T) (m:Nat) (hm:m<256):byteAt (minus (cntsOf V.C) us) m+us.count m=countOf V.C m:=by
 obtain ⟨h1,h2⟩:=h.cnts hT
 rw [minus_get us (cntsOf V.C) m (fun u hu=>by rw [h1];exact hl.lt u hu) (fun u=> ?_),h2 m hm]
 by_cases hu:u<256
 · rw [h2 u hu];have:=hl.cnt u hu;omega
 · rw [List.count_eq_zero.2 (fun x=>hu (hl.lt u x))];exact Nat.zero_le _
theorem Ok.letCounts (h:Ok V.C T N0 E D) (hT:V.C.length=T) (hl:Lets V N0 E us) (ps:List (Nat × Clus)) (hp: ∀ x ∈ ps,x ∈ cntPuts (minus (cntsOf V.C) us)):Ok (putsC V.C ps) T N0 E D:=by
 have hpad:=h.padV hT
 have hsnd:=h.sound
 rw [hpad] at hsnd
 have hmost:=h.file.most
 obtain ⟨h1,h2⟩:=h.cnts hT
 have key: ∀ t,(IsFst (rsOf N0 E) t∨IsSec V.C (rsOf N0 E) t)→ ∀ q,q<32→32768≤nm V.C t q→byteAt (minus (cntsOf V.C) us) (nm V.C t q%32768)=1:=by
   intro t ht q hq hm
   have a1:=hsnd.marked1 ht q hq hm
   have a2:=hsnd.used1 ht q hq (by omega)
   have a3:=hsnd.num_in ht q hq (by omega)
   have a4:=hl.cnt (nm V.C t q%32768) (by omega)
   have a5:=hl.get h hT (nm V.C t q%32768) (by omega)
   omega
 refine h.counts (minus (cntsOf V.C) us) (by rw [minus_length];exact h1) (fun _=>False) (fun n hn=>hn.elim) (fun n hn=> ?_) (fun n hn=> ?_) (fun n hn hTn=> ?_) (fun r hr j hj hm=> ?_) (fun s hs q hq hm=> ?_) ps (fun x hx=>Or.inl (cntPuts_mem (hp x hx)))
 · rw [hpad]
   have:=hl.get h hT n hn
   have:=hl.cnt n hn
   omega
 · have:=hl.get h hT n hn
   have:=hsnd.top n hn
   omega
 · have:=hl.get h hT n hn
   have:=hsnd.none n hn (by omega)
   omega
 · rw [hpad] at hm ⊢
   exact key r.N (Or.inl ⟨r,hr,rfl⟩) j (by omega) hm
 · rw [hpad] at hs hm ⊢
   exact key s (Or.inr hs) q hq hm
theorem letGoV1_epoch (V:VolR) (us:List Nat):letGoV1 V us=epoch V (cntPuts (minus (cntsOf V.C) us)):=rfl
theorem Ok.lenPuts (h:Ok V.C T N0 E D) (hT:V.C.length=T) (ps:List (Nat × Clus)) (hp: ∀ x ∈ ps,x.1<T):(epoch V ps).C.length=T:=by
 rw [epoch_C]
 have:=putsC_length ps V.C T h.file.le hp
 omega
theorem Ok.letGo1 (h:Ok V.C T N0 E D) (hT:V.C.length=T) (hl:Lets V N0 E us):Ok (letGoV1 V us).C T N0 E D∧(letGoV1 V us).C.length=T∧(∀ m,m<256→countOf (letGoV1 V us).C m+us.count m=countOf V.C m)∧(∀ t,5≤t→cl (letGoV1 V us).C t=cl V.C t):=by
 have h7:=h.file.seven
 have hlen:=h.lenPuts hT (cntPuts (minus (cntsOf V.C) us)) (fun x hx=>by obtain ⟨p,hp,rfl⟩:=cntPuts_mem hx;simp only;omega)
 rw [letGoV1_epoch]
 refine ⟨by rw [epoch_C];exact h.letCounts hT hl _ (fun x hx=>hx),hlen,fun m hm=> ?_,fun t ht=> ?_⟩
 · have e:countOf (epoch V (cntPuts (minus (cntsOf V.C) us))).C m=byteAt (minus (cntsOf V.C) us) m:=by
     unfold countOf
     rw [← vw_at (by rw [hlen];omega),epoch_C]
     have:=vw_cntPuts V.C (minus (cntsOf V.C) us) m hm [] (fun x hx=>by cases hx)
     rw [List.append_nil] at this
     exact this
   rw [e];exact hl.get h hT m hm
 · by_cases htl:t<T
   · rw [← vw_at (by rw [hlen];exact htl),← vw_at (by omega),epoch_C]
     exact vw_puts_none t _ _ (fun x hx=>by obtain ⟨p,hp,rfl⟩:=cntPuts_mem hx;simp only;omega)
   · rw [cl_past (by omega),cl_past (by omega)]
theorem Ok.loneOK (h:Ok V.C T N0 E D) (hT:V.C.length=T): ∀ x ∈ loneList (cntsOf V.C) V.C (firstsOf V),(IsFst (rsOf N0 E) x.1∨IsSec V.C (rsOf N0 E) x.1)∧x.2=loneTab (cntsOf V.C) (cl V.C x.1):=by
 have hsnd:=h.sound
 rw [h.padV hT] at hsnd
 intro x hx
 unfold loneList at hx
 obtain ⟨f,hf,hx⟩:=List.mem_flatMap.1 hx
 obtain ⟨t,ht,rfl⟩:=List.mem_map.1 hx
 rw [h.firsts] at hf
 exact ⟨tabs_kind hsnd hf ht,by dsimp only⟩
theorem Ok.markOK (h:Ok V.C T N0 E D) (hT:V.C.length=T) (ps:List (Nat × Clus)) (hp: ∀ x ∈ ps,x ∈ loneList (cntsOf V.C) V.C (firstsOf V)):Ok (putsC V.C ps) T N0 E D:=by
 have hpad:=h.padV hT
 have hsnd:=h.sound
 rw [hpad] at hsnd
 have hmost:=h.file.most
 obtain ⟨h1,h2⟩:=h.cnts hT
 refine h.marks ps fun x hx=> ?_
 obtain ⟨hk,e⟩:=h.loneOK hT x (hp x hx)
 rw [hpad,e]
 refine ⟨hk,loneTab_length _ _,fun q hq=>loneTab_same _ _ q hq,fun q hq hm=> ?_⟩
 rw [lone_num _ _ q hq] at hm
 split at hm
 · omega
 · rename_i h0
   have hin:=hsnd.num_in hk q hq h0
   unfold loneOf at hm
   split at hm
   · rename_i hc
     rw [h2 _ (by unfold nm at hin;omega)] at hc
     exact hc
   · exact hsnd.marked1 hk q hq hm
theorem Ok.markLone (h:Ok V.C T N0 E D) (hT:V.C.length=T):markLoneV V=puts V (loneList (cntsOf V.C) V.C (firstsOf V)):=by
 have hsnd:=h.sound
 rw [h.padV hT] at hsnd
 unfold markLoneV
 refine lone_puts _ _ _ V rfl (fun f hf t ht=> ?_) (fun t _=>Or.inl rfl)
 rw [h.firsts] at hf
 exact (hsnd.tab_lt (tabs_kind hsnd hf ht)).2
theorem Ok.marked (h:Ok V.C T N0 E D) (hT:V.C.length=T):Ok (markLoneV V).C T N0 E D∧(markLoneV V).C.length=T∧(∀ m,m<256→countOf (markLoneV V).C m=countOf V.C m)∧
   (∀ t,(IsFst (rsOf N0 E) t∨IsSec V.C (rsOf N0 E) t)→ ∀ q,q<32→nm (markLoneV V).C t q=if nm V.C t q=0 then 0 else loneOf (cntsOf V.C) (nm V.C t q)):=by
 have hsnd:=h.sound
 rw [h.padV hT] at hsnd
 have h7:=h.file.seven
 have hlo: ∀ x ∈ loneList (cntsOf V.C) V.C (firstsOf V),6≤x.1∧x.1<T:=fun x hx=>by
   have:=hsnd.tab_lt (h.loneOK hT x hx).1
   omega
 have hlen:(markLoneV V).C.length=T:=by
   rw [h.markLone hT,puts_C]
   have:=putsC_length (loneList (cntsOf V.C) V.C (firstsOf V)) V.C T h.file.le (fun x hx=>(hlo x hx).2)
   omega
 refine ⟨by rw [h.markLone hT,puts_C];exact h.markOK hT _ (fun x hx=>hx),hlen,fun m hm=> ?_,fun t ht q hq=> ?_⟩
 · unfold countOf
   rw [← vw_at (by rw [hlen];omega),← vw_at (by omega),h.markLone hT,puts_C,vw_puts_none _ _ _ (fun x hx=>by have:=hlo x hx;omega)]
 · have htl:=hsnd.tab_lt ht
   have hin: ∃ x ∈ loneList (cntsOf V.C) V.C (firstsOf V),x.1=t:=by
     obtain ⟨f,hf,hx⟩:=kind_tabs ht
     rw [← h.firsts] at hf
     exact ⟨(t,loneTab (cntsOf V.C) (cl V.C t)),List.mem_flatMap.2 ⟨f,hf,List.mem_map.2 ⟨t,hx,rfl⟩⟩,rfl⟩
   unfold nm
   rw [← vw_at (by rw [hlen];omega),h.markLone hT,puts_C,vw_puts_new (fun t=>loneTab (cntsOf V.C) (cl V.C t)) t _ _ (fun x hx=>(h.loneOK hT x hx).2) hin]
   exact lone_num _ _ q hq
theorem Ok.letGo (h:Ok V.C T N0 E D) (hT:V.C.length=T) (hl:Lets V N0 E us):Ok (letGoV V us).C T N0 E D∧(letGoV V us).C.length=T∧(letGoV V us).loose=false∧
   ((∀ m,m<256→countOf V.C m=base6 m+useOf V.C (rsOf N0 E) m+us.count m)→ExactS (letGoV V us).C (rsOf N0 E)):=by
 obtain ⟨a1,a2,a3,a4⟩:=h.letGo1 hT hl
 obtain ⟨b1,b2,b3,b4⟩:=a1.marked a2
 have eC:(letGoV V us).C=(markLoneV (letGoV1 V us)).C:=by unfold letGoV;rw [flushV_C]
 rw [eC]
 refine ⟨b1,b2,flushV_loose _,fun hx=> ?_⟩
 have s0:=h.sound
 rw [h.padV hT] at s0
 have s1:=a1.sound
 rw [a1.padV a2] at s1
 have s2:=b1.sound
 rw [padTo_self b2] at s2
 have hmost:=h.file.most
 obtain ⟨c1,c2⟩:=a1.cnts a2
 have sh1:Shape V.C (letGoV1 V us).C (rsOf N0 E):=Shape.of_same (fun r hr=>a4 _ (by have:=s0.fst r hr;omega)) (fun s hs=>a4 _ (by have:=s0.sec s hs;omega))
 have sh2:Shape (letGoV1 V us).C (markLoneV (letGoV1 V us)).C (rsOf N0 E):=by
   have key: ∀ t,(IsFst (rsOf N0 E) t∨IsSec (letGoV1 V us).C (rsOf N0 E) t)→ ∀ q,q<32→SameN (nm (markLoneV (letGoV1 V us)).C t q) (nm (letGoV1 V us).C t q):=by
     intro t ht q hq
     rw [b4 t ht q hq]
     by_cases e:nm (letGoV1 V us).C t q=0
     · rw [if_pos e,e];exact SameN.refl _
     · rw [if_neg e]
       exact ⟨⟨fun x=>absurd x (loneOf_zero _ _ e),fun x=>absurd x e⟩,loneOf_mod _ _⟩
   exact ⟨fun r hr j hj=>key r.N (Or.inl ⟨r,hr,rfl⟩) j hj,fun s hs q hq=>key s (Or.inr hs) q hq⟩
 have key: ∀ t,(IsFst (rsOf N0 E) t∨IsSec (letGoV1 V us).C (rsOf N0 E) t)→ ∀ q,q<32→nm (markLoneV (letGoV1 V us)).C t q≠0→countOf (markLoneV (letGoV1 V us)).C (nm (markLoneV (letGoV1 V us)).C t q%32768)=1→32768≤nm (markLoneV (letGoV1 V us)).C t q:=by
   intro t ht q hq h0 h1
   rw [b4 t ht q hq] at h0 h1 ⊢
   by_cases e:nm (letGoV1 V us).C t q=0
   · rw [if_pos e] at h0;exact absurd rfl h0
   · rw [if_neg e] at h1 ⊢
     have hin:=s1.num_in ht q hq e
     rw [loneOf_mod,b3 _ (by omega),← c2 _ (by omega)] at h1
     unfold loneOf
     rw [if_pos h1]
     omega
 refine ⟨fun n hn=> ?_,fun r hr j hj h0 h1=>key r.N (Or.inl ⟨r,hr,rfl⟩) j (by omega) h0 h1,fun s hs q hq h0 h1=>key s (Or.inr ((sh2.isSec s).1 hs)) q hq h0 h1⟩
 rw [b3 n hn,sh2.use,sh1.use]
 have:=a3 n hn
 have:=hx n hn
 omega
end
end
section
variable {base:List Clus} {V:VolR} {T N0:Nat} {E:List EntR} {D:DiskR}
theorem countOf_padC {C:List Clus} (h5:5≤C.length) (T n:Nat) (hT:5≤T) (hn:n<256):countOf (padTo C T) n=countOf C n:=by
 rw [countOf_pad _ _ _ hT hn]
 unfold countOf
 rw [vw_at (by omega)]
theorem Vol.ok (h:Vol base V N0 E):Ok V.C V.C.length N0 E (dskOf V.C N0 E):=⟨h.file,by rw [padTo_same];exact h.sound,by rw [padTo_same]⟩
theorem Ok.vol (h:Ok V.C T N0 E D) (hT:V.C.length=T) (hf:V.loose=false) (hl:Logged base V):Vol base V N0 E:=by
 have hs:=h.sound
 rw [padTo_self hT] at hs
 exact ⟨by rw [hT];exact h.file,hs,hf,hl⟩
def lenTo (C:List Clus) (F:List Nat):Nat:=max C.length (lastOf F+1)
theorem Vol.longer (h:Vol base V N0 E) (F:List Nat) (hF:lastOf F<256):Ok (lengthenV V F).C (lenTo V.C F) N0 E (dskOf V.C N0 E)∧(lengthenV V F).C.length=V.C.length∧(lengthenV V F).loose=false∧(∀ t,t≠0→cl (lengthenV V F).C t=cl V.C t)∧Puts V (lengthenV V F):=by
 have h7:=h.file.seven
 have hm:=h.file.most
 refine ⟨?_,?_,?_,fun t ht=> ?_,puts_lengthen (Puts.refl V) F⟩
 · unfold lengthenV
   rw [h.file.num4,h.file.num6]
   unfold lenTo
   by_cases hc:V.C.length≤lastOf F
   · rw [if_pos hc,flushV_C,putV_C,show max V.C.length (lastOf F+1)=lastOf F+1 by omega]
     exact h.ok.longer (lastOf F+1) (by omega) (by omega)
   · rw [if_neg hc,show max V.C.length (lastOf F+1)=V.C.length by omega]
     exact h.ok
 · exact lengthenV_lenC V F (by omega)
 · unfold lengthenV
   split
   · exact flushV_loose _
   · exact h.firm
 · unfold lengthenV
   split
   · rw [flushV_C]
     by_cases htl:t<V.C.length
     · exact cl_putV_ne _ _ _ _ htl (fun e=>ht e.symm)
     · rw [cl_past (by rw [putV_lenC];omega),cl_past (by omega)]
   · rfl
theorem Ok.claim (h:Ok V.C T N0 E D) (F:List Nat) (hF: ∀ n ∈ F,n<T∧countOf V.C n=0) (ps:List (Nat × Clus)) (hp: ∀ x ∈ ps,x ∈ cntPuts (ones (cntsOf V.C) F)∨(x.1 ∈ F∧x.2.length=64)):Ok (putsC V.C ps) T N0 E D:=by
 have h6:=h.file.six
 have h7:=h.file.seven
 have hm:=h.file.most
 have hs:=h.sound
 have hc: ∀ n,n<256→countOf (padTo V.C T) n=countOf V.C n:=fun n hn=>countOf_padC (by omega) T n (by omega) hn
 have hb: ∀ n,n<256→byteAt (ones (cntsOf V.C) F) n=if n ∈ F then 1 else countOf V.C n:=fun n hn=>by
   rw [byteAt_ones n F _ (cntsOf_length _ h.file.lens (by omega)) (fun m hm'=>by have:=(hF m hm').1;omega),byteAt_cnts h.file.lens (by omega) n hn]
 have hun: ∀ n,n ∈ F→ ¬ IsFst (rsOf N0 E) n∧ ¬ IsSec (padTo V.C T) (rsOf N0 E) n∧ ¬ IsBlk (padTo V.C T) (rsOf N0 E) n:=fun n hn=>hs.untold (by have:=(hF n hn).1;omega) (by rw [hc n (by have:=(hF n hn).1;omega)];exact (hF n hn).2)
 have hsix: ∀ n,n ∈ F→6≤n:=fun n hn=>hs.free_six (by have:=(hF n hn).1;omega) (by rw [hc n (by have:=(hF n hn).1;omega)];exact (hF n hn).2)
 have key: ∀ t,(IsFst (rsOf N0 E) t∨IsSec (padTo V.C T) (rsOf N0 E) t)→ ∀ q,q<32→32768≤nm (padTo V.C T) t q→byteAt (ones (cntsOf V.C) F) (nm (padTo V.C T) t q%32768)=1:=by
   intro t ht q hq hmk
   have hin:=hs.num_in ht q hq (by omega)
   rw [padTo_length] at hin
   have h1:=hs.marked1 ht q hq hmk
   rw [hc _ (by omega)] at h1
   rw [hb _ (by omega)]
   split
   · rfl
   · exact h1
 refine h.counts (ones (cntsOf V.C) F) (by rw [ones_length];exact cntsOf_length _ h.file.lens (by omega)) (fun n=>n ∈ F) (fun n hn=>⟨(hF n hn).1,hsix n hn,hun n hn⟩) (fun n hn=> ?_) (fun n hn=> ?_) (fun n hn hTn=> ?_) (fun r hr j hj hmk=>key r.N (Or.inl ⟨r,hr,rfl⟩) j (by omega) hmk) (fun s hs' q hq hmk=>key s (Or.inr hs') q hq hmk) ps (fun x hx=> ?_)
 · rw [hb n hn]
   split
   · rename_i hnF
     rw [use_none hs (hun n hnF),base6_eq,if_neg (by have:=hsix n hnF;omega)]
     omega
   · rw [← hc n hn];exact hs.cnt n hn
 · rw [hb n hn]
   split
   · omega
   · rw [← hc n hn];exact hs.top n hn
 · rw [hb n hn,if_neg (fun hnF=>by have:=(hF n hnF).1;omega),← hc n hn]
   exact hs.none n hn (by rw [padTo_length];exact hTn)
 · rcases hp x hx with y | y
   · exact Or.inl (cntPuts_mem y)
   · exact Or.inr y
theorem Ok.claimed (h:Ok V.C T N0 E D) (F:List Nat) (hF: ∀ n ∈ F,n<T∧countOf V.C n=0) (qs:List (Nat × Clus)) (hq: ∀ x ∈ qs,x.1 ∈ F∧x.2.length=64) (hend:V.C.length=T∨ ∃ x ∈ qs,x.1+1=T):
   Ok (epoch V (cntPuts (ones (cntsOf V.C) F)++qs)).C T N0 E D∧(epoch V (cntPuts (ones (cntsOf V.C) F)++qs)).C.length=T∧
     (∀ m,m<256→countOf (epoch V (cntPuts (ones (cntsOf V.C) F)++qs)).C m=if m ∈ F then 1 else countOf V.C m)∧
     (∀ t,5≤t→t<V.C.length→(∀ x ∈ qs,x.1≠t)→cl (epoch V (cntPuts (ones (cntsOf V.C) F)++qs)).C t=cl V.C t)∧
     (∀ t,5≤t→t<T→(∀ x ∈ qs,x.1≠t)→cl (epoch V (cntPuts (ones (cntsOf V.C) F)++qs)).C t=vw V.C t)∧
     Shape (padTo V.C T) (epoch V (cntPuts (ones (cntsOf V.C) F)++qs)).C (rsOf N0 E):=by
 have h6:=h.file.six
 have h7:=h.file.seven
 have hm:=h.file.most
 have hs:=h.sound
 have hc: ∀ n,n<256→countOf (padTo V.C T) n=countOf V.C n:=fun n hn=>countOf_padC (by omega) T n (by omega) hn
 have hsix: ∀ n,n ∈ F→6≤n:=fun n hn=>hs.free_six (by have:=(hF n hn).1;omega) (by rw [hc n (by have:=(hF n hn).1;omega)];exact (hF n hn).2)
 have hun: ∀ n,n ∈ F→ ¬ IsFst (rsOf N0 E) n∧ ¬ IsSec (padTo V.C T) (rsOf N0 E) n∧ ¬ IsBlk (padTo V.C T) (rsOf N0 E) n:=fun n hn=>hs.untold (by have:=(hF n hn).1;omega) (by rw [hc n (by have:=(hF n hn).1;omega)];exact (hF n hn).2)
 have hok:Ok (epoch V (cntPuts (ones (cntsOf V.C) F)++qs)).C T N0 E D:=by
   rw [epoch_C]
   refine h.claim F hF _ fun x hx=> ?_
   rcases List.mem_append.1 hx with y | y
   · exact Or.inl y
   · exact Or.inr (hq x y)
 have hlt: ∀ x ∈ cntPuts (ones (cntsOf V.C) F)++qs,x.1<T:=fun x hx=>by
   rcases List.mem_append.1 hx with y | y
   · obtain ⟨p,hp,rfl⟩:=cntPuts_mem y;simp only;omega
   · exact (hF _ (hq x y).1).1
 have hlen:(epoch V (cntPuts (ones (cntsOf V.C) F)++qs)).C.length=T:=by
   have hl:=putsC_length (cntPuts (ones (cntsOf V.C) F)++qs) V.C T h.file.le hlt
   rw [epoch_C]
   rcases hend with e | ⟨x,hx,e⟩
   · omega
   · have hgt:x.1<(putsC V.C (cntPuts (ones (cntsOf V.C) F)++qs)).length:=by
       have key: ∀ (ps:List (Nat × Clus)) (C:List Clus),x ∈ ps→x.1<(putsC C ps).length:=by
         intro ps
         induction ps with
         | nil=>intro C h;cases h
         | cons y r ih=>
           intro C hy
           rw [putsC_cons]
           rcases List.mem_cons.1 hy with z | z
           · subst z
             have h1:=putC_length C x
             have h2: ∀ (ps:List (Nat × Clus)) (C:List Clus),C.length≤(putsC C ps).length:=by
               intro ps
               induction ps with
               | nil=>intro C;exact Nat.le_refl _
               | cons y r ih=>
                 intro C
                 have h3:=putC_length C y
                 have:=ih (putC C y)
                 rw [putsC_cons];omega
             have:=h2 r (putC C x)
             omega
           · exact ih _ z
       exact key _ _ (List.mem_append.2 (Or.inr hx))
     omega
 have hvw: ∀ t,5≤t→t<T→(∀ x ∈ qs,x.1≠t)→cl (epoch V (cntPuts (ones (cntsOf V.C) F)++qs)).C t=vw V.C t:=fun t h5 ht hne=>by
   rw [← vw_at (by rw [hlen];exact ht),epoch_C]
   refine vw_puts_none t _ _ fun x hx=> ?_
   rcases List.mem_append.1 hx with y | y
   · obtain ⟨p,hp,rfl⟩:=cntPuts_mem y;simp only;omega
   · exact hne x y
 refine ⟨hok,hlen,fun m hm'=> ?_,fun t h5 ht hne=>by rw [hvw t h5 (by have:=h.file.le;omega) hne,vw_at ht],hvw,Shape.of_same (fun r hr=> ?_) (fun s hs'=> ?_)⟩
 · have e:countOf (epoch V (cntPuts (ones (cntsOf V.C) F)++qs)).C m=byteAt (ones (cntsOf V.C) F) m:=by
     unfold countOf
     rw [← vw_at (by rw [hlen];omega),epoch_C]
     exact vw_cntPuts V.C _ m hm' qs (fun x hx=>by have:=hsix _ (hq x hx).1;omega)
   rw [e,byteAt_ones m F _ (cntsOf_length _ h.file.lens (by omega)) (fun n hn=>by have:=(hF n hn).1;omega),byteAt_cnts h.file.lens (by omega) m hm']
 · have hb:=hs.fst r hr
   rw [padTo_length] at hb
   rw [cl_padTo _ _ _ hb.2,hvw _ (by omega) hb.2 (fun x hx e=>(hun _ (hq x hx).1).1 ⟨r,hr,e.symm⟩)]
 · have hb:=hs.sec s hs'
   rw [padTo_length] at hb
   rw [cl_padTo _ _ _ hb.2,hvw _ (by omega) hb.2 (fun x hx e=>(hun _ (hq x hx).1).2.1 (by rw [e];exact hs'))]
theorem blk_place {L:List Clus} {rs:List RootR} {n:Nat} (h1:useOf L rs n=1) {r r':RootR} {j j' k k':Nat} (hr:r ∈ rs) (hr':r' ∈ rs) (hj:j<2) (hj':j'<2) (hk:k<32) (hk':k'<32)
   (h0:nm L r.N j≠0) (h0':nm L r'.N j'≠0) (b0:nm L (nm L r.N j%32768) k≠0) (b0':nm L (nm L r'.N j'%32768) k'≠0) (e:nm L (nm L r.N j%32768) k%32768=n) (e':nm L (nm L r'.N j'%32768) k'%32768=n):r'.N=r.N∧j'=j∧k'=k:=by
 have one: ∀ (x:RootR) (q c:Nat),c<32→nm L x.N q≠0→nm L (nm L x.N q%32768) c≠0→nm L (nm L x.N q%32768) c%32768=n→1≤secOcc L x.N q n:=by
   intro x q c hc h0 b0 e
   have:=sumFrom_ge (f:=fun k=>hit (nm L (nm L x.N q%32768) k) n) (a:=c) 32 0 (by omega) (by omega)
   simp only [hit_one b0 e] at this
   unfold secOcc inOcc
   rw [if_neg h0]
   omega
 have k1:=one r j k hk h0 b0 e
 have k2:=one r' j' k' hk' h0' b0' e'
 by_cases hN:r'.N=r.N
 · rw [hN] at h0' b0' e' k2
   have ht:=useOf_tree (L:=L) hr n
   by_cases hjj:j'=j
   · refine ⟨hN,hjj,?_⟩
     rw [hjj] at b0' e'
     by_cases hkk:k'=k
     · exact hkk
     · exfalso
       have h2:=secOcc_tree L r.N j n hj
       have:2≤secOcc L r.N j n:=by
         unfold secOcc inOcc
         rw [if_neg h0]
         rcases Nat.lt_or_gt_of_ne hkk with hl | hl
         · have:=sumFrom_two (f:=fun k=>hit (nm L (nm L r.N j%32768) k) n) hl 32 0 (by omega) (by omega)
           simp only [hit_one b0 e,hit_one b0' e'] at this
           omega
         · have:=sumFrom_two (f:=fun k=>hit (nm L (nm L r.N j%32768) k) n) hl 32 0 (by omega) (by omega)
           simp only [hit_one b0 e,hit_one b0' e'] at this
           omega
       omega
   · exfalso
     unfold treeOcc at ht
     have:(j=0∧j'=1)∨(j=1∧j'=0):=by omega
     rcases this with ⟨rfl,rfl⟩ | ⟨rfl,rfl⟩ <;> omega
 · exfalso
   have:=use_roots (L:=L) hr hr' (fun x=>hN x.symm) n
   have:=secOcc_tree L r.N j n hj
   have:=secOcc_tree L r'.N j' n hj'
   omega
def setD (D:DiskR) (c:Nat) (x:Clus):DiskR:={ D with C:=D.C.set c x }
theorem rsOf_n0 {L:List Clus} (h:SoundL L (rsOf N0 E)): ∀ e ∈ E,e.first≠N0:=by
 have hn:=h.nodup
 unfold rsOf at hn
 rw [List.map_cons,List.nodup_cons] at hn
 intro e he e2
 exact hn.1 (by rw [← e2];exact List.mem_map.2 ⟨rootE e,List.mem_map.2 ⟨e,he,rfl⟩,rfl⟩)
theorem dskOf_set {L L':List Clus} {c:Nat} {x:Clus} (hs:SoundL L (rsOf N0 E)) (h: ∀ r ∈ rsOf N0 E,contentOf L' r.N=if r.N=N0 then (contentOf L r.N).set c x else contentOf L r.N):dskOf L' N0 E=setD (dskOf L N0 E) c x:=by
 unfold dskOf setD
 have h0:=h ⟨N0,0,[]⟩ (by simp [rsOf])
 simp only [if_true] at h0
 simp only
 rw [h0]
 congr 1
 refine List.map_congr_left fun e he=> ?_
 have:=h (rootE e) (rsOf_mem.2 (Or.inr ⟨e,he,rfl⟩))
 have h1:contentOf L' e.first=if e.first=N0 then (contentOf L e.first).set c x else contentOf L e.first:=this
 rw [h1,if_neg (rsOf_n0 hs e he)]
theorem numAt_eq {L L':List Clus} {t c:Nat} (h1:nm L' t (c / 32)=nm L t (c / 32)) (h2:nm L t (c / 32)≠0→nm L' (nm L t (c / 32)%32768) (c%32)=nm L (nm L t (c / 32)%32768) (c%32)):numAt L' t c=numAt L t c:=by
 unfold nm at h1 h2
 unfold numAt
 rw [h1]
 by_cases h0:num (cl L t) (2*(c / 32))=0
 · rw [if_pos h0,if_pos h0]
 · rw [if_neg h0,if_neg h0];exact h2 h0
theorem Vol.inPlace (h:Vol base V N0 E) {b:Nat} {data:Clus} (hb:b<64) (hd:data.length=64) (h3:32768≤numAt V.C N0 b):
   Ok (putsC V.C [(numAt V.C N0 b%32768,data)]) V.C.length N0 E (setD (dskOf V.C N0 E) b data)∧(ExactS V.C (rsOf N0 E)→ExactS (putsC V.C [(numAt V.C N0 b%32768,data)]) (rsOf N0 E))∧(putsC V.C [(numAt V.C N0 b%32768,data)]).length=V.C.length:=by
 have hs:=h.sound
 have hr0:(⟨N0,0,[]⟩:RootR) ∈ rsOf N0 E:=by simp [rsOf]
 obtain ⟨n0,en⟩:=numAt_ne (show numAt V.C N0 b≠0 by omega)
 have hsec:IsSec V.C (rsOf N0 E) (nm V.C N0 (b / 32)%32768):=⟨_,hr0,b / 32,by omega,n0,rfl⟩
 have en':numAt V.C N0 b=nm V.C (nm V.C N0 (b / 32)%32768) (b%32):=en
 have hblk:IsBlk V.C (rsOf N0 E) (numAt V.C N0 b%32768):=⟨_,hsec,b%32,by omega,by rw [← en'];omega,by rw [← en']⟩
 have hbl:=hs.blk _ hblk
 have hmost:=h.file.most
 have hone:countOf V.C (numAt V.C N0 b%32768)=1:=by rw [en'];exact hs.mark2 _ hsec (b%32) (by omega) (by rw [← en'];exact h3)
 have huse:useOf V.C (rsOf N0 E) (numAt V.C N0 b%32768)=1:=by
   have:=hs.cnt (numAt V.C N0 b%32768) (by omega)
   have:=use_blk hblk
   omega
 have hF:putsC V.C [(numAt V.C N0 b%32768,data)]=putC V.C (numAt V.C N0 b%32768,data):=rfl
 have hlen:(putC V.C (numAt V.C N0 b%32768,data)).length=V.C.length:=by rw [putC_length];simp only;omega
 have hcl: ∀ t,cl (putC V.C (numAt V.C N0 b%32768,data)) t=if numAt V.C N0 b%32768=t then data else cl V.C t:=fun t=>by
   by_cases ht:t<V.C.length
   · rw [← vw_at (by rw [hlen];exact ht),vw_putC,vw_at ht]
   · rw [cl_past (by omega),cl_past (by omega),if_neg (by omega)]
 have hsh:Shape V.C (putC V.C (numAt V.C N0 b%32768,data)) (rsOf N0 E):=Shape.of_same (fun r hr=>by rw [hcl,if_neg (fun e=>hs.fb _ ⟨r,hr,e.symm⟩ hblk)]) (fun s hs'=>by rw [hcl,if_neg (fun e=>hs.sb _ (by rw [e];exact hs') hblk)])
 have hnm: ∀ t,(IsFst (rsOf N0 E) t∨IsSec V.C (rsOf N0 E) t)→ ∀ q,nm (putC V.C (numAt V.C N0 b%32768,data)) t q=nm V.C t q:=fun t ht q=>by
   unfold nm
   rw [hcl,if_neg]
   intro e
   rcases ht with hf | hf
   · exact hs.fb _ hf (by rw [← e];exact hblk)
   · exact hs.sb _ hf (by rw [← e];exact hblk)
 have hcnt: ∀ m,m<256→countOf (putC V.C (numAt V.C N0 b%32768,data)) m=countOf V.C m:=fun m hm=>by
   unfold countOf
   rw [hcl,if_neg (by omega)]
 have hpad:padTo (putC V.C (numAt V.C N0 b%32768,data)) V.C.length=putC V.C (numAt V.C N0 b%32768,data):=padTo_self hlen
 have hsnd:SoundL (putC V.C (numAt V.C N0 b%32768,data)) (rsOf N0 E):=by
   refine hs.shape hsh (by omega) (by omega) (fun n hn=>by rw [hcnt n hn];exact hs.cnt n hn) (fun n hn=>by rw [hcnt n hn];exact hs.top n hn) (fun n hn hl=>by rw [hcnt n hn];exact hs.none n hn (by omega)) (fun r hr j hj hm=> ?_) (fun s hs' q hq hm=> ?_)
   · rw [hnm _ (Or.inl ⟨r,hr,rfl⟩)] at hm ⊢
     have:=hs.num_in (Or.inl ⟨r,hr,rfl⟩) j (by omega) (by omega)
     rw [hcnt _ (by omega)]
     exact hs.mark1 r hr j hj hm
   · rw [hnm _ (Or.inr hs')] at hm ⊢
     have:=hs.num_in (Or.inr hs') q hq (by omega)
     rw [hcnt _ (by omega)]
     exact hs.mark2 s hs' q hq hm
 rw [hF]
 refine ⟨⟨?_,by rw [hpad];exact hsnd,?_⟩,fun hx=> ?_,hlen⟩
 · exact h.file.puts [(numAt V.C N0 b%32768,data)] (fun x hx=>by rw [List.mem_singleton.1 hx];exact ⟨hbl.2,by simp only;omega,by simp only;omega,hd⟩)
 · rw [hpad]
   refine dskOf_set hs fun r hr=> ?_
   have hsn: ∀ c,c<64→numAt (putC V.C (numAt V.C N0 b%32768,data)) r.N c=numAt V.C r.N c:=fun c hc=>by
     exact numAt_eq (hnm r.N (Or.inl ⟨r,hr,rfl⟩) (c / 32)) (fun h0=>hnm _ (Or.inr ⟨r,hr,c / 32,by omega,h0,rfl⟩) (c%32))
   have key: ∀ c,c<64→blkOf (putC V.C (numAt V.C N0 b%32768,data)) r.N c=if r.N=N0∧c=b then data else blkOf V.C r.N c:=by
     intro c hc
     rw [blkOf_numAt,blkOf_numAt,hsn c hc]
     by_cases e0:numAt V.C r.N c=0
     · rw [if_pos e0,if_pos e0,if_neg]
       rintro ⟨e1,e2⟩
       rw [e1,e2] at e0;omega
     · rw [if_neg e0,if_neg e0,hcl]
       by_cases e1:numAt V.C N0 b%32768=numAt V.C r.N c%32768
       · obtain ⟨m0,em⟩:=numAt_ne e0
         have em':numAt V.C r.N c=nm V.C (nm V.C r.N (c / 32)%32768) (c%32):=em
         have:=blk_place huse hr0 hr (show b / 32<2 by omega) (show c / 32<2 by omega) (show b%32<32 by omega) (show c%32<32 by omega) n0 m0 (by rw [← en'];omega) (by rw [← em'];exact e0) (by rw [← en']) (by rw [← em'];exact e1.symm)
         rw [if_pos e1,if_pos ⟨this.1,by omega⟩]
       · rw [if_neg e1,if_neg]
         rintro ⟨e2,e3⟩
         rw [e2,e3] at e1;exact e1 rfl
   apply List.ext_getElem?
   intro c
   by_cases hc:c<64
   · rw [contentOf_get _ _ _ hc,key c hc]
     by_cases e:r.N=N0
     · rw [if_pos e,List.getElem?_set]
       by_cases e2:b=c
       · rw [if_pos ⟨e,e2.symm⟩,if_pos e2,if_pos (by rw [contentOf_length];exact hb)]
       · rw [if_neg (fun z=>e2 z.2.symm),if_neg e2,contentOf_get _ _ _ hc]
     · rw [if_neg e,if_neg (fun z=>e z.1),contentOf_get _ _ _ hc]
   · rw [List.getElem?_eq_none (by rw [contentOf_length];omega),List.getElem?_eq_none]
     split
     · rw [List.length_set,contentOf_length];omega
     · rw [contentOf_length];omega
 · refine ⟨fun n hn=>by rw [hcnt n hn,hsh.use];exact hx.eq n hn,fun r hr j hj h0 h1=> ?_,fun s hs' q hq h0 h1=> ?_⟩
   · rw [hnm _ (Or.inl ⟨r,hr,rfl⟩)] at h0 h1 ⊢
     have:=hs.num_in (Or.inl ⟨r,hr,rfl⟩) j (by omega) h0
     rw [hcnt _ (by omega)] at h1
     exact hx.lone1 r hr j hj h0 h1
   · have hs2:=(hsh.isSec s).1 hs'
     rw [hnm _ (Or.inr hs2)] at h0 h1 ⊢
     have:=hs.num_in (Or.inr hs2) q hq h0
     rw [hcnt _ (by omega)] at h1
     exact hx.lone2 s hs2 q hq h0 h1
end
end Go.Proofs.YtknjjjenklfeoaaGreatDoor
