import Derived.Test.YtknjjjenklfeoaaGreatDoorT21
import Derived.Test.YtknjjjenklfeoaaGreatDoorT11
set_option maxHeartbeats 8000000
set_option maxRecDepth 100000
namespace Go.Proofs.YtknjjjenklfeoaaGreatDoor
theorem numsOf_two (c:Clus):numsOf c=[num c 0,num c 2]++(List.range 30).map (fun i=>num c (2*(i+2))):=by
 apply List.ext_getElem?
 intro i
 unfold numsOf
 rw [List.getElem?_map]
 by_cases hi:i<32
 · rw [List.getElem?_range hi]
   match i,hi with
   | 0,_=>rfl
   | 1,_=>rfl
   | k+2,hk=>rw [List.getElem?_append_right (by simp),List.getElem?_map,List.getElem?_range (by simp;omega)];simp
 · rw [List.getElem?_eq_none (by simpa using hi),List.getElem?_eq_none (by simp;omega)];rfl
theorem toldBy_two (c:Clus) (h: ∀ i,1<i→i<32→num c (2*i)=0):toldBy (numsOf c)=toldBy [num c 0,num c 2]:=by
 unfold toldBy
 rw [numsOf_two,List.filter_append]
 have e2:((List.range 30).map (fun i=>num c (2*(i+2)))).filter (· != 0)=[]:=by
   rw [List.filter_eq_nil_iff]
   intro a ha
   obtain ⟨i,hi,rfl⟩:=List.mem_map.1 ha
   have:=List.mem_range.1 hi
   rw [h (i+2) (by omega) (by omega)]
   decide
 rw [e2,List.append_nil]
theorem sum_sumFrom (f:Nat→Nat): ∀ m k,((List.range m).map fun i=>f (k+i)).sum=sumFrom f m k
 | 0,_=>rfl
 | m+1,k=>by
   rw [sumFrom,List.range_succ_eq_map,List.map_cons,List.sum_cons,List.map_map,← sum_sumFrom f m (k+1)]
   congr 2
   apply List.map_congr_left
   intro i _
   simp only [Function.comp]
   congr 1
   omega
theorem count_nums (C:List Clus) (s m:Nat):(toldBy (numsOf (cl C s))).count m=inOcc C s m:=by
 rw [count_toldBy]
 unfold numsOf inOcc nm
 rw [List.map_map]
 have:=sum_sumFrom (fun k=>hit (num (cl C s) (2*k)) m) 32 0
 rw [← this]
 congr 1
theorem count_told {C:List Clus} {f:Nat} (hz: ∀ i,1<i→i<32→nm C f i=0) (m:Nat):(toldAll C f).count m=secOcc C f 0 m+secOcc C f 1 m:=by
 unfold toldAll
 rw [toldBy_two _ hz]
 have key: ∀ x:Nat,((toldBy [x]).flatMap fun s=>s :: toldBy (numsOf (cl C s))).count m=if x=0 then 0 else hit x m+inOcc C (x%32768) m:=by
   intro x
   unfold toldBy
   by_cases h:x=0
   · subst h;simp
   · have e:([x].filter (· != 0))=[x]:=by simp [h]
     rw [e,List.map_cons,List.map_nil,List.flatMap_cons,List.flatMap_nil,List.append_nil,if_neg h,List.count_cons]
     have:=count_nums C (x%32768) m
     unfold toldBy at this
     rw [this,Nat.add_comm]
     congr 1
     by_cases e2:x%32768=m
     · rw [hit_one h e2,if_pos (by simp [e2])]
     · rw [if_neg (by simp [e2])]
       unfold hit
       rw [if_neg (fun z=>e2 z.2)]
 have e:toldBy [num (cl C f) 0,num (cl C f) 2]=toldBy [num (cl C f) 0]++toldBy [num (cl C f) 2]:=by
   unfold toldBy
   rw [← List.map_append,← List.filter_append];rfl
 rw [e,List.flatMap_append,List.count_append,key,key]
 rfl
theorem count_held {C:List Clus} {f:Nat} (hz: ∀ i,1<i→i<32→nm C f i=0) (m:Nat):(heldAll C f).count m=treeOcc C f m:=by
 unfold heldAll treeOcc
 rw [List.count_cons,count_told hz,Nat.add_comm]
 congr 1
 by_cases e:f=m
 · rw [if_pos e,if_pos (by simp [e])]
 · rw [if_neg e,if_neg (by simp [e])]
theorem mem_toldAll {C:List Clus} {f c:Nat} (hz: ∀ i,1<i→i<32→nm C f i=0) (h:c ∈ toldAll C f):
   ∃ j,j<2∧nm C f j≠0∧(nm C f j%32768=c∨ ∃ k,k<32∧nm C (nm C f j%32768) k≠0∧nm C (nm C f j%32768) k%32768=c):=by
 unfold toldAll at h
 obtain ⟨s,hs,hc⟩:=List.mem_flatMap.1 h
 obtain ⟨i,hi,h0,e⟩:=mem_toldBy hs
 have hi2:i<2:=by
   by_cases h2:i<2
   · exact h2
   · exact absurd (hz i (by omega) hi) h0
 refine ⟨i,hi2,h0,?_⟩
 rcases List.mem_cons.1 hc with x | x
 · exact Or.inl (e.trans x.symm)
 · obtain ⟨k,hk,hk0,e2⟩:=mem_toldBy x
   refine Or.inr ⟨k,hk,?_,?_⟩
   · show num (cl C (num (cl C f) (2*i)%32768)) (2*k)≠0
     rw [e];exact hk0
   · show num (cl C (num (cl C f) (2*i)%32768)) (2*k)%32768=c
     rw [e];exact e2
theorem toldAll_mem1 {C:List Clus} {f j:Nat} (hj:j<2) (h0:nm C f j≠0):nm C f j%32768 ∈ toldAll C f:=
 List.mem_flatMap.2 ⟨_,toldBy_mem (by omega) h0,by simp⟩
theorem toldAll_mem2 {C:List Clus} {f j k:Nat} (hj:j<2) (h0:nm C f j≠0) (hk:k<32) (h1:nm C (nm C f j%32768) k≠0):nm C (nm C f j%32768) k%32768 ∈ toldAll C f:=
 List.mem_flatMap.2 ⟨_,toldBy_mem (by omega) h0,List.mem_cons.2 (Or.inr (toldBy_mem hk h1))⟩
def sharedOf (n:Nat):Nat:=n%32768
theorem sharedOf_marks:Marks sharedOf:=fun n _ _ _=>⟨by unfold sharedOf;omega,by unfold sharedOf;omega⟩
def bareTab (c:Clus):Clus:=bytesOf (chgT sharedOf (numsOf c))
theorem bare_num (c:Clus) (q:Nat) (hq:q<32):num (bareTab c) (2*q)=num c (2*q)%32768:=by
 have:=chg_num sharedOf c (fun q _ _=>by unfold sharedOf;omega) q hq
 unfold bareTab
 rw [this]
 by_cases h:num c (2*q)=0
 · rw [if_pos h,h]
 · rw [if_neg h];rfl
theorem bareTab_length (c:Clus):(bareTab c).length=64:=bytesOf_length _
theorem bareTab_twice (c:Clus):bareTab (bareTab c)=bareTab c:=by
 have e:chgT sharedOf (numsOf (bareTab c))=chgT sharedOf (numsOf c):=by
   apply list_ext_getD
   · rw [chgT_length,chgT_length,numsOf_length,numsOf_length]
   · intro i hi
     rw [chgT_length,numsOf_length] at hi
     rw [chgT_get,chgT_get,numsOf_get _ _ hi,numsOf_get _ _ hi,bare_num _ _ hi]
     unfold sharedOf
     by_cases h:num c (2*i)=0
     · simp [h]
     · by_cases h2:num c (2*i)%32768=0
       · simp [h2]
       · rw [if_neg h2,if_neg h];omega
 show bytesOf (chgT sharedOf (numsOf (bareTab c)))=bytesOf (chgT sharedOf (numsOf c))
 rw [e]
theorem renumTab_bare (V:VolR) (t:Nat):renumTab sharedOf V t=putV V t (bareTab (cl V.C t)):=rfl
theorem bare_puts (C0:List Clus) (ts:List Nat): ∀ V:VolR,(∀ t ∈ ts,t<V.C.length)→(∀ t,t<V.C.length→cl V.C t=cl C0 t∨cl V.C t=bareTab (cl C0 t))→
   renumV sharedOf V ts=puts V (ts.map fun t=>(t,bareTab (cl C0 t))):=by
 induction ts with
 | nil=>intro V _ _;rfl
 | cons t r ih=>
   intro V ht hC
   have htl:=ht t (by simp)
   have e:renumTab sharedOf V t=putV V t (bareTab (cl C0 t)):=by
     rw [renumTab_bare]
     rcases hC t htl with x | x
     · rw [x]
     · rw [x,bareTab_twice]
   rw [renumV_cons,e,List.map_cons,puts_cons]
   dsimp only
   have hlen:=putV_lenC V t (bareTab (cl C0 t))
   refine ih (putV V t (bareTab (cl C0 t))) (fun x hx=>by rw [hlen];have:=ht x (by simp [hx]);omega) (fun x hx=> ?_)
   by_cases ex:t=x
   · subst ex;rw [cl_putV_at];exact Or.inr rfl
   · rw [cl_putV_ne _ _ _ _ (by rw [hlen] at hx;omega) ex]
     exact hC x (by rw [hlen] at hx;omega)
def bareList (C0:List Clus) (f:Nat):List (Nat × Clus):=(f :: toldBy (numsOf (cl C0 f))).map fun t=>(t,bareTab (cl C0 t))
section
variable {L:List Clus} {rs:List RootR} {f:Nat}
theorem SoundL.noShare (h:SoundL L rs) (hf:f ∈ rs.map (·.N)) {t q:Nat} (ht:IsFst rs t∨IsSec L rs t) (hn:t ∉ f :: toldBy (numsOf (cl L f))) (hq:q<32) (h0:nm L t q≠0) (h1:countOf L (nm L t q%32768)=1):(toldAll L f).count (nm L t q%32768)=0:=by
 obtain ⟨rf,hrf,rfl⟩:=List.mem_map.1 hf
 refine List.count_eq_zero.2 fun hm=> ?_
 have hin:=h.num_in ht q hq h0
 have hlen:=h.len
 have u1:=h.used1 ht q hq h0
 have u2:=h.cnt (nm L t q%32768) (by omega)
 have hu:useOf L rs (nm L t q%32768)=1:=by omega
 obtain ⟨j',hj',hj0,hc⟩:=mem_toldAll (fun i h1 h2=>h.zero rf hrf i h1 h2) hm
 rcases ht with ⟨r,hr,rfl⟩ | ⟨r,hr,j,hj,hjj,e⟩
 · have hq2:q<2:=by
     by_cases x:q<2
     · exact x
     · exact absurd (h.zero r hr q (by omega) hq) h0
   rcases hc with e | ⟨k,hk,hk0,e⟩
   · have:=sec_place hu hr hrf hq2 hj' h0 hj0 rfl e
     exact hn (by rw [this.1];simp)
   · exact h.sb _ ⟨r,hr,q,hq2,h0,rfl⟩ ⟨_,⟨rf,hrf,j',hj',hj0,rfl⟩,k,hk,hk0,e⟩
 · have hblk:IsBlk L rs (nm L t q%32768):=⟨t,⟨r,hr,j,hj,hjj,e⟩,q,hq,h0,rfl⟩
   rcases hc with e2 | ⟨k,hk,hk0,e2⟩
   · exact h.sb _ ⟨rf,hrf,j',hj',hj0,e2⟩ hblk
   · have e3:nm L (nm L r.N j%32768) q=nm L t q:=by rw [e]
     have:=blk_place hu hr hrf hj hj' hq hk hjj hj0 (by rw [e3];exact h0) hk0 (by rw [e3]) e2
     refine hn (List.mem_cons.2 (Or.inr ?_))
     rw [← e,← this.1,← this.2.1]
     exact toldBy_mem (by omega) hj0
end
section
variable {base:List Clus} {V:VolR} {N0:Nat} {E:List EntR} {f n:Nat}
def copy1 (V:VolR) (f n:Nat):VolR:=flushV (renumV sharedOf (lengthenV V [n]) (tabsOf (lengthenV V [n]) f))
def copyCnt (C:List Clus) (f n:Nat):List UInt8:=(plus (cntsOf C) (toldAll C f)).set n 1
def copyV (V:VolR) (f n:Nat):VolR:=flushV (putV (putCnt (copy1 V f n) (copyCnt V.C f n) 4) n (cl (putCnt (copy1 V f n) (copyCnt V.C f n) 4).C f))
def ofTree (C:List Clus) (f t:Nat):Prop:=t ∈ f :: toldBy (numsOf (cl C f))
theorem SoundL.same_bare {L:List Clus} {rs:List RootR} (h:SoundL L rs) {t:Nat} (ht:IsFst rs t∨IsSec L rs t) (q:Nat) (hq:q<32):SameN (num (bareTab (cl L t)) (2*q)) (nm L t q):=by
 rw [bare_num _ _ hq]
 show SameN (nm L t q%32768) (nm L t q)
 refine ⟨⟨fun e=> ?_,fun e=> ?_⟩,by omega⟩
 · by_cases h0:nm L t q=0
   · exact h0
   · have:=h.num_in ht q hq h0;omega
 · rw [e]
theorem Vol.copyA (h:Vol base V N0 E) (hf:f ∈ (rsOf N0 E).map (·.N)) (hn:n<256):
   copy1 V f n=epoch (lengthenV V [n]) (bareList (lengthenV V [n]).C f)∧(∀ ps,(∀ x ∈ ps,x ∈ bareList (lengthenV V [n]).C f)→Ok (putsC (lengthenV V [n]).C ps) (lenTo V.C [n]) N0 E (dskOf V.C N0 E))∧
     Ok (copy1 V f n).C (lenTo V.C [n]) N0 E (dskOf V.C N0 E)∧(copy1 V f n).C.length=V.C.length∧(∀ t,t≠0→ofTree V.C f t→cl (copy1 V f n).C t=bareTab (cl V.C t))∧(∀ t,t≠0→ ¬ ofTree V.C f t→cl (copy1 V f n).C t=cl V.C t):=by
 obtain ⟨a1,a2,a3,a4,a5⟩:=h.longer [n] (by rw [lastOf_one];exact hn)
 have hlen:=h.sound.len
 have htab: ∀ t,ofTree V.C f t→IsFst (rsOf N0 E) t∨IsSec V.C (rsOf N0 E) t:=fun t ht=>tabs_kind h.sound hf ht
 have hlt: ∀ t,ofTree V.C f t→6≤t∧t<V.C.length:=fun t ht=>h.sound.tab_lt (htab t ht)
 have hf6:=hlt f (by unfold ofTree;simp)
 have ef:cl (lengthenV V [n]).C f=cl V.C f:=a4 f (by omega)
 have e:copy1 V f n=epoch (lengthenV V [n]) (bareList (lengthenV V [n]).C f):=by
   unfold copy1 epoch bareList tabsOf
   rw [bare_puts (lengthenV V [n]).C _ (lengthenV V [n]) (fun t ht=> ?_) (fun t _=>Or.inl rfl)]
   rw [ef] at ht
   rw [a2];exact (hlt t ht).2
 have hmem: ∀ x ∈ bareList (lengthenV V [n]).C f,ofTree V.C f x.1∧x.2=bareTab (cl V.C x.1):=by
   intro x hx
   unfold bareList at hx
   rw [ef] at hx
   obtain ⟨t,ht,rfl⟩:=List.mem_map.1 hx
   exact ⟨ht,by rw [a4 t (by have:=hlt t ht;omega)]⟩
 have hpad: ∀ t q,t≠0→t<V.C.length→nm (padTo (lengthenV V [n]).C (lenTo V.C [n])) t q=nm V.C t q:=by
   intro t q h0 ht
   rw [nm_pad _ _ _ _ (by unfold lenTo;omega),vw_at (by rw [a2];exact ht),a4 t h0]
 have hok: ∀ ps,(∀ x ∈ ps,x ∈ bareList (lengthenV V [n]).C f)→Ok (putsC (lengthenV V [n]).C ps) (lenTo V.C [n]) N0 E (dskOf V.C N0 E):=by
   intro ps hps
   refine a1.marks ps fun x hx=> ?_
   obtain ⟨b1,b2⟩:=hmem x (hps x hx)
   have b3:=hlt x.1 b1
   have hsec: ∀ s,IsSec V.C (rsOf N0 E) s→IsSec (padTo (lengthenV V [n]).C (lenTo V.C [n])) (rsOf N0 E) s:=by
     rintro s ⟨r,hr,j,hj,h0,e⟩
     have:=h.sound.fst r hr
     exact ⟨r,hr,j,hj,by rw [hpad _ _ (by omega) this.2];exact h0,by rw [hpad _ _ (by omega) this.2];exact e⟩
   refine ⟨?_,by rw [b2];exact bareTab_length _,fun q hq=> ?_,fun q hq hm=> ?_⟩
   · rcases htab _ b1 with y | y
     · exact Or.inl y
     · exact Or.inr (hsec _ y)
   · rw [hpad _ _ (by omega) b3.2,b2]
     exact h.sound.same_bare (htab _ b1) q hq
   · rw [b2,bare_num _ _ hq] at hm
     omega
 have hC:(copy1 V f n).C=putsC (lengthenV V [n]).C (bareList (lengthenV V [n]).C f):=by rw [e,epoch_C]
 have hl2:(copy1 V f n).C.length=V.C.length:=by
   rw [hC]
   have:=putsC_length (bareList (lengthenV V [n]).C f) (lengthenV V [n]).C V.C.length (by omega) (fun x hx=>(hlt _ (hmem x hx).1).2)
   omega
 refine ⟨e,hok,by rw [hC];exact hok _ (fun x hx=>hx),hl2,fun t h0 ht=> ?_,fun t h0 ht=> ?_⟩
 · have:=hlt t ht
   rw [← vw_at (by rw [hl2];exact this.2),hC]
   exact vw_puts_new (fun t=>bareTab (cl V.C t)) t _ _ (fun x hx=>(hmem x hx).2) ⟨(t,bareTab (cl (lengthenV V [n]).C t)),by
     unfold bareList
     rw [ef]
     exact List.mem_map.2 ⟨t,ht,rfl⟩,rfl⟩
 · by_cases hl:t<V.C.length
   · rw [← vw_at (by rw [hl2];exact hl),hC,vw_puts_none t _ _ (fun x hx z=>ht (by rw [← z];exact (hmem x hx).1)),vw_at (by rw [a2];exact hl),a4 t h0]
   · rw [cl_past (by omega),cl_past (by omega)]
theorem Vol.copy_cnt (h:Vol base V N0 E) (hf:f ∈ (rsOf N0 E).map (·.N)) (hn:n<256) (hfit:fitsB (cntsOf V.C) (toldAll V.C f)=true):(copyCnt V.C f n).length=256∧(∀ m,m<256→byteAt (copyCnt V.C f n) m=if n=m then 1 else countOf V.C m+(toldAll V.C f).count m)∧(∀ u ∈ toldAll V.C f,6≤u∧u<V.C.length):=by
 obtain ⟨k1,k2⟩:=h.ok.cnts rfl
 obtain ⟨r,hr,rfl⟩:=List.mem_map.1 hf
 have hlen:=h.sound.len
 have hu: ∀ u ∈ toldAll V.C r.N,6≤u∧u<V.C.length:=fun u hu=>by
   obtain ⟨j,hj,h0,x | ⟨k,hk,hk0,x⟩⟩:=mem_toldAll (fun i h1 h2=>h.sound.zero r hr i h1 h2) hu
   · exact h.sound.sec _ ⟨r,hr,j,hj,h0,x⟩
   · exact h.sound.blk _ ⟨_,⟨r,hr,j,hj,h0,rfl⟩,k,hk,hk0,x⟩
 refine ⟨by unfold copyCnt;rw [List.length_set,plus_length,k1],fun m hm=> ?_,hu⟩
 unfold copyCnt
 rw [byteAt_set _ _ _ _ (by rw [plus_length,k1];exact hn),plus_get _ _ _ (fun u h=>by rw [k1];have:=hu u h;omega) hfit,k2 m hm]
 rfl
theorem Vol.copied (h:Vol base V N0 E) (hf:f ∈ (rsOf N0 E).map (·.N)) (hn:n<256) (h0:countOf V.C n=0) (hfit:fitsB (cntsOf V.C) (toldAll V.C f)=true):
   copyV V f n=epoch (copy1 V f n) (cntPuts (copyCnt V.C f n)++[(n,cl (copy1 V f n).C f)])∧
     (∀ ps,(∀ x ∈ ps,x ∈ cntPuts (copyCnt V.C f n)++[(n,cl (copy1 V f n).C f)])→Ok (putsC (copy1 V f n).C ps) (lenTo V.C [n]) N0 E (dskOf V.C N0 E))∧
     Ok (copyV V f n).C (lenTo V.C [n]) N0 E (dskOf V.C N0 E)∧(copyV V f n).C.length=lenTo V.C [n]∧
     (∀ m,m<256→countOf (copyV V f n).C m=if n=m then 1 else countOf V.C m+(toldAll V.C f).count m)∧cl (copyV V f n).C n=bareTab (cl V.C f)∧
     (∀ t,5≤t→t<V.C.length→t≠n→ofTree V.C f t→cl (copyV V f n).C t=bareTab (cl V.C t))∧(∀ t,5≤t→t<V.C.length→t≠n→ ¬ ofTree V.C f t→cl (copyV V f n).C t=cl V.C t)∧Shape V.C (copyV V f n).C (rsOf N0 E):=by
 obtain ⟨a0,a1,a2,a3,a4,a5⟩:=h.copyA hf hn
 obtain ⟨k1,k2,k3⟩:=h.copy_cnt hf hn hfit
 have hT:lenTo V.C [n]=max V.C.length (n+1):=rfl
 have h6:=h.sound.free_six hn h0
 have h7:=h.file.seven
 have hlen:=h.sound.len
 have hun:=h.sound.untold hn h0
 have htab: ∀ t,ofTree V.C f t→IsFst (rsOf N0 E) t∨IsSec V.C (rsOf N0 E) t:=fun t ht=>tabs_kind h.sound hf ht
 have hf6:=h.sound.tab_lt (htab f (by unfold ofTree;simp))
 have hnt: ¬ ofTree V.C f n:=fun x=>by
   rcases htab n x with y | y
   · exact hun.1 y
   · exact hun.2.1 y
 have same: ∀ t,(IsFst (rsOf N0 E) t∨IsSec V.C (rsOf N0 E) t)→ ∀ q,q<32→SameN (nm (padTo (copy1 V f n).C (lenTo V.C [n])) t q) (nm V.C t q)∧(32768≤nm (padTo (copy1 V f n).C (lenTo V.C [n])) t q→ ¬ ofTree V.C f t∧nm (padTo (copy1 V f n).C (lenTo V.C [n])) t q=nm V.C t q):=by
   intro t ht q hq
   have:=h.sound.tab_lt ht
   rw [nm_pad _ _ _ _ (by omega),vw_at (by omega)]
   by_cases ho:ofTree V.C f t
   · rw [a4 t (by omega) ho]
     exact ⟨h.sound.same_bare ht q hq,fun hm=>by rw [bare_num _ _ hq] at hm;omega⟩
   · rw [a5 t (by omega) ho]
     exact ⟨SameN.refl _,fun _=>⟨ho,rfl⟩⟩
 have hs1:Shape V.C (padTo (copy1 V f n).C (lenTo V.C [n])) (rsOf N0 E):=⟨fun r hr j hj=>(same _ (Or.inl ⟨r,hr,rfl⟩) j hj).1,fun s hs k hk=>(same s (Or.inr hs) k hk).1⟩
 have key: ∀ t,(IsFst (rsOf N0 E) t∨IsSec V.C (rsOf N0 E) t)→ ∀ q,q<32→32768≤nm (padTo (copy1 V f n).C (lenTo V.C [n])) t q→byteAt (copyCnt V.C f n) (nm (padTo (copy1 V f n).C (lenTo V.C [n])) t q%32768)=1:=by
   intro t ht q hq hm
   obtain ⟨ho,e⟩:=(same t ht q hq).2 hm
   rw [e] at hm ⊢
   have hin:=h.sound.num_in ht q hq (by omega)
   have h1:=h.sound.marked1 ht q hq hm
   rw [k2 _ (by omega)]
   have hz:=h.sound.noShare hf ht ho hq (by omega) h1
   split
   · rfl
   · omega
 have hok: ∀ ps,(∀ x ∈ ps,x ∈ cntPuts (copyCnt V.C f n)++[(n,cl (copy1 V f n).C f)])→Ok (putsC (copy1 V f n).C ps) (lenTo V.C [n]) N0 E (dskOf V.C N0 E):=by
   intro ps hps
   refine a2.counts (copyCnt V.C f n) k1 (fun m=>m=n) (fun m hm=> ?_) (fun m hm=> ?_) (fun m hm=> ?_) (fun m hm hTm=> ?_) (fun r hr j hj hm=>key r.N (Or.inl ⟨r,hr,rfl⟩) j (by omega) hm) (fun s hs q hq hm=>key s (Or.inr ((hs1.isSec s).1 hs)) q hq hm) ps (fun x hx=> ?_)
   · rw [hm]
     exact ⟨by omega,h6,hun.1,fun x=>hun.2.1 ((hs1.isSec n).1 x),fun x=>hun.2.2 ((hs1.isBlk n).1 x)⟩
   · rw [hs1.use,k2 m hm]
     by_cases e:n=m
     · subst e
       rw [if_pos rfl,use_none h.sound hun,base6_eq,if_neg (by omega)]
       omega
     · rw [if_neg e]
       have:=h.sound.cnt m hm
       omega
   · rw [k2 m hm]
     split
     · omega
     · obtain ⟨c1,c2⟩:=h.ok.cnts rfl
       by_cases hmm:m ∈ toldAll V.C f
       · have:=(fits_iff _ _ (fun u hu=>by rw [c1];have:=k3 u hu;omega)).1 hfit m hmm
         rw [c2 m hm] at this
         omega
       · rw [List.count_eq_zero.2 hmm]
         have:=h.sound.top m hm
         omega
   · rw [k2 m hm,if_neg (by omega),h.sound.none m hm (by omega),List.count_eq_zero.2 (fun x=>by have:=k3 m x;omega)]
   · rcases List.mem_append.1 (hps x hx) with y | y
     · exact Or.inl (cntPuts_mem y)
     · rw [List.mem_singleton.1 y]
       refine Or.inr ⟨rfl,?_⟩
       exact a2.file.lens _ (by
         unfold cl
         rw [List.getD_eq_getElem?_getD,List.getElem?_eq_getElem (by omega)]
         exact List.getElem_mem _)
 have e:copyV V f n=epoch (copy1 V f n) (cntPuts (copyCnt V.C f n)++[(n,cl (copy1 V f n).C f)]):=by
   unfold copyV epoch
   rw [puts_append,← putCnt_puts,puts_one]
   dsimp only
   rw [cl_putCnt _ (by omega) f (by omega) 4 (by omega),if_neg (by omega)]
 have hC:(copyV V f n).C=putsC (copy1 V f n).C (cntPuts (copyCnt V.C f n)++[(n,cl (copy1 V f n).C f)]):=by rw [e,epoch_C]
 have e2:putsC (copy1 V f n).C (cntPuts (copyCnt V.C f n)++[(n,cl (copy1 V f n).C f)])=putC (putsC (copy1 V f n).C (cntPuts (copyCnt V.C f n))) (n,cl (copy1 V f n).C f):=by simp [putsC]
 have hl4:(putsC (copy1 V f n).C (cntPuts (copyCnt V.C f n))).length=V.C.length:=by
   have:=putsC_length (cntPuts (copyCnt V.C f n)) (copy1 V f n).C V.C.length (by omega) (fun x hx=>by obtain ⟨p,hp,rfl⟩:=cntPuts_mem hx;simp only;omega)
   omega
 have hl:(copyV V f n).C.length=lenTo V.C [n]:=by
   rw [hC,e2,putC_length,hl4];rfl
 have hvw: ∀ t,5≤t→t<V.C.length→t≠n→cl (copyV V f n).C t=cl (copy1 V f n).C t:=fun t h5 ht hne=>by
   rw [← vw_at (by omega),hC,e2,vw_putC,if_neg (fun z=>hne z.symm),vw_puts_none t _ _ (fun x hx=>by obtain ⟨p,hp,rfl⟩:=cntPuts_mem hx;simp only;omega),vw_at (by omega)]
 have hb1: ∀ t,5≤t→t<V.C.length→t≠n→ofTree V.C f t→cl (copyV V f n).C t=bareTab (cl V.C t):=fun t h5 ht hne ho=>by rw [hvw t h5 ht hne,a4 t (by omega) ho]
 have hb2: ∀ t,5≤t→t<V.C.length→t≠n→ ¬ ofTree V.C f t→cl (copyV V f n).C t=cl V.C t:=fun t h5 ht hne ho=>by rw [hvw t h5 ht hne,a5 t (by omega) ho]
 have same2: ∀ t,(IsFst (rsOf N0 E) t∨IsSec V.C (rsOf N0 E) t)→ ∀ q,q<32→SameN (nm (copyV V f n).C t q) (nm V.C t q):=fun t ht q hq=>by
   have h1:=h.sound.tab_lt ht
   have hne:t≠n:=fun z=>by
     rw [z] at ht
     rcases ht with y | y
     · exact hun.1 y
     · exact hun.2.1 y
   unfold nm
   by_cases ho:ofTree V.C f t
   · rw [hb1 t (by omega) h1.2 hne ho];exact h.sound.same_bare ht q hq
   · rw [hb2 t (by omega) h1.2 hne ho];exact SameN.refl _
 refine ⟨e,hok,by rw [hC];exact hok _ (fun x hx=>hx),hl,fun m hm=> ?_,?_,hb1,hb2,⟨fun r hr j hj=>same2 _ (Or.inl ⟨r,hr,rfl⟩) j hj,fun s hs k hk=>same2 s (Or.inr hs) k hk⟩⟩
 · have:=vw_cntPuts (copy1 V f n).C (copyCnt V.C f n) m hm [(n,cl (copy1 V f n).C f)] (fun x hx=>by rw [List.mem_singleton.1 hx];simp only;omega)
   unfold countOf
   rw [← vw_at (by omega),hC,this,k2 m hm]
   rfl
 · rw [← vw_at (by omega),hC,e2,vw_putC,if_pos rfl,a4 f (by omega) (by unfold ofTree;simp)]
end
structure Kin (L L':List Clus):Prop where
 len:L'.length=L.length
 same: ∀ t,t≠0→t≠5→cl L' t=cl L t
section
variable {L L':List Clus} {rs:List RootR}
theorem Kin.nm (h:Kin L L') {t:Nat} (h6:6≤t) (q:Nat):nm L' t q=nm L t q:=by
 unfold Go.Proofs.YtknjjjenklfeoaaGreatDoor.nm;rw [h.same t (by omega) (by omega)]
theorem Kin.count (h:Kin L L') (n:Nat) (hn:n<256):countOf L' n=countOf L n:=by
 unfold countOf;rw [h.same _ (by omega) (by omega)]
theorem Kin.shape (h:Kin L L') (hs:SoundL L rs):Shape L L' rs:=
 Shape.of_same (fun r hr=>h.same _ (by have:=hs.fst r hr;omega) (by have:=hs.fst r hr;omega)) (fun s hx=>h.same _ (by have:=hs.sec s hx;omega) (by have:=hs.sec s hx;omega))
theorem Kin.sound (h:Kin L L') (hs:SoundL L rs):SoundL L' rs:=by
 have hlen:=hs.len
 refine hs.shape (h.shape hs) (by rw [h.len];exact Nat.le_refl _) (by rw [h.len];exact hs.len) (fun n hn=>by rw [h.count n hn];exact hs.cnt n hn) (fun n hn=>by rw [h.count n hn];exact hs.top n hn) (fun n hn hl=>by rw [h.count n hn];exact hs.none n hn (by rw [← h.len];exact hl)) (fun r hr j hj hm=> ?_) (fun s hx k hk hm=> ?_)
 · have h6:=hs.fst r hr
   rw [h.nm h6.1] at hm ⊢
   have:=hs.num_in (Or.inl ⟨r,hr,rfl⟩) j (by omega) (by omega)
   rw [h.count _ (by omega)]
   exact hs.mark1 r hr j hj hm
 · have h6:=hs.sec s hx
   rw [h.nm h6.1] at hm ⊢
   have:=hs.num_in (Or.inr hx) k hk (by omega)
   rw [h.count _ (by omega)]
   exact hs.mark2 s hx k hk hm
theorem Kin.content (h:Kin L L') (hs:SoundL L rs) {r:RootR} (hr:r ∈ rs):contentOf L' r.N=contentOf L r.N:=
 (h.shape hs).content (fun n hn=>h.same n (by have:=hs.blk n hn;omega) (by have:=hs.blk n hn;omega)) hr
theorem Kin.tree (h:Kin L L') (hs:SoundL L rs) {r:RootR} (hr:r ∈ rs) (m:Nat):treeOcc L' r.N m=treeOcc L r.N m:=(h.shape hs).tree hr m
theorem Kin.exact (h:Kin L L') (hs:SoundL L rs) (hx:ExactS L rs):ExactS L' rs:=by
 have hlen:=hs.len
 refine ⟨fun n hn=>by rw [h.count n hn,(h.shape hs).use];exact hx.eq n hn,fun r hr j hj h0 h1=> ?_,fun s hx' k hk h0 h1=> ?_⟩
 · have h6:=hs.fst r hr
   rw [h.nm h6.1] at h0 h1 ⊢
   have:=hs.num_in (Or.inl ⟨r,hr,rfl⟩) j (by omega) h0
   rw [h.count _ (by omega)] at h1
   exact hx.lone1 r hr j hj h0 h1
 · rw [(h.shape hs).isSec] at hx'
   have h6:=hs.sec s hx'
   rw [h.nm h6.1] at h0 h1 ⊢
   have:=hs.num_in (Or.inr hx') k hk h0
   rw [h.count _ (by omega)] at h1
   exact hx.lone2 s hx' k hk h0 h1
end
theorem put_kin {C:List Clus} {p:Nat} {c:Clus} (hp:p<C.length) (h:p=0∨p=5):Kin C (putsC C [(p,c)])∧cl (putsC C [(p,c)]) p=c∧ ∀ t,t≠p→cl (putsC C [(p,c)]) t=cl C t:=by
 have e:putsC C [(p,c)]=putC C (p,c):=rfl
 have hl:(putC C (p,c)).length=C.length:=by rw [putC_length];simp only;omega
 have ho: ∀ t,t≠p→cl (putC C (p,c)) t=cl C t:=fun t ht=>by
   by_cases htl:t<C.length
   · rw [← vw_at (by omega),vw_putC,if_neg (fun z=>ht z.symm),vw_at htl]
   · rw [cl_past (by omega),cl_past (by omega)]
 rw [e]
 exact ⟨⟨hl,fun t h0 h5=>ho t (by omega)⟩,by rw [← vw_at (by omega),vw_putC,if_pos rfl],ho⟩
section
variable {base:List Clus} {V:VolR} {N0:Nat} {E:List EntR} {f n:Nat}
structure Came (base:List Clus) (V:VolR) (N0:Nat) (E:List EntR) (V':VolR) (N1:Nat) (E':List EntR) (D':DiskR):Prop where
 vol:Vol base V' N1 E'
 holds:dskOf V'.C N1 E'=D'
 exact:ExactS V.C (rsOf N0 E)→ExactS V'.C (rsOf N1 E')
theorem dskOf_mem {L L':List Clus} (hh:dskOf L' N0 E=dskOf L N0 E): ∀ r ∈ rsOf N0 E,contentOf L' r.N=contentOf L r.N:=by
 intro r hr
 rcases rsOf_mem.1 hr with z | ⟨x,hx,z⟩
 · rw [z];exact congrArg DiskR.C hh
 · rw [z]
   obtain ⟨i,hi,rfl⟩:=List.getElem_of_mem hx
   have h2:(E.map fun e=>(⟨e.name,contentOf L' e.first⟩:PicR))=E.map fun e=>⟨e.name,contentOf L e.first⟩:=congrArg DiskR.L hh
   have h3:=congrArg (fun l=>l[i]?) h2
   simp only [List.getElem?_map,List.getElem?_eq_getElem hi,Option.map_some,Option.some.injEq] at h3
   exact congrArg PicR.C h3
theorem puts_copy (V:VolR) (f n:Nat):Puts V (copyV V f n):=by
 unfold copyV copy1
 exact ((puts_putCnt (puts_renum (puts_lengthen (Puts.refl V) [n]) sharedOf _).flush _ 4).put _ _).flush
theorem Vol.copyTree (h:Vol base V N0 E) (hf:f ∈ (rsOf N0 E).map (·.N)) (hn:n<256) (h0:countOf V.C n=0) (hfit:fitsB (cntsOf V.C) (toldAll V.C f)=true):
   SoundL (copyV V f n).C (rsOf N0 E)∧(∀ j,j<32→nm (copyV V f n).C n j=nm (copyV V f n).C f j)∧(∀ m,treeOcc (copyV V f n).C n m=(if n=m then 1 else 0)+(toldAll V.C f).count m)∧
     (¬ IsFst (rsOf N0 E) n∧ ¬ IsSec (copyV V f n).C (rsOf N0 E) n∧ ¬ IsBlk (copyV V f n).C (rsOf N0 E) n)∧contentOf (copyV V f n).C n=contentOf (copyV V f n).C f∧(∀ r ∈ rsOf N0 E,contentOf (copyV V f n).C r.N=contentOf V.C r.N)∧(toldAll V.C f).count n=0:=by
 obtain ⟨e,a1,a2,a3,a4,a5,a6,a7,a8⟩:=h.copied hf hn h0 hfit
 obtain ⟨k1,k2,k3⟩:=h.copy_cnt hf hn hfit
 have hun:=h.sound.untold hn h0
 obtain ⟨r,hr,rfl⟩:=List.mem_map.1 hf
 have hr6:=h.sound.fst r hr
 have hrn:r.N≠n:=fun z=>hun.1 ⟨r,hr,z⟩
 have ec:cl (copyV V r.N n).C n=cl (copyV V r.N n).C r.N:=by rw [a5,a6 r.N (by omega) hr6.2 hrn (by unfold ofTree;simp)]
 have en: ∀ j,nm (copyV V r.N n).C n j=nm (copyV V r.N n).C r.N j:=fun j=>by unfold nm;rw [ec]
 have hs:=a2.sound
 rw [padTo_self a3] at hs
 have hun2: ¬ IsFst (rsOf N0 E) n∧ ¬ IsSec (copyV V r.N n).C (rsOf N0 E) n∧ ¬ IsBlk (copyV V r.N n).C (rsOf N0 E) n:=⟨hun.1,fun x=>hun.2.1 ((a8.isSec n).1 x),fun x=>hun.2.2 ((a8.isBlk n).1 x)⟩
 have hh:=a2.holds
 rw [padTo_self a3] at hh
 refine ⟨hs,fun j _=>en j,fun m=> ?_,hun2,content_copy (fun j _=>en j),fun r' hr'=> ?_,?_⟩
 · have h1:treeOcc (copyV V r.N n).C r.N m=treeOcc V.C r.N m:=a8.tree hr m
   have h2:=count_told (h.sound.zero r hr) m
   unfold treeOcc at h1 ⊢
   have h3: ∀ j,secOcc (copyV V r.N n).C n j m=secOcc (copyV V r.N n).C r.N j m:=fun j=>by unfold secOcc;rw [en j]
   rw [h3 0,h3 1,h2]
   omega
 · exact dskOf_mem hh r' hr'
 · refine List.count_eq_zero.2 fun x=> ?_
   obtain ⟨j,hj,hj0,y | ⟨k,hk,hk0,y⟩⟩:=mem_toldAll (h.sound.zero r hr) x
   · exact hun.2.1 ⟨r,hr,j,hj,hj0,y⟩
   · exact hun.2.2 ⟨_,⟨r,hr,j,hj,hj0,rfl⟩,k,hk,hk0,y⟩
theorem Vol.copyLone (h:Vol base V N0 E) (hf:f ∈ (rsOf N0 E).map (·.N)) (hn:n<256) (h0:countOf V.C n=0) (hfit:fitsB (cntsOf V.C) (toldAll V.C f)=true) (hx:ExactS V.C (rsOf N0 E)) {t:Nat} (ht:IsFst (rsOf N0 E) t∨IsSec V.C (rsOf N0 E) t) (q:Nat) (hq:q<32) (hne:nm (copyV V f n).C t q≠0)
   (h1:countOf (copyV V f n).C (nm (copyV V f n).C t q%32768)=1):32768≤nm (copyV V f n).C t q:=by
 obtain ⟨e,a1,a2,a3,a4,a5,a6,a7,a8⟩:=h.copied hf hn h0 hfit
 have hun:=h.sound.untold hn h0
 have hlen:=h.sound.len
 have ht6:=h.sound.tab_lt ht
 have htn:t≠n:=fun z=>by
   rw [z] at ht
   rcases ht with y | y
   · exact hun.1 y
   · exact hun.2.1 y
 obtain ⟨r,hr,rfl⟩:=List.mem_map.1 hf
 have same:SameN (nm (copyV V r.N n).C t q) (nm V.C t q):=by
   rcases ht with ⟨r',hr',rfl⟩ | y
   · exact a8.t1 r' hr' q hq
   · exact a8.t2 t y q hq
 have hv0:nm V.C t q≠0:=fun z=>hne (same.1.2 z)
 have hin:=h.sound.num_in ht q hq hv0
 have hus:=h.sound.used1 ht q hq hv0
 have hcn:=h.sound.cnt _ (show nm V.C t q%32768<256 by omega)
 have hcc:nm V.C t q%32768≠n:=fun z=>by rw [z] at hcn hus;omega
 rw [same.2,a4 _ (by omega),if_neg (fun z=>hcc z.symm)] at h1
 by_cases ho:ofTree V.C r.N t
 · exfalso
   have hmem:nm V.C t q%32768 ∈ toldAll V.C r.N:=by
     rcases List.mem_cons.1 ho with z | z
     · rw [z] at hv0 ⊢
       have hq2:q<2:=by
         by_cases x:q<2
         · exact x
         · exact absurd (h.sound.zero r hr q (by omega) hq) hv0
       exact toldAll_mem1 hq2 hv0
     · obtain ⟨i,hi,hi0,e2⟩:=mem_toldBy z
       have hi2:i<2:=by
         by_cases x:i<2
         · exact x
         · exact absurd (h.sound.zero r hr i (by omega) hi) hi0
       have e3:nm V.C r.N i%32768=t:=e2
       have:=toldAll_mem2 (C:=V.C) (f:=r.N) (j:=i) (k:=q) hi2 hi0 hq (by rw [e3];exact hv0)
       rw [e3] at this
       exact this
   have:=List.count_pos_iff.2 hmem
   omega
 · have e2:nm (copyV V r.N n).C t q=nm V.C t q:=by unfold nm;rw [a7 t (by omega) ht6.2 htn ho]
   rw [e2]
   rcases ht with ⟨r',hr',rfl⟩ | y
   · have hq2:q<2:=by
       by_cases x:q<2
       · exact x
       · exact absurd (h.sound.zero r' hr' q (by omega) hq) hv0
     exact hx.lone1 r' hr' q hq2 hv0 (by omega)
   · exact hx.lone2 t y q hq hv0 (by omega)
theorem dskOf_C (L:List Clus) (N1:Nat) (E1:List EntR):(dskOf L N1 E1).C=contentOf L N1:=by simp only [dskOf]
theorem dskOf_L (L:List Clus) (N1:Nat) (E1:List EntR):(dskOf L N1 E1).L=E1.map fun e=>(⟨e.name,contentOf L e.first⟩:PicR):=by simp only [dskOf]
theorem dskOf_eq {L:List Clus} {N1:Nat} {E1:List EntR} {c:List Clus} {l:List PicR} (hA:contentOf L N1=c) (hB:(E1.map fun e=>(⟨e.name,contentOf L e.first⟩:PicR))=l):dskOf L N1 E1=⟨c,l⟩:=by rw [← hA,← hB];rfl
def takeV (V:VolR) (f n:Nat) (E':List EntR):VolR:=flushV (putV (copyV V f n) 5 (listBytes E'))
def takeD (D:DiskR) (s:List UInt8):DiskR:={ D with L:=D.L++[⟨s,D.C⟩] }
theorem rsOf_snoc (N0:Nat) (E:List EntR) (e:EntR):rsOf N0 (E++[e])=rsOf N0 E++[rootE e]:=by simp [rsOf]
theorem useOf_snoc (L:List Clus) (rs:List RootR) (r:RootR) (m:Nat):useOf L (rs++[r]) m=useOf L rs m+treeOcc L r.N m:=by simp [useOf]
theorem EntsOK.snoc (h:EntsOK E) {s:List UInt8} (hs:isNameB s=true) (hnew:s ∉ E.map (·.name)) (h4:E.length<4) (h6:n≠0) (hn:n<65536):EntsOK (E++[⟨s,n⟩]):=by
 refine ⟨by simp;omega,fun e he=> ?_,?_⟩
 · rcases List.mem_append.1 he with x | x
   · exact h.all e x
   · rw [List.mem_singleton.1 x];exact ⟨hs,h6,hn⟩
 · rw [List.map_append,List.nodup_append]
   refine ⟨h.nodup,by simp,fun a ha b hb=> ?_⟩
   simp only [List.map_cons,List.map_nil,List.mem_singleton] at hb
   rw [hb]
   exact fun z=>hnew (by rw [← z];exact ha)
theorem Vol.take (h:Vol base V N0 E) {s:List UInt8} (hs:isNameB s=true) (hnew:s ∉ E.map (·.name)) (h4:E.length<4) (hn:n<256) (h0:countOf V.C n=0) (hfit:fitsB (cntsOf V.C) (toldAll V.C N0)=true):
   takeV V N0 n (E++[⟨s,n⟩])=epoch (copyV V N0 n) [(5,listBytes (E++[⟨s,n⟩]))]∧Came base V N0 E (takeV V N0 n (E++[⟨s,n⟩])) N0 (E++[⟨s,n⟩]) (takeD (dskOf V.C N0 E) s):=by
 have hf:N0 ∈ (rsOf N0 E).map (·.N):=by simp [rsOf]
 have hr0:(⟨N0,0,[]⟩:RootR) ∈ rsOf N0 E:=by simp [rsOf]
 obtain ⟨e,a1,a2,a3,a4,a5,a6,a7,a8⟩:=h.copied hf hn h0 hfit
 obtain ⟨b1,b2,b3,b4,b5,b6,b7⟩:=h.copyTree hf hn h0 hfit
 have h6:=h.sound.free_six hn h0
 have hT:lenTo V.C [n]=max V.C.length (n+1):=rfl
 have h7:=h.file.seven
 have hlen:=h.sound.len
 have hE':=h.file.ents.snoc hs hnew h4 (show n≠0 by omega) (by omega)
 have e1:takeV V N0 n (E++[⟨s,n⟩])=epoch (copyV V N0 n) [(5,listBytes (E++[⟨s,n⟩]))]:=by unfold takeV epoch;rw [puts_one]
 have hC:(takeV V N0 n (E++[⟨s,n⟩])).C=putsC (copyV V N0 n).C [(5,listBytes (E++[⟨s,n⟩]))]:=by rw [e1,epoch_C]
 obtain ⟨c1,c2,c3⟩:=put_kin (C:=(copyV V N0 n).C) (p:=5) (c:=listBytes (E++[⟨s,n⟩])) (by omega) (Or.inr rfl)
 rw [← hC] at c1 c2 c3
 have hloose:(takeV V N0 n (E++[⟨s,n⟩])).loose=false:=by rw [e1];exact flushV_loose _
 have hputs:Puts V (takeV V N0 n (E++[⟨s,n⟩])):=by rw [e1];exact puts_epoch (puts_copy V N0 n) _
 have hlone:=fun (hx:ExactS V.C (rsOf N0 E)) {t:Nat} ht q hq=>h.copyLone hf hn h0 hfit hx (t:=t) ht q hq
 refine ⟨e1,?_⟩
 clear e1 e a1 a5 a6 a7
 generalize takeV V N0 n (E++[⟨s,n⟩])=W at*
 generalize copyV V N0 n=U at*
 have hrs:rsOf N0 (E++[⟨s,n⟩])=rsOf N0 E++[⟨n,5,s⟩]:=rsOf_snoc _ _ _
 have hcnt: ∀ m,m<256→countOf (U).C m=base6 m+useOf (U).C (rsOf N0 (E++[⟨s,n⟩])) m∨base6 m+useOf V.C (rsOf N0 E) m<countOf V.C m:=fun m hm=>by
   rw [hrs,useOf_snoc,a8.use,a4 m hm]
   simp only
   rw [b3 m]
   by_cases z:n=m
   · subst z
     left
     rw [if_pos rfl,if_pos rfl,use_none h.sound (h.sound.untold hn h0),b7,base6_eq,if_neg (by omega)]
   · rw [if_neg z,if_neg z]
     have:=h.sound.cnt m hm
     omega
 have s1:SoundL (U).C (rsOf N0 (E++[⟨s,n⟩])):=by
   refine b1.roots (fun r' hr'=> ?_) ?_ (fun m hm=> ?_)
   · rw [hrs] at hr'
     rcases List.mem_append.1 hr' with x | x
     · exact ⟨b1.fst r' x,b1.fs _ ⟨r',x,rfl⟩,b1.fb _ ⟨r',x,rfl⟩,r',x,fun j _=>rfl⟩
     · rw [List.mem_singleton.1 x]
       exact ⟨⟨h6,by rw [a3];simp only;omega⟩,b4.2.1,b4.2.2,_,hr0,fun j hj=>b2 j hj⟩
   · rw [hrs,List.map_append,List.nodup_append]
     refine ⟨b1.nodup,by simp,fun a ha b hb=> ?_⟩
     simp only [List.map_cons,List.map_nil,List.mem_singleton] at hb
     rw [hb]
     intro z
     obtain ⟨r',hr',e2⟩:=List.mem_map.1 ha
     exact b4.1 ⟨r',hr',e2.trans z⟩
   · rw [hrs,useOf_snoc,a8.use,a4 m hm]
     simp only
     rw [b3 m]
     have:=h.sound.cnt m hm
     by_cases z:n=m
     · subst z
       rw [if_pos rfl,if_pos rfl,use_none h.sound (h.sound.untold hn h0),b7,base6_eq,if_neg (by omega)]
       exact Nat.le_refl _
     · rw [if_neg z,if_neg z];omega
 have s2:=c1.sound s1
 have hlT:(W).C.length=lenTo V.C [n]:=by rw [c1.len,a3]
 have hfile:FileE (W).C (lenTo V.C [n]) N0 (E++[⟨s,n⟩]):=by
   refine ⟨?_,by omega,by omega,a2.file.seven,a2.file.most,a2.file.n0,by rw [c3 0 (by omega)];exact a2.file.head,c2,hE'⟩
   rw [hC]
   exact putsC_lens _ _ a2.file.lens (fun x hx=>by rw [List.mem_singleton.1 hx];exact hE'.length)
 have hD:dskOf (W).C N0 (E++[⟨s,n⟩])=takeD (dskOf V.C N0 E) s:=by
   have g: ∀ r ∈ rsOf N0 (E++[⟨s,n⟩]),contentOf (W).C r.N=contentOf (U).C r.N:=fun r hr=>c1.content s1 hr
   have gn:=g ⟨n,5,s⟩ (by rw [hrs];simp)
   have g0:=g ⟨N0,0,[]⟩ (by rw [hrs];simp [rsOf])
   simp only at gn g0
   have hb0:=b6 _ hr0
   simp only at hb0
   have hA:contentOf (W).C N0=(dskOf V.C N0 E).C:=by rw [dskOf_C,g0,hb0]
   have hB:((E++[(⟨s,n⟩:EntR)]).map fun e:EntR=>(⟨e.name,contentOf (W).C e.first⟩:PicR))=(dskOf V.C N0 E).L++[⟨s,(dskOf V.C N0 E).C⟩]:=by
     have h1:(E.map fun e=>(⟨e.name,contentOf (W).C e.first⟩:PicR))=E.map fun e=>(⟨e.name,contentOf V.C e.first⟩:PicR):=by
       apply List.map_congr_left
       intro x hx
       have hx1:rootE x ∈ rsOf N0 E:=rsOf_mem.2 (Or.inr ⟨x,hx,rfl⟩)
       have g1:=g (rootE x) (by rw [hrs];exact List.mem_append.2 (Or.inl hx1))
       have g2:=b6 (rootE x) hx1
       simp only [rootE] at g1 g2
       rw [g1,g2]
     rw [List.map_append,h1,dskOf_L,dskOf_C,List.map_cons,List.map_nil]
     simp only
     rw [gn,b5,hb0]
   exact dskOf_eq hA hB
 have ok:Ok W.C (lenTo V.C [n]) N0 (E++[⟨s,n⟩]) (takeD (dskOf V.C N0 E) s):=⟨hfile,by rw [padTo_self hlT];exact s2,by rw [padTo_self hlT];exact hD⟩
 refine ⟨ok.vol hlT hloose (h.log.puts hputs),hD,fun hx=>c1.exact s1 ⟨fun m hm=> ?_,fun r' hr' j hj hne h1=> ?_,fun s' hs' k hk hne h1=> ?_⟩⟩
 · rcases hcnt m hm with z | z
   · exact z
   · have:=hx.eq m hm;omega
 · rw [hrs] at hr'
   rcases List.mem_append.1 hr' with x | x
   · exact hlone hx (Or.inl ⟨r',x,rfl⟩) j (by omega) hne h1
   · rw [List.mem_singleton.1 x] at hne h1 ⊢
     simp only at hne h1 ⊢
     rw [b2 j (by omega)] at hne h1 ⊢
     exact hlone hx (Or.inl ⟨_,hr0,rfl⟩) j (by omega) hne h1
 · have:IsSec V.C (rsOf N0 E) s':=by
     rw [← a8.isSec]
     obtain ⟨r',hr',j,hj,q0,q1⟩:=hs'
     rw [hrs] at hr'
     rcases List.mem_append.1 hr' with x | x
     · exact ⟨r',x,j,hj,q0,q1⟩
     · rw [List.mem_singleton.1 x] at q0 q1
       simp only at q0 q1
       rw [b2 j (by omega)] at q0 q1
       exact ⟨_,hr0,j,hj,q0,q1⟩
   exact hlone hx (Or.inr this) k hk hne h1
end
end Go.Proofs.YtknjjjenklfeoaaGreatDoor
