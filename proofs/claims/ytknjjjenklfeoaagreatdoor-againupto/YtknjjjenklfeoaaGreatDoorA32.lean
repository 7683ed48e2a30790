import Derived.Test.YtknjjjenklfeoaaGreatDoorA31
import Derived.Test.YtknjjjenklfeoaaGreatDoorA04
import Derived.Test.YtknjjjenklfeoaaGreatDoorA16
import Derived.Test.YtknjjjenklfeoaaGreatDoorA26
import Derived.Test.YtknjjjenklfeoaaGreatDoorA30
set_option maxHeartbeats 8000000
set_option maxRecDepth 100000
namespace Go.Proofs.YtknjjjenklfeoaaGreatDoor
def openV (file:List Clus):VolR:=⟨padTo file (num (cl file 0) 4),[],false,decide (file.length<num (cl file 0) 4)⟩
def openBad (file:List Clus):Int:=
 if headGood file=false then 0
 else if listGood (cl (openV file).C 5)=false then 5
 else if (foldF (firstsOf (openV file)) 0 (R2of file)).1=false then (foldF (firstsOf (openV file)) 0 (R2of file)).2.bad
 else if 0≤countsP (usesOf (openV file)) (cntsOf (openV file).C) (openV file).C.length 256 0 then countsP (usesOf (openV file)) (cntsOf (openV file).C) (openV file).C.length 256 0
 else marksP (openV file).C (cntsOf (openV file).C) (firstsOf (openV file))
theorem headGood_parts {file:List Clus} (h:headGood file=true):6≤file.length∧file.length≤256∧(cl file 0).take 4=velm∧7≤num (cl file 0) 4∧num (cl file 0) 4≤256∧file.length≤num (cl file 0) 4∧restZero (cl file 0) 56 8=true:=by
 unfold headGood at h
 simp only [Bool.and_eq_true,decide_eq_true_iff] at h
 exact h
section
variable {file:List Clus}
theorem openV_len (file:List Clus):(openV file).C.length=num (cl file 0) 4:=padTo_length _ _
theorem openV_lens (hl: ∀ c ∈ file,c.length=64): ∀ c ∈ (openV file).C,c.length=64:=padTo_lens hl _
theorem openV_cl (h:headGood file=true) (t:Nat) (ht:t<file.length):cl (openV file).C t=cl file t:=by
 obtain ⟨_,_,_,_,_,h6,_⟩:=headGood_parts h
 show cl (padTo file _) t=_
 rw [cl_padTo _ _ _ (by omega),vw_at ht]
theorem fileE_of (h:headGood file=true) (hl: ∀ c ∈ file,c.length=64) (hg:listGood (cl (openV file).C 5)=true): ∃ E,FileE file (num (cl file 0) 4) (num (cl file 0) 6) E:=by
 obtain ⟨h1,h2,h3,h4,h5,h6,h7⟩:=headGood_parts h
 have hc0:(cl file 0).length=64:=cl_length hl (by omega)
 rw [openV_cl h 5 (by omega)] at hg
 obtain ⟨E,hE,he⟩:=(listGood_iff (cl_length hl (by omega))).1 hg
 have hh:headB (cl file 0)=true:=by rw [headB_iff hc0,h7,decide_eq_true h3];rfl
 exact ⟨E,hl,h1,h6,h4,h5,num_lt _ _,(of_decide_eq_true hh).symm,he,hE⟩
theorem listOf_eq (h:headGood file=true) (hl: ∀ c ∈ file,c.length=64):(listOf (R1of file)).1=listGood (cl (openV file).C 5):=by
 obtain ⟨h1,_,_,h4,_,_,_⟩:=headGood_parts h
 exact (listGood_eq (cl_length (openV_lens hl) (by rw [openV_len];omega)) _).symm
variable {T N0:Nat} {E:List EntR}
theorem FileE.openC (h:FileE file T N0 E):(openV file).C=padTo file T:=by show padTo file _=_;rw [h.num4]
theorem FileE.cl5 (h:FileE file T N0 E) (t:Nat) (ht:t<file.length):cl (padTo file T) t=cl file t:=by rw [cl_padTo _ _ _ (by have:=h.le;omega),vw_at ht]
theorem FileE.openFirsts (h:FileE file T N0 E):firstsOf (openV file)=(rsOf N0 E).map (·.N):=by
 have h6:=h.six
 unfold firstsOf
 rw [h.openC,h.cl5 0 (by omega),h.num6,h.ents.picFirsts (by rw [h.cl5 5 (by omega)];exact h.list)]
 simp [rsOf,rootE]
theorem FileE.R2 (h:FileE file T N0 E):R2of file=⟨padTo file T,rsOf N0 E,zeros256,used6,-1⟩:=by
 show (⟨(R1of file).L,(Go.Proofs.YtknjjjenklfeoaaGreatDoor.listOf (R1of file)).2,_,_,_⟩:FileR)=_
 rw [h.listOf,h.pad]
 rfl
theorem FileE.nums (h:FileE file T N0 E):R3of file=foldF ((rsOf N0 E).map (·.N)) 0 (R2of file):=by
 have hm:=h.most
 have key:=foldF_trees (rsOf N0 E) 0 (rsOf N0 E).length 0 (R2of file) (by omega) (by rw [h.R2]) (by rw [h.R2];show (padTo file T).length≤zeros256.length;rw [padTo_length,zeros256_length];exact hm) (fun j _ hj=>by
   by_cases e:j=0
   · subst e;rfl
   · rw [if_neg e]
     obtain ⟨q,rfl⟩: ∃ q,j=q+1:=⟨j - 1,by omega⟩
     unfold rsOf at hj ⊢
     rw [List.getD_cons_succ,List.getD_eq_getElem?_getD,List.getElem?_map,List.getElem?_eq_getElem (by simpa using hj)]
     rfl)
 rw [List.drop_zero] at key
 rw [key]
 unfold R3of
 rw [h.R2]
theorem FileE.told0 (h:FileE file T N0 E):Told (padTo file T) (rsOf N0 E) (-1) base6 [] (R2of file):=by
 rw [h.R2]
 exact ⟨rfl,rfl,rfl,zeros256_length,used6_length,fun x hx=>by simp at hx,fun n _=>by
     show zeros256.getD n 0=0
     unfold zeros256
     rw [List.getD_eq_getElem?_getD,List.getElem?_replicate]
     split <;> rfl,fun n _=>rfl⟩
theorem FileE.trees (h:FileE file T N0 E) (h3:(R3of file).1=true):TreesL (padTo file T) (rsOf N0 E)∧Told (padTo file T) (rsOf N0 E) (-1) base6 (allTells (padTo file T) (rsOf N0 E) (rsOf N0 E).length 0) (R3of file).2:=by
 have hm:=h.most
 have h7:=h.seven
 have e:R3of file=treesFrom (rsOf N0 E).length 0 (R2of file):=by unfold R3of;rw [h.R2]
 rw [e] at h3 ⊢
 obtain ⟨h4,h5,h6⟩:=treesFrom_back (rs:=rsOf N0 E) (b:= -1) (base:=base6) (L:=padTo file T) (by rw [padTo_length];exact hm) (rsOf N0 E).length 0 [] (R2of file) (by omega) h.told0 ⟨fun x hx=>by simp at hx,fun x hx=>by simp at hx,fun n=>by simp⟩ h3
 rw [List.nil_append] at h4 h6
 refine ⟨⟨by rw [padTo_length];exact hm,by rw [padTo_length];omega,h4,fun r hr i hi1 hi2=> ?_⟩,h6⟩
 obtain ⟨j,hj,rfl⟩:=List.getElem_of_mem hr
 have:=h5 j (by omega) (by omega) i hi1 hi2
 rw [List.getD_eq_getElem?_getD,List.getElem?_eq_getElem hj] at this
 exact this
theorem look_openBad (hl: ∀ c ∈ file,c.length=64):(look file).bad=openBad file:=by
 unfold openBad
 by_cases hh:headGood file=false
 · rw [if_pos hh]
   unfold look
   rw [if_pos hh]
 · rw [if_neg hh]
   have hh':headGood file=true:=by simpa using hh
   have hlo:=listOf_eq hh' hl
   by_cases hg:listGood (cl (openV file).C 5)=false
   · rw [if_pos hg]
     unfold look
     rw [if_neg hh,hlo,if_pos hg]
   · rw [if_neg hg]
     have hg':listGood (cl (openV file).C 5)=true:=by simpa using hg
     obtain ⟨E,hE⟩:=fileE_of hh' hl hg'
     have hn:=hE.nums
     have hf:=hE.openFirsts
     have hC:=hE.openC
     have e0:look file=if (R3of file).1=false then (R3of file).2 else { (R3of file).2 with bad:=marksFrom (R3of file).2 (R3of file).2.roots.length 0 (countsFrom (R3of file).2 256 0) }:=by
       unfold look
       rw [if_neg hh,hlo,if_neg hg]
     rw [e0,hf,← hn]
     by_cases h3:(R3of file).1=false
     · rw [if_pos h3,if_pos h3]
     · rw [if_neg h3,if_neg h3]
       have h3':(R3of file).1=true:=by simpa using h3
       obtain ⟨ht,hT⟩:=hE.trees h3'
       rw [← hC] at ht hT
       have hc:=ht.counts (openV_lens hl) hf hT
       have hvl:=openV_lens hl
       clear e0 hn
       generalize R3of file=Q at*
       generalize openV file=V at*
       show marksFrom Q.2 Q.2.roots.length 0 (countsFrom Q.2 256 0)=_
       rw [hc]
       rcases countsFrom_ge Q.2 256 0 with hx | hx
       · rw [if_neg (by omega),hx,hT.hR]
         have:=marksFrom_find (cntsOf V.C) hT.hR (by rw [hT.hL];exact ht.zero) (by rw [hT.hL];exact ht.mark hvl hT hx) (rsOf (num (cl file 0) 6) E).length 0 (by omega)
         rw [this,hT.hL,List.drop_zero]
       · rw [if_pos hx]
         exact marksFrom_pos _ _ _ _ hx
end
section
variable {base:List Clus} {V:VolR} {N0:Nat} {E:List EntR} {R:FileR}
theorem cntTo_ext {p q:Nat→Bool} (a:Nat) (h: ∀ n,n<a→p n=q n): ∀ m,(∀ n,a≤n→n<a+m→p n=false)→cntTo p (a+m)=cntTo q a
 | 0,_=>by rw [Nat.add_zero];exact cntTo_cong a h
 | m+1,h2=>by rw [Nat.add_succ,cntTo,cntTo_ext a h m (fun n h3 h4=>h2 n h3 (by omega)),h2 (a+m) (by omega) (by omega)];rfl
theorem lacks_cons (M:List Nat) (n:Nat) (ns:List Nat):lacks M (n :: ns)=(if lackB M n then 1 else 0)+lacks M ns:=by
 have:=lacks_app M [n] ns
 rw [List.singleton_append] at this
 rw [this]
 congr 1
 unfold lacks
 cases h:lackB M n <;> simp [h]
theorem rawBy_take (C:List Clus) (t:Nat):rawBy (numsOf (cl C t))=(spFrom C t 32 0).map (·.number):=by
 have key: ∀ m k,k+m=32→rawBy ((numsOf (cl C t)).drop k)=(spFrom C t m k).map (·.number):=by
   intro m
   induction m with
   | zero=>intro k hk;rw [List.drop_of_length_le (by rw [numsOf_length];omega)];rfl
   | succ m ih=>
     intro k hk
     have hlt:k<(numsOf (cl C t)).length:=by rw [numsOf_length];omega
     have hg:(numsOf (cl C t))[k]=nm C t k:=by
       have:=numsOf_get (cl C t) k (by omega)
       rw [List.getD_eq_getElem?_getD,List.getElem?_eq_getElem hlt] at this
       exact this
     rw [List.drop_eq_getElem_cons hlt,spFrom,List.map_append,← ih (k+1) (by omega),hg]
     unfold rawBy
     rw [List.filter_cons]
     by_cases h0:nm C t k=0
     · rw [if_neg (by simp [h0]),if_pos h0];rfl
     · rw [if_pos (by simp [h0]),if_neg h0];rfl
 have:=key 32 0 (by omega)
 rw [List.drop_zero] at this
 exact this
theorem markedIn_lack (M:List Nat) (t:Nat): ∀ m k acc,(∀ j,k≤j→j<k+m→nm R.L t j≠0→markBad R (nm R.L t j)=false∧markNone R (nm R.L t j)=if lackB M (nm R.L t j) then 1 else 0)→markedIn R t m k acc=some (acc+lacks M ((spFrom R.L t m k).map (·.number)))
 | 0,_,acc,_=>rfl
 | m+1,k,acc,h=>by
   rw [markedIn,spFrom]
   by_cases h0:num (cl R.L t) (2*k)=0
   · rw [if_pos h0,if_pos h0,List.nil_append]
     exact markedIn_lack M t m (k+1) acc (fun j h1 h2=>h j (by omega) (by omega))
   · obtain ⟨h1,h2⟩:=h k (by omega) (by omega) h0
     change markBad R (num (cl R.L t) (2*k))=false at h1
     change markNone R (num (cl R.L t) (2*k))=_ at h2
     rw [if_neg h0,if_neg h0,h1,h2,List.singleton_append,List.map_cons,lacks_cons]
     simp only [Bool.false_eq_true,if_false]
     rw [markedIn_lack M t m (k+1) _ (fun j h1 h2=>h j (by omega) (by omega)),Nat.add_assoc]
theorem markedOut_lack (M:List Nat) (t:Nat): ∀ m i acc,(∀ s ∈ toldFrom R.L t m i,markBad R s.number=false∧markNone R s.number=if lackB M s.number then 1 else 0)→markedOut R t m i acc=(-1,acc+lacks M ((toldFrom R.L t m i).map (·.number)))
 | 0,_,acc,_=>rfl
 | m+1,i,acc,h=>by
   rw [toldFrom] at h
   rw [markedOut,toldFrom]
   by_cases h0:num (cl R.L t) (2*i)=0
   · rw [if_pos h0] at h
     rw [if_pos h0,if_pos h0,List.nil_append]
     exact markedOut_lack M t m (i+1) acc h
   · rw [if_neg h0] at h
     obtain ⟨h1,h2⟩:=h ⟨t,i,nm R.L t i⟩ (by simp)
     have hin:=markedIn_lack (R:=R) M (nm R.L t i%32768) 32 0 (acc+if lackB M (nm R.L t i) then 1 else 0) (fun j j1 j2 j3=>h ⟨nm R.L t i%32768,j,nm R.L (nm R.L t i%32768) j⟩ (by
       have:=spFrom_in (C:=R.L) (t:=nm R.L t i%32768) (j:=j) j3 32 0 j1 j2
       simp [this]))
     change markBad R (num (cl R.L t) (2*i))=false at h1
     change markNone R (num (cl R.L t) (2*i))=_ at h2
     rw [if_neg h0,if_neg h0,h1,h2]
     simp only [Bool.false_eq_true,if_false]
     change markedIn R (num (cl R.L t) (2*i)%32768) 32 0 _=_ at hin
     rw [hin]
     show markedOut R t m (i+1) _=_
     rw [markedOut_lack M t m (i+1) _ (fun s hs=>h s (by simp [hs])),List.cons_append,List.map_cons,List.map_append,lacks_cons,lacks_app]
     show ((-1:Int),_)=_
     congr 1
     dsimp only
     omega
theorem told_rawAll (C:List Clus) (f:Nat):rawAll C f=(toldFrom C f 32 0).map (·.number):=by
 have key: ∀ m i,i+m=32→((rawBy ((numsOf (cl C f)).drop i)).flatMap fun s=>s :: rawBy (numsOf (cl C (s%32768))))=(toldFrom C f m i).map (·.number):=by
   intro m
   induction m with
   | zero=>intro k hk;rw [List.drop_of_length_le (by rw [numsOf_length];omega)];rfl
   | succ m ih=>
     intro k hk
     have hlt:k<(numsOf (cl C f)).length:=by rw [numsOf_length];omega
     have hg:(numsOf (cl C f))[k]=nm C f k:=by
       have:=numsOf_get (cl C f) k (by omega)
       rw [List.getD_eq_getElem?_getD,List.getElem?_eq_getElem hlt] at this
       exact this
     rw [List.drop_eq_getElem_cons hlt,toldFrom,List.map_append,← ih (k+1) (by omega),hg]
     unfold rawBy
     rw [List.filter_cons]
     by_cases h0:nm C f k=0
     · rw [if_neg (by simp [h0]),if_pos h0];rfl
     · rw [if_pos (by simp [h0]),if_neg h0,List.flatMap_cons]
       congr 1
       rw [List.map_cons,← rawBy_take]
       rfl
 have:=key 32 0 (by omega)
 rw [List.drop_zero] at this
 exact this
theorem Vol.state (h:Vol base V N0 E) (hL:R.L=V.C) (hR:R.roots=rsOf N0 E) (hu: ∀ n,n<256→R.used.getD n 0=base6 n+useOf V.C (rsOf N0 E) n):checkR V=stateOf R:=by
 obtain ⟨k1,k2⟩:=h.ok.cnts rfl
 have hlen:=h.sound.len
 have huse:=h.uses
 have hpast: ∀ n,V.C.length≤n→base6 n+useOf V.C (rsOf N0 E) n=0:=fun n hn=>by
   have h6:=h.sound.six
   rw [base6_eq,if_neg (by omega),Nat.zero_add,← occ_allTells h.sound.zero]
   unfold occ
   rw [List.count_eq_zero]
   intro hm
   obtain ⟨x,hx,rfl⟩:=List.mem_map.1 hm
   have:=(h.sound.ok.lo x hx).2.1
   omega
 have e256:256=V.C.length+(256 - V.C.length):=by omega
 have e1:cntTo (usedM (usesOf V)) 256=cntTo (usedB R) V.C.length:=by
   rw [e256]
   refine cntTo_ext _ (fun n hn=> ?_) _ (fun n h1 h2=> ?_)
   · unfold usedM usedB;rw [huse n (by omega),hu n (by omega)]
   · unfold usedM;rw [huse n (by omega),hpast n h1];rfl
 have e2:cntTo (lostM (usesOf V) (cntsOf V.C)) 256=cntTo (lostB R) V.C.length:=by
   rw [e256]
   refine cntTo_ext _ (fun n hn=> ?_) _ (fun n h1 h2=> ?_)
   · unfold lostM lostB;rw [huse n (by omega),hu n (by omega),k2 n (by omega),hL]
   · unfold lostM;rw [k2 n (by omega),h.sound.none n (by omega) h1];simp
 have e3:cntTo (overM (usesOf V) (cntsOf V.C)) 256=cntTo (overB R) V.C.length:=by
   rw [e256]
   refine cntTo_ext _ (fun n hn=> ?_) _ (fun n h1 h2=> ?_)
   · unfold overM overB;rw [huse n (by omega),hu n (by omega),k2 n (by omega),hL]
   · unfold overM;rw [k2 n (by omega),h.sound.none n (by omega) h1];simp
 have hfind: ∀ r ∈ rsOf N0 E,∀ s ∈ toldFrom V.C r.N 2 0,markBad R s.number=false∧markNone R s.number=if lackB (usesOf V) s.number then 1 else 0:=by
   intro r hr s hs
   have hsr:s.number%32768<256∧1≤useOf V.C (rsOf N0 E) (s.number%32768)∧(32768≤s.number→countOf V.C (s.number%32768)=1):=by
     have hs': ∃ j,j<2∧nm V.C r.N j≠0∧(s=⟨r.N,j,nm V.C r.N j⟩∨s ∈ spFrom V.C (nm V.C r.N j%32768) 32 0):=by
       rw [toldFrom,toldFrom,toldFrom,List.append_nil] at hs
       rcases List.mem_append.1 hs with y | y
       · split at y
         · simp at y
         · rename_i h0;exact ⟨0,by omega,h0,List.mem_cons.1 y⟩
       · split at y
         · simp at y
         · rename_i h0;exact ⟨1,by omega,h0,List.mem_cons.1 y⟩
     obtain ⟨j,hj,h0,hd⟩:=hs'
     have hsec:IsSec V.C (rsOf N0 E) (nm V.C r.N j%32768):=⟨r,hr,j,hj,h0,rfl⟩
     rcases hd with rfl | hm
     · have:=(h.sound.sec _ hsec).2
       exact ⟨by show nm V.C r.N j%32768<256;omega,use_sec hsec,fun hmm=>h.sound.mark1 r hr j hj hmm⟩
     · obtain ⟨h1,_,h3,h4,h5⟩:=spFrom_mem _ _ _ _ _ hm
       have hb:IsBlk V.C (rsOf N0 E) (s.number%32768):=⟨_,hsec,s.index,by omega,by rw [← h4];exact h5,by rw [← h4]⟩
       have:=(h.sound.blk _ hb).2
       exact ⟨by omega,use_blk hb,fun hmm=>by rw [h4] at hmm ⊢;exact h.sound.mark2 _ hsec s.index (by omega) hmm⟩
   obtain ⟨g1,g2,g3⟩:=hsr
   have hle:=h.sound.cnt _ g1
   unfold markBad markNone lackB
   rw [hu _ g1,huse _ g1,hL]
   by_cases hm:32768≤s.number
   · have:=g3 hm
     have h1:base6 (s.number%32768)+useOf V.C (rsOf N0 E) (s.number%32768)=1:=by omega
     rw [if_pos hm,if_pos hm,h1,this,decide_eq_true hm]
     exact ⟨rfl,rfl⟩
   · rw [if_neg hm,if_neg hm,decide_eq_false hm]
     refine ⟨rfl,?_⟩
     by_cases h1:base6 (s.number%32768)+useOf V.C (rsOf N0 E) (s.number%32768)=1
     · rw [if_pos h1,decide_eq_true h1];rfl
     · rw [if_neg h1,decide_eq_false h1];rfl
 have e4:lackAll V (usesOf V) (firstsOf V)=unmTo R R.roots.length:=by
   rw [h.firsts,hR]
   have key: ∀ k,k≤(rsOf N0 E).length→lackAll V (usesOf V) (((rsOf N0 E).take k).map (·.N))=unmTo R k:=by
     intro k
     induction k with
     | zero=>intro _;rfl
     | succ k ih=>
       intro hk
       have hlt:k<(rsOf N0 E).length:=by omega
       have hm:(rsOf N0 E)[k] ∈ rsOf N0 E:=List.getElem_mem hlt
       have hro:rootOf R k=(rsOf N0 E)[k]:=by unfold rootOf;rw [hR,List.getD_eq_getElem?_getD,List.getElem?_eq_getElem hlt];rfl
       rw [List.take_succ_eq_append_getElem hlt,List.map_append,List.map_singleton,lackAll_snoc,ih (by omega),unmTo,hro]
       congr 1
       have:=markedOut_lack (R:=R) (usesOf V) ((rsOf N0 E)[k]).N 2 0 0 (by rw [hL];exact hfind _ hm)
       unfold marked
       rw [this,hL,told_rawAll,toldFrom_two (h.sound.zero _ hm),Nat.zero_add]
   have:=key _ (Nat.le_refl _)
   rw [List.take_length] at this
   exact this
 unfold checkR stateOf
 rw [e1,e2,e3,e4,h.file.num4,hL]
end
section
variable {base:List Clus} {V:VolR} {N0:Nat} {E:List EntR}
end
end Go.Proofs.YtknjjjenklfeoaaGreatDoor
namespace Go.Proofs.YtknjjjenklfeoaaGreatDoor
open Go.RowKit
attribute [local go_sem ↓] loadVar_clus storeVar_clus zeroValue_clus equalIn_clus
attribute [local go_sem] run_loadClus run_storeClus run_zeroClus zc_length
theorem keepCluster_any (s:ByteArray) (w:World) (hs:s.size≤maxLen):
   Calls Tryz.prog 27 #[.string s] w fun e w'=>e= .returned (.agg (cv (clusOf s.data.toList)).toArray)∧Below w.heap.size w w':=by
 unfold maxLen at hs
 have hlen:s.data.toList.length=s.size:=by rw [Array.length_toList];rfl
 have Hres:Hid (clusOf s.data.toList=clusTo s.data.toList (min s.size 64)):=by unfold clusOf;rw [hlen];rfl
 have T0:=hide (TwoCl.start w)
 have Hlen:=hide hlen
 clear hlen
 go_enter Tryz.func27,Tryz.ntmps27
 go_wp2
 go_loopw [4] (fun i w'=> ∃ k:Nat,k≤s.size∧k≤64∧i= .int .i64 k∧TwoCl w w' zc (clusTo s.data.toList k)) (fun i _=>64 - (intOf i).toNat)
 case atStart=>exact ⟨0,by omega,by omega,rfl,uh T0⟩
 case round=>
   obtain ⟨k,hk,hk64,rfl,ht⟩:=hrel
   clear T0
   by_cases hlt:k<s.size∧k<64
   · obtain ⟨h1,h2⟩:=hlt
     have hl:=clusTo_length s.data.toList k (by rw [uh Hlen];omega) (by omega)
     have cb:=box_byte ht.two k (by omega)
     have zb:=frozen_blk ht.two k
     have hget:s.data.toList.getD k 0=s[k]:=by
       rw [List.getD_eq_getElem?_getD,List.getElem?_eq_getElem (by rw [uh Hlen];exact h1)];rfl
     have hset:=ht.set k s[k]
     rw [← hget,clusTo_succ _ _ (by rw [uh Hlen];exact h1) h2,hget] at hset
     have HS:=hide hset
     clear ht hset hget hl
     go_wp2
     go_roundw
     case rel=>exact ⟨k+1,by omega,by omega,by go_num,uh HS⟩
     case measure=>simp [intOf];omega
   · have hkm:k=min s.size 64:=by omega
     have hl:=clusTo_length s.data.toList k (by rw [uh Hlen];omega) (by omega)
     rw [← hkm] at Hres
     obtain ⟨b1,b2,b3,b4,b5,b6⟩:=ht.back zc_length hl
     have HB:=hide b6
     clear ht b6 hkm
     generalize clusTo s.data.toList k=c at*
     by_cases h1:k<s.size
     · have h64: ¬ (k:Int)<64:=by omega
       go_wp2
       rw [uh Hres]
       exact bodyPost_ret (v:= .agg (cv c).toArray) (results_cell Tryz.results27 ⟨w.heap.size,0,none⟩ rfl (by rw [loadVar_clus,run_loadClus b4,b5])) rfl ⟨rfl,uh HB⟩
     · go_wp2
       rw [uh Hres]
       exact bodyPost_ret (v:= .agg (cv c).toArray) (results_cell Tryz.results27 ⟨w.heap.size,0,none⟩ rfl (by rw [loadVar_clus,run_loadClus b4,b5])) rfl ⟨rfl,uh HB⟩
def pickN (c:Int):Nat:=((if c<0 then -(c+1) else c)%64).toNat
theorem pickN_lt (c:Int):pickN c<64:=by unfold pickN;split <;> omega
theorem keepPick_any (c:Int) (w:World) (hc: -9223372036854775808≤c∧c≤9223372036854775807):Calls Tryz.prog 25 #[.int .i64 c,.int .i64 64] w fun e w'=>e= .returned (.int .i64 ((pickN c:Nat):Int))∧w'=w:=by
 obtain ⟨hc1,hc2⟩:=hc
 by_cases h0:c<0
 · have d0:decide (c<0)=true:=by simpa using h0
   have w1:IntKind.i64.wrap (c+1)=c+1:=IntWalk.i64_in _ (by omega)
   have w2:IntKind.i64.wrap (-(c+1))= -(c+1):=IntWalk.i64_in _ (by omega)
   have hR:((pickN c:Nat):Int)= -(c+1)%64:=by unfold pickN;rw [if_pos h0];omega
   go_enter Tryz.func25,Tryz.ntmps25
   have hT: -((c+1).tmod 64)= -(c+1)%64:=by rw [← Int.neg_tmod,Int.tmod_eq_emod_of_nonneg (by omega)]
   rw [← hR] at hT
   have HT:=hide hT
   clear hT hR
   go_wp2
   go_ret
   exact ⟨by rw [← uh HT];rfl,rfl⟩
 · have d0:decide (c<0)=false:=by simpa using h0
   have hR:((pickN c:Nat):Int)=c%64:=by unfold pickN;rw [if_neg h0];omega
   go_enter Tryz.func25,Tryz.ntmps25
   have HR:=hide hR
   clear hR
   go_wp2
   go_ret
   exact ⟨by rw [uh HR];rfl,rfl⟩
end Go.Proofs.YtknjjjenklfeoaaGreatDoor
namespace Go.Proofs.YtknjjjenklfeoaaGreatDoor
open Go.RowKit
attribute [local go_sem ↓] loadVar_clus storeVar_clus zeroValue_clus loadVar_op equalIn_clus
attribute [local go_sem] run_loadClus run_storeClus run_zeroClus run_storeClus_new run_loadClus_new zc_length run_loadOp HasAt_drew cellsAt_drew
end Go.Proofs.YtknjjjenklfeoaaGreatDoor
