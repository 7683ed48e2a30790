import Derived.Test.YtknjjjenklfeoaaGreatDoorC37
import Derived.Test.YtknjjjenklfeoaaGreatDoorC03
import Derived.Test.YtknjjjenklfeoaaGreatDoorC29
import Derived.Test.YtknjjjenklfeoaaGreatDoorC09
import Derived.Test.YtknjjjenklfeoaaGreatDoorC36
set_option maxHeartbeats 8000000
set_option maxRecDepth 100000
namespace Go.Proofs.YtknjjjenklfeoaaGreatDoor
section
variable {base:List Clus} {V:VolR} {N0:Nat} {E:List EntR} {s:ByteArray}
theorem Vol.ents (h:Vol base V N0 E):entsOf (cl V.C 5)=pad4 E∧lenOf (entsOf (cl V.C 5))=E.length:=by
 rw [h.file.list,h.file.ents.entsOf]
 exact ⟨rfl,h.file.ents.lenOf⟩
theorem dsk_name (L:List Clus) (k:Nat) (hk:k<E.length):(picAt (dskOf L N0 E).L k).name=((pad4 E).getD k ze).name∧(picAt (dskOf L N0 E).L k).C=contentOf L ((pad4 E).getD k ze).first:=by
 rw [pad4_get k hk]
 unfold picAt
 rw [dskOf_L,List.getD_eq_getElem?_getD,List.getD_eq_getElem?_getD,List.getElem?_map,List.getElem?_eq_getElem hk]
 exact ⟨rfl,rfl⟩
theorem find_same (L:List Clus): ∀ m k,k+m=E.length→refFindFrom (dskOf L N0 E).L s m k=findFrom (pad4 E) s m k
 | 0,_,_=>rfl
 | m+1,k,h=>by
   rw [refFindFrom,findFrom,(dsk_name L k (by omega)).1,find_same L m (k+1) (by omega)]
theorem dsk_len (L:List Clus):(dskOf L N0 E).L.length=E.length:=by rw [dskOf_L,List.length_map]
theorem Vol.find (h:Vol base V N0 E):refFind (dskOf V.C N0 E) s=findE (entsOf (cl V.C 5)) s:=by
 unfold refFind findE
 rw [h.ents.2,h.ents.1,dsk_len]
 exact find_same V.C E.length 0 (by omega)
theorem find_none: ∀ m k,k+m=E.length→findFrom (pad4 E) s m k<0→ ∀ j,k≤j→j<E.length→((pad4 E).getD j ze).name≠s.data.toList
 | 0,k,h,_,j,h1,h2=>by omega
 | m+1,k,h,hf,j,h1,h2=>by
   rw [findFrom] at hf
   split at hf
   · omega
   · rename_i hn
     by_cases e:k=j
     · subst e
       intro he
       exact hn (by rw [he];exact txt_self s)
     · exact find_none m (k+1) (by omega) hf j (by omega) h2
theorem Vol.fresh (h:Vol base V N0 E) (hf:findE (entsOf (cl V.C 5)) s<0):s.data.toList ∉ E.map (·.name):=by
 unfold findE at hf
 rw [h.ents.2,h.ents.1] at hf
 intro hm
 obtain ⟨e,he,e1⟩:=List.mem_map.1 hm
 obtain ⟨j,hj,rfl⟩:=List.getElem_of_mem he
 have:=find_none E.length 0 (by omega) hf j (by omega) hj
 rw [pad4_get j hj,List.getD_eq_getElem?_getD,List.getElem?_eq_getElem hj] at this
 exact this e1
theorem Vol.there (h:Vol base V N0 E):(∃ m,m≠0∧m≠5∧entR V s=(0,m)∧thereR (dskOf V.C N0 E) s=(-1,m))∨ ∃ i,i<E.length∧entR V s=(((i:Nat):Int),0)∧thereR (dskOf V.C N0 E) s=(((i:Nat):Int),0)∧refFind (dskOf V.C N0 E) s=(i:Int):=by
 unfold thereR entR
 rw [h.find]
 by_cases hn:isNameB s.data.toList=false
 · rw [if_pos hn,if_pos hn]
   exact Or.inl ⟨2,by decide,by decide,rfl,rfl⟩
 · rw [if_neg hn,if_neg hn]
   by_cases hf:findE (entsOf (cl V.C 5)) s<0
   · rw [if_pos hf,if_pos hf]
     exact Or.inl ⟨4,by decide,by decide,rfl,rfl⟩
   · rw [if_neg hf,if_neg hf]
     obtain ⟨i,_,h2,h3⟩:=findFrom_some (entsOf (cl V.C 5)) s (lenOf (entsOf (cl V.C 5))) 0 (by unfold findE at hf;omega)
     have h4:findE (entsOf (cl V.C 5)) s=(i:Int):=h3
     rw [h4]
     exact Or.inr ⟨i,by rw [h.ents.2] at h2;omega,rfl,rfl,rfl⟩
theorem pad4_snoc (e:EntR) (h:E.length<4):(pad4 E).set E.length e=pad4 (E++[e]):=by
 unfold pad4
 rw [List.set_append_right _ _ (Nat.le_refl _),Nat.sub_self,show 4 - E.length=(4 - (E++[e]).length)+1 by simp;omega,List.replicate_succ,List.set_cons_zero,List.append_assoc]
 rfl
theorem pad4_less (i:Nat) (hi:i<E.length) (h4:E.length≤4):lessE (pad4 E) i=pad4 (E.eraseIdx i):=by
 unfold lessE pad4
 rw [List.eraseIdx_append_of_lt_length hi,List.append_assoc]
 congr 1
 have:(E.eraseIdx i).length=E.length - 1:=by rw [List.length_eraseIdx,if_pos hi]
 rw [this,show 4 - (E.length - 1)=(4 - E.length)+1 by omega,List.replicate_succ']
theorem roomFrom_iff (L:List Clus) (M:List Nat): ∀ m n,roomFrom L M m n=true↔ ∀ j,n≤j→j<n+m→countOf L j+M.getD j 0≤254
 | 0,n=>by simp [roomFrom];intro j h1 h2;omega
 | m+1,n=>by
   rw [roomFrom]
   by_cases hg:254<countOf L n+M.getD n 0
   · rw [if_pos hg]
     constructor
     · intro h;cases h
     · intro h;have:=h n (by omega) (by omega);omega
   · rw [if_neg hg,roomFrom_iff L M m (n+1)]
     constructor
     · intro h j h1 h2
       by_cases e:n=j
       · subst e;omega
       · exact h j (by omega) (by omega)
     · intro h j h1 h2;exact h j (by omega) (by omega)
theorem bump_get (M:List Nat) (n m:Nat) (hn:n<M.length):(bump M n).getD m 0=M.getD m 0+if n=m then 1 else 0:=by
 unfold bump
 rw [List.getD_eq_getElem?_getD,List.getElem?_set]
 by_cases e:n=m
 · subst e
   rw [if_pos rfl,if_pos hn,if_pos rfl,Option.getD_some]
 · rw [if_neg e,if_neg e,List.getD_eq_getElem?_getD];rfl
theorem sumFrom_last (f:Nat→Nat): ∀ m k,sumFrom f (m+1) k=sumFrom f m k+f (k+m)
 | 0,k=>by simp [sumFrom]
 | m+1,k=>by
   rw [sumFrom,sumFrom_last f m (k+1),sumFrom,show k+1+m=k+(m+1) by omega]
   omega
theorem moreIn_get (L:List Clus) (t:Nat) (M:List Nat) (hM:M.length=256) (n:Nat): ∀ k,k≤32→(∀ q,q<k→nm L t q≠0→nm L t q%32768<256)→(moreIn L t M k).getD n 0=M.getD n 0+sumFrom (fun q=>hit (nm L t q) n) k 0
 | 0,_,_=>by simp [moreIn,sumFrom]
 | k+1,hk,hq=>by
   have ih:=moreIn_get L t M hM n k (by omega) (fun q h=>hq q (by omega))
   rw [moreIn,sumFrom_last]
   by_cases h0:num (cl L t) (2*k)=0
   · rw [if_pos h0,ih]
     have:hit (nm L t (0+k)) n=0:=by rw [Nat.zero_add];unfold nm;rw [h0,hit_zero]
     rw [this];omega
   · rw [if_neg h0,bump_get _ _ _ (by rw [moreIn_length,hM];exact hq k (by omega) h0),ih]
     have:hit (nm L t (0+k)) n=if num (cl L t) (2*k)%32768=n then 1 else 0:=by
       rw [Nat.zero_add]
       by_cases e:num (cl L t) (2*k)%32768=n
       · rw [if_pos e];exact hit_one h0 e
       · rw [if_neg e];unfold hit;rw [if_neg (fun z=>e z.2)]
     rw [this];omega
theorem SoundL.more {L:List Clus} {rs:List RootR} (h:SoundL L rs) {r:RootR} (hr:r ∈ rs) (n:Nat):(moreOut L r.N 2).getD n 0=secOcc L r.N 0 n+secOcc L r.N 1 n:=by
 have hlen:=h.len
 have step: ∀ i,i<2→(moreOut L r.N (i+1)).getD n 0=(moreOut L r.N i).getD n 0+secOcc L r.N i n:=by
   intro i hi
   rw [moreOut]
   unfold secOcc
   by_cases h0:num (cl L r.N) (2*i)=0
   · rw [if_pos h0,if_pos h0];rfl
   · rw [if_neg h0,if_neg h0]
     have hsec:IsSec L rs (nm L r.N i%32768):=⟨r,hr,i,hi,h0,rfl⟩
     have hs:=h.sec _ hsec
     have hs':num (cl L r.N) (2*i)%32768<256:=Nat.lt_of_lt_of_le hs.2 hlen
     rw [moreIn_get L _ _ (by rw [bump_length];exact moreOut_length L r.N i) n 32 (Nat.le_refl _) (fun q hq h1=>Nat.lt_of_lt_of_le (h.num_in (Or.inr hsec) q hq h1).2 hlen),bump_get _ _ _ (by rw [moreOut_length];exact hs')]
     have:hit (nm L r.N i) n=if num (cl L r.N) (2*i)%32768=n then 1 else 0:=by
       by_cases e:num (cl L r.N) (2*i)%32768=n
       · rw [if_pos e];exact hit_one h0 e
       · rw [if_neg e];unfold hit;rw [if_neg (fun z=>e z.2)]
     rw [this]
     unfold inOcc
     exact Nat.add_assoc _ _ _
 rw [step 1 (by omega),step 0 (by omega)]
 have:(moreOut L r.N 0).getD n 0=0:=by have:=zI_most n;show zI.getD n 0=0;omega
 omega
theorem Vol.room (h:Vol base V N0 E) {f:Nat} (hf:f ∈ (rsOf N0 E).map (·.N)):roomR V.C f=true↔(0<(lowFree (cntsOf V.C) 1).length∧fitsB (cntsOf V.C) (toldAll V.C f)=true):=by
 obtain ⟨r,hr,rfl⟩:=List.mem_map.1 hf
 obtain ⟨k1,k2⟩:=h.ok.cnts rfl
 have hlen:=h.sound.len
 have hin: ∀ u ∈ toldAll V.C r.N,u<V.C.length:=fun u hu=>(h.sound.held_lt hr u (List.mem_cons.2 (Or.inr hu))).2
 have hfree:0<freeOf V.C↔0<(lowFree (cntsOf V.C) 1).length:=by
   constructor
   · intro hp
     by_cases hl:0<(lowFree (cntsOf V.C) 1).length
     · exact hl
     · have:=free_few h.sound h.file.lens 1 (by omega);omega
   · intro hl
     obtain ⟨n,_,hn,h0⟩:=lowFree_one hl
     rw [h.sound.free_all h.file.lens]
     have key: ∀ k,n<k→0<cntTo (fun m=>byteAt (cntsOf V.C) m == 0) k:=by
       intro k
       induction k with
       | zero=>intro h;omega
       | succ k ih=>
         intro hk
         rw [cntTo]
         by_cases e:n=k
         · subst e;rw [if_pos (by simp [h0])];omega
         · have:=ih (by omega);omega
     exact key 256 hn
 unfold roomR
 rw [Bool.and_eq_true,decide_eq_true_iff,hfree,roomFrom_iff,fits_iff _ _ (fun u hu=>by rw [k1];have:=hin u hu;omega)]
 constructor
 · rintro ⟨h1,h2⟩
   refine ⟨h2,fun u hu=> ?_⟩
   have h3:=h1 u (by omega) (by have:=hin u hu;omega)
   rw [h.sound.more hr,← count_told (h.sound.zero r hr)] at h3
   rw [k2 u (by have:=hin u hu;omega)]
   exact h3
 · rintro ⟨h1,h2⟩
   refine ⟨fun j _ hj=> ?_,h1⟩
   rw [h.sound.more hr,← count_told (h.sound.zero r hr)]
   by_cases hm:j ∈ toldAll V.C r.N
   · have:=h2 j hm
     rw [k2 j (by omega)] at this
     exact this
   · rw [List.count_eq_zero.2 hm]
     have:=h.sound.top j (by omega)
     omega
end
section
variable {base:List Clus} {V:VolR} {N0:Nat} {E:List EntR} {s:ByteArray} {f n i:Nat}
theorem Vol.copy_lenL (h:Vol base V N0 E) (hf:f ∈ (rsOf N0 E).map (·.N)) (hn:n<256) (h0:countOf V.C n=0) (hfit:fitsB (cntsOf V.C) (toldAll V.C f)=true):(copyV V f n).L.length≤V.L.length+21∧V.L.length≤(copyV V f n).L.length:=by
 obtain ⟨e1,_⟩:=h.copyA hf hn
 obtain ⟨e2,_⟩:=h.copied hf hn h0 hfit
 have hp:=(puts_copy V f n).lenL
 have l1:=lengthenV_lenL' V [n]
 obtain ⟨_,_,_,a4,_⟩:=h.longer [n] (by rw [lastOf_one];exact hn)
 obtain ⟨r,hr,rfl⟩:=List.mem_map.1 hf
 have h6:=h.sound.fst r hr
 have l2:=epoch_lenL (lengthenV V [n]) (bareList (lengthenV V [n]).C r.N)
 have l3:(bareList (lengthenV V [n]).C r.N).length≤3:=by
   unfold bareList
   rw [a4 r.N (by omega),List.length_map,List.length_cons]
   have:=toldBy_few (cl V.C r.N) (fun i h1 h2=>h.sound.zero r hr i h1 h2)
   omega
 rw [← e1] at l2
 have l4:=epoch_lenL (copy1 V r.N n) (cntPuts (copyCnt V.C r.N n)++[(n,cl (copy1 V r.N n).C r.N)])
 rw [← e2] at l4
 have l5:(cntPuts (copyCnt V.C r.N n)++[(n,cl (copy1 V r.N n).C r.N)]).length=5:=rfl
 omega
theorem Vol.num6 (h:Vol base V N0 E):num (cl V.C 0) 6=N0:=h.file.num6
theorem Vol.roots0 (_h:Vol base V N0 E):N0 ∈ (rsOf N0 E).map (·.N):=by simp [rsOf]
theorem Vol.rootsE (_h:Vol base V N0 E) (hi:i<E.length):(E.getD i ze).first ∈ (rsOf N0 E).map (·.N):=by
 have hg:(E.getD i ze)=E[i]:=by rw [List.getD_eq_getElem?_getD,List.getElem?_eq_getElem hi];rfl
 rw [hg]
 exact List.mem_map.2 ⟨rootE E[i],rsOf_mem.2 (Or.inr ⟨_,List.getElem_mem hi,rfl⟩),rfl⟩
theorem Vol.firstE (h:Vol base V N0 E) (hi:i<E.length) (he:entR V s=(((i:Nat):Int),0)):firstE V s=(E.getD i ze).first:=by
 unfold Go.Proofs.YtknjjjenklfeoaaGreatDoor.firstE
 rw [he,h.ents.1]
 show ((pad4 E).getD i ze).first=_
 rw [pad4_get i hi]
theorem Vol.copyR_yes (h:Vol base V N0 E) (hf:f ∈ (rsOf N0 E).map (·.N)) (hr:roomR V.C f=true): ∃ n,n<256∧countOf V.C n=0∧fitsB (cntsOf V.C) (toldAll V.C f)=true∧copyR V f=(copyV V f n,n,0):=by
 obtain ⟨h1,h2⟩:=(h.room hf).1 hr
 obtain ⟨n,hn,hlt,h0⟩:=lowFree_one h1
 obtain ⟨k1,k2⟩:=h.ok.cnts rfl
 refine ⟨n,hlt,by rw [← k2 n hlt];exact h0,h2,?_⟩
 unfold copyR
 rw [if_pos ⟨h1,h2⟩,hn,List.getD_cons_zero]
theorem Vol.copyR_no (h:Vol base V N0 E) (hf:f ∈ (rsOf N0 E).map (·.N)) (hr:roomR V.C f=false):copyR V f=(V,0,5):=by
 unfold copyR
 rw [if_neg (fun x=>by rw [(h.room hf).2 x] at hr;cases hr)]
theorem Vol.takeCases (h:Vol base V N0 E) (s:ByteArray):
   (∃ c,c≠0∧takeR V s=(V,c)∧refTakeR (dskOf V.C N0 E) s=(dskOf V.C N0 E,c))∨
     ((refTakeR (dskOf V.C N0 E) s).2=0∧roomR V.C N0=false∧takeR V s=(V,5))∨
     ((refTakeR (dskOf V.C N0 E) s).2=0∧roomR V.C N0=true∧(takeR V s).2=0∧(takeR V s).1.L.length≤V.L.length+100∧V.L.length≤(takeR V s).1.L.length∧ ∃ E',Came base V N0 E (takeR V s).1 N0 E' (refTakeR (dskOf V.C N0 E) s).1):=by
 have h4:=h.file.ents.len
 unfold takeR refTakeR
 rw [h.find,dsk_len,h.ents.2,h.ents.1,h.num6]
 by_cases hnm:isNameB s.data.toList=false
 · rw [if_pos hnm,if_pos hnm]
   exact Or.inl ⟨2,by decide,rfl,rfl⟩
 rw [if_neg hnm,if_neg hnm]
 have hnt:isNameB s.data.toList=true:=by cases e:isNameB s.data.toList;exact absurd e hnm;rfl
 by_cases hf:0≤findE (pad4 E) s
 · rw [if_pos hf,if_pos hf]
   exact Or.inl ⟨3,by decide,rfl,rfl⟩
 rw [if_neg hf,if_neg hf]
 by_cases hl:E.length=4
 · rw [if_pos hl,if_pos (show 4≤E.length by omega)]
   exact Or.inl ⟨5,by decide,rfl,rfl⟩
 rw [if_neg hl,if_neg (show ¬ 4≤E.length by omega)]
 right
 cases hr:roomR V.C N0 with
 | false=>
   left
   rw [h.copyR_no h.roots0 hr]
   exact ⟨rfl,rfl,rfl⟩
 | true=>
   right
   obtain ⟨n,hn,h0,hfit,e⟩:=h.copyR_yes h.roots0 hr
   have hnew:=h.fresh (s:=s) (by rw [h.ents.1];omega)
   have h6:=h.sound.free_six hn h0
   have hE':=h.file.ents.snoc hnt hnew (by omega) (show n≠0 by omega) (by omega)
   obtain ⟨t1,t2⟩:=h.take hnt hnew (by omega) hn h0 hfit
   have l1:=h.copy_lenL h.roots0 hn h0 hfit
   have l2:=epoch_lenL (copyV V N0 n) [(5,listBytes (E++[⟨s.data.toList,n⟩]))]
   rw [← t1] at l2
   have l3:=(puts_epoch (Puts.refl (copyV V N0 n)) [(5,listBytes (E++[⟨s.data.toList,n⟩]))]).lenL
   rw [← t1] at l3
   simp only [List.length_cons,List.length_nil] at l2
   have e2:flushV (putV (copyV V N0 n) 5 (listTo ((pad4 E).set E.length ⟨s.data.toList,n⟩) 4))=takeV V N0 n (E++[⟨s.data.toList,n⟩]):=by
     rw [pad4_snoc _ (by omega),hE'.clus]
     rfl
   rw [e,if_pos rfl]
   dsimp only
   rw [e2]
   generalize takeV V N0 n (E++[⟨s.data.toList,n⟩])=W at*
   refine ⟨rfl,rfl,rfl,by omega,by omega,E++[⟨s.data.toList,n⟩],t2.vol,?_,t2.exact⟩
   rw [t2.holds]
   rfl
theorem Ok.goes {W:VolR} {T N1:Nat} {E1:List EntR} {D:DiskR} (ok:Ok W.C T N1 E1 D) (hT:W.C.length=T) (hs:SoundL W.C (rsOf N0 E)) (hf:f ∈ (rsOf N0 E).map (·.N)) (hl:Lets W N1 E1 (heldAll W.C f)):Goes W f:=by
 refine ⟨hs.len,hs.firstOK hf,fun g hg=> ?_⟩
 obtain ⟨o1,o2,_⟩:=ok.letGo1 hT hl
 have s1:=o1.sound
 rw [padTo_self o2] at s1
 rw [o1.firsts] at hg
 exact s1.firstOK hg
theorem Vol.dropW (h:Vol base V N0 E) (hi:i<E.length):dropW V i=dropH V (E.eraseIdx i):=by
 unfold Go.Proofs.YtknjjjenklfeoaaGreatDoor.dropW
 rw [h.ents.1,pad4_less i hi h.file.ents.len,(h.file.ents.erase i).clus]
 rfl
theorem Vol.dropGoes (h:Vol base V N0 E) (he:(entR V s).2=0):Goes (Go.Proofs.YtknjjjenklfeoaaGreatDoor.dropW V (entR V s).1.toNat) (Go.Proofs.YtknjjjenklfeoaaGreatDoor.firstE V s):=by
 rcases h.there (s:=s) with ⟨m,hm,_,e,_⟩ | ⟨i,hi,e,_⟩
 · rw [e] at he;exact absurd he hm
 · rw [h.firstE hi e,e]
   show Goes (Go.Proofs.YtknjjjenklfeoaaGreatDoor.dropW V i) _
   rw [h.dropW hi]
   obtain ⟨_,d2,d3,d4,d5,_⟩:=h.drop hi
   exact d2.goes d3 d4 (h.rootsE hi) d5
theorem Vol.dropCases (h:Vol base V N0 E) (s:ByteArray):
   (∃ c,c≠0∧dropR V s=(V,c)∧refDropR (dskOf V.C N0 E) s=(dskOf V.C N0 E,c))∨
     ((refDropR (dskOf V.C N0 E) s).2=0∧(dropR V s).2=0∧(dropR V s).1.L.length≤V.L.length+100∧V.L.length≤(dropR V s).1.L.length∧ ∃ E',Came base V N0 E (dropR V s).1 N0 E' (refDropR (dskOf V.C N0 E) s).1):=by
 unfold dropR refDropR
 rcases h.there (s:=s) with ⟨m,hm,_,e1,e2⟩ | ⟨i,hi,e1,e2,_⟩
 · left
   refine ⟨m,hm,?_,?_⟩
   · rw [e1,if_neg hm]
   · rw [e2,if_neg hm]
 · right
   have hfe:=h.firstE hi e1
   rw [hfe,e1,e2]
   dsimp only
   rw [if_pos rfl,if_pos rfl,Int.toNat_natCast,h.dropW hi]
   obtain ⟨d1,d2,d3,d4,d5,d6⟩:=h.drop hi
   have l1:=epoch_lenL V [(5,listBytes (E.eraseIdx i))]
   rw [← d1] at l1
   simp only [List.length_cons,List.length_nil] at l1
   have l2:=d2.letGo_lenL d3 d5
   have l3:=(puts_letGo (puts_epoch (Puts.refl V) [(5,listBytes (E.eraseIdx i))]) (heldAll (dropH V (E.eraseIdx i)).C (E.getD i ze).first)).lenL
   rw [← d1] at l3
   generalize dropH V (E.eraseIdx i)=W at*
   generalize letGoV W (heldAll W.C (E.getD i ze).first)=W2 at*
   refine ⟨rfl,rfl,by dsimp only;omega,l3,E.eraseIdx i,d6.vol,?_,d6.exact⟩
   rw [d6.holds]
   rfl
theorem Vol.returnHyps (h:Vol base V N0 E) (he:(entR V s).2=0):FirstOK V (Go.Proofs.YtknjjjenklfeoaaGreatDoor.firstE V s)∧((copyR V (Go.Proofs.YtknjjjenklfeoaaGreatDoor.firstE V s)).2.2=0→Goes (retW (copyR V (Go.Proofs.YtknjjjenklfeoaaGreatDoor.firstE V s)).1 (copyR V (Go.Proofs.YtknjjjenklfeoaaGreatDoor.firstE V s)).2.1) (num (cl (copyR V (Go.Proofs.YtknjjjenklfeoaaGreatDoor.firstE V s)).1.C 0) 6)):=by
 rcases h.there (s:=s) with ⟨m,hm,_,e,_⟩ | ⟨i,hi,e,_⟩
 · rw [e] at he;exact absurd he hm
 · rw [h.firstE hi e]
   refine ⟨h.sound.firstOK (h.rootsE hi),fun hc=> ?_⟩
   cases hr:roomR V.C (E.getD i ze).first with
   | false=>rw [h.copyR_no (h.rootsE hi) hr] at hc;cases hc
   | true=>
     obtain ⟨n,hn,h0,hfit,e2⟩:=h.copyR_yes (h.rootsE hi) hr
     obtain ⟨_,_,o1,_⟩:=h.copied (h.rootsE hi) hn h0 hfit
     obtain ⟨_,d2,d3,d4,d5,_⟩:=h.ret hi hn h0 hfit
     rw [e2]
     dsimp only
     rw [o1.file.num6]
     exact d2.goes d3 d4 h.roots0 d5
theorem Vol.returnCases (h:Vol base V N0 E) (s:ByteArray):
   (∃ c,c≠0∧returnR V s=(V,c)∧refReturnR (dskOf V.C N0 E) s=(dskOf V.C N0 E,c))∨
     ((refReturnR (dskOf V.C N0 E) s).2=0∧ ∃ i,i<E.length∧refFind (dskOf V.C N0 E) s=(i:Int)∧((roomR V.C (E.getD i ze).first=false∧returnR V s=(V,5))∨
       (roomR V.C (E.getD i ze).first=true∧(returnR V s).2=0∧(returnR V s).1.L.length≤V.L.length+100∧V.L.length≤(returnR V s).1.L.length∧ ∃ N1,Came base V N0 E (returnR V s).1 N1 E (refReturnR (dskOf V.C N0 E) s).1))):=by
 unfold returnR refReturnR
 rcases h.there (s:=s) with ⟨m,hm,_,e1,e2⟩ | ⟨i,hi,e1,e2,e3⟩
 · left
   refine ⟨m,hm,?_,?_⟩
   · rw [e1,if_neg hm]
   · rw [e2,if_neg hm]
 · right
   have hfe:=h.firstE hi e1
   rw [hfe,e1,e2]
   dsimp only
   rw [if_pos rfl,if_pos rfl,Int.toNat_natCast]
   refine ⟨rfl,i,hi,e3,?_⟩
   cases hr:roomR V.C (E.getD i ze).first with
   | false=>
     left
     rw [h.copyR_no (h.rootsE hi) hr]
     exact ⟨rfl,rfl⟩
   | true=>
     right
     obtain ⟨n,hn,h0,hfit,e4⟩:=h.copyR_yes (h.rootsE hi) hr
     obtain ⟨_,_,o1,_⟩:=h.copied (h.rootsE hi) hn h0 hfit
     obtain ⟨d1,d2,d3,d4,d5,d6⟩:=h.ret hi hn h0 hfit
     have hpic:(picAt (dskOf V.C N0 E).L i).C=(retD (dskOf V.C N0 E) i).C:=by
       show _=((dskOf V.C N0 E).L.getD i ⟨[],[]⟩).C
       unfold picAt
       have hil:i<(dskOf V.C N0 E).L.length:=by rw [dsk_len];exact hi
       rw [List.getD_eq_getElem?_getD,List.getD_eq_getElem?_getD,List.getElem?_eq_getElem hil]
       rfl
     have l0:=h.copy_lenL (h.rootsE hi) hn h0 hfit
     have l1:=epoch_lenL (copyV V (E.getD i ze).first n) [(0,headBytes (lenTo V.C [n]) n)]
     rw [← d1] at l1
     simp only [List.length_cons,List.length_nil] at l1
     have l2:=d2.letGo_lenL d3 d5
     have l3:=(puts_letGo (puts_epoch (puts_copy V (E.getD i ze).first n) [(0,headBytes (lenTo V.C [n]) n)]) (heldAll (retH V (E.getD i ze).first n).C N0)).lenL
     rw [← d1] at l3
     rw [e4]
     dsimp only
     rw [if_pos rfl,o1.file.num6]
     dsimp only
     have e5:retW (copyV V (E.getD i ze).first n) n=retH V (E.getD i ze).first n:=rfl
     rw [e5]
     generalize retH V (E.getD i ze).first n=W at*
     generalize letGoV W (heldAll W.C N0)=W2 at*
     refine ⟨rfl,rfl,by omega,l3,n,d6.vol,?_,d6.exact⟩
     rw [d6.holds,hpic]
     rfl
end
end Go.Proofs.YtknjjjenklfeoaaGreatDoor
namespace Go.Proofs.YtknjjjenklfeoaaGreatDoor
open Go.RowKit
section
variable {w:World} {p:Nat} {P:PairR} {S:Nat→Prop}
theorem PairAt.newRef {z:Nat} {D1:DiskR} {Qv:Value} (h:PairAt w p P S) (hr:DiskAt w z Qv D1) (hz: ¬ S z):
   PairAt (w.setCell ⟨p,1,none⟩ (.pointer (some ⟨z,0,none⟩))) p { P with y:=z,D:=D1,Pv:=Qv } (fun k=>(S k∨k=z)∨Qv.ownBlock=some k):=by
 have hk:=Kept.only w p 1 (.pointer (some ⟨z,0,none⟩))
 have key: ∀ {k:Nat} {cs:Array Value} {t:TypeId} {fr:Nat × Nat},w.heap[k]? = some (.cells cs t fr)→t≠107→k≠p:=by
   intro k cs t fr hb h1 e
   subst e
   exact h1 (blk_type hb h.blk)
 have keyR: ∀ {base:Nat} {e:TypeId} {size:Nat} {v:Value} {n:Nat} {xs:List Value},w.ownsRow base e size v n xs→e≠107→ ∀ g,v.ownBlock=some g→g≠p:=by
   intro base e size v n xs hr' h1 g hg
   obtain ⟨cs,fr,hb⟩:=row_blk hr' hg
   exact key hb h1
 refine ⟨?_,h.dsk.kept hk ?_,hr.kept hk (key hr.blk (by decide)) (keyR hr.row (by decide)),h.rowB.kept hk (keyR h.rowB.row (by decide)),ownsRow_kept hk h.rowM (keyR h.rowM (by decide)),fun m hm=>(h.eM m hm).kept hk (key (h.eM m hm).blk (by decide)) (keyR (h.eM m hm).row (by decide)),fun m hm e=>hz ((show m.d=z from e) ▸ (h.inM m hm).1),h.apB,Or.inl (Or.inl h.inP),fun k hk'=>Or.inl (Or.inl (h.inD k hk')),Or.inl (Or.inr rfl),?_,fun m hm=>⟨Or.inl (Or.inl (h.inM m hm).1),fun g hg=>Or.inl (Or.inl ((h.inM m hm).2 g hg))⟩,?_⟩
 · rw [heap_setCell_same _ _ _ _ _ _ _ h.blk];rfl
 · rintro k (e | e | e | e)
   · rw [e];exact key h.dsk.blk (by decide)
   · rw [e];exact key h.dsk.vol.blk (by decide)
   · exact keyR h.dsk.vol.rowC (by decide) k e
   · exact keyR h.dsk.vol.rowL (by decide) k e
 · rintro g (e | e | e)
   · exact Or.inr e
   · exact Or.inl (Or.inl (h.inV g (Or.inr (Or.inl e))))
   · exact Or.inl (Or.inl (h.inV g (Or.inr (Or.inr e))))
 · rintro k ((e | e) | e)
   · exact Nat.lt_of_lt_of_le (h.lt k e) hk.size
   · rw [e];exact Nat.lt_of_lt_of_le hr.lt hk.size
   · exact Nat.lt_of_lt_of_le (hr.row.lt k e).2 hk.size
theorem Went.newRef {w5:World} {P1:PairR} {S1:Nat→Prop} {z:Nat} {D1:DiskR} {Qv:Value} (h:PairAt w p P S) (h5:Went w w5 p P S P1 S1) (hr:DiskAt w5 z Qv D1) (hz0:w.heap.size≤z) (hz: ¬ S1 z) (hQ: ∀ g,Qv.ownBlock=some g→w.heap.size≤g):
   Went w (w5.setCell ⟨p,1,none⟩ (.pointer (some ⟨z,0,none⟩))) p P S { P1 with y:=z,D:=D1,Pv:=Qv } (fun k=>(S1 k∨k=z)∨Qv.ownBlock=some k):=by
 refine ⟨h5.at'.newRef hr hz,h5.base,h5.marks,h5.ex,h5.log,h5.logp,h5.kept.trans ((Kept.only w5 p 1 _).mono fun k e=>by rw [e];exact h.inP),?_⟩
 rintro k ((e | e) | e)
 · exact h5.new k e
 · rw [e];exact Or.inr hz0
 · exact Or.inr (hQ k e)
theorem Went.below {w5 w6:World} {P1:PairR} {S1:Nat→Prop} (h5:Went w w5 p P S P1 S1) (hb:Below w5.heap.size w5 w6):Went w w6 p P S P1 S1:=
 ⟨h5.at'.below hb,h5.base,h5.marks,h5.ex,h5.log,h5.logp,h5.kept.trans (Kept.of_below hb),h5.new⟩
theorem Went.other {w3 w4 w5:World} {z:Nat} {Qv C1 L1:Value} {V':VolR} (h:PairAt w p P S) (hb:Below w.heap.size w w3) (hs:VStep w3 w4 P.v P.Cv P.Lv C1 L1 V') (hk:Kept (fun x=>x=z∨Qv.ownBlock=some x) w4 w5)
   (hz:w.heap.size≤z∧z<w3.heap.size) (hQ: ∀ g,Qv.ownBlock=some g→w.heap.size≤g∧g<w3.heap.size) (hl:V'.L.length≤P.V.L.length+100) (hm:P.V.L.length≤V'.L.length):
   Went w w5 p P S { P with Cv:=C1,Lv:=L1,V:=V' } (fun k=>S k∨foot P.v C1 L1 k):=by
 have h3:=h.below hb
 have h4:=h3.step hs
 have hne: ∀ k,(S k∨foot P.v C1 L1 k)→ ¬ (k=z∨Qv.ownBlock=some k):=fun k hk' x=>by
   rcases h3.step_new hs k hk' with y | y
   · have hlt:=h.lt k y
     rcases x with x | x
     · omega
     · have:=(hQ k x).1;omega
   · rcases x with x | x
     · omega
     · have:=(hQ k x).2;omega
 refine ⟨h4.kept hk hne,rfl,rfl,rfl,hl,fun h0=>Nat.lt_of_lt_of_le h0 hm,?_,fun k hk'=> ?_⟩
 · have hkS:Kept S w w4:=(Kept.of_below hb).trans (h3.step_kept hs)
   refine ⟨hk.os.trans hkS.os,hk.tape.trans hkS.tape,hk.output.trans hkS.output,Nat.le_trans hkS.size hk.size,fun k hk' hn=> ?_⟩
   rw [hk.block k (Nat.lt_of_lt_of_le hk' hkS.size) (fun x=>by
     rcases x with x | x
     · omega
     · have:=(hQ k x).1;omega)]
   exact hkS.block k hk' hn
 · rcases h3.step_new hs k hk' with y | y
   · exact Or.inl y
   · have:=hb.size;exact Or.inr (by omega)
end
theorem Tryz.infoSlS:(Tryz.prog.info? 34).map (fun i=>(i.zero,i.size,i.bytes))=some (some (.slice none 0 0),1,24):=by kernel_rfl
theorem keep_rowN {w W:World} {b:Nat} {V:BookV} {B:BookR} {S:Nat→Prop} (h:BookAt w b V B S) (hk:Kept (fun k=>k=b∨V.n.ownBlock=some k∨V.nm.ownBlock=some k) w W) {base:Nat} {e:TypeId} {size:Nat} {v:Value} {n:Nat} {xs:List Value}
   (hr:w.ownsRow base e size v n xs) (h1:e≠77) (h2:e≠34) (h3: ∀ g,v.ownBlock=some g→V.nm.ownBlock≠some g):W.ownsRow base e size v n xs:=
 ownsRow_kept hk hr fun g hg x=>by
   rcases x with x | x | x
   · exact row_ne hr h.blk h1 g hg x
   · exact rows_ne hr h.rN h2 g hg x
   · exact h3 g hg x
theorem more_of4 {α:Type} {l:List α} {a b c d x:α} {f:α→Nat} {n:Nat} (hx:x ∈ l++[a,b,c,d]) (ha:f a≤n) (hb:f b≤n) (hc:f c≤n) (hd:f d≤n):x ∈ l∨f x≤n:=by
 rcases List.mem_append.1 hx with y | y
 · exact Or.inl y
 · simp only [List.mem_cons,List.not_mem_nil,or_false] at y
   rcases y with rfl | rfl | rfl | rfl
   · exact Or.inr ha
   · exact Or.inr hb
   · exact Or.inr hc
   · exact Or.inr hd
abbrev reps (N:Nat) (s:ByteArray):List Value:=List.replicate N (.string s)
theorem ownsNames_end {w w6 w7 w8:World} {b:Nat} {V:BookV} {B:BookR} {S:Nat→Prop} {lv one two three:Value} {N g7 cap7 g8 cap8:Nat} {m:ByteArray} {X7 X8:Obj} (hS: ∀ k,S k→k<w.heap.size) (hne: ∀ g,lv.ownBlock=some g→ ¬ S g)
   (h:BookAt w6 b V B S) (hl:w6.ownsRow 0 9 1 lv N (reps N m)) (h1:w6.ownsRow 0 9 1 one (N+1) (reps (N+1) m)) (h2:w6.ownsRow 0 9 1 two (N+2) (reps (N+2) m)) (h3:w6.ownsRow 0 9 1 three (N+3) (reps (N+3) m))
   (o1: ∀ g,one.ownBlock=some g→lv.ownBlock=some g∨w.heap.size≤g) (o2: ∀ g,two.ownBlock=some g→lv.ownBlock=some g∨w.heap.size≤g) (o3: ∀ g,three.ownBlock=some g→lv.ownBlock=some g∨w.heap.size≤g)
   (hK:Kept (fun k=>S k∨lv.ownBlock=some k) w w6)
   (hg7:(w6.alloc X7).grownBy w7 V.n.ownBlock) (r7:w7.ownsRow 0 34 1 (.slice (some ⟨g7,0,none⟩) (B.names.length+4) cap7) (B.names.length+4) (B.names.map (·.v)++[lv,one,two,three])) (a7:V.n.ownBlock=some g7∨g7=w6.heap.size+1)
   (hg8:((w7.setCell ⟨b,0,none⟩ (.slice (some ⟨g7,0,none⟩) (B.names.length+4) cap7)).alloc X8).grownBy w8 V.nm.ownBlock)
   (r8:w8.ownsRow 0 9 1 (.slice (some ⟨g8,0,none⟩) (B.names.length+4) cap8) (B.names.length+4) ((B.names.map fun x=> .string x.s)++[.string m,.string m,.string m,.string m])) (a8:V.nm.ownBlock=some g8∨g8=w7.heap.size+1)
   (b8:w8.heap[b]? = some (.cells (bookCells { V with n:= .slice (some ⟨g7,0,none⟩) (B.names.length+4) cap7 } B.next).toArray 77 (0,0))):
   ∃ V' B' S',BookAt (w8.setCell ⟨b,1,none⟩ (.slice (some ⟨g8,0,none⟩) (B.names.length+4) cap8)) b V' B' S'∧B'.next=B.next∧B'.names.length=B.names.length+4∧B'.writes=B.writes∧B'.files=B.files∧(∀ x ∈ B'.names,x ∈ B.names∨x.n≤N+3)∧
     Kept (fun k=>S k∨lv.ownBlock=some k) w (w8.setCell ⟨b,1,none⟩ (.slice (some ⟨g8,0,none⟩) (B.names.length+4) cap8))∧(∀ k,S' k→S k∨lv.ownBlock=some k∨w.heap.size≤k):=by
 have KA:Kept (fun k=>k=b∨V.n.ownBlock=some k∨V.nm.ownBlock=some k) w6 (w7.setCell ⟨b,0,none⟩ (.slice (some ⟨g7,0,none⟩) (B.names.length+4) cap7)):=
   Kept.setCell (S:=fun k=>k=b∨V.n.ownBlock=some k∨V.nm.ownBlock=some k) (((Kept.refl _ _).alloc X7).grown hg7 (fun g hg=>Or.inl (Or.inr (Or.inl hg)))) (p:=⟨b,0,none⟩) (Or.inl (Or.inl rfl)) _
 have KB:Kept (fun k=>k=b∨V.n.ownBlock=some k∨V.nm.ownBlock=some k) (w7.setCell ⟨b,0,none⟩ (.slice (some ⟨g7,0,none⟩) (B.names.length+4) cap7)) (w8.setCell ⟨b,1,none⟩ (.slice (some ⟨g8,0,none⟩) (B.names.length+4) cap8)):=
   Kept.setCell (S:=fun k=>k=b∨V.n.ownBlock=some k∨V.nm.ownBlock=some k) (((Kept.refl _ _).alloc X8).grown hg8 (fun g hg=>Or.inl (Or.inr (Or.inr hg)))) (p:=⟨b,1,none⟩) (Or.inl (Or.inl rfl)) _
 have KAB:=KA.trans KB
 have hb7:w7.heap[b]? = some (.cells (bookCells V B.next).toArray 77 (0,0)):=grown_blk hg7 ((Below.heap_alloc _ _ _ h.lt').trans h.blk) (row_ne h.rN h.blk (by decide))
 have s1:=hK.size
 have s2:=KA.size
 have s3:=KB.size
 have s7:=size_setCell w7 ⟨b,0,none⟩ (.slice (some ⟨g7,0,none⟩) (B.names.length+4) cap7)
 have nmS: ∀ g,V.nm.ownBlock=some g→S g:=fun g hg=>h.inV g (Or.inr (Or.inl hg))
 have farl: ∀ g,lv.ownBlock=some g→V.nm.ownBlock≠some g:=fun g hg x=>hne g hg (nmS g x)
 have far: ∀ {v:Value},(∀ g,v.ownBlock=some g→lv.ownBlock=some g∨w.heap.size≤g)→ ∀ g,v.ownBlock=some g→V.nm.ownBlock≠some g:=fun o g hg x=>by
   rcases o g hg with z | z
   · exact farl g z x
   · have:=hS g (nmS g x);omega
 have hfm7:(w7.setCell ⟨b,0,none⟩ (.slice (some ⟨g7,0,none⟩) (B.names.length+4) cap7)).ownsRow 0 9 1 V.nm B.names.length (B.names.map fun x=> .string x.s):=
   ownsRow_kept (Kept.only w7 b 0 _) (grown_row hg7 (h.rNm.alloc X7) (rows_ne h.rNm h.rN (by decide))) (row_ne h.rNm h.blk (by decide))
 have r7':(w7.setCell ⟨b,0,none⟩ (.slice (some ⟨g7,0,none⟩) (B.names.length+4) cap7)).ownsRow 0 34 1 (.slice (some ⟨g7,0,none⟩) (B.names.length+4) cap7) (B.names.length+4) (B.names.map (·.v)++[lv,one,two,three]):=
   ownsRow_kept (Kept.only w7 b 0 _) r7 (row_ne r7 hb7 (by decide))
 have r7'':w8.ownsRow 0 34 1 (.slice (some ⟨g7,0,none⟩) (B.names.length+4) cap7) (B.names.length+4) (B.names.map (·.v)++[lv,one,two,three]):=
   grown_row hg8 (r7'.alloc X8) (rows_ne r7' hfm7 (by decide))
 have newer: ∀ {v:Value} {n:Nat} {xs:List Value},w6.ownsRow 0 9 1 v n xs→(∀ g,v.ownBlock=some g→V.nm.ownBlock≠some g)→ ∀ g,v.ownBlock=some g→(Value.slice (some ⟨g8,0,none⟩) (B.names.length+4) cap8).ownBlock≠some g:=fun hr ha g hg x=>by
   simp only [Value.ownBlock,Option.some.injEq] at x
   rcases a8 with y | y
   · exact ha g hg (by rw [← x];exact y)
   · have:=(hr.lt g hg).2;omega
 refine ⟨{ V with n:= .slice (some ⟨g7,0,none⟩) (B.names.length+4) cap7,nm:= .slice (some ⟨g8,0,none⟩) (B.names.length+4) cap8 },{ B with names:=B.names++[⟨lv,N,m⟩,⟨one,N+1,m⟩,⟨two,N+2,m⟩,⟨three,N+3,m⟩] },
   fun k=>S k∨lv.ownBlock=some k∨(w.heap.size≤k∧k<(w8.setCell ⟨b,1,none⟩ (.slice (some ⟨g8,0,none⟩) (B.names.length+4) cap8)).heap.size),?_,rfl,by simp,rfl,rfl,fun x hx=>more_of4 (f:=NEnt.n) hx (by simp) (by simp) (by simp) (by simp),?_,fun k hk=>by rcases hk with x | x | x;exact Or.inl x;exact Or.inr (Or.inl x);exact Or.inr (Or.inr x.1)⟩
 · exact {
     blk:=by rw [heap_setCell_same _ _ _ _ _ _ _ b8];rfl
     rN:=by
       have:=ownsRow_kept (Kept.only w8 b 1 (.slice (some ⟨g8,0,none⟩) (B.names.length+4) cap8)) r7'' (row_ne r7'' b8 (by decide))
       simpa using this
     rNm:=by
       have:=ownsRow_kept (Kept.only w8 b 1 (.slice (some ⟨g8,0,none⟩) (B.names.length+4) cap8)) r8 (row_ne r8 b8 (by decide))
       simpa using this
     rF:=keep_rowN h KAB h.rF (by decide) (by decide) (rows_ne h.rF h.rNm (by decide))
     rFm:=keep_rowN h KAB h.rFm (by decide) (by decide) (rows_ne h.rFm h.rNm (by decide))
     rW:=keep_rowN h KAB h.rW (by decide) (by decide) (rows_ne h.rW h.rNm (by decide))
     rWm:=keep_rowN h KAB h.rWm (by decide) (by decide) (rows_ne h.rWm h.rNm (by decide))
     eN:=fun x hx=>by
       rcases List.mem_append.1 hx with y | y
       · exact keep_rowN h KAB (h.eN x y) (by decide) (by decide) (h.apart x y)
       · simp only [List.mem_cons,List.not_mem_nil,or_false] at y
         rcases y with rfl | rfl | rfl | rfl
         · exact keep_rowN h KAB hl (by decide) (by decide) farl
         · exact keep_rowN h KAB h1 (by decide) (by decide) (far o1)
         · exact keep_rowN h KAB h2 (by decide) (by decide) (far o2)
         · exact keep_rowN h KAB h3 (by decide) (by decide) (far o3)
     eF:=fun x hx=>keep_rowN h KAB (h.eF x hx) (by decide) (by decide) (rows_ne (h.eF x hx) h.rNm (by decide))
     eW:=fun x hx=>keep_rowN h KAB (h.eW x hx) (by decide) (by decide) (rows_ne (h.eW x hx) h.rNm (by decide))
     apart:=fun x hx=>by
       rcases List.mem_append.1 hx with y | y
       · exact newer (h.eN x y) (h.apart x y)
       · simp only [List.mem_cons,List.not_mem_nil,or_false] at y
         rcases y with rfl | rfl | rfl | rfl
         · exact newer hl farl
         · exact newer h1 (far o1)
         · exact newer h2 (far o2)
         · exact newer h3 (far o3)
     inB:=Or.inl h.inB
     inV:=fun g hg=>by
       have q8:=(r8.lt g8 rfl).2
       have q7:=(r7''.lt g7 rfl).2
       rcases hg with x | x | x | x | x | x
       · simp only [Value.ownBlock,Option.some.injEq] at x
         subst x
         rcases a7 with y | y
         · exact Or.inl (h.inV _ (Or.inl y))
         · exact Or.inr (Or.inr ⟨by omega,by rw [size_setCell];exact q7⟩)
       · simp only [Value.ownBlock,Option.some.injEq] at x
         subst x
         rcases a8 with y | y
         · exact Or.inl (h.inV _ (Or.inr (Or.inl y)))
         · exact Or.inr (Or.inr ⟨by omega,by rw [size_setCell];exact q8⟩)
       · exact Or.inl (h.inV g (Or.inr (Or.inr (Or.inl x))))
       · exact Or.inl (h.inV g (Or.inr (Or.inr (Or.inr (Or.inl x)))))
       · exact Or.inl (h.inV g (Or.inr (Or.inr (Or.inr (Or.inr (Or.inl x))))))
       · exact Or.inl (h.inV g (Or.inr (Or.inr (Or.inr (Or.inr (Or.inr x))))))
     inF:=fun x hx g hg=>Or.inl (h.inF x hx g hg)
     inN:=fun x hx g hg=>by
       rcases List.mem_append.1 hx with y | y
       · exact Or.inl (h.inN x y g hg)
       · simp only [List.mem_cons,List.not_mem_nil,or_false] at y
         rcases y with rfl | rfl | rfl | rfl
         · exact Or.inr (Or.inl hg)
         · rcases o1 g hg with z | z
           · exact Or.inr (Or.inl z)
           · exact Or.inr (Or.inr ⟨z,by have:=(h1.lt g hg).2;omega⟩)
         · rcases o2 g hg with z | z
           · exact Or.inr (Or.inl z)
           · exact Or.inr (Or.inr ⟨z,by have:=(h2.lt g hg).2;omega⟩)
         · rcases o3 g hg with z | z
           · exact Or.inr (Or.inl z)
           · exact Or.inr (Or.inr ⟨z,by have:=(h3.lt g hg).2;omega⟩)
     inW:=fun x hx g hg=>Or.inl (h.inW x hx g hg)
     lt:=fun k hk=>by
       rcases hk with x | x | x
       · have:=h.lt k x;omega
       · have:=(hl.lt k x).2;omega
       · exact x.2 }
 · refine hK.trans (KAB.mono fun k hk=> ?_)
   rcases hk with rfl | x | x
   · exact Or.inl h.inB
   · exact Or.inl (h.inV k (Or.inl x))
   · exact Or.inl (h.inV k (Or.inr (Or.inl x)))
end Go.Proofs.YtknjjjenklfeoaaGreatDoor
