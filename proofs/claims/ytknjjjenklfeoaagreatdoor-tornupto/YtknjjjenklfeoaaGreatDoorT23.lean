import Derived.Test.YtknjjjenklfeoaaGreatDoorT22
import Derived.Test.YtknjjjenklfeoaaGreatDoorT13
import Derived.Test.YtknjjjenklfeoaaGreatDoorT10
import Derived.Test.YtknjjjenklfeoaaGreatDoorT03
set_option maxHeartbeats 8000000
set_option maxRecDepth 100000
namespace Go.Proofs.YtknjjjenklfeoaaGreatDoor
theorem SoundL.held_lt {L:List Clus} {rs:List RootR} (h:SoundL L rs) {r:RootR} (hr:r ∈ rs): ∀ u ∈ heldAll L r.N,6≤u∧u<L.length:=fun u hu=>by
 rcases List.mem_cons.1 hu with x | x
 · rw [x];exact h.fst r hr
 · obtain ⟨j,hj,h0,y | ⟨k,hk,hk0,y⟩⟩:=mem_toldAll (fun i h1 h2=>h.zero r hr i h1 h2) x
   · exact h.sec _ ⟨r,hr,j,hj,h0,y⟩
   · exact h.blk _ ⟨_,⟨r,hr,j,hj,h0,rfl⟩,k,hk,hk0,y⟩
theorem sum_erase {α:Type} (g:α→Nat): ∀ (l:List α) (i:Nat) (h:i<l.length),((l.eraseIdx i).map g).sum+g l[i]=(l.map g).sum
 | a :: l,0,_=>by simp [Nat.add_comm]
 | a :: l,i+1,h=>by
   have:=sum_erase g l i (by simpa using h)
   simp only [List.eraseIdx_cons_succ,List.map_cons,List.sum_cons,List.getElem_cons_succ]
   omega
theorem map_erase {α β:Type} (g:α→β): ∀ (l:List α) (i:Nat),(l.eraseIdx i).map g=(l.map g).eraseIdx i
 | [],_=>by simp
 | a :: l,0=>by simp
 | a :: l,i+1=>by simp [map_erase g l i]
section
variable {base:List Clus} {V:VolR} {N0:Nat} {E:List EntR} {f n i:Nat}
def eraseD (D:DiskR) (i:Nat):DiskR:={ D with L:=D.L.eraseIdx i }
def dropH (V:VolR) (E':List EntR):VolR:=flushV (putV V 5 (listBytes E'))
theorem EntsOK.erase (h:EntsOK E) (i:Nat):EntsOK (E.eraseIdx i):=
 ⟨by have:=List.length_eraseIdx_le E i;have:=h.len;omega,fun e he=>h.all e (List.mem_of_mem_eraseIdx he),by rw [map_erase];exact h.nodup.sublist (List.eraseIdx_sublist _ _)⟩
theorem Vol.drop (h:Vol base V N0 E) (hi:i<E.length):
   dropH V (E.eraseIdx i)=epoch V [(5,listBytes (E.eraseIdx i))]∧Ok (dropH V (E.eraseIdx i)).C V.C.length N0 (E.eraseIdx i) (eraseD (dskOf V.C N0 E) i)∧(dropH V (E.eraseIdx i)).C.length=V.C.length∧SoundL (dropH V (E.eraseIdx i)).C (rsOf N0 E)∧
     Lets (dropH V (E.eraseIdx i)) N0 (E.eraseIdx i) (heldAll (dropH V (E.eraseIdx i)).C (E.getD i ze).first)∧Came base V N0 E (letGoV (dropH V (E.eraseIdx i)) (heldAll (dropH V (E.eraseIdx i)).C (E.getD i ze).first)) N0 (E.eraseIdx i) (eraseD (dskOf V.C N0 E) i):=by
 have h7:=h.file.seven
 have hlen:=h.sound.len
 have hE':=h.file.ents.erase i
 have e1:dropH V (E.eraseIdx i)=epoch V [(5,listBytes (E.eraseIdx i))]:=by unfold dropH epoch;rw [puts_one]
 have hC:(dropH V (E.eraseIdx i)).C=putsC V.C [(5,listBytes (E.eraseIdx i))]:=by rw [e1,epoch_C]
 obtain ⟨c1,c2,c3⟩:=put_kin (C:=V.C) (p:=5) (c:=listBytes (E.eraseIdx i)) (by omega) (Or.inr rfl)
 rw [← hC] at c1 c2 c3
 have hputs:Puts V (dropH V (E.eraseIdx i)):=by rw [e1];exact puts_epoch (Puts.refl V) _
 refine ⟨e1,?_⟩
 clear e1
 generalize dropH V (E.eraseIdx i)=W at*
 have s0:=c1.sound h.sound
 have hg:(E.getD i ze)=E[i]:=by rw [List.getD_eq_getElem?_getD,List.getElem?_eq_getElem hi];rfl
 have hre:rootE (E.getD i ze) ∈ rsOf N0 E:=by
   rw [hg];exact rsOf_mem.2 (Or.inr ⟨_,List.getElem_mem hi,rfl⟩)
 have hsub: ∀ r ∈ rsOf N0 (E.eraseIdx i),r ∈ rsOf N0 E:=fun r hr=>by
   rcases rsOf_mem.1 hr with x | ⟨e,he,x⟩
   · exact rsOf_mem.2 (Or.inl x)
   · exact rsOf_mem.2 (Or.inr ⟨e,List.mem_of_mem_eraseIdx he,x⟩)
 have huse: ∀ m,useOf (W).C (rsOf N0 (E.eraseIdx i)) m+treeOcc (W).C (E.getD i ze).first m=useOf V.C (rsOf N0 E) m:=fun m=>by
   rw [← (c1.shape h.sound).use m,hg]
   unfold useOf rsOf
   rw [List.map_cons,List.sum_cons,List.map_cons,List.sum_cons,List.map_map,List.map_map]
   have:=sum_erase ((fun r:RootR=>treeOcc (W).C r.N m) ∘ rootE) E i hi
   have e2:((fun r:RootR=>treeOcc (W).C r.N m) ∘ rootE) E[i]=treeOcc (W).C E[i].first m:=rfl
   rw [e2] at this
   omega
 have s1:SoundL (W).C (rsOf N0 (E.eraseIdx i)):=by
   refine s0.roots (fun r hr=>⟨s0.fst r (hsub r hr),s0.fs _ ⟨r,hsub r hr,rfl⟩,s0.fb _ ⟨r,hsub r hr,rfl⟩,r,hsub r hr,fun j _=>rfl⟩) ?_ (fun m hm=> ?_)
   · refine s0.nodup.sublist (List.Sublist.map _ ?_)
     unfold rsOf
     exact (List.Sublist.map _ (List.eraseIdx_sublist _ _)).cons_cons _
   · rw [c1.count m hm]
     have:=huse m
     have:=h.sound.cnt m hm
     omega
 have hlT:(W).C.length=V.C.length:=c1.len
 have hfile:FileE (W).C V.C.length N0 (E.eraseIdx i):=by
   refine ⟨?_,by omega,by omega,h7,hlen,h.file.n0,by rw [c3 0 (by omega)];exact h.file.head,c2,hE'⟩
   rw [hC]
   exact putsC_lens _ _ h.file.lens (fun x hx=>by rw [List.mem_singleton.1 hx];exact hE'.length)
 have hD:dskOf (W).C N0 (E.eraseIdx i)=eraseD (dskOf V.C N0 E) i:=by
   rw [dskOf_same (L:=V.C) (fun r hr=>c1.content h.sound (hsub r hr))]
   refine dskOf_eq (by rw [dskOf_C]) ?_
   rw [dskOf_L,map_erase]
 have ok:Ok (W).C V.C.length N0 (E.eraseIdx i) (eraseD (dskOf V.C N0 E) i):=⟨hfile,by rw [padTo_self hlT];exact s1,by rw [padTo_self hlT];exact hD⟩
 have hheld: ∀ m,(heldAll (W).C (E.getD i ze).first).count m=treeOcc (W).C (E.getD i ze).first m:=fun m=>count_held (s0.zero _ hre) m
 have hl:Lets (W) N0 (E.eraseIdx i) (heldAll (W).C (E.getD i ze).first):=by
   refine ⟨fun u hu=> ?_,fun m hm=> ?_⟩
   · have:=s0.held_lt hre u hu
     omega
   · rw [hheld m,c1.count m hm]
     have:=huse m
     have:=h.sound.cnt m hm
     omega
 obtain ⟨g1,g2,g3,g4⟩:=ok.letGo hlT hl
 have hD2:=g1.holds
 rw [padTo_self g2] at hD2
 refine ⟨ok,hlT,s0,hl,g1.vol g2 g3 (h.log.puts (puts_letGo hputs _)),hD2,fun hx=>g4 fun m hm=> ?_⟩
 rw [hheld m,c1.count m hm,hx.eq m hm]
 have:=huse m
 omega
def retH (V:VolR) (f n:Nat):VolR:=flushV (putV (copyV V f n) 0 (headBytes (num (cl (copyV V f n).C 0) 4) n))
def retD (D:DiskR) (i:Nat):DiskR:={ D with C:=(D.L.getD i ⟨[],[]⟩).C }
theorem Vol.ret (h:Vol base V N0 E) (hi:i<E.length) (hn:n<256) (h0:countOf V.C n=0) (hfit:fitsB (cntsOf V.C) (toldAll V.C (E.getD i ze).first)=true):
   retH V (E.getD i ze).first n=epoch (copyV V (E.getD i ze).first n) [(0,headBytes (lenTo V.C [n]) n)]∧Ok (retH V (E.getD i ze).first n).C (lenTo V.C [n]) n E (retD (dskOf V.C N0 E) i)∧(retH V (E.getD i ze).first n).C.length=lenTo V.C [n]∧SoundL (retH V (E.getD i ze).first n).C (rsOf N0 E)∧
     Lets (retH V (E.getD i ze).first n) n E (heldAll (retH V (E.getD i ze).first n).C N0)∧Came base V N0 E (letGoV (retH V (E.getD i ze).first n) (heldAll (retH V (E.getD i ze).first n).C N0)) n E (retD (dskOf V.C N0 E) i):=by
 have hg:(E.getD i ze)=E[i]:=by rw [List.getD_eq_getElem?_getD,List.getElem?_eq_getElem hi];rfl
 have hre:rootE (E.getD i ze) ∈ rsOf N0 E:=by
   rw [hg];exact rsOf_mem.2 (Or.inr ⟨_,List.getElem_mem hi,rfl⟩)
 have hf:(E.getD i ze).first ∈ (rsOf N0 E).map (·.N):=List.mem_map.2 ⟨_,hre,rfl⟩
 have hr0:(⟨N0,0,[]⟩:RootR) ∈ rsOf N0 E:=by simp [rsOf]
 obtain ⟨e,a1,a2,a3,a4,a5,a6,a7,a8⟩:=h.copied hf hn h0 hfit
 obtain ⟨b1,b2,b3,b4,b5,b6,b7⟩:=h.copyTree hf hn h0 hfit
 have hDe:contentOf V.C (E.getD i ze).first=((dskOf V.C N0 E).L.getD i ⟨[],[]⟩).C:=by
   unfold dskOf
   simp only [List.getD_eq_getElem?_getD,List.getElem?_map,List.getElem?_eq_getElem hi,Option.map_some,Option.getD_some]
 generalize hfe:(E.getD i ze).first=f at*
 have h6:=h.sound.free_six hn h0
 have hT:lenTo V.C [n]=max V.C.length (n+1):=rfl
 have h7:=h.file.seven
 have hlen:=h.sound.len
 have e1:retH V f n=epoch (copyV V f n) [(0,headBytes (lenTo V.C [n]) n)]:=by
   unfold retH epoch
   rw [a2.file.num4,puts_one]
 have hC:(retH V f n).C=putsC (copyV V f n).C [(0,headBytes (lenTo V.C [n]) n)]:=by rw [e1,epoch_C]
 obtain ⟨c1,c2,c3⟩:=put_kin (C:=(copyV V f n).C) (p:=0) (c:=headBytes (lenTo V.C [n]) n) (by omega) (Or.inl rfl)
 rw [← hC] at c1 c2 c3
 have hputs:Puts V (retH V f n):=by rw [e1];exact puts_epoch (puts_copy V f n) _
 refine ⟨e1,?_⟩
 clear e1 e a1 a5 a6 a7
 generalize retH V f n=W at*
 generalize copyV V f n=U at*
 have s0:=c1.sound b1
 have huse: ∀ m,useOf (U).C (rsOf n E) m+treeOcc (U).C N0 m=useOf V.C (rsOf N0 E) m+treeOcc (U).C n m:=fun m=>by
   rw [← a8.use m]
   unfold useOf rsOf
   rw [List.map_cons,List.sum_cons,List.map_cons,List.sum_cons]
   dsimp only
   omega
 have hall: ∀ m,m<256→base6 m+useOf (U).C (rsOf n E) m+treeOcc (U).C N0 m≤countOf (U).C m∧(countOf V.C m=base6 m+useOf V.C (rsOf N0 E) m→countOf (U).C m=base6 m+useOf (U).C (rsOf n E) m+treeOcc (U).C N0 m):=fun m hm=>by
   have h1:=huse m
   have h2:=h.sound.cnt m hm
   rw [a4 m hm]
   rw [b3 m] at h1
   by_cases z:n=m
   · subst z
     have h3:=use_none h.sound (h.sound.untold hn h0)
     have h4:=base6_eq n
     rw [if_neg (by omega)] at h4
     rw [if_pos rfl] at h1 ⊢
     omega
   · rw [if_neg z] at h1 ⊢
     omega
 have s1:SoundL (U).C (rsOf n E):=by
   refine b1.roots (fun r hr=> ?_) ?_ (fun m hm=> ?_)
   · rcases rsOf_mem.1 hr with x | ⟨y,hy,x⟩
     · rw [x]
       exact ⟨⟨h6,by rw [a3];simp only;omega⟩,b4.2.1,b4.2.2,_,hre,fun j hj=>by rw [b2 j hj,← hfe];rfl⟩
     · have hr':r ∈ rsOf N0 E:=rsOf_mem.2 (Or.inr ⟨y,hy,x⟩)
       exact ⟨b1.fst r hr',b1.fs _ ⟨r,hr',rfl⟩,b1.fb _ ⟨r,hr',rfl⟩,r,hr',fun j _=>rfl⟩
   · have hnd:=b1.nodup
     unfold rsOf at hnd ⊢
     rw [List.map_cons,List.nodup_cons] at hnd ⊢
     refine ⟨fun z=> ?_,hnd.2⟩
     obtain ⟨r',hr',e2⟩:=List.mem_map.1 z
     exact b4.1 ⟨r',by unfold rsOf;exact List.mem_cons.2 (Or.inr hr'),e2⟩
   · have:=(hall m hm).1
     omega
 have s2:=c1.sound s1
 have hlT:(W).C.length=lenTo V.C [n]:=by rw [c1.len,a3]
 have hfile:FileE (W).C (lenTo V.C [n]) n E:=by
   refine ⟨?_,by omega,by omega,a2.file.seven,a2.file.most,by omega,c2,by rw [c3 5 (by omega)];exact a2.file.list,a2.file.ents⟩
   rw [hC]
   exact putsC_lens _ _ a2.file.lens (fun x hx=>by rw [List.mem_singleton.1 hx];exact headBytes_length _ _)
 have hD:dskOf (W).C n E=retD (dskOf V.C N0 E) i:=by
   have g: ∀ r ∈ rsOf n E,contentOf (W).C r.N=contentOf (U).C r.N:=fun r hr=>c1.content s1 hr
   have gn:=g ⟨n,0,[]⟩ (by simp [rsOf])
   simp only at gn
   have hA:contentOf (W).C n=((dskOf V.C N0 E).L.getD i ⟨[],[]⟩).C:=by
     have hb0:=b6 _ hre
     simp only [rootE] at hb0
     rw [gn,b5,← hDe,← hfe,hb0]
   have hB:(E.map fun e=>(⟨e.name,contentOf (W).C e.first⟩:PicR))=(dskOf V.C N0 E).L:=by
     rw [dskOf_L]
     apply List.map_congr_left
     intro x hx
     have g1:=g (rootE x) (rsOf_mem.2 (Or.inr ⟨x,hx,rfl⟩))
     have g2:=b6 (rootE x) (rsOf_mem.2 (Or.inr ⟨x,hx,rfl⟩))
     simp only [rootE] at g1 g2
     rw [g1,g2]
   exact dskOf_eq hA hB
 have ok:Ok (W).C (lenTo V.C [n]) n E (retD (dskOf V.C N0 E) i):=⟨hfile,by rw [padTo_self hlT];exact s2,by rw [padTo_self hlT];exact hD⟩
 have hheld: ∀ m,(heldAll (W).C N0).count m=treeOcc (U).C N0 m:=fun m=>by
   rw [count_held (s0.zero _ hr0) m];exact c1.tree b1 hr0 m
 have hl:Lets (W) n E (heldAll (W).C N0):=by
   refine ⟨fun u hu=> ?_,fun m hm=> ?_⟩
   · have:=s0.held_lt hr0 u hu
     have:=s0.len
     omega
   · rw [hheld m,c1.count m hm,(c1.shape s1).use]
     exact (hall m hm).1
 obtain ⟨g1,g2,g3,g4⟩:=ok.letGo hlT hl
 have hD2:=g1.holds
 rw [padTo_self g2] at hD2
 refine ⟨ok,hlT,s0,hl,g1.vol g2 g3 (h.log.puts (puts_letGo hputs _)),hD2,fun hx=>g4 fun m hm=> ?_⟩
 rw [hheld m,c1.count m hm,(c1.shape s1).use]
 exact (hall m hm).2 (hx.eq m hm)
end
end Go.Proofs.YtknjjjenklfeoaaGreatDoor
namespace Go.Proofs.YtknjjjenklfeoaaGreatDoor
open Go.RowKit Go.Shelf
attribute [local go_sem ↓] loadVar_clus storeVar_clus zeroValue_clus loadVar_tab storeVar_tab zeroValue_tab loadVar_cnt storeVar_cnt zeroValue_cnt loadVar_head storeVar_head zeroValue_head build_head buildSlice_clus loadVar_wr storeVar_wr zeroValue_wr build_wr buildSlice_wr equalIn_clus loadVar_place storeVar_place zeroValue_place build_place
attribute [local go_sem] run_loadClus run_storeClus run_zeroClus run_storeClus_new run_loadClus_new zc_length run_loadTab run_storeTab run_zeroTab run_storeTab_new run_loadTab_new zt_length run_loadCnt run_storeCnt run_zeroCnt run_storeCnt_new run_loadCnt_new zk_length run_loadHead run_storeHead run_zeroHead run_storeHead_new run_bHead HasAt_drew cellsAt_drew HasAt_drewN cellsAt_drewN run_bsClus run_loadWr run_zeroWr run_storeWr run_storeWr_new run_bWr0 run_bsWr run_loadPlace run_storePlace run_zeroPlace run_storePlace_new run_bPlace
attribute [local go_sem] field_head1 field_head0
theorem shared_of (n:Nat) (hn:n<65536) (w:World):Calls Tryz.prog 147 #[.int .u16 (n:Nat)] w fun e w'=>e= .returned (.int .u16 ((sharedOf n:Nat):Int))∧w'=w:=by
 go_enter Tryz.func147,Tryz.ntmps147
 go_wp2
 go_ret
 exact ⟨ret_int (andNot_mark n hn),rfl⟩
theorem shared_changes (M:Nat):Changes 147 #[] [] sharedOf M:=fun W n _ hn _ _=>shared_of n hn W
theorem cl_lengthen (V:VolR) (F:List Nat) (t:Nat) (ht:t≠0) (h0:0<V.C.length):cl (lengthenV V F).C t=cl V.C t:=by
 unfold lengthenV
 split
 · rw [flushV_C]
   by_cases htl:t<V.C.length
   · exact cl_putV_ne _ _ _ _ htl (fun e=>ht e.symm)
   · rw [cl_past (by rw [putV_lenC];omega),cl_past (by omega)]
 · rfl
theorem TabOK.same {A B:VolR} (hl:B.C.length=A.C.length) (hc: ∀ t,t≠0→cl B.C t=cl A.C t) {t:Nat} (h:TabOK A t):TabOK B t:=by
 have e:InR B=InR A:=by funext c;unfold InR;rw [hl]
 unfold TabOK NumsOK
 rw [e,hc t (by have:=h.1.1;omega)]
 exact h
theorem FirstOK.same {A B:VolR} (hl:B.C.length=A.C.length) (hc: ∀ t,t≠0→cl B.C t=cl A.C t) {t:Nat} (h:FirstOK A t):FirstOK B t:=by
 refine ⟨h.1.same hl hc,fun i=> ?_⟩
 rw [hc t (by have:=h.1.1.1;omega)]
 exact ⟨(h.2 i).1,fun h0=>((h.2 i).2 h0).same hl hc⟩
def copyR (V:VolR) (f:Nat):VolR × Nat × Nat:=
 if 0<(lowFree (cntsOf V.C) 1).length∧fitsB (cntsOf V.C) (toldAll V.C f)=true then (copyV V f ((lowFree (cntsOf V.C) 1).getD 0 0),(lowFree (cntsOf V.C) 1).getD 0 0,0) else (V,0,5)
theorem copyFirst_bad (w:World) (v:Nat) (Cv Lv:Value) (V:VolR) (h:VolAt w v Cv Lv V) (h5:5<V.C.length) (hC:V.C.length≤256) (f:Nat) (hF:FirstOK V f)
   (hbad: ¬ (0<(lowFree (cntsOf V.C) 1).length∧fitsB (cntsOf V.C) (toldAll V.C f)=true)):
   Calls Tryz.prog 86 #[.pointer (some ⟨v,0,none⟩),.int .i64 (f:Nat)] w fun e w'=>e= .returned (.tuple #[.int .i64 0,.int .i64 5])∧Below w.heap.size w w':=by
 have Hf:=hide (lowestFree_any w v Cv Lv V h (by omega) 1 (by omega))
 have Hs:Hid (∀ W,VolAt W v Cv Lv V→_):=fun W hW=>callsIn_wide.1 (shared_any W v Cv Lv V hW h5 hC f hF)
 have H:=hide h
 have hFle:=(lowTo_le (cntsOf V.C) 1 256).1
 change (lowFree (cntsOf V.C) 1).length≤1 at hFle
 have hsl:(sharedR V.C f).1.length=256:=by
   unfold sharedR
   split
   · rw [plus_length];exact cntsOf_length V.C h.lenC (by omega)
   · exact zk_length
 have hs2:(sharedR V.C f).2=fitsB (cntsOf V.C) (toldAll V.C f):=by
   unfold sharedR
   split
   · rename_i e;rw [e]
   · rename_i e;simp at e;rw [e]
 clear h
 generalize lowFree (cntsOf V.C) 1=F at*
 generalize fitsB (cntsOf V.C) (toldAll V.C f)=b at*
 generalize sharedR V.C f=R at*
 obtain ⟨k,b'⟩:=R
 dsimp only at hsl hs2 Hs
 subst hs2
 go_enter Tryz.func86,Tryz.ntmps86
 go_wp2_with fail
 refine (uh Hf).mono ?_
 rintro e w1 ⟨x,rfl,hx,hb1⟩
 obtain ⟨fa,fcap,rfl⟩:=row_form hx
 have B1:=hide hb1
 clear hx hb1 Hf
 go_wp2_with fail
 refine (uh Hs _ ((uh H).below (uh B1))).mono ?_
 rintro e w2 ⟨rfl,hb2⟩
 have B2:=(uh B1).trans (hb2.mono (uh B1).size)
 have B3:=hide (B2.alloc B2.size (.cells (cv k).toArray 123))
 clear B2 hb2 Hs B1
 by_cases hl:0<F.length
 · have hb:b'=false:=by
     cases b' with
     | false=>rfl
     | true=>exact absurd ⟨hl,rfl⟩ hbad
   subst hb
   have hl1:((F.length:Nat):Int)=1:=by omega
   go_wp2
   go_ret2
   exact ⟨rfl,uh B3⟩
 · have hl1:((F.length:Nat):Int)=0:=by omega
   go_wp2
   go_ret2
   exact ⟨rfl,uh B3⟩
theorem row_box {w1:World} {base g cap k:Nat} {xs:List Value} (hx:w1.ownsRow base 3 1 (.slice (some ⟨g,0,none⟩) k cap) k xs):
   ∃ cur,base≤g∧w1.heap[g]? = some (.cells cur 3 (0,0))∧ ∀ W:World,W.heap[g]? = some (.cells cur 3 (0,0))→W.ownsRow 0 3 1 (.slice (some ⟨g,0,none⟩) k cap) k xs:=by
 obtain ⟨h1,h2⟩:=hx
 rcases h2 with ⟨h2,_⟩ | ⟨g',cap',cur,e,hg,hb,r⟩
 · cases h2
 · injection e with e1 e2 e3
   injection e1 with e1
   injection e1 with e1
   subst e1 e3
   exact ⟨cur,hg,hb,fun W hW=>⟨h1,Or.inr ⟨_,_,cur,rfl,Nat.zero_le _,hW,r⟩⟩⟩
theorem Env.with {w W:World} {v g:Nat} {o:Obj} {Cv Lv C1 L1:Value} {V:VolR} {bs:List (Nat × Obj)} (h:Env w W v Cv Lv C1 L1 V bs) (hg:W.heap[g]? = some o) (hw:w.heap.size≤g) (hf: ¬ foot v C1 L1 g):Env w W v Cv Lv C1 L1 V ((g,o) :: bs):=
 ⟨h.step,fun x hx=>by
   rcases List.mem_cons.1 hx with rfl | hx
   · exact ⟨hg,hw,hf⟩
   · exact h.objs x hx⟩
theorem copy_set (k:List UInt8) (n:Nat):(cv k).toArray.setIfInBounds n (.int .u8 1)=(cv (k.set n 1)).toArray:=by
 rw [List.setIfInBounds_toArray]
 exact congrArg List.toArray (cv_setB k n 1 (by omega)).symm
theorem copyFirst_good (w:World) (v:Nat) (Cv Lv:Value) (V:VolR) (h:VolAt w v Cv Lv V) (h5:5<V.C.length) (hC:V.C.length≤256) (hL:V.L.length≤400000000) (f:Nat) (hF:FirstOK V f) (n:Nat) (hn:n<256)
   (hlow:lowFree (cntsOf V.C) 1=[n]) (hfit:fitsB (cntsOf V.C) (toldAll V.C f)=true):
   Calls Tryz.prog 86 #[.pointer (some ⟨v,0,none⟩),.int .i64 (f:Nat)] w fun e w'=>e= .returned (.tuple #[.int .i64 (n:Nat),.int .i64 0])∧ ∃ C1 L1,VStep w w' v Cv Lv C1 L1 (copyV V f n):=by
 have Hf:=hide (lowestFree_any w v Cv Lv V h (by omega) 1 (by omega))
 rw [hlow] at Hf
 have hR:sharedR V.C f=(plus (cntsOf V.C) (toldAll V.C f),true):=by unfold sharedR;rw [if_pos hfit]
 have Hs:Hid (∀ W,VolAt W v Cv Lv V→_):=fun W hW=>callsIn_wide.1 (shared_any W v Cv Lv V hW h5 hC f hF)
 rw [hR] at Hs
 dsimp only at Hs
 have hkl:(plus (cntsOf V.C) (toldAll V.C f)).length=256:=by rw [plus_length];exact cntsOf_length V.C h.lenC (by omega)
 have hlC:=lengthenV_lenC V [n] (by omega)
 have hlL:=lengthenV_lenL V [n]
 have hF1:FirstOK (lengthenV V [n]) f:=hF.same hlC (fun t ht=>cl_lengthen V [n] t ht (by omega))
 have HL:Hid (∀ W C1 L1 x,VolAt W v C1 L1 V→W.ownsRow 0 3 1 x [n].length (iv [n])→_):=fun W C1 L1 x hW hx=>lengthen_any W v C1 L1 V hW [n] (by simp) (by simp) (by rw [lastOf_one];exact hn) x hx (by omega) (by omega) (by omega)
 have H1:Hid (copy1 V f n=flushV (renumV sharedOf (lengthenV V [n]) (tabsOf (lengthenV V [n]) f))):=rfl
 have H2:Hid (copyV V f n=flushV (putV (putCnt (copy1 V f n) (copyCnt V.C f n) 4) n (cl (putCnt (copy1 V f n) (copyCnt V.C f n) 4).C f))):=rfl
 have H3:Hid (copyCnt V.C f n=(plus (cntsOf V.C) (toldAll V.C f)).set n 1):=rfl
 generalize lengthenV V [n]=V1 at*
 have HR:Hid (∀ W C1 L1,VolAt W v C1 L1 V1→_):=fun W C1 L1 hW=>callsIn_wide.1 (renumber_in W v C1 L1 V1 hW f hF1.1 hF1.2 (by omega) (by omega) 147 #[] [] sharedOf sharedOf_marks (shared_changes _) (enters_of Tryz.func147 (by kernel_rfl) rfl) (fun x hx=>by cases hx))
 have hrC:=(renumV_same sharedOf_marks (tabsOf V1 f) V1 (tabs_ok hF1)).len
 have hrL:=renumV_lenL sharedOf (tabsOf V1 f) V1
 have hrT:=tabsOf_len V1 f
 generalize renumV sharedOf V1 (tabsOf V1 f)=V2 at*
 have hf2:=flushV_lenL V2
 have hf2c:(flushV V2).C.length=V2.C.length:=by rw [flushV_C]
 have HF2:Hid (∀ W C1 L1,VolAt W v C1 L1 V2→_):=fun W C1 L1 hW=>flush_any W v C1 L1 V2 hW (by omega)
 rw [← uh H1] at hf2 hf2c HF2
 have hset:=copy_set (plus (cntsOf V.C) (toldAll V.C f)) n
 rw [← uh H3] at hset
 have hcl:(copyCnt V.C f n).length=256:=by rw [uh H3,List.length_set];exact hkl
 generalize copyCnt V.C f n=kk at*
 generalize plus (cntsOf V.C) (toldAll V.C f)=k at*
 generalize copy1 V f n=V3 at*
 have HP:Hid (∀ W C1 L1,VolAt W v C1 L1 V3→_):=fun W C1 L1 hW=>putCounts_any W v C1 L1 V3 hW kk hcl (by omega) (by omega)
 have hpC:=putCnt_lenC' V3 kk (by omega)
 have hpL:=putCnt_lenL V3 kk 4
 generalize putCnt V3 kk 4=V4 at*
 have hf4:f<V4.C.length:=by have:=hF.1.1.2;omega
 have HA:Hid (∀ W C1 L1,VolAt W v C1 L1 V4→_):=fun W C1 L1 hW=>at_any W v C1 L1 V4 hW f hf4
 have HPu:Hid (∀ W C1 L1,VolAt W v C1 L1 V4→(cl V4.C f).length=64→_):=fun W C1 L1 hW hd=>put_any W v C1 L1 V4 hW n (by omega) (cl V4.C f) hd (by omega) (by omega)
 have Hd:Hid (∀ W C1 L1,VolAt W v C1 L1 V4→(cl V4.C f).length=64):=fun W C1 L1 hW=>hW.lenC _ (by
   unfold cl
   rw [List.getD_eq_getElem?_getD,List.getElem?_eq_getElem hf4]
   exact List.getElem_mem _)
 have hqL:=putV_lenL V4 n (cl V4.C f)
 generalize cl V4.C f=dd at*
 generalize putV V4 n dd=V5 at*
 have HF5:Hid (∀ W C1 L1,VolAt W v C1 L1 V5→_):=fun W C1 L1 hW=>flush_any W v C1 L1 V5 hW (by omega)
 rw [← uh H2] at HF5
 generalize copyV V f n=V6 at*
 have H:=hide h
 clear h H1 H2 H3 hR hfit hlow hF hF1
 go_enter Tryz.func86,Tryz.ntmps86
 go_wp2_with fail
 refine (uh Hf).mono ?_
 rintro e w1 ⟨x,rfl,hx,hb1⟩
 obtain ⟨g,cap,rfl,_⟩:=row_some hx (by simp)
 obtain ⟨cur,hgw,hgb,hrow⟩:=row_box hx
 have E1:=hide (((Env.start (uh H)).later hb1).with hgb hgw (fun hf=>by have:=(uh H).foot_lt _ hf;omega))
 have Hc:Hid (∀ W:World,W.heap[g]? = some (.cells cur 3 (0,0))→W.cell? ⟨g,0,none⟩=some (.int .i64 (n:Nat))):=fun W hW=>ints_get (F:=[n]) (hrow W hW) 0 (by simp)
 have Hrow:=hide hrow
 clear hx hb1 Hf hrow hgb
 go_wp2_with fail
 refine (uh Hs _ (uh E1).at').mono ?_
 rintro e w2 ⟨rfl,hb2⟩
 have E2:=hide (((uh E1).later hb2).lay (.cells (cv k).toArray 123))
 have hgk:g≠w2.heap.size:=by have:=blk_lt ((uh E1).later hb2).o0;omega
 clear E1 hb2 Hs
 go_wp2_with fail
 refine (uh HL _ _ _ _ (uh E2).at' (uh Hrow _ (uh E2).o1)).mono ?_
 rintro e w3 ⟨rfl,C3,L3,hS3⟩
 have E3:=hide ((uh E2).does hS3)
 clear hS3 E2 HL Hrow
 go_wp2_with fail
 refine (uh HR _ _ _ (uh E3).at').mono ?_
 rintro e w4 ⟨rfl,C4,L4,hS4⟩
 have E4:=hide ((uh E3).does hS4)
 clear hS4 E3 HR
 go_wp2_with fail
 refine (uh HF2 _ _ _ (uh E4).at').mono ?_
 rintro e w5 ⟨rfl,C5,L5,hS5⟩
 have E5:=(uh E4).does hS5
 have c5:=uh Hc w5 E5.o1
 have hni:(n:Int)<256:=by omega
 have k5:w5.cell? ⟨w2.heap.size,n,none⟩=some (.int .u8 (byteAt k n:Nat)):=by
   rw [cell_blk E5.o0,List.getElem?_toArray,cv_get _ _ (by omega)]
 have f5:=frozen_blk E5.o0 n
 have E6:=E5.put (by rintro x hx;rw [List.mem_singleton.1 hx];exact hgk) (Kept.only _ w2.heap.size n (.int .u8 1)) (heap_setCell_same _ _ _ _ _ _ _ E5.o0)
 rw [hset] at E6
 have l1:=blk_has E6.o0 (n:=256) (by rw [cv_length,hcl])
 have l2:=blk_cells E6.o0 (n:=256) (by rw [cv_length,hcl])
 have E6:=hide E6
 clear E5 hS5 E4 HF2
 generalize byteAt k n=bb at*
 go_wp2_with fail
 refine (uh HP _ _ _ (uh E6).at').mono ?_
 rintro e w7 ⟨rfl,C7,L7,hS7⟩
 have E7:=(uh E6).does hS7
 have c7:w7.drew.cell? ⟨g,0,none⟩=some (.int .i64 (n:Nat)):=uh Hc w7 E7.o1
 have hdd:=uh Hd _ _ _ E7.at'
 have Ha:=hide (uh HA _ _ _ E7.drew.at')
 have E7:=hide E7
 clear hS7 E6 HP l1 l2 k5 f5 c5 HA
 go_wp2
 go_region_law (first
   | (go_simp
      go_at_call 142
      refine (uh Ha).mono ?_
      rintro e w8 ⟨rfl,hb8⟩
      have E8:=hide ((uh E7).drew.later hb8)
      have c8:w8.cell? ⟨g,0,none⟩=some (.int .i64 (n:Nat)):=uh Hc w8 (uh E8).o1)
   | (go_simp
      go_at_call 70
      refine (uh HPu _ _ _ (uh E8).at' hdd).mono ?_
      rintro e w9 ⟨rfl,C9,L9,hS9⟩
      have E9:=hide ((uh E8).does hS9)
      clear hS9))
 all_goals
   go_wp2_with fail
   refine (uh HF5 _ _ _ (uh E9).at').mono ?_
   rintro e w10 ⟨rfl,C10,L10,hS10⟩
   have E10:=(uh E9).does hS10
   have c10:=uh Hc w10 E10.o1
   have ES:=hide E10.step
   clear E10 hS10
   go_wp2
   go_ret2
   exact ⟨rfl,C10,L10,uh ES⟩
theorem copyFirst_any (w:World) (v:Nat) (Cv Lv:Value) (V:VolR) (h:VolAt w v Cv Lv V) (h5:5<V.C.length) (hC:V.C.length≤256) (hL:V.L.length≤400000000) (f:Nat) (hF:FirstOK V f):
   Calls Tryz.prog 86 #[.pointer (some ⟨v,0,none⟩),.int .i64 (f:Nat)] w fun e w'=>e= .returned (.tuple #[.int .i64 ((copyR V f).2.1:Nat),.int .i64 ((copyR V f).2.2:Nat)])∧ ∃ C1 L1,VStep w w' v Cv Lv C1 L1 (copyR V f).1:=by
 by_cases hg:0<(lowFree (cntsOf V.C) 1).length∧fitsB (cntsOf V.C) (toldAll V.C f)=true
 · obtain ⟨n,hn,hlt,_⟩:=lowFree_one hg.1
   have e:copyR V f=(copyV V f n,n,0):=by
     unfold copyR
     rw [if_pos hg,hn,List.getD_cons_zero]
   have hc:=copyFirst_good w v Cv Lv V h h5 hC hL f hF n hlt hn hg.2
   rw [e]
   generalize copyV V f n=U at*
   exact hc
 · have e:copyR V f=(V,0,5):=by
     unfold copyR
     rw [if_neg hg]
   rw [e]
   refine (copyFirst_bad w v Cv Lv V h h5 hC f hF hg).mono ?_
   rintro e w' ⟨rfl,hb⟩
   exact ⟨rfl,Cv,Lv,(VStep.refl h).later hb⟩
end Go.Proofs.YtknjjjenklfeoaaGreatDoor
namespace Go.Proofs.YtknjjjenklfeoaaGreatDoor
open Go.RowKit
attribute [local go_sem ↓] loadVar_clus storeVar_clus zeroValue_clus loadVar_tab storeVar_tab zeroValue_tab loadVar_cnt storeVar_cnt zeroValue_cnt loadVar_head storeVar_head zeroValue_head build_head buildSlice_clus loadVar_wr storeVar_wr zeroValue_wr build_wr buildSlice_wr equalIn_clus loadVar_place storeVar_place zeroValue_place build_place loadVar_lst storeVar_lst zeroValue_lst storeVar_ent build_ent
attribute [local go_sem] run_loadClus run_storeClus run_zeroClus run_storeClus_new run_loadClus_new zc_length run_loadTab run_storeTab run_zeroTab run_storeTab_new run_loadTab_new zt_length run_loadCnt run_storeCnt run_zeroCnt run_storeCnt_new run_loadCnt_new zk_length run_loadHead run_storeHead run_zeroHead run_storeHead_new run_bHead HasAt_drew cellsAt_drew HasAt_drewN cellsAt_drewN run_bsClus run_loadWr run_zeroWr run_storeWr run_storeWr_new run_bWr0 run_bsWr run_loadPlace run_storePlace run_zeroPlace run_storePlace_new run_bPlace run_loadLst run_storeLst run_zeroLst run_storeLst_new run_storeEnt run_bEnt
attribute [local go_sem] field_head1 field_head0 Oper.semAt_some
attribute [local go_sem ↓] loadVar_ent zeroValue_ent
attribute [local go_sem] run_loadEnt run_zeroEnt run_storeEnt_new
def findFrom (E:List EntR) (s:ByteArray):Nat→Nat→Int
 | 0,_=> -1
 | m+1,k=>if txt (E.getD k ze).name=s then (k:Int) else findFrom E s m (k+1)
def findE (E:List EntR) (s:ByteArray):Int:=findFrom E s (lenOf E) 0
theorem find_any (w:World) (E:List EntR) (hE:E.length=4) (s:ByteArray):
   Calls Tryz.prog 84 #[.agg (lv E).toArray,.string s] w fun e w'=>e= .returned (.int .i64 (findE E s))∧Below w.heap.size w w':=by
 have L0:=hide (Locs.one w (.cells (lv E).toArray 144))
 have l1:=blk_has (uh L0).o0 (n:=8) (by rw [lv_length,hE])
 have l2:=blk_cells (uh L0).o0 (n:=8) (by rw [lv_length,hE])
 have Hn:=hide (len_any (w.alloc (.cells (lv E).toArray 144)) E hE)
 have hl4:=lenOf_le E
 have zll:zl.length=4:=rfl
 have hF:findE E s=findFrom E s (lenOf E) 0:=rfl
 have HF:=hide hF
 clear hF
 go_enter Tryz.func84,Tryz.ntmps84
 go_wp2_with fail
 refine (uh Hn).mono ?_
 rintro e W5 ⟨rfl,hb5⟩
 have L1:=hide ((uh L0).later hb5)
 clear Hn L0 l1 l2 hb5
 generalize lenOf E=n0 at*
 have hli:(n0:Int)≤4:=by omega
 go_wp2
 go_loopw [11] (fun i wr=> ∃ k:Nat,k≤n0∧i= .int .i64 k∧Locs w wr [.cells (lv E).toArray 144]∧findE E s=findFrom E s (n0 - k) k) (fun i _=>n0 - (intOf i).toNat)
 case atStart=>exact ⟨0,by omega,rfl,uh L1,uh HF⟩
 case round=>
   obtain ⟨k,hk,rfl,hL,hl⟩:=hrel
   clear L1 HF
   by_cases hlt:k<n0
   · have hki:(k:Int)<(n0:Int):=by omega
     have hkE:k<E.length:=by omega
     have l1:=hasAt_of_range (n:=2) (ent_range hL.o0 k hkE) rfl
     have l2:=cellsAt_of_range (n:=2) (ent_range hL.o0 k hkE) rfl
     have hs:findFrom E s (n0 - k) k=if txt (E.getD k ze).name=s then (k:Int) else findFrom E s (n0 - (k+1)) (k+1):=by
       rw [show n0 - k=(n0 - (k+1))+1 by omega,findFrom]
     rw [hs] at hl
     generalize E.getD k ze=p at*
     have hLa:=hide (hL.alloc (.cells (ev p).toArray 142))
     have HB:=hide (uh hLa).below
     have c5:(wr.alloc (.cells (ev p).toArray 142)).cell? ⟨wr.heap.size,0,none⟩=some (.string (txt p.name)):=(cell_new wr _ _ _ 0).trans rfl
     clear hL hs
     generalize txt p.name=q at*
     by_cases h0:q=s
     · rw [if_pos h0] at hl
       have Hl:=hide hl
       subst h0
       clear hl
       go_wp2
       go_ret
       exact ⟨by rw [uh Hl];rfl,uh HB⟩
     · rw [if_neg h0] at hl
       have Hl:=hide hl
       have d0:(q.toList == s.toList)=false:=beq_eq_false_iff_ne.2 (fun he=>h0 (Go.WideShapes.bytes_inj (by rw [← Go.ByteArray.toList_eq,← Go.ByteArray.toList_eq];exact he)))
       clear hl
       go_wp2
       go_roundw
       case rel=>exact ⟨k+1,by omega,by go_num,uh hLa,uh Hl⟩
       case measure=>simp [intOf];omega
   · have hk4:k=n0:=by omega
     subst hk4
     rw [Nat.sub_self] at hl
     have HB:=hide hL.below
     have Hl:=hide hl
     clear hl hL
     go_wp2
     go_ret
     exact ⟨by rw [uh Hl];rfl,uh HB⟩
end Go.Proofs.YtknjjjenklfeoaaGreatDoor
namespace Go.Proofs.YtknjjjenklfeoaaGreatDoor
open Go.RowKit
def entR (V:VolR) (s:ByteArray):Int × Nat:=
 if isNameB s.data.toList=false then (0,2) else if findE (entsOf (cl V.C 5)) s<0 then (0,4) else (findE (entsOf (cl V.C 5)) s,0)
theorem entry_any (w:World) (v:Nat) (Cv Lv:Value) (V:VolR) (h:VolAt w v Cv Lv V) (h5:5<V.C.length) (s:ByteArray) (hs:s.size≤maxLen):
   Calls Tryz.prog 109 #[.pointer (some ⟨v,0,none⟩),.string s] w fun e w'=>e= .returned (.tuple #[.int .i64 (entR V s).1,.int .i64 ((entR V s).2:Nat)])∧Below w.heap.size w w':=by
 have Hi:=hide (pIsName_any s w hs)
 have Hh:=hide h
 have HE:Hid (entR V s=if isNameB s.data.toList=false then (0,2) else if findE (entsOf (cl V.C 5)) s<0 then (0,4) else (findE (entsOf (cl V.C 5)) s,0)):=rfl
 have hel:=entsOf_length (cl V.C 5)
 clear h
 cases hb:isNameB s.data.toList
 · rw [hb] at Hi HE
   rw [if_pos rfl] at HE
   clear hb
   go_enter Tryz.func109,Tryz.ntmps109
   go_wp2_with fail
   refine (uh Hi).mono ?_
   rintro e w1 ⟨rfl,hb1⟩
   have B1:=hide hb1
   clear hb1 Hi
   go_wp2
   go_ret2
   exact ⟨by rw [uh HE];rfl,uh B1⟩
 · rw [hb] at Hi HE
   rw [if_neg (by simp)] at HE
   clear hb
   go_enter Tryz.func109,Tryz.ntmps109
   go_wp2_with fail
   refine (uh Hi).mono ?_
   rintro e w1 ⟨rfl,hb1⟩
   have Hl:=hide (list_vol w1 v Cv Lv V ((uh Hh).below hb1) h5)
   have B1:=hide hb1
   clear hb1 Hi
   go_wp2_with fail
   refine (uh Hl).mono ?_
   rintro e w2 ⟨rfl,hb2⟩
   have Hf:=hide (find_any w2 (entsOf (cl V.C 5)) hel s)
   have B2:=hide ((uh B1).trans (hb2.mono (uh B1).size))
   clear hb2 Hl B1
   generalize entsOf (cl V.C 5)=E at*
   go_wp2_with fail
   refine (uh Hf).mono ?_
   rintro e w3 ⟨rfl,hb3⟩
   have B3:=hide ((uh B2).trans (hb3.mono (uh B2).size))
   clear hb3 Hf B2
   generalize findE E s=f at*
   by_cases hf:f<0
   · have df:decide (f<0)=true:=decide_eq_true hf
     rw [if_pos hf] at HE
     go_wp2
     go_ret2
     exact ⟨by rw [uh HE];rfl,uh B3⟩
   · have df:decide (f<0)=false:=decide_eq_false hf
     rw [if_neg hf] at HE
     go_wp2
     go_ret2
     exact ⟨by rw [uh HE];rfl,uh B3⟩
end Go.Proofs.YtknjjjenklfeoaaGreatDoor
namespace Go.Proofs.YtknjjjenklfeoaaGreatDoor
open Go.RowKit
attribute [local go_sem ↓] loadVar_clus storeVar_clus zeroValue_clus loadVar_tab storeVar_tab zeroValue_tab loadVar_cnt storeVar_cnt zeroValue_cnt loadVar_head storeVar_head zeroValue_head build_head buildSlice_clus loadVar_wr storeVar_wr zeroValue_wr build_wr buildSlice_wr equalIn_clus loadVar_place storeVar_place zeroValue_place build_place loadVar_lst storeVar_lst zeroValue_lst storeVar_ent build_ent
attribute [local go_sem] run_loadClus run_storeClus run_zeroClus run_storeClus_new run_loadClus_new zc_length run_loadTab run_storeTab run_zeroTab run_storeTab_new run_loadTab_new zt_length run_loadCnt run_storeCnt run_zeroCnt run_storeCnt_new run_loadCnt_new zk_length run_loadHead run_storeHead run_zeroHead run_storeHead_new run_bHead HasAt_drew cellsAt_drew HasAt_drewN cellsAt_drewN run_bsClus run_loadWr run_zeroWr run_storeWr run_storeWr_new run_bWr0 run_bsWr run_loadPlace run_storePlace run_zeroPlace run_storePlace_new run_bPlace run_loadLst run_storeLst run_zeroLst run_storeLst_new run_storeEnt run_bEnt
attribute [local go_sem] field_head1 field_head0 Oper.semAt_some
attribute [local go_sem ↓] loadVar_ent zeroValue_ent
attribute [local go_sem] run_loadEnt run_zeroEnt run_storeEnt_new
theorem findFrom_some (E:List EntR) (s:ByteArray): ∀ m k,0≤findFrom E s m k→ ∃ i,k≤i∧i<k+m∧findFrom E s m k=(i:Int)
 | 0,k,h=>by simp [findFrom] at h
 | m+1,k,h=>by
   unfold findFrom at h ⊢
   split
   · exact ⟨k,by omega,by omega,rfl⟩
   · rename_i hn
     rw [if_neg hn] at h
     obtain ⟨i,h1,h2,h3⟩:=findFrom_some E s m (k+1) h
     exact ⟨i,by omega,by omega,h3⟩
theorem entR_cases (V:VolR) (s:ByteArray):(entR V s=(0,2)∨entR V s=(0,4))∨ ∃ i,i<lenOf (entsOf (cl V.C 5))∧entR V s=(((i:Nat):Int),0)∧findE (entsOf (cl V.C 5)) s=(i:Int):=by
 unfold entR
 split
 · exact Or.inl (Or.inl rfl)
 · split
   · exact Or.inl (Or.inr rfl)
   · rename_i h
     obtain ⟨i,_,h2,h3⟩:=findFrom_some (entsOf (cl V.C 5)) s (lenOf (entsOf (cl V.C 5))) 0 (by unfold findE at h;omega)
     have h4:findE (entsOf (cl V.C 5)) s=(i:Int):=h3
     exact Or.inr ⟨i,by omega,by rw [h4],h4⟩
def readOfR (V:VolR) (s:ByteArray) (n:Int):Clus × Nat:=
 if (entR V s).2=0 then blkRead V.C ((entsOf (cl V.C 5)).getD (entR V s).1.toNat ze).first n else (zc,(entR V s).2)
theorem volReadOf_bad (w:World) (v:Nat) (Cv Lv:Value) (V:VolR) (h:VolAt w v Cv Lv V) (h5:5<V.C.length) (s:ByteArray) (hs:s.size≤maxLen) (n:Int) (m:Nat) (hm:entR V s=(0,m)) (hm0:m≠0):
   Calls Tryz.prog 98 #[.pointer (some ⟨v,0,none⟩),.string s,.int .i64 n] w fun e w'=>e= .returned (.tuple #[.agg (cv (readOfR V s n).1).toArray,.int .i64 ((readOfR V s n).2:Nat)])∧Below w.heap.size w w':=by
 have L0:=Locs.one w (.cells (cv zc).toArray 38)
 have He:=hide (entry_any _ v Cv Lv V (h.below L0.below) h5 s hs)
 have L0:=hide L0
 clear h
 have hR:readOfR V s n=(zc,m):=by unfold readOfR;rw [hm,if_neg hm0]
 rw [hR]
 rw [hm] at He
 dsimp only at He ⊢
 have d0:(((m:Nat):Int) != 0)=true:=by rw [bne_iff_ne];omega
 clear hm hR
 go_enter Tryz.func98,Tryz.ntmps98
 go_wp2_with fail
 refine (uh He).mono ?_
 rintro e w1 ⟨rfl,hb1⟩
 have L1:=(uh L0).later hb1
 have th:=there_blk L1.o0 0 64 (by simp [cv_length,zc_length])
 have L3:=L1.setCells 0 rfl 0 (cv zc)
 rw [Nat.add_zero,setList_all _ _ (by simp [cv_length,zc_length])] at L3
 have l3:=box_has L3.o0 zc_length
 have l4:=box_cells L3.o0 zc_length
 have HB:=hide L3.below
 clear L3 L1 hb1 He L0
 go_wp2
 refine bodyPost_ret (v:= .tuple #[.agg (cv zc).toArray,.int .i64 (m:Nat)]) (by rw [results_cell_tmp Tryz.results98];simp only [loadVar_clus];simp [asAddr,run_loadClus l3,l4]) rfl ⟨rfl,uh HB⟩
theorem lv_part (E:List EntR): ∀ k,k<E.length→((lv E).drop (k*2)).take 2=ev (E.getD k ze):=by
 induction E with
 | nil=>intro k hk;cases hk
 | cons e r ih=>
   intro k hk
   cases k with
   | zero=>rfl
   | succ k=>
     have:=ih k (by simpa using hk)
     show ((ev e++lv r).drop ((k+1)*2)).take 2=_
     rw [List.drop_append,show (ev e).drop ((k+1)*2)=[] by rw [List.drop_eq_nil_of_le];simp [ev];omega,show (k+1)*2 - (ev e).length=k*2 by simp [ev];omega,List.nil_append,this]
     rfl
theorem part_ent (E:List EntR) (k:Nat) (hk:k<E.length) (w:World):(part 142 (lv E).toArray (k*2)).run Tryz.prog w= .ok (.agg (ev (E.getD k ze)).toArray) w:=by
 have ha:(isAgg 142).run Tryz.prog w= .ok true w:=by unfold isAgg;rw [Sem.run_bind,run_underlying Tryz.underlying142 w];rfl
 have hz:=run_sizeOf (P:=Tryz.prog) (e:=142) (sz:=2) (by kernel_rfl) w
 unfold part
 rw [Sem.run_bind,ha]
 simp only [Result.andThen_ok,if_true]
 rw [Sem.run_bind,hz]
 simp only [Result.andThen_ok]
 have:(lv E).toArray.extract (k*2) (k*2+2)=(ev (E.getD k ze)).toArray:=by
   rw [List.extract_toArray,List.extract_eq_take_drop,show k*2+2 - k*2=2 by omega,lv_part E k hk]
 rw [this]
 rfl
theorem run_index_lst (w:World) (E:List EntR) (hE:E.length=4) (k:Nat) (hk:k<4):(Instr.index 144 (.agg (lv E).toArray) (.int .i64 (k:Int))).run Tryz.prog w= .ok (.agg (ev (E.getD k ze)).toArray) w:=
 run_index_arr w _ _ 4 2 Tryz.underlying144 (by kernel_rfl) _ k hk _ (part_ent E k (by omega) w)
theorem field_ent1 (e:EntR) (w:World):(Instr.field 142 (.agg (ev e).toArray) 1).run Tryz.prog w= .ok (.int .i64 (e.first:Nat)) w:=by
 kernel_rfl
theorem field_ent0 (e:EntR) (w:World):(Instr.field 142 (.agg (ev e).toArray) 0).run Tryz.prog w= .ok (.string (txt e.name)) w:=by
 kernel_rfl
attribute [local go_sem] field_ent0 field_ent1 field_head1 field_head0
theorem volReadOf_good (w:World) (v:Nat) (Cv Lv:Value) (V:VolR) (h:VolAt w v Cv Lv V) (h5:5<V.C.length) (s:ByteArray) (hs:s.size≤maxLen) (n:Int) (i:Nat) (hi:i<lenOf (entsOf (cl V.C 5))) (he:entR V s=(((i:Nat):Int),0)) (hin:InFile V.C ((entsOf (cl V.C 5)).getD i ze).first):
   Calls Tryz.prog 98 #[.pointer (some ⟨v,0,none⟩),.string s,.int .i64 n] w fun e w'=>e= .returned (.tuple #[.agg (cv (readOfR V s n).1).toArray,.int .i64 ((readOfR V s n).2:Nat)])∧Below w.heap.size w w':=by
 have L0:=Locs.one w (.cells (cv zc).toArray 38)
 have He:=hide (entry_any _ v Cv Lv V (h.below L0.below) h5 s hs)
 have H:=hide h
 have L0:=hide L0
 have hlen:=blkRead_length h.lenC hin n
 have h4:=lenOf_le (entsOf (cl V.C 5))
 have hel:=entsOf_length (cl V.C 5)
 clear h
 have hR:readOfR V s n=blkRead V.C ((entsOf (cl V.C 5)).getD i ze).first n:=by unfold readOfR;rw [he];rfl
 rw [hR]
 rw [he] at He
 dsimp only at He
 have Hl:Hid (∀ W,VolAt W v Cv Lv V→_):=fun W hW=>list_vol W v Cv Lv V hW h5
 have Hr:Hid (∀ W,VolAt W v Cv Lv V→_):=fun W hW=>read_vol W v Cv Lv V hW ((entsOf (cl V.C 5)).getD i ze).first n hin
 have Hx:=fun W=>run_index_lst W (entsOf (cl V.C 5)) hel i (by omega)
 clear hin hR he
 generalize blkRead V.C ((entsOf (cl V.C 5)).getD i ze).first n=R at*
 obtain ⟨c,k⟩:=R
 dsimp only at hlen Hr ⊢
 generalize (entsOf (cl V.C 5)).getD i ze=ent at*
 generalize entsOf (cl V.C 5)=E at*
 go_enter Tryz.func98,Tryz.ntmps98
 go_wp2_with fail
 refine (uh He).mono ?_
 rintro e w1 ⟨rfl,hb1⟩
 have L1:=hide ((uh L0).later hb1)
 clear hb1 He L0
 go_wp2_with fail
 refine (uh Hl _ ((uh H).below (uh L1).below)).mono ?_
 rintro e w2 ⟨rfl,hb2⟩
 have L2:=hide ((uh L1).later hb2)
 have Hx2:=Hx w2
 clear hb2 Hl L1 Hx
 go_wp2_with fail
 refine (uh Hr _ ((uh H).below (uh L2).below)).mono ?_
 rintro e w3 ⟨rfl,hb3⟩
 have L3:=(uh L2).later hb3
 have th:=there_blk L3.o0 0 64 (by simp [cv_length,zc_length])
 have L4:=L3.setCells 0 rfl 0 (cv c)
 rw [Nat.add_zero,setList_all _ _ (by simp [cv_length,zc_length,hlen])] at L4
 have l3:=box_has L4.o0 hlen
 have l4:=box_cells L4.o0 hlen
 have HB:=hide L4.below
 clear L4 L3 hb3 Hr L2 Hx2
 go_wp2
 refine bodyPost_ret (v:= .tuple #[.agg (cv c).toArray,.int .i64 (k:Nat)]) (by rw [results_cell_tmp Tryz.results98];simp only [loadVar_clus];simp [asAddr,run_loadClus l3,l4]) rfl ⟨rfl,uh HB⟩
theorem volReadOf_any (w:World) (v:Nat) (Cv Lv:Value) (V:VolR) (h:VolAt w v Cv Lv V) (h5:5<V.C.length) (s:ByteArray) (hs:s.size≤maxLen) (n:Int) (hin: ∀ k,k<lenOf (entsOf (cl V.C 5))→InFile V.C ((entsOf (cl V.C 5)).getD k ze).first):
   Calls Tryz.prog 98 #[.pointer (some ⟨v,0,none⟩),.string s,.int .i64 n] w fun e w'=>e= .returned (.tuple #[.agg (cv (readOfR V s n).1).toArray,.int .i64 ((readOfR V s n).2:Nat)])∧Below w.heap.size w w':=by
 rcases entR_cases V s with (e | e) | ⟨i,hi,e,_⟩
 · exact volReadOf_bad w v Cv Lv V h h5 s hs n 2 e (by decide)
 · exact volReadOf_bad w v Cv Lv V h h5 s hs n 4 e (by decide)
 · exact volReadOf_good w v Cv Lv V h h5 s hs n i hi e (hin i hi)
theorem readOfR_length {V:VolR} (hl: ∀ c ∈ V.C,c.length=64) (s:ByteArray) (n:Int) (hin: ∀ k,k<lenOf (entsOf (cl V.C 5))→InFile V.C ((entsOf (cl V.C 5)).getD k ze).first):(readOfR V s n).1.length=64:=by
 unfold readOfR
 rcases entR_cases V s with (e | e) | ⟨i,hi,e,_⟩
 · rw [e];exact zc_length
 · rw [e];exact zc_length
 · rw [e];exact blkRead_length hl (hin i hi) n
theorem diskReadOf_any (w:World) (d v:Nat) (Cv Lv:Value) (V:VolR) (h:DskAt w d v Cv Lv V) (h5:5<V.C.length) (s:ByteArray) (hs:s.size≤maxLen) (n:Int) (hin: ∀ k,k<lenOf (entsOf (cl V.C 5))→InFile V.C ((entsOf (cl V.C 5)).getD k ze).first):
   Calls Tryz.prog 50 #[.pointer (some ⟨d,0,none⟩),.string s,.int .i64 n] w fun e w'=>e= .returned (.tuple #[.agg (cv (readOfR V s n).1).toArray,.int .i64 ((readOfR V s n).2:Nat)])∧Below w.heap.size w w':=by
 have L0:=Locs.one w (.cells (cv zc).toArray 38)
 have h1:=h.below L0.below
 have c0:=h1.c0
 have Hm:=hide (made_any _ d v Cv Lv V h1)
 have Hr:=hide (volReadOf_any _ v Cv Lv V h1.vol h5 s hs n hin)
 have hlen:=readOfR_length h.vol.lenC s n hin
 have L0:=hide L0
 clear h h1 hin
 generalize readOfR V s n=R at*
 obtain ⟨c,k⟩:=R
 dsimp only at hlen Hr ⊢
 go_enter Tryz.func50,Tryz.ntmps50
 go_wp2_with fail
 refine (uh Hm).mono ?_
 rintro e w1 ⟨rfl,rfl⟩
 go_wp2_with fail
 refine (uh Hr).mono ?_
 rintro e w2 ⟨rfl,hb2⟩
 have L2:=(uh L0).later hb2
 have th:=there_blk L2.o0 0 64 (by simp [cv_length,zc_length])
 have L3:=L2.setCells 0 rfl 0 (cv c)
 rw [Nat.add_zero,setList_all _ _ (by simp [cv_length,zc_length,hlen])] at L3
 have l3:=box_has L3.o0 hlen
 have l4:=box_cells L3.o0 hlen
 have HB:=hide L3.below
 clear L3 L2 hb2 L0 Hr Hm
 go_wp2
 refine bodyPost_ret (v:= .tuple #[.agg (cv c).toArray,.int .i64 (k:Nat)]) (by rw [results_cell_tmp Tryz.results50];simp only [loadVar_clus];simp [asAddr,run_loadClus l3,l4]) rfl ⟨rfl,uh HB⟩
end Go.Proofs.YtknjjjenklfeoaaGreatDoor
