import Derived.Test.YtknjjjenklfeoaaGreatDoorC06
import Derived.Test.YtknjjjenklfeoaaGreatDoorC34
set_option maxHeartbeats 8000000
set_option maxRecDepth 100000
namespace Go.Proofs.YtknjjjenklfeoaaGreatDoor
open Go.RowKit
def entR (V:VolR) (s:ByteArray):Int × Nat:=
 if isNameB s.data.toList=false then (0,2) else if findE (entsOf (cl V.C 5)) s<0 then (0,4) else (findE (entsOf (cl V.C 5)) s,0)
theorem entry_any (w:World) (v:Nat) (Cv Lv:Value) (V:VolR) (h:VolAt w v Cv Lv V) (h5:5<V.C.length) (s:ByteArray) (hs:s.size≤maxLen):
   Calls Tryz.prog 109 #[.pointer (some ⟨v,0,none⟩),.string s] w fun e w'=>e= .returned (.tuple #[.int .i64 (entR V s).1,.int .i64 ((entR V s).2:Nat)])∧Below w.heap.size w w':=by
 have Hi:=hide (pIsName_any s w hs)
 have Hh:=hide h
 have HE:Hid (entR V s=if isNameB s.data.toList=false then (0,2) else if findE (entsOf (cl V.C 5)) s<0 then (0,4) else (findE (entsOf (cl V.C 5)) s,0)):=rfl
 have hel:=entsOf_length (cl V.C 5)
 clear h
 cases hb:isNameB s.data.toList
 · rw [hb] at Hi HE
   rw [if_pos rfl] at HE
   clear hb
   go_enter Tryz.func109,Tryz.ntmps109
   go_wp2_with fail
   refine (uh Hi).mono ?_
   rintro e w1 ⟨rfl,hb1⟩
   have B1:=hide hb1
   clear hb1 Hi
   go_wp2
   go_ret2
   exact ⟨by rw [uh HE];rfl,uh B1⟩
 · rw [hb] at Hi HE
   rw [if_neg (by simp)] at HE
   clear hb
   go_enter Tryz.func109,Tryz.ntmps109
   go_wp2_with fail
   refine (uh Hi).mono ?_
   rintro e w1 ⟨rfl,hb1⟩
   have Hl:=hide (list_vol w1 v Cv Lv V ((uh Hh).below hb1) h5)
   have B1:=hide hb1
   clear hb1 Hi
   go_wp2_with fail
   refine (uh Hl).mono ?_
   rintro e w2 ⟨rfl,hb2⟩
   have Hf:=hide (find_any w2 (entsOf (cl V.C 5)) hel s)
   have B2:=hide ((uh B1).trans (hb2.mono (uh B1).size))
   clear hb2 Hl B1
   generalize entsOf (cl V.C 5)=E at*
   go_wp2_with fail
   refine (uh Hf).mono ?_
   rintro e w3 ⟨rfl,hb3⟩
   have B3:=hide ((uh B2).trans (hb3.mono (uh B2).size))
   clear hb3 Hf B2
   generalize findE E s=f at*
   by_cases hf:f<0
   · have df:decide (f<0)=true:=decide_eq_true hf
     rw [if_pos hf] at HE
     go_wp2
     go_ret2
     exact ⟨by rw [uh HE];rfl,uh B3⟩
   · have df:decide (f<0)=false:=decide_eq_false hf
     rw [if_neg hf] at HE
     go_wp2
     go_ret2
     exact ⟨by rw [uh HE];rfl,uh B3⟩
end Go.Proofs.YtknjjjenklfeoaaGreatDoor
namespace Go.Proofs.YtknjjjenklfeoaaGreatDoor
open Go.RowKit
attribute [local go_sem ↓] loadVar_clus storeVar_clus zeroValue_clus loadVar_tab storeVar_tab zeroValue_tab loadVar_cnt storeVar_cnt zeroValue_cnt loadVar_head storeVar_head zeroValue_head build_head buildSlice_clus loadVar_wr storeVar_wr zeroValue_wr build_wr buildSlice_wr equalIn_clus loadVar_place storeVar_place zeroValue_place build_place loadVar_lst storeVar_lst zeroValue_lst storeVar_ent build_ent
attribute [local go_sem] run_loadClus run_storeClus run_zeroClus run_storeClus_new run_loadClus_new zc_length run_loadTab run_storeTab run_zeroTab run_storeTab_new run_loadTab_new zt_length run_loadCnt run_storeCnt run_zeroCnt run_storeCnt_new run_loadCnt_new zk_length run_loadHead run_storeHead run_zeroHead run_storeHead_new run_bHead HasAt_drew cellsAt_drew HasAt_drewN cellsAt_drewN run_bsClus run_loadWr run_zeroWr run_storeWr run_storeWr_new run_bWr0 run_bsWr run_loadPlace run_storePlace run_zeroPlace run_storePlace_new run_bPlace run_loadLst run_storeLst run_zeroLst run_storeLst_new run_storeEnt run_bEnt
attribute [local go_sem] field_head1 field_head0 Oper.semAt_some
attribute [local go_sem ↓] loadVar_ent zeroValue_ent
attribute [local go_sem] run_loadEnt run_zeroEnt run_storeEnt_new
theorem findFrom_some (E:List EntR) (s:ByteArray): ∀ m k,0≤findFrom E s m k→ ∃ i,k≤i∧i<k+m∧findFrom E s m k=(i:Int)
 | 0,k,h=>by simp [findFrom] at h
 | m+1,k,h=>by
   unfold findFrom at h ⊢
   split
   · exact ⟨k,by omega,by omega,rfl⟩
   · rename_i hn
     rw [if_neg hn] at h
     obtain ⟨i,h1,h2,h3⟩:=findFrom_some E s m (k+1) h
     exact ⟨i,by omega,by omega,h3⟩
theorem entR_cases (V:VolR) (s:ByteArray):(entR V s=(0,2)∨entR V s=(0,4))∨ ∃ i,i<lenOf (entsOf (cl V.C 5))∧entR V s=(((i:Nat):Int),0)∧findE (entsOf (cl V.C 5)) s=(i:Int):=by
 unfold entR
 split
 · exact Or.inl (Or.inl rfl)
 · split
   · exact Or.inl (Or.inr rfl)
   · rename_i h
     obtain ⟨i,_,h2,h3⟩:=findFrom_some (entsOf (cl V.C 5)) s (lenOf (entsOf (cl V.C 5))) 0 (by unfold findE at h;omega)
     have h4:findE (entsOf (cl V.C 5)) s=(i:Int):=h3
     exact Or.inr ⟨i,by omega,by rw [h4],h4⟩
def readOfR (V:VolR) (s:ByteArray) (n:Int):Clus × Nat:=
 if (entR V s).2=0 then blkRead V.C ((entsOf (cl V.C 5)).getD (entR V s).1.toNat ze).first n else (zc,(entR V s).2)
theorem volReadOf_bad (w:World) (v:Nat) (Cv Lv:Value) (V:VolR) (h:VolAt w v Cv Lv V) (h5:5<V.C.length) (s:ByteArray) (hs:s.size≤maxLen) (n:Int) (m:Nat) (hm:entR V s=(0,m)) (hm0:m≠0):
   Calls Tryz.prog 98 #[.pointer (some ⟨v,0,none⟩),.string s,.int .i64 n] w fun e w'=>e= .returned (.tuple #[.agg (cv (readOfR V s n).1).toArray,.int .i64 ((readOfR V s n).2:Nat)])∧Below w.heap.size w w':=by
 have L0:=Locs.one w (.cells (cv zc).toArray 38)
 have He:=hide (entry_any _ v Cv Lv V (h.below L0.below) h5 s hs)
 have L0:=hide L0
 clear h
 have hR:readOfR V s n=(zc,m):=by unfold readOfR;rw [hm,if_neg hm0]
 rw [hR]
 rw [hm] at He
 dsimp only at He ⊢
 have d0:(((m:Nat):Int) != 0)=true:=by rw [bne_iff_ne];omega
 clear hm hR
 go_enter Tryz.func98,Tryz.ntmps98
 go_wp2_with fail
 refine (uh He).mono ?_
 rintro e w1 ⟨rfl,hb1⟩
 have L1:=(uh L0).later hb1
 have th:=there_blk L1.o0 0 64 (by simp [cv_length,zc_length])
 have L3:=L1.setCells 0 rfl 0 (cv zc)
 rw [Nat.add_zero,setList_all _ _ (by simp [cv_length,zc_length])] at L3
 have l3:=box_has L3.o0 zc_length
 have l4:=box_cells L3.o0 zc_length
 have HB:=hide L3.below
 clear L3 L1 hb1 He L0
 go_wp2
 refine bodyPost_ret (v:= .tuple #[.agg (cv zc).toArray,.int .i64 (m:Nat)]) (by rw [results_cell_tmp Tryz.results98];simp only [loadVar_clus];simp [asAddr,run_loadClus l3,l4]) rfl ⟨rfl,uh HB⟩
theorem lv_part (E:List EntR): ∀ k,k<E.length→((lv E).drop (k*2)).take 2=ev (E.getD k ze):=by
 induction E with
 | nil=>intro k hk;cases hk
 | cons e r ih=>
   intro k hk
   cases k with
   | zero=>rfl
   | succ k=>
     have:=ih k (by simpa using hk)
     show ((ev e++lv r).drop ((k+1)*2)).take 2=_
     rw [List.drop_append,show (ev e).drop ((k+1)*2)=[] by rw [List.drop_eq_nil_of_le];simp [ev];omega,show (k+1)*2 - (ev e).length=k*2 by simp [ev];omega,List.nil_append,this]
     rfl
theorem part_ent (E:List EntR) (k:Nat) (hk:k<E.length) (w:World):(part 142 (lv E).toArray (k*2)).run Tryz.prog w= .ok (.agg (ev (E.getD k ze)).toArray) w:=by
 have ha:(isAgg 142).run Tryz.prog w= .ok true w:=by unfold isAgg;rw [Sem.run_bind,run_underlying Tryz.underlying142 w];rfl
 have hz:=run_sizeOf (P:=Tryz.prog) (e:=142) (sz:=2) (by kernel_rfl) w
 unfold part
 rw [Sem.run_bind,ha]
 simp only [Result.andThen_ok,if_true]
 rw [Sem.run_bind,hz]
 simp only [Result.andThen_ok]
 have:(lv E).toArray.extract (k*2) (k*2+2)=(ev (E.getD k ze)).toArray:=by
   rw [List.extract_toArray,List.extract_eq_take_drop,show k*2+2 - k*2=2 by omega,lv_part E k hk]
 rw [this]
 rfl
theorem run_index_lst (w:World) (E:List EntR) (hE:E.length=4) (k:Nat) (hk:k<4):(Instr.index 144 (.agg (lv E).toArray) (.int .i64 (k:Int))).run Tryz.prog w= .ok (.agg (ev (E.getD k ze)).toArray) w:=
 run_index_arr w _ _ 4 2 Tryz.underlying144 (by kernel_rfl) _ k hk _ (part_ent E k (by omega) w)
theorem field_ent1 (e:EntR) (w:World):(Instr.field 142 (.agg (ev e).toArray) 1).run Tryz.prog w= .ok (.int .i64 (e.first:Nat)) w:=by
 kernel_rfl
theorem field_ent0 (e:EntR) (w:World):(Instr.field 142 (.agg (ev e).toArray) 0).run Tryz.prog w= .ok (.string (txt e.name)) w:=by
 kernel_rfl
attribute [local go_sem] field_ent0 field_ent1 field_head1 field_head0
theorem volReadOf_good (w:World) (v:Nat) (Cv Lv:Value) (V:VolR) (h:VolAt w v Cv Lv V) (h5:5<V.C.length) (s:ByteArray) (hs:s.size≤maxLen) (n:Int) (i:Nat) (hi:i<lenOf (entsOf (cl V.C 5))) (he:entR V s=(((i:Nat):Int),0)) (hin:InFile V.C ((entsOf (cl V.C 5)).getD i ze).first):
   Calls Tryz.prog 98 #[.pointer (some ⟨v,0,none⟩),.string s,.int .i64 n] w fun e w'=>e= .returned (.tuple #[.agg (cv (readOfR V s n).1).toArray,.int .i64 ((readOfR V s n).2:Nat)])∧Below w.heap.size w w':=by
 have L0:=Locs.one w (.cells (cv zc).toArray 38)
 have He:=hide (entry_any _ v Cv Lv V (h.below L0.below) h5 s hs)
 have H:=hide h
 have L0:=hide L0
 have hlen:=blkRead_length h.lenC hin n
 have h4:=lenOf_le (entsOf (cl V.C 5))
 have hel:=entsOf_length (cl V.C 5)
 clear h
 have hR:readOfR V s n=blkRead V.C ((entsOf (cl V.C 5)).getD i ze).first n:=by unfold readOfR;rw [he];rfl
 rw [hR]
 rw [he] at He
 dsimp only at He
 have Hl:Hid (∀ W,VolAt W v Cv Lv V→_):=fun W hW=>list_vol W v Cv Lv V hW h5
 have Hr:Hid (∀ W,VolAt W v Cv Lv V→_):=fun W hW=>read_vol W v Cv Lv V hW ((entsOf (cl V.C 5)).getD i ze).first n hin
 have Hx:=fun W=>run_index_lst W (entsOf (cl V.C 5)) hel i (by omega)
 clear hin hR he
 generalize blkRead V.C ((entsOf (cl V.C 5)).getD i ze).first n=R at*
 obtain ⟨c,k⟩:=R
 dsimp only at hlen Hr ⊢
 generalize (entsOf (cl V.C 5)).getD i ze=ent at*
 generalize entsOf (cl V.C 5)=E at*
 go_enter Tryz.func98,Tryz.ntmps98
 go_wp2_with fail
 refine (uh He).mono ?_
 rintro e w1 ⟨rfl,hb1⟩
 have L1:=hide ((uh L0).later hb1)
 clear hb1 He L0
 go_wp2_with fail
 refine (uh Hl _ ((uh H).below (uh L1).below)).mono ?_
 rintro e w2 ⟨rfl,hb2⟩
 have L2:=hide ((uh L1).later hb2)
 have Hx2:=Hx w2
 clear hb2 Hl L1 Hx
 go_wp2_with fail
 refine (uh Hr _ ((uh H).below (uh L2).below)).mono ?_
 rintro e w3 ⟨rfl,hb3⟩
 have L3:=(uh L2).later hb3
 have th:=there_blk L3.o0 0 64 (by simp [cv_length,zc_length])
 have L4:=L3.setCells 0 rfl 0 (cv c)
 rw [Nat.add_zero,setList_all _ _ (by simp [cv_length,zc_length,hlen])] at L4
 have l3:=box_has L4.o0 hlen
 have l4:=box_cells L4.o0 hlen
 have HB:=hide L4.below
 clear L4 L3 hb3 Hr L2 Hx2
 go_wp2
 refine bodyPost_ret (v:= .tuple #[.agg (cv c).toArray,.int .i64 (k:Nat)]) (by rw [results_cell_tmp Tryz.results98];simp only [loadVar_clus];simp [asAddr,run_loadClus l3,l4]) rfl ⟨rfl,uh HB⟩
theorem volReadOf_any (w:World) (v:Nat) (Cv Lv:Value) (V:VolR) (h:VolAt w v Cv Lv V) (h5:5<V.C.length) (s:ByteArray) (hs:s.size≤maxLen) (n:Int) (hin: ∀ k,k<lenOf (entsOf (cl V.C 5))→InFile V.C ((entsOf (cl V.C 5)).getD k ze).first):
   Calls Tryz.prog 98 #[.pointer (some ⟨v,0,none⟩),.string s,.int .i64 n] w fun e w'=>e= .returned (.tuple #[.agg (cv (readOfR V s n).1).toArray,.int .i64 ((readOfR V s n).2:Nat)])∧Below w.heap.size w w':=by
 rcases entR_cases V s with (e | e) | ⟨i,hi,e,_⟩
 · exact volReadOf_bad w v Cv Lv V h h5 s hs n 2 e (by decide)
 · exact volReadOf_bad w v Cv Lv V h h5 s hs n 4 e (by decide)
 · exact volReadOf_good w v Cv Lv V h h5 s hs n i hi e (hin i hi)
theorem readOfR_length {V:VolR} (hl: ∀ c ∈ V.C,c.length=64) (s:ByteArray) (n:Int) (hin: ∀ k,k<lenOf (entsOf (cl V.C 5))→InFile V.C ((entsOf (cl V.C 5)).getD k ze).first):(readOfR V s n).1.length=64:=by
 unfold readOfR
 rcases entR_cases V s with (e | e) | ⟨i,hi,e,_⟩
 · rw [e];exact zc_length
 · rw [e];exact zc_length
 · rw [e];exact blkRead_length hl (hin i hi) n
theorem diskReadOf_any (w:World) (d v:Nat) (Cv Lv:Value) (V:VolR) (h:DskAt w d v Cv Lv V) (h5:5<V.C.length) (s:ByteArray) (hs:s.size≤maxLen) (n:Int) (hin: ∀ k,k<lenOf (entsOf (cl V.C 5))→InFile V.C ((entsOf (cl V.C 5)).getD k ze).first):
   Calls Tryz.prog 50 #[.pointer (some ⟨d,0,none⟩),.string s,.int .i64 n] w fun e w'=>e= .returned (.tuple #[.agg (cv (readOfR V s n).1).toArray,.int .i64 ((readOfR V s n).2:Nat)])∧Below w.heap.size w w':=by
 have L0:=Locs.one w (.cells (cv zc).toArray 38)
 have h1:=h.below L0.below
 have c0:=h1.c0
 have Hm:=hide (made_any _ d v Cv Lv V h1)
 have Hr:=hide (volReadOf_any _ v Cv Lv V h1.vol h5 s hs n hin)
 have hlen:=readOfR_length h.vol.lenC s n hin
 have L0:=hide L0
 clear h h1 hin
 generalize readOfR V s n=R at*
 obtain ⟨c,k⟩:=R
 dsimp only at hlen Hr ⊢
 go_enter Tryz.func50,Tryz.ntmps50
 go_wp2_with fail
 refine (uh Hm).mono ?_
 rintro e w1 ⟨rfl,rfl⟩
 go_wp2_with fail
 refine (uh Hr).mono ?_
 rintro e w2 ⟨rfl,hb2⟩
 have L2:=(uh L0).later hb2
 have th:=there_blk L2.o0 0 64 (by simp [cv_length,zc_length])
 have L3:=L2.setCells 0 rfl 0 (cv c)
 rw [Nat.add_zero,setList_all _ _ (by simp [cv_length,zc_length,hlen])] at L3
 have l3:=box_has L3.o0 hlen
 have l4:=box_cells L3.o0 hlen
 have HB:=hide L3.below
 clear L3 L2 hb2 L0 Hr Hm
 go_wp2
 refine bodyPost_ret (v:= .tuple #[.agg (cv c).toArray,.int .i64 (k:Nat)]) (by rw [results_cell_tmp Tryz.results50];simp only [loadVar_clus];simp [asAddr,run_loadClus l3,l4]) rfl ⟨rfl,uh HB⟩
end Go.Proofs.YtknjjjenklfeoaaGreatDoor
namespace Go.Proofs.YtknjjjenklfeoaaGreatDoor
open Go.RowKit
attribute [local go_sem ↓] loadVar_clus storeVar_clus zeroValue_clus loadVar_tab storeVar_tab zeroValue_tab loadVar_cnt storeVar_cnt zeroValue_cnt loadVar_head storeVar_head zeroValue_head build_head buildSlice_clus loadVar_wr storeVar_wr zeroValue_wr build_wr buildSlice_wr equalIn_clus loadVar_place storeVar_place zeroValue_place build_place loadVar_lst storeVar_lst zeroValue_lst storeVar_ent build_ent
attribute [local go_sem] run_loadClus run_storeClus run_zeroClus run_storeClus_new run_loadClus_new zc_length run_loadTab run_storeTab run_zeroTab run_storeTab_new run_loadTab_new zt_length run_loadCnt run_storeCnt run_zeroCnt run_storeCnt_new run_loadCnt_new zk_length run_loadHead run_storeHead run_zeroHead run_storeHead_new run_bHead HasAt_drew cellsAt_drew HasAt_drewN cellsAt_drewN run_bsClus run_loadWr run_zeroWr run_storeWr run_storeWr_new run_bWr0 run_bsWr run_loadPlace run_storePlace run_zeroPlace run_storePlace_new run_bPlace run_loadLst run_storeLst run_zeroLst run_storeLst_new run_storeEnt run_bEnt
attribute [local go_sem] field_head1 field_head0 Oper.semAt_some
attribute [local go_sem ↓] loadVar_ent zeroValue_ent
attribute [local go_sem] run_loadEnt run_zeroEnt run_storeEnt_new
theorem run_copy_wide {P:Program} (w:World) (dT sT ty elem:TypeId) (sz b o dLen dCap:Nat) (a:Addr) (sLen sCap:Nat) (cs:List Value)
   (hu:P.underlying dT=some (.slice elem)) (hs:(P.info? elem).map (·.size)=some sz) (hn:cs.length=Nat.min sLen dLen*sz)
   (hsrc: ∀ j v,cs[j]? = some v→w.cell? (a.add j)=some v) (hc: ∀ j,j<cs.length→(w.cell? ⟨b,o+j,none⟩).isSome=true) (hf: ∀ j,j<cs.length→w.frozen? ⟨b,o+j,none⟩=false) (h1: ∀ v ∈ cs,v.oneCell'=true):
   (Builtin.copy_ #[dT,sT] ty #[.slice (some ⟨b,o,none⟩) dLen dCap,.slice (some a) sLen sCap]).run P w= .ok (goInt (Nat.min sLen dLen:Nat)) (w.setCells b o cs):=by
 have hl:=run_loadCells_list (P:=P) w a cs hsrc
 have hst:=run_storeCells_cells (P:=P) b o cs 0 w (by simpa using hc) (by simpa using hf) h1
 cases hq:P.info? elem with
 | none=>simp [hq] at hs
 | some i=>
   have hi:i.size=sz:=by simpa [hq] using hs
   simp [Builtin.copy_,run_underlying hu,Builtin.lenOf,Builtin.firstCells,Go.sizeOf,typeInfo,hq,hi,← hn,hl,hst]
theorem with_any (w:World) (E:List EntR) (hE:E.length=4) (p:EntR) (hl:lenOf E<4):
   Calls Tryz.prog 89 #[.agg (lv E).toArray,.agg (ev p).toArray] w fun e w'=>e= .returned (.agg (lv (E.set (lenOf E) p)).toArray)∧Below w.heap.size w w':=by
 have L0:=Locs.three w (.cells (lv E).toArray 144) (.cells (ev p).toArray 142) (.cells (lv zl).toArray 144)
 have l1:=blk_has L0.drew.o0 (n:=8) (by rw [lv_length,hE])
 have l2:=blk_cells L0.drew.o0 (n:=8) (by rw [lv_length,hE])
 have l3:=blk_has L0.drew.o1 (n:=2) (by simp [ev])
 have l4:=blk_cells L0.drew.o1 (n:=2) (by simp [ev])
 have Hl:=hide (len_any ((((w.alloc (.cells (lv E).toArray 144)).alloc (.cells (ev p).toArray 142)).alloc (.cells (lv zl).toArray 144)).drew) E hE)
 have hki:((lenOf E:Nat):Int)<4:=by omega
 have hset:=lv_setList E (lenOf E) (by omega) p
 have hsl:(E.set (lenOf E) p).length=4:=by rw [List.length_set,hE]
 have L0:=hide L0
 generalize hkk:lenOf E=k at*
 go_enter Tryz.func89,Tryz.ntmps89
 go_wp2
 go_region_law (go_simp
                go_at_call 85
                refine (uh Hl).mono ?_
                rintro e w2 ⟨rfl,hb2⟩
                have L2:=(uh L0).drew.later hb2
                have th:=there_blk L2.o0 (k*2) 2 (by rw [List.size_toArray,lv_length,hE];omega)
                have m3:=blk_has L2.o1 (n:=2) (by simp [ev])
                have m4:=blk_cells L2.o1 (n:=2) (by simp [ev])
                have L2:=hide L2)
 all_goals
   have L3:=(uh L2).setCells 0 rfl (k*2) (ev p)
   rw [Nat.add_zero] at L3
   generalize w2.setCells w.heap.size (k*2) (ev p)=w3 at*
   rw [Nat.mul_comm k 2,hset] at L3
   simp only [List.set_cons_zero] at L3
   have n1:=blk_has L3.o0 (n:=8) (by rw [lv_length,hsl])
   have n2:=blk_cells L3.o0 (n:=8) (by rw [lv_length,hsl])
   have th2:=there_blk L3.o2 0 8 (by simp [lv_length,zl])
   have L4:=L3.setCells 2 rfl 0 (lv (E.set k p))
   rw [setList_all _ _ (by simp [lv_length,zl,hE])] at L4
   simp only [List.set_cons_zero,List.set_cons_succ] at L4
   have n3:=blk_has L4.o2 (n:=8) (by rw [lv_length,hsl])
   have n4:=blk_cells L4.o2 (n:=8) (by rw [lv_length,hsl])
   have HB:=hide L4.below
   clear L4 L3 L2 hb2 th m3 m4 l1 l2 l3 l4 Hl hset
   go_wp2
   refine bodyPost_ret (results_cell Tryz.results89 ⟨w.heap.size+1+1,0,none⟩ rfl ?_) rfl ⟨rfl,uh HB⟩
   rw [loadVar_lst,run_loadLst n3,n4]
def lessE (E:List EntR) (i:Nat):List EntR:=E.eraseIdx i++[ze]
theorem run_bEnt0 (w:World):(bEnt #[]).run Tryz.prog w= .ok (.agg (ev ze).toArray) w:=by kernel_rfl
attribute [local go_sem] run_bEnt0
theorem without_any (w:World) (E:List EntR) (hE:E.length=4) (i:Nat) (hi:i<4):
   Calls Tryz.prog 112 #[.agg (lv E).toArray,.int .i64 (i:Nat)] w fun e w'=>e= .returned (.agg (lv (lessE E i)).toArray)∧Below w.heap.size w w':=by
 match E,hE with
 | [e0,e1,e2,e3],_=>
 have L0:=(Locs.two w (.cells (lv [e0,e1,e2,e3]).toArray 144) (.cells (lv zl).toArray 144)).drew
 rcases (show i=0∨i=1∨i=2∨i=3 by omega) with rfl | rfl | rfl | rfl
 · have hcp:=run_copy_wide (P:=Tryz.prog) _ 160 160 3 142 2 w.heap.size 0 4 4 ⟨w.heap.size,2,none⟩ 3 3 (lv [e1,e2,e3]) Tryz.underlying160 (by kernel_rfl) (by simp [lv,ev])
     (fun j v hv=>by rw [show (⟨w.heap.size,2,none⟩:Addr).add j=⟨w.heap.size,2+j,none⟩ by simp [Addr.add];try omega];rw [cell_blk L0.o0,List.getElem?_toArray];simpa [lv,ev,Nat.add_comm] using hv)
     (fun j hj=>by rw [cell_blk L0.o0,List.getElem?_toArray,List.getElem?_eq_getElem (by simp [lv,ev] at hj ⊢;try omega)];rfl) (fun j _=>frozen_blk L0.o0 _) (lv_one _)
   have L1:=L0.setCells 0 rfl 0 (lv [e1,e2,e3])
   rw [Nat.add_zero,show setList (lv [e0,e1,e2,e3]).toArray 0 (lv [e1,e2,e3])=(lv [e1,e2,e3,e3]).toArray from rfl] at L1
   simp only [List.set_cons_zero] at L1
   generalize hW1:World.setCells _ w.heap.size 0 (lv [e1,e2,e3])=W1 at*
   have th1:=there_blk L1.o0 6 2 (by simp [lv_length])
   have L2:=L1.setCells 0 rfl 6 (ev ze)
   rw [Nat.add_zero,show setList (lv [e1,e2,e3,e3]).toArray 6 (ev ze)=(lv (lessE [e0,e1,e2,e3] 0)).toArray from rfl] at L2
   simp only [List.set_cons_zero] at L2
   have n1:=blk_has L2.o0 (n:=8) (by simp [lv_length,lessE])
   have n2:=blk_cells L2.o0 (n:=8) (by simp [lv_length,lessE])
   have th2:=there_blk L2.o1 0 8 (by simp [lv_length,zl])
   have L3:=L2.setCells 1 rfl 0 (lv (lessE [e0,e1,e2,e3] 0))
   rw [setList_all _ _ (by simp [lv_length,zl,lessE])] at L3
   simp only [List.set_cons_zero,List.set_cons_succ] at L3
   have n3:=blk_has L3.o1 (n:=8) (by simp [lv_length,lessE])
   have n4:=blk_cells L3.o1 (n:=8) (by simp [lv_length,lessE])
   have hll:(lessE [e0,e1,e2,e3] 0).length=4:=rfl
   have HB:=hide L3.below
   clear L3 L2 L1 L0
   generalize lessE [e0,e1,e2,e3] 0=F at*
   simp only [Nat.min_def,goInt] at hcp
   go_enter Tryz.func112,Tryz.ntmps112
   go_wp2
   go_region
   go_wp2
   refine bodyPost_ret (results_cell Tryz.results112 ⟨w.heap.size+1,0,none⟩ rfl ?_) rfl ⟨rfl,uh HB⟩
   rw [loadVar_lst,run_loadLst n3,n4]
 · have hcp:=run_copy_wide (P:=Tryz.prog) _ 160 160 3 142 2 w.heap.size 2 3 3 ⟨w.heap.size,4,none⟩ 2 2 (lv [e2,e3]) Tryz.underlying160 (by kernel_rfl) (by simp [lv,ev])
     (fun j v hv=>by rw [show (⟨w.heap.size,4,none⟩:Addr).add j=⟨w.heap.size,4+j,none⟩ by simp [Addr.add];try omega];rw [cell_blk L0.o0,List.getElem?_toArray];simpa [lv,ev,Nat.add_comm] using hv)
     (fun j hj=>by rw [cell_blk L0.o0,List.getElem?_toArray,List.getElem?_eq_getElem (by simp [lv,ev] at hj ⊢;try omega)];rfl) (fun j _=>frozen_blk L0.o0 _) (lv_one _)
   have L1:=L0.setCells 0 rfl 2 (lv [e2,e3])
   rw [Nat.add_zero,show setList (lv [e0,e1,e2,e3]).toArray 2 (lv [e2,e3])=(lv [e0,e2,e3,e3]).toArray from rfl] at L1
   simp only [List.set_cons_zero] at L1
   generalize hW1:World.setCells _ w.heap.size 2 (lv [e2,e3])=W1 at*
   have th1:=there_blk L1.o0 6 2 (by simp [lv_length])
   have L2:=L1.setCells 0 rfl 6 (ev ze)
   rw [Nat.add_zero,show setList (lv [e0,e2,e3,e3]).toArray 6 (ev ze)=(lv (lessE [e0,e1,e2,e3] 1)).toArray from rfl] at L2
   simp only [List.set_cons_zero] at L2
   have n1:=blk_has L2.o0 (n:=8) (by simp [lv_length,lessE])
   have n2:=blk_cells L2.o0 (n:=8) (by simp [lv_length,lessE])
   have th2:=there_blk L2.o1 0 8 (by simp [lv_length,zl])
   have L3:=L2.setCells 1 rfl 0 (lv (lessE [e0,e1,e2,e3] 1))
   rw [setList_all _ _ (by simp [lv_length,zl,lessE])] at L3
   simp only [List.set_cons_zero,List.set_cons_succ] at L3
   have n3:=blk_has L3.o1 (n:=8) (by simp [lv_length,lessE])
   have n4:=blk_cells L3.o1 (n:=8) (by simp [lv_length,lessE])
   have hll:(lessE [e0,e1,e2,e3] 1).length=4:=rfl
   have HB:=hide L3.below
   clear L3 L2 L1 L0
   generalize lessE [e0,e1,e2,e3] 1=F at*
   simp only [Nat.min_def,goInt] at hcp
   go_enter Tryz.func112,Tryz.ntmps112
   go_wp2
   go_region
   go_wp2
   refine bodyPost_ret (results_cell Tryz.results112 ⟨w.heap.size+1,0,none⟩ rfl ?_) rfl ⟨rfl,uh HB⟩
   rw [loadVar_lst,run_loadLst n3,n4]
 · have hcp:=run_copy_wide (P:=Tryz.prog) _ 160 160 3 142 2 w.heap.size 4 2 2 ⟨w.heap.size,6,none⟩ 1 1 (lv [e3]) Tryz.underlying160 (by kernel_rfl) (by simp [lv,ev])
     (fun j v hv=>by rw [show (⟨w.heap.size,6,none⟩:Addr).add j=⟨w.heap.size,6+j,none⟩ by simp [Addr.add];try omega];rw [cell_blk L0.o0,List.getElem?_toArray];simpa [lv,ev,Nat.add_comm] using hv)
     (fun j hj=>by rw [cell_blk L0.o0,List.getElem?_toArray,List.getElem?_eq_getElem (by simp [lv,ev] at hj ⊢;try omega)];rfl) (fun j _=>frozen_blk L0.o0 _) (lv_one _)
   have L1:=L0.setCells 0 rfl 4 (lv [e3])
   rw [Nat.add_zero,show setList (lv [e0,e1,e2,e3]).toArray 4 (lv [e3])=(lv [e0,e1,e3,e3]).toArray from rfl] at L1
   simp only [List.set_cons_zero] at L1
   generalize hW1:World.setCells _ w.heap.size 4 (lv [e3])=W1 at*
   have th1:=there_blk L1.o0 6 2 (by simp [lv_length])
   have L2:=L1.setCells 0 rfl 6 (ev ze)
   rw [Nat.add_zero,show setList (lv [e0,e1,e3,e3]).toArray 6 (ev ze)=(lv (lessE [e0,e1,e2,e3] 2)).toArray from rfl] at L2
   simp only [List.set_cons_zero] at L2
   have n1:=blk_has L2.o0 (n:=8) (by simp [lv_length,lessE])
   have n2:=blk_cells L2.o0 (n:=8) (by simp [lv_length,lessE])
   have th2:=there_blk L2.o1 0 8 (by simp [lv_length,zl])
   have L3:=L2.setCells 1 rfl 0 (lv (lessE [e0,e1,e2,e3] 2))
   rw [setList_all _ _ (by simp [lv_length,zl,lessE])] at L3
   simp only [List.set_cons_zero,List.set_cons_succ] at L3
   have n3:=blk_has L3.o1 (n:=8) (by simp [lv_length,lessE])
   have n4:=blk_cells L3.o1 (n:=8) (by simp [lv_length,lessE])
   have hll:(lessE [e0,e1,e2,e3] 2).length=4:=rfl
   have HB:=hide L3.below
   clear L3 L2 L1 L0
   generalize lessE [e0,e1,e2,e3] 2=F at*
   simp only [Nat.min_def,goInt] at hcp
   go_enter Tryz.func112,Tryz.ntmps112
   go_wp2
   go_region
   go_wp2
   refine bodyPost_ret (results_cell Tryz.results112 ⟨w.heap.size+1,0,none⟩ rfl ?_) rfl ⟨rfl,uh HB⟩
   rw [loadVar_lst,run_loadLst n3,n4]
 · have hcp:=run_copy_wide (P:=Tryz.prog) _ 160 160 3 142 2 w.heap.size 6 1 1 ⟨w.heap.size,0,none⟩ 0 0 (lv []) Tryz.underlying160 (by kernel_rfl) (by simp [lv])
     (fun j v hv=>by simp [lv] at hv) (fun j hj=>by simp [lv] at hj) (fun j _=>frozen_blk L0.o0 _) (lv_one _)
   have L1:=L0.setCells 0 rfl 6 (lv [])
   rw [Nat.add_zero,show setList (lv [e0,e1,e2,e3]).toArray 6 (lv [])=(lv [e0,e1,e2,e3]).toArray from rfl] at L1
   simp only [List.set_cons_zero] at L1
   generalize hW1:World.setCells _ w.heap.size 6 (lv [])=W1 at*
   have th1:=there_blk L1.o0 6 2 (by simp [lv_length])
   have L2:=L1.setCells 0 rfl 6 (ev ze)
   rw [Nat.add_zero,show setList (lv [e0,e1,e2,e3]).toArray 6 (ev ze)=(lv (lessE [e0,e1,e2,e3] 3)).toArray from rfl] at L2
   simp only [List.set_cons_zero] at L2
   have n1:=blk_has L2.o0 (n:=8) (by simp [lv_length,lessE])
   have n2:=blk_cells L2.o0 (n:=8) (by simp [lv_length,lessE])
   have th2:=there_blk L2.o1 0 8 (by simp [lv_length,zl])
   have L3:=L2.setCells 1 rfl 0 (lv (lessE [e0,e1,e2,e3] 3))
   rw [setList_all _ _ (by simp [lv_length,zl,lessE])] at L3
   simp only [List.set_cons_zero,List.set_cons_succ] at L3
   have n3:=blk_has L3.o1 (n:=8) (by simp [lv_length,lessE])
   have n4:=blk_cells L3.o1 (n:=8) (by simp [lv_length,lessE])
   have hll:(lessE [e0,e1,e2,e3] 3).length=4:=rfl
   have HB:=hide L3.below
   clear L3 L2 L1 L0
   generalize lessE [e0,e1,e2,e3] 3=F at*
   simp only [Nat.min_def,goInt] at hcp
   go_enter Tryz.func112,Tryz.ntmps112
   go_wp2
   go_region
   go_wp2
   refine bodyPost_ret (results_cell Tryz.results112 ⟨w.heap.size+1,0,none⟩ rfl ?_) rfl ⟨rfl,uh HB⟩
   rw [loadVar_lst,run_loadLst n3,n4]
end Go.Proofs.YtknjjjenklfeoaaGreatDoor
