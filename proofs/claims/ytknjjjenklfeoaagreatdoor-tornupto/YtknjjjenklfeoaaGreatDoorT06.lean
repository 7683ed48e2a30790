import Derived.Test.YtknjjjenklfeoaaGreatDoorT05
set_option maxHeartbeats 8000000
set_option maxRecDepth 100000
namespace Go.Proofs.YtknjjjenklfeoaaGreatDoor
open Go.RowKit
attribute [local go_sem ↓] loadVar_clus storeVar_clus zeroValue_clus loadVar_tab storeVar_tab zeroValue_tab loadVar_cnt storeVar_cnt zeroValue_cnt loadVar_head storeVar_head zeroValue_head build_head buildSlice_clus loadVar_wr storeVar_wr zeroValue_wr build_wr buildSlice_wr equalIn_clus loadVar_place storeVar_place zeroValue_place build_place
attribute [local go_sem] run_loadClus run_storeClus run_zeroClus run_storeClus_new run_loadClus_new zc_length run_loadTab run_storeTab run_zeroTab run_storeTab_new run_loadTab_new zt_length run_loadCnt run_storeCnt run_zeroCnt run_storeCnt_new run_loadCnt_new zk_length run_loadHead run_storeHead run_zeroHead run_storeHead_new run_bHead HasAt_drew cellsAt_drew HasAt_drewN cellsAt_drewN run_bsClus run_loadWr run_zeroWr run_storeWr run_storeWr_new run_bWr0 run_bsWr run_loadPlace run_storePlace run_zeroPlace run_storePlace_new run_bPlace
theorem place_set3 (p:PlaceR) (n:Nat):(placeCells p).toArray.setIfInBounds 3 (.int .u16 (n:Nat))=(placeCells { p with second:=n }).toArray:=by simp [placeCells]
theorem place_set4 (p:PlaceR) (n:Nat):(placeCells p).toArray.setIfInBounds 4 (.int .u16 (n:Nat))=(placeCells { p with block:=n }).toArray:=by simp [placeCells]
theorem place_setTab (p:PlaceR) (T:List Nat) (hp:p.tab.length=32) (hT:T.length=32):setList (placeCells p).toArray 5 (tv T)=(placeCells { p with tab:=T }).toArray:=by
 have:=setList_back [.int .i64 (p.first:Nat),.int .i64 (p.inFirst:Nat),.int .i64 (p.inSecond:Nat),.int .u16 (p.second:Nat),.int .u16 (p.block:Nat)] (tv p.tab) (tv T) (by rw [tv_length,tv_length,hp,hT])
 exact this
theorem place_tab {w:World} {b:Nat} {p:PlaceR} {t:TypeId} {fr:Nat × Nat} (h:w.heap[b]? = some (.cells (placeCells p).toArray t fr)) (r:Nat) (hr:r<p.tab.length):w.cell? ⟨b,5+r,none⟩=some (.int .u16 ((p.tab.getD r 0:Nat):Int)):=by
 rw [cell_blk h,List.getElem?_toArray,placeCells,show 5+r=r+5 by omega]
 simp only [List.getElem?_cons_succ]
 exact tv_get _ _ hr
theorem find_vol (w:World) (v:Nat) (Cv Lv:Value) (V:VolR) (h:VolAt w v Cv Lv V) (first b:Nat) (hf:first<V.C.length) (hb:b<64) (hs:num (cl V.C first) (2*(b / 32))≠0→num (cl V.C first) (2*(b / 32))%32768<V.C.length):
   Calls Tryz.prog 104 #[.pointer (some ⟨v,0,none⟩),.int .i64 (first:Nat),.int .i64 (b:Nat)] w fun e w'=>e= .returned (.agg (placeCells (findR V.C first b)).toArray)∧Below w.heap.size w w':=by
 obtain ⟨q,r,hq,hr,hbq⟩: ∃ q r,q<2∧r<32∧b=32*q+r:=⟨b / 32,b%32,by omega,by omega,by omega⟩
 have e1:b / 32=q:=by omega
 have e2:b%32=r:=by omega
 have i1:(b:Int) / 32=(q:Int):=by omega
 have i2:(b:Int)%32=(r:Int):=by omega
 have HP:Hid (findR V.C first b={ first:=first,inFirst:=q,inSecond:=r,second:=num (cl V.C first) (2*q),block:=if num (cl V.C first) (2*q)=0 then 0 else num (cl V.C (num (cl V.C first) (2*q)%32768)) (2*r),tab:=if num (cl V.C first) (2*q)=0 then zt else numsOf (cl V.C (num (cl V.C first) (2*q)%32768)) }):=by
   unfold findR;rw [e1,e2];rfl
 rw [e1] at hs
 clear hbq e1 e2
 have L0:=Locs.two w (.cells (placeCells zp).toArray 171) (.cells (placeCells zp).toArray 171)
 have th0:=there_blk L0.o1 0 37 (by simp [placeCells_length zp zt_length])
 have L1:=L0.setCells 1 rfl 0 (placeCells ⟨first,q,r,0,0,zt⟩)
 rw [setList_all _ _ (by simp [placeCells,tv_length,zp])] at L1
 simp only [List.set_cons_succ,List.set_cons_zero] at L1
 generalize hW1:World.setCells _ (w.heap.size+1) 0 (placeCells ⟨first,q,r,0,0,zt⟩)=W1 at L1
 have Ht:=hide (table_vol _ v Cv Lv V (h.below L1.drew.below) first hf)
 have ztl:=zt_length
 have c1:W1.drew.cell? ⟨w.heap.size+1,1,none⟩=some (.int .i64 (q:Nat)):=(cell_blk L1.drew.o1 1).trans rfl
 have hix: ∀ W,_:=fun W=>run_index_tab W (numsOf (cl V.C first)) (numsOf_length _) q (by omega)
 rw [numsOf_get _ _ (by omega)] at hix
 have L1:=hide L1
 have Hh:=hide h
 have hsl:=num_lt (cl V.C first) (2*q)
 generalize hss:num (cl V.C first) (2*q)=s at*
 clear L0 h
 go_enter Tryz.func104,Tryz.ntmps104
 go_wp2_with fail
 clear hW1 th0
 go_wp2
 go_region_law (go_simp
                go_at_call 160
                refine (uh Ht).mono ?_
                rintro e w1 ⟨rfl,hb1⟩
                have L2:=(uh L1).drew.later hb1
                have c2:w1.cell? ⟨w.heap.size+1,1,none⟩=some (.int .i64 (q:Nat)):=(cell_blk L2.o1 1).trans rfl
                have c3:w1.cell? ⟨w.heap.size+1,3,none⟩=some (.int .u16 0):=(cell_blk L2.o1 3).trans rfl
                have z3:=frozen_blk L2.o1
                have L2:=hide L2)
 all_goals
   have L3:=(uh L2).setCell 1 rfl 3 (.int .u16 (s:Nat))
   rw [place_set3] at L3
   dsimp only [List.set_cons_succ,List.set_cons_zero] at L3
   generalize World.setCell w1 ⟨w.heap.size+1,3,none⟩ (.int .u16 (s:Nat))=W3 at*
   have d3:W3.cell? ⟨w.heap.size+1,3,none⟩=some (.int .u16 (s:Nat)):=(cell_blk L3.o1 3).trans rfl
   clear L2 hb1 c1 c2 c3 z3 Ht L1
   by_cases hs0:s=0
   · subst hs0
     rw [if_pos rfl,if_pos rfl] at HP
     obtain ⟨bn,hbn⟩: ∃ bn,zt.getD r 0=bn:=⟨_,rfl⟩
     have c4:W3.cell? ⟨w.heap.size+1,2,none⟩=some (.int .i64 (r:Nat)):=(cell_blk L3.o1 2).trans rfl
     have c5:W3.cell? ⟨w.heap.size+1,4,none⟩=some (.int .u16 0):=(cell_blk L3.o1 4).trans rfl
     have c6:W3.cell? ⟨w.heap.size+1,5+r,none⟩=some (.int .u16 (bn:Nat)):=by rw [← hbn];exact place_tab L3.o1 r (by rw [zt_length];exact hr)
     have z6:=frozen_blk L3.o1
     have L5:=L3.setCell 1 rfl 4 (.int .u16 (bn:Nat))
     rw [place_set4] at L5
     dsimp only [List.set_cons_succ,List.set_cons_zero] at L5
     generalize hW5:World.setCell W3 ⟨w.heap.size+1,4,none⟩ (.int .u16 (bn:Nat))=W5 at L5
     have l1:=blk_has L5.o1 (n:=37) (placeCells_length _ zt_length)
     have l2:=blk_cells L5.o1 (n:=37) (placeCells_length _ zt_length)
     have th:=there_blk L5.o0 0 37 (by simp [placeCells,tv_length,zp,zt_length])
     have L6:=L5.setCells 0 rfl 0 (placeCells ⟨first,q,r,0,bn,zt⟩)
     rw [Nat.add_zero,setList_all _ _ (by simp [placeCells,tv_length,zp,zt_length])] at L6
     have l3:=blk_has L6.o0 (n:=37) (placeCells_length _ zt_length)
     have l4:=blk_cells L6.o0 (n:=37) (placeCells_length _ zt_length)
     have HB:=hide L6.below
     have htl:(PlaceR.tab ⟨first,q,r,0,bn,zt⟩).length=32:=zt_length
     clear L5 L6 L3
     have hb0:bn=0:=by rw [← hbn,zt,List.getD_eq_getElem?_getD,List.getElem?_replicate];split <;> rfl
     have HP:Hid (findR V.C first b=⟨first,q,r,0,bn,zt⟩):=by have:=uh HP;rw [hb0];exact this
     clear hb0 hbn
     generalize (⟨first,q,r,0,bn,zt⟩:PlaceR)=p at*
     go_wp2
     refine bodyPost_ret (results_cell Tryz.results104 ⟨w.heap.size,0,none⟩ rfl ?_) rfl ⟨rfl,uh HB⟩
     rw [loadVar_place,run_loadPlace l3,l4,uh HP]
   · rw [if_neg hs0,if_neg hs0] at HP
     have hsn:(((s:Nat):Int) != 0)=true:=by rw [bne_iff_ne];omega
     have Hc:=hide (cluster_of s hsl W3)
     have Ht:=hide (table_vol _ v Cv Lv V ((uh Hh).below L3.below) (s%32768) (hs hs0))
     have L3:=hide L3
     go_wp2_with fail
     refine (uh Hc).mono ?_
     rintro e w4 ⟨rfl,rfl⟩
     go_wp2_with fail
     refine (uh Ht).mono ?_
     rintro e w4 ⟨rfl,hb4⟩
     have L4:=(uh L3).later hb4
     have hnl:=numsOf_length (cl V.C (s%32768))
     have th4:=there_blk L4.o1 5 32 (by simp [placeCells,tv_length,zt_length])
     have L4:=L4.setCells 1 rfl 5 (tv (numsOf (cl V.C (s%32768))))
     rw [place_setTab _ _ zt_length hnl] at L4
     dsimp only [List.set_cons_succ,List.set_cons_zero] at L4
     generalize hW4:World.setCells w4 (w.heap.size+1) 5 (tv (numsOf (cl V.C (s%32768))))=W4 at L4
     obtain ⟨bn,hbn⟩: ∃ bn,(numsOf (cl V.C (s%32768))).getD r 0=bn:=⟨_,rfl⟩
     have c4:W4.cell? ⟨w.heap.size+1,2,none⟩=some (.int .i64 (r:Nat)):=(cell_blk L4.o1 2).trans rfl
     have c5:W4.cell? ⟨w.heap.size+1,4,none⟩=some (.int .u16 0):=(cell_blk L4.o1 4).trans rfl
     have c6:W4.cell? ⟨w.heap.size+1,5+r,none⟩=some (.int .u16 (bn:Nat)):=by rw [← hbn];exact place_tab L4.o1 r (by rw [numsOf_length];exact hr)
     have z6:=frozen_blk L4.o1
     have L5:=L4.setCell 1 rfl 4 (.int .u16 (bn:Nat))
     rw [place_set4] at L5
     dsimp only [List.set_cons_succ,List.set_cons_zero] at L5
     generalize hW5:World.setCell W4 ⟨w.heap.size+1,4,none⟩ (.int .u16 (bn:Nat))=W5 at L5
     have l1:=blk_has L5.o1 (n:=37) (placeCells_length _ (numsOf_length _))
     have l2:=blk_cells L5.o1 (n:=37) (placeCells_length _ (numsOf_length _))
     have th:=there_blk L5.o0 0 37 (by simp [placeCells,tv_length,zp,zt_length])
     have L6:=L5.setCells 0 rfl 0 (placeCells ⟨first,q,r,s,bn,numsOf (cl V.C (s%32768))⟩)
     rw [Nat.add_zero,setList_all _ _ (by simp [placeCells,tv_length,zp,zt_length,numsOf_length])] at L6
     have l3:=blk_has L6.o0 (n:=37) (placeCells_length _ (numsOf_length _))
     have l4:=blk_cells L6.o0 (n:=37) (placeCells_length _ (numsOf_length _))
     have HB:=hide L6.below
     have htl:(PlaceR.tab ⟨first,q,r,s,bn,numsOf (cl V.C (s%32768))⟩).length=32:=numsOf_length _
     clear L5 L6 L4
     have HP:Hid (findR V.C first b=⟨first,q,r,s,bn,numsOf (cl V.C (s%32768))⟩):=by have:=uh HP;rw [← hbn,numsOf_get _ _ hr];exact this
     clear hbn Hc Ht L3 hb4
     generalize (⟨first,q,r,s,bn,numsOf (cl V.C (s%32768))⟩:PlaceR)=p at*
     go_wp2
     refine bodyPost_ret (results_cell Tryz.results104 ⟨w.heap.size,0,none⟩ rfl ?_) rfl ⟨rfl,uh HB⟩
     rw [loadVar_place,run_loadPlace l3,l4,uh HP]
def blkRead (C:List Clus) (first:Nat) (n:Int):Clus × Nat:=if blockB n then (blkOf C first n.toNat,0) else (zc,1)
theorem findR_blk (C:List Clus) (first b:Nat):blkOf C first b=if (findR C first b).block=0 then zc else cl C ((findR C first b).block%32768):=by
 unfold blkOf findR
 dsimp only
 by_cases h:num (cl C first) (2*(b / 32))=0
 · rw [if_pos h,if_pos h,if_pos rfl]
 · rw [if_neg h,if_neg h]
theorem read_vol (w:World) (v:Nat) (Cv Lv:Value) (V:VolR) (h:VolAt w v Cv Lv V) (first:Nat) (n:Int) (hin:InFile V.C first):
   Calls Tryz.prog 140 #[.pointer (some ⟨v,0,none⟩),.int .i64 (first:Nat),.int .i64 n] w fun e w'=>e= .returned (.tuple #[.agg (cv (blkRead V.C first n).1).toArray,.int .i64 ((blkRead V.C first n).2:Nat)])∧Below w.heap.size w w':=by
 have L0:=Locs.one w (.cells (cv zc).toArray 38)
 have Hi:=hide (volIsBlock_any n (w.alloc (.cells (cv zc).toArray 38)))
 have Hr:Hid (blkRead V.C first n=if blockB n then (blkOf V.C first n.toNat,0) else (zc,1)):=rfl
 have HB0:=hide L0.below
 cases hb:blockB n with
 | false=>
   rw [hb] at Hi Hr
   rw [if_neg (by decide)] at Hr
   go_enter Tryz.func140,Tryz.ntmps140
   go_wp2_with fail
   refine (uh Hi).mono ?_
   rintro e w1 ⟨rfl,rfl⟩
   go_wp2
   rw [uh Hr]
   refine bodyPost_ret (v:= .tuple #[.agg (cv zc).toArray,.int .i64 1]) (by rw [results_cell_tmp Tryz.results140];simp only [loadVar_clus];simp [asAddr,run_loadClus_new zc_length]) rfl ⟨rfl,uh HB0⟩
 | true=>
   rw [hb] at Hi Hr
   rw [if_pos rfl] at Hr
   have hn:0≤n∧n<64:=by simpa [blockB] using hb
   obtain ⟨k,rfl⟩:=Int.eq_ofNat_of_zero_le hn.1
   rw [Int.toNat_natCast] at Hr
   have hk:k<64:=by omega
   have Hf:=hide (find_vol _ v Cv Lv V (h.below L0.below) first k hin.at' hk (fun h0=>hin.second (k / 32) (by omega) h0))
   have htl:=findR_tab V.C first k
   have hbe:=findR_blk V.C first k
   have hlt:(findR V.C first k).block≠0→(findR V.C first k).block%32768<V.C.length:=by
     intro h0
     unfold findR at h0 ⊢
     dsimp only at h0 ⊢
     split at h0
     · exact absurd rfl h0
     · rename_i hx
       rw [if_neg hx]
       exact hin.block (k / 32) (by omega) hx (k%32) (by omega)
   have hbl:(findR V.C first k).block<65536:=by
     unfold findR
     dsimp only
     split
     · omega
     · exact num_lt _ _
   have Hh:=hide h
   have L0:=hide L0
   clear hb hn h HB0
   generalize findR V.C first k=p at*
   go_enter Tryz.func140,Tryz.ntmps140
   go_wp2_with fail
   refine (uh Hi).mono ?_
   rintro e w1 ⟨rfl,rfl⟩
   go_wp2_with fail
   refine (uh Hf).mono ?_
   rintro e w1 ⟨rfl,hb1⟩
   have zl:zp.tab.length=32:=zt_length
   have L1:=(uh L0).later hb1
   have L2:=L1.alloc (.cells (placeCells p).toArray 171)
   have c4:(w1.alloc (.cells (placeCells p).toArray 171)).cell? ⟨w1.heap.size,4,none⟩=some (.int .u16 (p.block:Nat)):=(cell_new w1 _ _ _ 4).trans rfl
   have c4':(w1.alloc (.cells (placeCells p).toArray 171)).drew.cell? ⟨w1.heap.size,4,none⟩=some (.int .u16 (p.block:Nat)):=c4
   clear Hf Hi
   by_cases hp0:p.block=0
   · rw [if_pos hp0] at hbe
     rw [hp0] at c4
     have th:=there_blk L2.o0 0 64 (by simp [cv_length,zc_length])
     have L3:=L2.setCells 0 rfl 0 (cv zc)
     rw [Nat.add_zero,setList_all _ _ (by simp)] at L3
     have l3:=box_has L3.o0 zc_length
     have l4:=box_cells L3.o0 zc_length
     have HB:=hide L3.below
     rw [hbe] at Hr
     clear L1 L2 L3 hb1 c4'
     go_wp2
     rw [uh Hr]
     refine bodyPost_ret (v:= .tuple #[.agg (cv zc).toArray,.int .i64 0]) (by rw [results_cell_tmp Tryz.results140];simp only [loadVar_clus];simp [asAddr,run_loadClus l3,l4]) rfl ⟨rfl,uh HB⟩
   · rw [if_neg hp0] at hbe
     have hpn:((p.block:Int) == 0)=false:=by rw [beq_eq_false_iff_ne];omega
     have Hc:Hid (∀ W,_):=fun W=>cluster_of p.block hbl W
     have Ha:=hide (at_any _ v Cv Lv V ((uh Hh).below L2.drew.below) (p.block%32768) (hlt hp0))
     have hcl:=cl_length (uh Hh).lenC (hlt hp0)
     rw [hbe] at Hr
     generalize cl V.C (p.block%32768)=c at*
     have L2:=hide L2
     clear L1 hb1 hbe hlt
     go_wp2
     go_region_law (first
       | (go_simp
          go_at_call 108
          refine (uh Hc _).mono ?_
          rintro e w3 ⟨rfl,rfl⟩)
       | (go_simp
          go_at_call 142
          refine (uh Ha).mono ?_
          rintro e w3 ⟨rfl,hb3⟩
          have L3:=(uh L2).drew.later hb3
          have th:=there_blk L3.o0 0 64 (by simp [cv_length,zc_length])
          have L3:=hide L3))
     all_goals
       have L4:=(uh L3).setCells 0 rfl 0 (cv c)
       rw [Nat.add_zero,setList_all _ _ (by simp [cv_length,zc_length,hcl])] at L4
       have l3:=box_has L4.o0 hcl
       have l4:=box_cells L4.o0 hcl
       have HB:=hide L4.below
       clear L4 L3 hb3 L2 Ha Hc c4 c4'
       go_wp2
       rw [uh Hr]
       refine bodyPost_ret (v:= .tuple #[.agg (cv c).toArray,.int .i64 0]) (by rw [results_cell_tmp Tryz.results140];simp only [loadVar_clus];simp [Act.put,asAddr,run_loadClus l3,l4]) rfl ⟨rfl,uh HB⟩
theorem field_head1 (a b:Nat) (w:World):(Instr.field 128 (.agg (hv a b).toArray) 1).run Tryz.prog w= .ok (.int .i64 (b:Nat)) w:=by
 kernel_rfl
theorem field_head0 (a b:Nat) (w:World):(Instr.field 128 (.agg (hv a b).toArray) 0).run Tryz.prog w= .ok (.int .i64 (a:Nat)) w:=by
 kernel_rfl
attribute [local go_sem] field_head1 field_head0
theorem blkRead_length {C:List Clus} {first:Nat} (hl: ∀ c ∈ C,c.length=64) (hin:InFile C first) (n:Int):(blkRead C first n).1.length=64:=by
 unfold blkRead
 split
 · rename_i h
   simp only [blockB,Bool.and_eq_true,decide_eq_true_eq] at h
   exact blkOf_length hl hin n.toNat (by omega)
 · exact zc_length
theorem volRead_any (w:World) (v:Nat) (Cv Lv:Value) (V:VolR) (h:VolAt w v Cv Lv V) (n:Int) (h0:0<V.C.length) (hin:InFile V.C (num (cl V.C 0) 6)):
   Calls Tryz.prog 81 #[.pointer (some ⟨v,0,none⟩),.int .i64 n] w fun e w'=>e= .returned (.tuple #[.agg (cv (blkRead V.C (num (cl V.C 0) 6) n).1).toArray,.int .i64 ((blkRead V.C (num (cl V.C 0) 6) n).2:Nat)])∧Below w.heap.size w w':=by
 have L0:=Locs.one w (.cells (cv zc).toArray 38)
 have Hh:=hide (head_vol _ v Cv Lv V (h.below L0.below) h0)
 have hlen:=blkRead_length h.lenC hin n
 have H:=hide h
 have L0:=hide L0
 clear h
 have Hr:Hid (∀ W,VolAt W v Cv Lv V→_):=fun W hW=>read_vol W v Cv Lv V hW (num (cl V.C 0) 6) n hin
 generalize hrr:blkRead V.C (num (cl V.C 0) 6) n=R at*
 obtain ⟨c,k⟩:=R
 dsimp only at hlen Hr ⊢
 generalize num (cl V.C 0) 6=first at*
 generalize num (cl V.C 0) 4=cc at*
 go_enter Tryz.func81,Tryz.ntmps81
 go_wp2_with fail
 refine (uh Hh).mono ?_
 rintro e w1 ⟨rfl,hb1⟩
 have L1:=hide ((uh L0).later hb1)
 go_wp2_with fail
 refine (uh Hr _ ((uh H).below (uh L1).below)).mono ?_
 rintro e w2 ⟨rfl,hb2⟩
 have L2:=(uh L1).later hb2
 have th:=there_blk L2.o0 0 64 (by simp [cv_length,zc_length])
 have L3:=L2.setCells 0 rfl 0 (cv c)
 rw [Nat.add_zero,setList_all _ _ (by simp [cv_length,zc_length,hlen])] at L3
 have l3:=box_has L3.o0 hlen
 have l4:=box_cells L3.o0 hlen
 have HB:=hide L3.below
 clear L3 L2 hb2 L1 hb1 Hr Hh
 go_wp2
 refine bodyPost_ret (v:= .tuple #[.agg (cv c).toArray,.int .i64 (k:Nat)]) (by rw [results_cell_tmp Tryz.results81];simp only [loadVar_clus];simp [asAddr,run_loadClus l3,l4]) rfl ⟨rfl,uh HB⟩
theorem diskRead_any (w:World) (d v:Nat) (Cv Lv:Value) (V:VolR) (h:DskAt w d v Cv Lv V) (n:Int) (h0:0<V.C.length) (hin:InFile V.C (num (cl V.C 0) 6)):
   Calls Tryz.prog 46 #[.pointer (some ⟨d,0,none⟩),.int .i64 n] w fun e w'=>e= .returned (.tuple #[.agg (cv (blkRead V.C (num (cl V.C 0) 6) n).1).toArray,.int .i64 ((blkRead V.C (num (cl V.C 0) 6) n).2:Nat)])∧Below w.heap.size w w':=by
 have L0:=Locs.one w (.cells (cv zc).toArray 38)
 have h1:=h.below L0.below
 have c0:=h1.c0
 have Hm:=hide (made_any _ d v Cv Lv V h1)
 have Hr:=hide (volRead_any _ v Cv Lv V h1.vol n h0 hin)
 have hlen:=blkRead_length h.vol.lenC hin n
 have L0:=hide L0
 clear h h1
 generalize blkRead V.C (num (cl V.C 0) 6) n=R at*
 obtain ⟨c,k⟩:=R
 dsimp only at hlen Hr ⊢
 go_enter Tryz.func46,Tryz.ntmps46
 go_wp2_with fail
 refine (uh Hm).mono ?_
 rintro e w1 ⟨rfl,rfl⟩
 go_wp2_with fail
 refine (uh Hr).mono ?_
 rintro e w2 ⟨rfl,hb2⟩
 have L2:=(uh L0).later hb2
 have th:=there_blk L2.o0 0 64 (by simp [cv_length,zc_length])
 have L3:=L2.setCells 0 rfl 0 (cv c)
 rw [Nat.add_zero,setList_all _ _ (by simp [cv_length,zc_length,hlen])] at L3
 have l3:=box_has L3.o0 hlen
 have l4:=box_cells L3.o0 hlen
 have HB:=hide L3.below
 clear L3 L2 hb2 L0 Hr Hm
 go_wp2
 refine bodyPost_ret (v:= .tuple #[.agg (cv c).toArray,.int .i64 (k:Nat)]) (by rw [results_cell_tmp Tryz.results46];simp only [loadVar_clus];simp [asAddr,run_loadClus l3,l4]) rfl ⟨rfl,uh HB⟩
end Go.Proofs.YtknjjjenklfeoaaGreatDoor
namespace Go.Proofs.YtknjjjenklfeoaaGreatDoor
open Go.RowKit
attribute [local go_sem ↓] loadVar_clus storeVar_clus zeroValue_clus loadVar_tab storeVar_tab zeroValue_tab loadVar_cnt storeVar_cnt zeroValue_cnt loadVar_head storeVar_head zeroValue_head build_head buildSlice_clus loadVar_wr storeVar_wr zeroValue_wr build_wr buildSlice_wr equalIn_clus loadVar_place storeVar_place zeroValue_place build_place
attribute [local go_sem] run_loadClus run_storeClus run_zeroClus run_storeClus_new run_loadClus_new zc_length run_loadTab run_storeTab run_zeroTab run_storeTab_new run_loadTab_new zt_length run_loadCnt run_storeCnt run_zeroCnt run_storeCnt_new run_loadCnt_new zk_length run_loadHead run_storeHead run_zeroHead run_storeHead_new run_bHead HasAt_drew cellsAt_drew HasAt_drewN cellsAt_drewN run_bsClus run_loadWr run_zeroWr run_storeWr run_storeWr_new run_bWr0 run_bsWr run_loadPlace run_storePlace run_zeroPlace run_storePlace_new run_bPlace
theorem putV_lenC (V:VolR) (n:Nat) (d:Clus):(putV V n d).C.length=max V.C.length (n+1):=by
 unfold putV
 split
 · rename_i h;have:=h.1;omega
 · simp only [putW,List.length_set,growTo_length]
theorem putV_lenL (V:VolR) (n:Nat) (d:Clus):(putV V n d).L.length≤V.L.length+2:=by
 unfold putV
 split
 · omega
 · have:=completeV_lenL V
   simp only [putW,List.length_append,List.length_singleton];omega
def putCnt (V:VolR) (k:List UInt8):Nat→VolR
 | 0=>V
 | p+1=>putV (putCnt V k p) (1+p) (partOf k p)
theorem putCnt_lenC (V:VolR) (k:List UInt8) (p:Nat):(putCnt V k p).C.length≤max V.C.length (p+1):=by
 induction p with
 | zero=>simp only [putCnt];omega
 | succ p ih=>simp only [putCnt,putV_lenC];omega
theorem putCnt_lenL (V:VolR) (k:List UInt8) (p:Nat):(putCnt V k p).L.length≤V.L.length+2*p:=by
 induction p with
 | zero=>simp only [putCnt];omega
 | succ p ih=>have:=putV_lenL (putCnt V k p) (1+p) (partOf k p);simp only [putCnt];omega
theorem putCounts_any (w:World) (v:Nat) (Cv Lv:Value) (V:VolR) (h:VolAt w v Cv Lv V) (k:List UInt8) (hk:k.length=256) (hC:V.C.length≤1000) (hL:V.L.length≤900000000):
   Calls Tryz.prog 69 #[.pointer (some ⟨v,0,none⟩),.agg (cv k).toArray] w fun e w'=>e= .returned (.tuple #[])∧ ∃ Cv' Lv',VStep w w' v Cv Lv Cv' Lv' (putCnt V k 4):=by
 have E0:=hide ((Env.start h).lay (.cells (cv k).toArray 123))
 clear h
 go_enter Tryz.func69,Tryz.ntmps69
 go_wp2
 go_loopw [4,5] (fun _ i w'=> ∃ (p:Nat) (C1 L1:Value),p≤4∧i= .int .i64 p∧Env w w' v Cv Lv C1 L1 (putCnt V k p) [(w.heap.size,.cells (cv k).toArray 123)]) (fun _ i _=>4 - (intOf i).toNat)
 case atStart=>exact ⟨0,Cv,Lv,by omega,rfl,uh E0⟩
 case round=>
   obtain ⟨p,C1,L1,hp,rfl,hE⟩:=hrel
   clear E0
   by_cases hlt:p<4
   · have hpi:(p:Int)<4:=by omega
     have l1:=blk_has hE.drew.o0 (n:=256) (by rw [cv_length,hk])
     have l2:=blk_cells hE.drew.o0 (n:=256) (by rw [cv_length,hk])
     have hlC:=putCnt_lenC V k p
     have hlL:=putCnt_lenL V k p
     have hpl:=partOf_length k p hk hlt
     have Hp:=hide (part_any wr.drew k hk p hlt)
     have hw1:IntKind.i64.wrap (1+(p:Int))=1+(p:Int):=IntWalk.i64_in _ (by omega)
     have HE:=hide hE
     have Hpu:Hid (∀ W C1 L1,VolAt W v C1 L1 (putCnt V k p)→_):=fun W C1 L1 hW=>put_any W v C1 L1 (putCnt V k p) hW (1+p) (by omega) (partOf k p) hpl (by omega) (by omega)
     rw [show ((1+p:Nat):Int)=1+(p:Int) by omega] at Hpu
     clear hE
     generalize hcc:partOf k p=c at*
     go_wp2
     go_region_law (first
       | (go_simp
          go_at_call 132
          refine (uh Hp).mono ?_
          rintro e w1 ⟨rfl,hb1⟩
          have E1:=hide ((uh HE).drew.later hb1))
       | (go_simp
          go_at_call 70
          refine (uh Hpu _ _ _ (uh E1).at').mono ?_
          rintro e w2 ⟨rfl,C2,L2,hS⟩
          have E2:=hide ((uh E1).does hS)
          clear hS))
     all_goals
       go_wp2
       go_roundw
       case rel=>
         refine ⟨p+1,C2,L2,by omega,by go_num,?_⟩
         rw [putCnt,hcc]
         exact uh E2
       case measure=>simp [intOf];omega
   · have hp4:p=4:=by omega
     subst hp4
     have HS:=hide hE.step
     clear hE
     go_wp2
     go_end0
     exact ⟨rfl,C1,L1,uh HS⟩
theorem putHead_any (w:World) (v:Nat) (Cv Lv:Value) (V:VolR) (h:VolAt w v Cv Lv V) (a b:Nat) (ha:a<65536) (hb:b<65536) (hC:V.C.length≤1000) (hL:V.L.length≤900000000):
   Calls Tryz.prog 72 #[.pointer (some ⟨v,0,none⟩),.agg (hv a b).toArray] w fun e w'=>e= .returned (.tuple #[])∧ ∃ Cv' Lv',VStep w w' v Cv Lv Cv' Lv' (putV V 0 (headBytes a b)):=by
 have E0:=(Env.start h).lay (.cells (hv a b).toArray 128)
 have l1:=blk_has E0.drew.o0 (n:=2) (hv_length _ _)
 have l2:=blk_cells E0.drew.o0 (n:=2) (hv_length _ _)
 have hbl:=headBytes_length a b
 have Hp:=hide (headCluster_any (w.alloc (.cells (hv a b).toArray 128)).drew a b ha hb)
 have Hpu:Hid (∀ W C1 L1,VolAt W v C1 L1 V→_):=fun W C1 L1 hW=>put_any W v C1 L1 V hW 0 (by omega) (headBytes a b) hbl (by omega) (by omega)
 have HE:=hide E0
 clear E0 h
 generalize headBytes a b=c at*
 go_enter Tryz.func72,Tryz.ntmps72
 go_wp2
 go_region_law (first
   | (go_simp
      go_at_call 134
      refine (uh Hp).mono ?_
      rintro e w1 ⟨rfl,hb1⟩
      have E1:=hide ((uh HE).drew.later hb1))
   | (go_simp
      go_at_call 70
      refine (uh Hpu _ _ _ (uh E1).at').mono ?_
      rintro e w2 ⟨rfl,C2,L2,hS⟩
      have E2:=hide ((uh E1).does hS).step
      clear hS))
 all_goals
   go_end0
   exact ⟨rfl,C2,L2,uh E2⟩
def putNumV (V:VolR) (t i n:Nat):VolR:=putV V t (bytesOf ((numsOf (cl V.C t)).set i n))
theorem numsOf_lt (c:Clus) (i:Nat):(numsOf c).getD i 0<65536:=by
 by_cases hi:i<32
 · rw [numsOf_get _ _ hi];exact num_lt _ _
 · rw [List.getD_eq_getElem?_getD,List.getElem?_eq_none (by rw [numsOf_length];omega)];decide
theorem set_lt {T:List Nat} (hT: ∀ i,T.getD i 0<65536) (k n:Nat) (hn:n<65536): ∀ i,(T.set k n).getD i 0<65536:=by
 intro i
 have:=hT i
 simp only [List.getD_eq_getElem?_getD,List.getElem?_set] at*
 split
 · split <;> simp <;> omega
 · exact this
theorem putNumber_vol (w:World) (v:Nat) (Cv Lv:Value) (V:VolR) (h:VolAt w v Cv Lv V) (t i n:Nat) (ht:t<V.C.length) (hi:i<32) (hn:n<65536) (hC:V.C.length≤1000) (hL:V.L.length≤900000000):
   Calls Tryz.prog 164 #[.pointer (some ⟨v,0,none⟩),.int .i64 (t:Nat),.int .i64 (i:Nat),.int .u16 (n:Nat)] w fun e w'=>e= .returned (.tuple #[])∧ ∃ Cv' Lv',VStep w w' v Cv Lv Cv' Lv' (putNumV V t i n):=by
 have Ht:=hide (table_vol w v Cv Lv V h t ht)
 have hnl:=numsOf_length (cl V.C t)
 have Hlt:=hide (set_lt (numsOf_lt (cl V.C t)) i n hn)
 have Hpu:Hid (∀ W C1 L1,VolAt W v C1 L1 V→_):=fun W C1 L1 hW=>put_any W v C1 L1 V hW t (by omega) (bytesOf ((numsOf (cl V.C t)).set i n)) (bytesOf_length _) (by omega) (by omega)
 have HV:Hid (putNumV V t i n=putV V t (bytesOf ((numsOf (cl V.C t)).set i n))):=rfl
 have H:=hide h
 have hii:(i:Int)<32:=by omega
 clear h
 generalize numsOf (cl V.C t)=T at*
 go_enter Tryz.func164,Tryz.ntmps164
 go_wp2_with fail
 refine (uh Ht).mono ?_
 rintro e w1 ⟨rfl,hb1⟩
 have E1:=((Env.start (uh H)).later hb1).lay (.cells (tv T).toArray 169)
 have c1:(w1.alloc (.cells (tv T).toArray 169)).cell? ⟨w1.heap.size,i,none⟩=some (.int .u16 ((T.getD i 0:Nat):Int)):=by
   rw [cell_new,List.getElem?_toArray,tv_get _ _ (by omega)]
 have E2:=E1.put (by simp) (Kept.only _ w1.heap.size i (.int .u16 (n:Nat))) (heap_setCell_same _ _ _ _ _ _ _ E1.o0)
 rw [List.setIfInBounds_toArray,← tv_set] at E2
 have hnl2:(T.set i n).length=32:=by rw [List.length_set];exact hnl
 have f1:=frozen_blk E1.o0
 generalize hW2:World.setCell _ ⟨w1.heap.size,i,none⟩ (.int .u16 (n:Nat))=W2 at E2
 have l1:=blk_has E2.drew.o0 (n:=32) (by rw [tv_length,hnl2])
 have l2:=blk_cells E2.drew.o0 (n:=32) (by rw [tv_length,hnl2])
 have Hp:=hide (tableCluster_any W2.drew (T.set i n) hnl2 (uh Hlt))
 have HE:=hide E2
 clear E1 E2 Ht hb1 Hlt
 generalize bytesOf (T.set i n)=c at*
 generalize hT2:T.set i n=T2 at*
 clear hT2
 generalize T.getD i 0=old at*
 go_wp2
 go_region_law (first
   | (go_simp
      go_at_call 163
      refine (uh Hp).mono ?_
      rintro e w4 ⟨rfl,hb4⟩
      have E4:=hide ((uh HE).drew.later hb4))
   | (go_simp
      go_at_call 70
      refine (uh Hpu _ _ _ (uh E4).at').mono ?_
      rintro e w5 ⟨rfl,C5,L5,hS⟩
      have E5:=hide ((uh E4).does hS).step
      clear hS))
 all_goals
   go_end0
   exact ⟨rfl,C5,L5,by rw [uh HV];exact uh E5⟩
def lowTo (c:List UInt8) (want:Nat):Nat→List Nat
 | 0=>[]
 | k+1=>if (lowTo c want k).length=want then lowTo c want k else if byteAt c k=0 then lowTo c want k++[k] else lowTo c want k
def lowFree (c:List UInt8) (want:Nat):List Nat:=lowTo c want 256
theorem lowTo_stop (c:List UInt8) (want k:Nat) (h:(lowTo c want k).length=want): ∀ j,lowTo c want (k+j)=lowTo c want k
 | 0=>rfl
 | j+1=>by
   rw [← Nat.add_assoc,lowTo,lowTo_stop c want k h j,if_pos h]
theorem lowTo_le (c:List UInt8) (want k:Nat):(lowTo c want k).length≤want∧(lowTo c want k).length≤k:=by
 induction k with
 | zero=>simp [lowTo]
 | succ k ih=>
   rw [lowTo]
   split
   · omega
   · split
     · simp;omega
     · omega
def iv (F:List Nat):List Value:=F.map fun n=> .int .i64 (n:Nat)
theorem iv_snoc (F:List Nat) (n:Nat):iv (F++[n])=iv F++[.int .i64 (n:Nat)]:=by simp [iv]
theorem lowestFree_any (w:World) (v:Nat) (Cv Lv:Value) (V:VolR) (h:VolAt w v Cv Lv V) (h5:5≤V.C.length) (want:Nat) (hw:want≤100):
   Calls Tryz.prog 143 #[.pointer (some ⟨v,0,none⟩),.int .i64 (want:Nat)] w fun e w'=> ∃ x,e= .returned x∧w'.ownsRow w.heap.size 3 1 x (lowFree (cntsOf V.C) want).length (iv (lowFree (cntsOf V.C) want))∧Below w.heap.size w w':=by
 obtain ⟨i0,hi0,hz0,hz1,hz2⟩:=info_parts Tryz.infoInt
 have Hc:=hide (counts_vol w v Cv Lv V h h5)
 have hcl:=cntsOf_length V.C h.lenC h5
 clear h
 generalize cntsOf V.C=c at*
 go_enter Tryz.func143,Tryz.ntmps143
 go_wp2_with fail
 refine (uh Hc).mono ?_
 rintro e w1 ⟨rfl,hb1⟩
 have Hb1:=hide hb1
 clear hb1 Hc
 go_wp2
 go_loopw [5,10] (fun f i w'=> ∃ k:Nat,k≤256∧i= .int .i64 k∧w'.ownsRow w.heap.size 3 1 f (lowTo c want k).length (iv (lowTo c want k))∧Below w.heap.size w w') (fun _ i _=>256 - (intOf i).toNat)
 case atStart=>exact ⟨0,by omega,rfl,World.ownsRow_nil _ _ _ _,uh Hb1⟩
 case round=>
   obtain ⟨k,hk,rfl,hrow,hb⟩:=hrel
   obtain ⟨fa,fcap,rfl⟩:=row_form hrow
   have hle:=lowTo_le c want k
   by_cases hlt:k<256
   · have hki:(k:Int)<256:=by omega
     have hix:=run_index_cnt wr c hcl k hlt
     by_cases hst:(lowTo c want k).length=want
     · have Hrow:=hide hrow
       have Hb:=hide hb
       have Hs:Hid (lowFree c want=lowTo c want k):=by
         have:=lowTo_stop c want k hst (256 - k)
         rw [show k+(256 - k)=256 by omega] at this
         exact this
       have dq:((((lowTo c want k).length:Nat):Int) == (want:Int))=true:=by simp [hst]
       clear hrow hb
       go_wp2
       go_ret
       exact ⟨_,rfl,by rw [uh Hs];exact uh Hrow,uh Hb⟩
     · have dq:((((lowTo c want k).length:Nat):Int) == (want:Int))=false:=by simp;omega
       have Hs:Hid (lowTo c want (k+1)=if byteAt c k=0 then lowTo c want k++[k] else lowTo c want k):=by
         show _=_
         rw [lowTo,if_neg hst]
       have Hrow:=hide hrow
       have Hb:=hide hb
       have hbl:=byteAt_lt c k
       clear hrow hb
       by_cases h0:byteAt c k=0
       · rw [if_pos h0] at Hs
         rw [h0] at hix
         generalize lowTo c want k=F at*
         go_wp2_with (at_builtin;refine wpList_append_lies _ rfl _ _ _ rfl w.heap.size 3 i0 _ 1 8 Tryz.underlying75 hi0 hz0 hz1 hz2 rfl (by omega) (.slice fa F.length fcap) F.length (iv F) rfl ((uh Hrow).alloc _) ⟨wr.heap.size,0,none⟩ 1 1 [.int .i64 (k:Nat)] rfl rfl (World.news_of_block (cs:= #[.int .i64 (k:Nat)]) (t:=3) (fr:=(0,0)) (heap_alloc_new wr _)) (by simp [Value.oneCell']) (by omega) (by unfold maxLen;omega) (by omega) (by have:=(uh Hb).size;simp;omega) (wr.heap.size+1) (by simp) ?_;intro g5 cap5 w5 hown5 hgrow hat hlt5)
         have S5:=hide (((uh Hb).alloc (uh Hb).size (.cells #[.int .i64 (k:Nat)] 3)).grown hgrow (by have:=(uh Hb).size;simp;omega) (fun k hk=>((uh Hrow).lt k hk).1))
         go_roundw
         case rel=>exact ⟨k+1,by omega,by go_num,by rw [uh Hs,iv_snoc,List.length_append];exact hown5,uh S5⟩
         case measure=>simp [intOf];omega
       · rw [if_neg h0] at Hs
         have d0:(((byteAt c k:Nat):Int) == 0)=false:=by rw [beq_eq_false_iff_ne];omega
         generalize lowTo c want k=F at*
         generalize byteAt c k=bb at*
         go_wp2
         go_roundw
         case rel=>exact ⟨k+1,by omega,by go_num,by rw [uh Hs];exact uh Hrow,uh Hb⟩
         case measure=>simp [intOf];omega
   · have hk256:k=256:=by omega
     subst hk256
     have Hrow:=hide hrow
     have Hb:=hide hb
     clear hrow hb
     go_wp2
     go_ret
     exact ⟨_,rfl,uh Hrow,uh Hb⟩
end Go.Proofs.YtknjjjenklfeoaaGreatDoor
namespace Go.Proofs.YtknjjjenklfeoaaGreatDoor
open Go.RowKit
attribute [local go_sem ↓] loadVar_clus storeVar_clus zeroValue_clus loadVar_tab storeVar_tab zeroValue_tab loadVar_cnt storeVar_cnt zeroValue_cnt loadVar_head storeVar_head zeroValue_head build_head buildSlice_clus loadVar_wr storeVar_wr zeroValue_wr build_wr buildSlice_wr equalIn_clus loadVar_place storeVar_place zeroValue_place build_place
attribute [local go_sem] run_loadClus run_storeClus run_zeroClus run_storeClus_new run_loadClus_new zc_length run_loadTab run_storeTab run_zeroTab run_storeTab_new run_loadTab_new zt_length run_loadCnt run_storeCnt run_zeroCnt run_storeCnt_new run_loadCnt_new zk_length run_loadHead run_storeHead run_zeroHead run_storeHead_new run_bHead HasAt_drew cellsAt_drew HasAt_drewN cellsAt_drewN run_bsClus run_loadWr run_zeroWr run_storeWr run_storeWr_new run_bWr0 run_bsWr run_loadPlace run_storePlace run_zeroPlace run_storePlace_new run_bPlace
attribute [local go_sem] field_head1 field_head0
def lastOf (F:List Nat):Nat:=F.getD (F.length - 1) 0
def lengthenV (V:VolR) (F:List Nat):VolR:=if num (cl V.C 0) 4≤lastOf F then flushV (putV V 0 (headBytes (lastOf F+1) (num (cl V.C 0) 6))) else V
theorem flushV_C (V:VolR):(flushV V).C=V.C:=by unfold flushV;split <;> rfl
theorem flushV_short (V:VolR):(flushV V).short=V.short:=by unfold flushV;split <;> rfl
theorem flushV_lenL (V:VolR):(flushV V).L.length≤V.L.length+1:=by unfold flushV;split <;> simp
theorem ints_ne {w:World} {v:Nat} {Cv Lv x:Value} {V:VolR} (h:VolAt w v Cv Lv V) {base n:Nat} {xs:List Value} (hr:w.ownsRow base 3 1 x n xs): ∀ g,x.ownBlock=some g→ ¬ foot v Cv Lv g:=by
 intro g hg
 rcases hr.2 with ⟨rfl,_⟩ | ⟨g',cap,cur,rfl,_,hh,_⟩
 · cases hg
 · simp only [Value.ownBlock,Option.some.injEq] at hg
   subst hg
   rintro (e | e | e)
   · subst e;rw [h.blk] at hh;cases hh
   · exact row_ne h.rowC hh (by decide) _ e rfl
   · exact row_ne h.rowL hh (by decide) _ e rfl
theorem ints_kept {w w':World} {v:Nat} {Cv Lv C1 L1 x:Value} {V V1:VolR} (h:VolAt w v Cv Lv V) {base n:Nat} {xs:List Value} (hr:w.ownsRow base 3 1 x n xs) (hs:VStep w w' v Cv Lv C1 L1 V1):w'.ownsRow base 3 1 x n xs:=
 ownsRow_kept hs.kept hr (ints_ne h hr)
theorem lengthen_any (w:World) (v:Nat) (Cv Lv:Value) (V:VolR) (h:VolAt w v Cv Lv V) (F:List Nat) (hF:0<F.length) (hF2:F.length≤100) (hl:lastOf F<256) (x:Value) (hx:w.ownsRow 0 3 1 x F.length (iv F)) (h5:5≤V.C.length) (hC:V.C.length≤1000) (hL:V.L.length≤900000000):
   Calls Tryz.prog 145 #[.pointer (some ⟨v,0,none⟩),x] w fun e w'=>e= .returned (.tuple #[])∧ ∃ Cv' Lv',VStep w w' v Cv Lv Cv' Lv' (lengthenV V F):=by
 obtain ⟨g,cap,rfl,_⟩:=row_some hx hF
 have Hh:=hide (head_vol w v Cv Lv V h (by omega))
 have hn4:=num_lt (cl V.C 0) 4
 have hn6:=num_lt (cl V.C 0) 6
 have HV:Hid (lengthenV V F=if num (cl V.C 0) 4≤lastOf F then flushV (putV V 0 (headBytes (lastOf F+1) (num (cl V.C 0) 6))) else V):=rfl
 have hcx:w.cell? ⟨g,F.length - 1,none⟩=some (.int .i64 (lastOf F:Nat)):=by
   have:=hx.cellAt (F.length - 1) (by omega)
   rw [this]
   unfold iv lastOf
   rw [List.getElem?_map,List.getD_eq_getElem?_getD,List.getElem?_eq_getElem (by omega)]
   rfl
 have hgl:=(hx.lt g rfl).2
 have Hpu:Hid (∀ a b W C1 L1,a<65536→b<65536→VolAt W v C1 L1 V→_):=fun a b W C1 L1 ha hb hW=>putHead_any W v C1 L1 V hW a b ha hb hC hL
 have Hfl:Hid (∀ c W C1 L1,VolAt W v C1 L1 (putV V 0 c)→_):=fun c W C1 L1 hW=>flush_any W v C1 L1 (putV V 0 c) hW (by have:=putV_lenL V 0 c;omega)
 have H:=hide h
 have Hx:=hide hx
 clear h hx
 generalize num (cl V.C 0) 4=a at*
 generalize num (cl V.C 0) 6=b at*
 generalize lastOf F=last at*
 have hlen:(((F.length:Nat):Int) - 1)=((F.length - 1:Nat):Int):=by omega
 generalize F.length - 1=m at*
 go_enter Tryz.func145,Tryz.ntmps145
 go_wp2_with fail
 refine (uh Hh).mono ?_
 rintro e w1 ⟨rfl,hb1⟩
 have E1:=((Env.start (uh H)).later hb1).lay (.cells (hv a b).toArray 128)
 have c0:(w1.alloc (.cells (hv a b).toArray 128)).cell? ⟨w1.heap.size,0,none⟩=some (.int .i64 (a:Nat)):=(cell_new w1 _ _ _ 0).trans rfl
 have c1:(w1.alloc (.cells (hv a b).toArray 128)).cell? ⟨g,m,none⟩=some (.int .i64 (last:Nat)):=by
   rw [World.cell?_alloc_lt _ _ _ (Nat.lt_of_lt_of_le hgl hb1.size)]
   exact (hb1.cell (p:=⟨g,m,none⟩) hgl).trans hcx
 have f1:=frozen_blk E1.o0
 by_cases hle:a≤last
 · rw [if_pos hle] at HV
   have dl:decide ((a:Int)≤(last:Int))=true:=by simpa using hle
   have hset:(hv a b).toArray.setIfInBounds 0 (.int .i64 ((last:Int)+1))=(hv (last+1) b).toArray:=by simp [hv]
   have E2:=E1.put (by simp) (Kept.only _ w1.heap.size 0 (.int .i64 ((last:Int)+1))) (heap_setCell_same _ _ _ _ _ _ _ E1.o0)
   rw [hset] at E2
   generalize hW2:World.setCell _ ⟨w1.heap.size,0,none⟩ (.int .i64 ((last:Int)+1))=W2 at E2
   have l1:=blk_has E2.o0 (n:=2) (hv_length _ _)
   have l2:=blk_cells E2.o0 (n:=2) (hv_length _ _)
   have E2:=hide E2
   clear E1 hset
   go_wp2_with fail
   refine (uh Hpu (last+1) b W2 _ _ (by omega) hn6 (uh E2).at').mono ?_
   rintro e w3 ⟨rfl,C3,L3,hS3⟩
   have E3:=hide ((uh E2).does hS3)
   clear hS3 E2 l1 l2
   go_wp2_with fail
   refine (uh Hfl _ _ _ _ (uh E3).at').mono ?_
   rintro e w4 ⟨rfl,C4,L4,hS4⟩
   have E4:=hide ((uh E3).does hS4).step
   go_wp2
   go_end0
   exact ⟨rfl,C4,L4,by rw [uh HV];exact uh E4⟩
 · rw [if_neg hle] at HV
   have dl:decide ((a:Int)≤(last:Int))=false:=by simp;omega
   have E2:=hide E1.step
   clear E1
   go_wp2
   go_end0
   exact ⟨rfl,Cv,Lv,by rw [uh HV];exact uh E2⟩
def ones (k:List UInt8) (F:List Nat):List UInt8:=F.foldl (fun k n=>k.set n 1) k
theorem ones_length (k:List UInt8) (F:List Nat):(ones k F).length=k.length:=by
 unfold ones
 induction F generalizing k with
 | nil=>rfl
 | cons a r ih=>simp only [List.foldl_cons];rw [ih];simp
theorem ones_snoc (k:List UInt8) (F:List Nat) (n:Nat):ones k (F++[n])=(ones k F).set n 1:=by simp [ones]
def claimV (V:VolR) (F:List Nat):VolR:=putCnt (lengthenV V F) (ones (cntsOf (lengthenV V F).C) F) 4
theorem lengthenV_lenC (V:VolR) (F:List Nat) (h:0<V.C.length):(lengthenV V F).C.length=V.C.length:=by
 unfold lengthenV
 split
 · rw [flushV_C,putV_lenC];omega
 · rfl
theorem lengthenV_lenL (V:VolR) (F:List Nat):(lengthenV V F).L.length≤V.L.length+3:=by
 unfold lengthenV
 split
 · have h1:=flushV_lenL (putV V 0 (headBytes (lastOf F+1) (num (cl V.C 0) 6)))
   have h2:=putV_lenL V 0 (headBytes (lastOf F+1) (num (cl V.C 0) 6))
   omega
 · omega
theorem claim_any (w:World) (v:Nat) (Cv Lv:Value) (V:VolR) (h:VolAt w v Cv Lv V) (F:List Nat) (hF:0<F.length) (hF2:F.length≤100) (hl:lastOf F<256) (hFl: ∀ n ∈ F,n<256) (x:Value) (hx:w.ownsRow 0 3 1 x F.length (iv F)) (h5:5≤V.C.length) (hC:V.C.length≤1000) (hL:V.L.length≤800000000):
   Calls Tryz.prog 162 #[.pointer (some ⟨v,0,none⟩),x] w fun e w'=>e= .returned (.tuple #[])∧ ∃ Cv' Lv',VStep w w' v Cv Lv Cv' Lv' (claimV V F):=by
 obtain ⟨g,cap,rfl,_⟩:=row_some hx hF
 have Hl:=hide (lengthen_any w v Cv Lv V h F hF hF2 hl _ hx h5 hC (by omega))
 have hlC:=lengthenV_lenC V F (by omega)
 have hlL:=lengthenV_lenL V F
 have HV:Hid (claimV V F=putCnt (lengthenV V F) (ones (cntsOf (lengthenV V F).C) F) 4):=rfl
 have H:=hide h
 have Hx:=hide hx
 clear h hx
 generalize lengthenV V F=V1 at*
 go_enter Tryz.func162,Tryz.ntmps162
 go_wp2_with fail
 refine (uh Hl).mono ?_
 rintro e w1 ⟨rfl,C1,L1,hS1⟩
 have hx1:=ints_kept (uh H) (uh Hx) hS1
 have Hc:=hide (counts_vol w1 v C1 L1 V1 hS1.at' (by omega))
 have hkl:=cntsOf_length V1.C hS1.at'.lenC (by omega)
 have E1:=hide ((Env.start (uh H)).does hS1)
 have Hx1:=hide hx1
 clear hS1 Hl Hx hx1
 generalize cntsOf V1.C=k at*
 go_wp2_with fail
 refine (uh Hc).mono ?_
 rintro e w2 ⟨rfl,hb2⟩
 have E2:=hide (((uh E1).later hb2).lay (.cells (cv k).toArray 123))
 have Hx2:Hid ((w2.alloc (.cells (cv k).toArray 123)).ownsRow 0 3 1 (.slice (some ⟨g,0,none⟩) F.length cap) F.length (iv F)):=(ownsRow_kept (S:=fun _=>False) (Kept.of_below hb2) (uh Hx1) (fun _ _=>id)).alloc _
 clear E1 Hx1 Hc hb2
 go_wp2
 generalize hW2:w2.alloc (.cells (cv k).toArray 123)=W2 at*
 generalize w2.heap.size=bk at*
 go_loopw [6,14] (fun _ i w'=> ∃ m:Nat,m≤F.length∧i= .int .i64 m∧Env w w' v Cv Lv C1 L1 V1 [(bk,.cells (cv (ones k (F.take m))).toArray 123)]∧w'.ownsRow 0 3 1 (.slice (some ⟨g,0,none⟩) F.length cap) F.length (iv F)) (fun _ i _=>F.length - (intOf i).toNat)
 case atStart=>exact ⟨0,by omega,rfl,uh E2,uh Hx2⟩
 case round=>
   obtain ⟨m,hm,rfl,hE,hx⟩:=hrel
   clear E2 Hx2
   have hol:(ones k (F.take m)).length=256:=by rw [ones_length];exact hkl
   by_cases hlt:m<F.length
   · have hmi:(m:Int)<(F.length:Int):=by omega
     have hcx:wr.cell? ⟨g,m,none⟩=some (.int .i64 ((F.getD m 0:Nat):Int)):=by
       have:=hx.cellAt m (by omega)
       rw [this]
       unfold iv
       rw [List.getElem?_map,List.getD_eq_getElem?_getD,List.getElem?_eq_getElem hlt]
       rfl
     have hn:F.getD m 0<256:=by
       rw [List.getD_eq_getElem?_getD,List.getElem?_eq_getElem hlt];exact hFl _ (List.getElem_mem hlt)
     have Ht:Hid (ones k (F.take (m+1))=(ones k (F.take m)).set (F.getD m 0) 1):=by
       show _=_
       rw [← ones_snoc,List.take_succ_eq_append_getElem hlt,List.getD_eq_getElem?_getD,List.getElem?_eq_getElem hlt];rfl
     generalize F.getD m 0=n at*
     have c1:wr.cell? ⟨bk,n,none⟩=some (.int .u8 (byteAt (ones k (F.take m)) n:Nat)):=by
       rw [cell_blk hE.o0,List.getElem?_toArray,cv_get _ _ (by omega)]
     have f1:=frozen_blk hE.o0
     have hni:(n:Int)<256:=by omega
     have hgne: ∀ g',(Value.slice (some ⟨g,0,none⟩) F.length cap).ownBlock=some g'→ ¬ (g'=bk):=row_ne hx hE.o0 (by decide)
     have E3:=hE.put (by simp) (Kept.only _ bk n (.int .u8 1)) (heap_setCell_same _ _ _ _ _ _ _ hE.o0)
     have hset:(cv (ones k (F.take m))).toArray.setIfInBounds n (.int .u8 1)=(cv (ones k (F.take (m+1)))).toArray:=by
       rw [uh Ht,List.setIfInBounds_toArray]
       congr 1
       have:=cv_setB (ones k (F.take m)) n 1 (by omega)
       exact this.symm
     rw [hset] at E3
     have HX:=hide (ownsRow_kept (Kept.only wr bk n (.int .u8 1)) hx hgne)
     have HE:=hide E3
     clear E3 hE hx hset Ht
     go_wp2
     go_roundw
     case rel=>exact ⟨m+1,by omega,by go_num,uh HE,uh HX⟩
     case measure=>simp [intOf];omega
   · have hmF:m=F.length:=by omega
     subst hmF
     rw [List.take_length] at hE hol
     have l1:=blk_has hE.o0 (n:=256) (by rw [cv_length,hol])
     have l2:=blk_cells hE.o0 (n:=256) (by rw [cv_length,hol])
     have Hp:=hide (putCounts_any wr v C1 L1 V1 hE.at' (ones k F) hol (by omega) (by omega))
     have HE:=hide hE
     clear hE hx
     generalize ones k F=k' at*
     go_wp2_with fail
     refine (uh Hp).mono ?_
     rintro e w4 ⟨rfl,C4,L4,hS4⟩
     have E4:=hide ((uh HE).does hS4).step
     go_wp2
     go_end0
     exact ⟨rfl,C4,L4,by rw [uh HV];exact uh E4⟩
end Go.Proofs.YtknjjjenklfeoaaGreatDoor
