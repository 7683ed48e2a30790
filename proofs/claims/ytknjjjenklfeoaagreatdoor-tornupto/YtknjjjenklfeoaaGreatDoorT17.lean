import Derived.Test.YtknjjjenklfeoaaGreatDoorT16
import Derived.Test.YtknjjjenklfeoaaGreatDoorT11
import Derived.Test.YtknjjjenklfeoaaGreatDoorT03
import Derived.Test.YtknjjjenklfeoaaGreatDoorT10
set_option maxHeartbeats 8000000
set_option maxRecDepth 100000
namespace Go.Proofs.YtknjjjenklfeoaaGreatDoor
open Go.RowKit
attribute [local go_sem ↓] loadVar_clus storeVar_clus zeroValue_clus loadVar_tab storeVar_tab zeroValue_tab loadVar_cnt storeVar_cnt zeroValue_cnt loadVar_head storeVar_head zeroValue_head build_head buildSlice_clus loadVar_wr storeVar_wr zeroValue_wr build_wr buildSlice_wr equalIn_clus loadVar_place storeVar_place zeroValue_place build_place
attribute [local go_sem] run_loadClus run_storeClus run_zeroClus run_storeClus_new run_loadClus_new zc_length run_loadTab run_storeTab run_zeroTab run_storeTab_new run_loadTab_new zt_length run_loadCnt run_storeCnt run_zeroCnt run_storeCnt_new run_loadCnt_new zk_length run_loadHead run_storeHead run_zeroHead run_storeHead_new run_bHead HasAt_drew cellsAt_drew HasAt_drewN cellsAt_drewN run_bsClus run_loadWr run_zeroWr run_storeWr run_storeWr_new run_bWr0 run_bsWr run_loadPlace run_storePlace run_zeroPlace run_storePlace_new run_bPlace
attribute [local go_sem] field_head1 field_head0
def placeOf (V:VolR) (n:Int):PlaceR:=findR V.C (num (cl V.C 0) 6) n.toNat
def writeR (V:VolR) (n:Int) (data:Clus) (Vt Vb:VolR):VolR × Nat:=
 if blockB n=false then (V,1)
 else if (placeOf V n).second<32768 then (if 2≤(lowFree (cntsOf V.C) 2).length then (Vt,0) else (V,5))
 else if (placeOf V n).block<32768 then (if 0<(lowFree (cntsOf V.C) 1).length then (Vb,0) else (V,5))
 else (flushV (putV V ((placeOf V n).block%32768) data),0)
theorem findR_lt (C:List Clus) (first b:Nat):(findR C first b).second<65536∧(findR C first b).block<65536∧ ∀ i,(findR C first b).tab.getD i 0<65536:=by
 unfold findR
 dsimp only
 refine ⟨num_lt _ _,?_,?_⟩
 · split
   · omega
   · exact num_lt _ _
 · intro i
   split
   · rw [zt,List.getD_eq_getElem?_getD,List.getElem?_replicate];split <;> decide
   · exact numsOf_lt _ _
theorem volWrite_any (w:World) (v:Nat) (Cv Lv:Value) (V Vt Vb:VolR) (h:VolAt w v Cv Lv V) (h5:5<V.C.length) (hC:V.C.length≤256) (hL:V.L.length≤500000000) (n:Int) (data:Clus) (hd:data.length=64) (hin:InFile V.C (num (cl V.C 0) 6))
   (hT:blockB n=true→(placeOf V n).second<32768→2≤(lowFree (cntsOf V.C) 2).length→LetsGo v (wntV V (placeOf V n) data) Vt [(placeOf V n).second,(placeOf V n).block])
   (hB:blockB n=true→32768≤(placeOf V n).second→(placeOf V n).block<32768→0<(lowFree (cntsOf V.C) 1).length→LetsGo v (wnbV V (placeOf V n) data) Vb [(placeOf V n).block]):
   Calls Tryz.prog 54 #[.pointer (some ⟨v,0,none⟩),.int .i64 n,.agg (cv data).toArray] w fun e w'=>e= .returned (.int .i64 ((writeR V n data Vt Vb).2:Nat))∧ ∃ C1 L1,VStep w w' v Cv Lv C1 L1 (writeR V n data Vt Vb).1:=by
 have E0:=(Env.start h).lay (.cells (cv data).toArray 38)
 have Hi:=hide (volIsBlock_any n (w.alloc (.cells (cv data).toArray 38)))
 have HW:Hid (writeR V n data Vt Vb=if blockB n=false then (V,1) else if (placeOf V n).second<32768 then (if 2≤(lowFree (cntsOf V.C) 2).length then (Vt,0) else (V,5)) else if (placeOf V n).block<32768 then (if 0<(lowFree (cntsOf V.C) 1).length then (Vb,0) else (V,5)) else (flushV (putV V ((placeOf V n).block%32768) data),0)):=rfl
 cases hb:blockB n with
 | false=>
   rw [hb] at Hi HW
   rw [if_pos rfl] at HW
   have HS:=hide E0.step
   clear E0 hT hB
   go_enter Tryz.func54,Tryz.ntmps54
   go_wp2_with fail
   refine (uh Hi).mono ?_
   rintro e w1 ⟨rfl,rfl⟩
   go_wp2
   go_ret
   rw [uh HW]
   exact ⟨rfl,Cv,Lv,uh HS⟩
 | true=>
   rw [hb] at Hi HW
   rw [if_neg (by decide)] at HW
   have hn:0≤n∧n<64:=by simpa [blockB] using hb
   obtain ⟨k,rfl⟩:=Int.eq_ofNat_of_zero_le hn.1
   have hk:k<64:=by omega
   have hT:=hT hb
   have hB:=hB hb
   have hpo:placeOf V (k:Int)=findR V.C (num (cl V.C 0) 6) k:=by unfold placeOf;rw [Int.toNat_natCast]
   rw [hpo] at hT hB HW
   have Hh:=hide (head_vol _ v Cv Lv V E0.at' (by omega))
   have hn6:=num_lt (cl V.C 0) 6
   have HFi:Hid (∀ W,VolAt W v Cv Lv V→_):=fun W hW=>find_vol W v Cv Lv V hW (num (cl V.C 0) 6) k hin.at' hk (fun h0=>hin.second (k / 32) (by omega) h0)
   have htl:=findR_tab V.C (num (cl V.C 0) 6) k
   obtain ⟨hl1,hl2,hl3⟩:=findR_lt V.C (num (cl V.C 0) 6) k
   have hpf:(findR V.C (num (cl V.C 0) 6) k).first<V.C.length:=hin.at'
   have hpi:(findR V.C (num (cl V.C 0) 6) k).inFirst<32:=by unfold findR;dsimp only;omega
   have hpj:(findR V.C (num (cl V.C 0) 6) k).inSecond<32:=by unfold findR;dsimp only;omega
   have hpc:(findR V.C (num (cl V.C 0) 6) k).second≠0→(findR V.C (num (cl V.C 0) 6) k).second%32768<V.C.length:=fun h0=>hin.second (k / 32) (by omega) h0
   have hpb:(findR V.C (num (cl V.C 0) 6) k).block≠0→(findR V.C (num (cl V.C 0) 6) k).block%32768<V.C.length:=by
     intro h0
     unfold findR at h0 ⊢
     dsimp only at h0 ⊢
     split at h0
     · exact absurd rfl h0
     · rename_i hx
       rw [if_neg hx]
       exact hin.block (k / 32) (by omega) hx (k%32) (by omega)
   have zpl:zp.tab.length=32:=zt_length
   have H:=hide h
   have E0:=hide E0
   clear hb hn h hpo hin
   generalize findR V.C (num (cl V.C 0) 6) k=p at*
   generalize num (cl V.C 0) 6=first at*
   generalize num (cl V.C 0) 4=cc at*
   have HM1:Hid (∀ W,_):=fun W=>marked_of p.second hl1 W
   have HM2:Hid (∀ W,_):=fun W=>marked_of p.block hl2 W
   go_enter Tryz.func54,Tryz.ntmps54
   go_wp2_with fail
   refine (uh Hi).mono ?_
   rintro e w1 ⟨rfl,rfl⟩
   go_wp2_with fail
   refine (uh Hh).mono ?_
   rintro e w1 ⟨rfl,hb1⟩
   have E1:=hide ((uh E0).later hb1)
   go_wp2_with fail
   refine (uh HFi _ (uh E1).at').mono ?_
   rintro e w2 ⟨rfl,hb2⟩
   have E2:=((uh E1).later hb2).lay (.cells (placeCells p).toArray 171)
   have c3:(w2.alloc (.cells (placeCells p).toArray 171)).cell? ⟨w2.heap.size,3,none⟩=some (.int .u16 (p.second:Nat)):=(cell_new w2 _ _ _ 3).trans rfl
   have c4:(w2.alloc (.cells (placeCells p).toArray 171)).cell? ⟨w2.heap.size,4,none⟩=some (.int .u16 (p.block:Nat)):=(cell_new w2 _ _ _ 4).trans rfl
   have l1:=blk_has E2.o0 (n:=37) (placeCells_length p htl)
   have l2:=blk_cells E2.o0 (n:=37) (placeCells_length p htl)
   have l3:=box_has E2.o1 hd
   have l4:=box_cells E2.o1 hd
   have E2:=hide E2
   clear hb1 hb2 E1 Hh Hi HFi E0
   go_wp2_with fail
   refine (uh HM1 _).mono ?_
   rintro e w3 ⟨rfl,rfl⟩
   by_cases hs:p.second<32768
   · rw [if_pos hs] at HW
     rw [show decide (32768≤p.second)=false by simp;omega]
     have Hw:=hide (writeNewTable_any _ v Cv Lv V Vt (uh E2).at' h5 hC hL p htl hl3 hpf hpi hpj data hd (hT hs))
     by_cases hf:2≤(lowFree (cntsOf V.C) 2).length
     · simp only [if_pos hf] at Hw HW
       clear hT hB HM1 HM2 c3 c4
       go_wp2_with fail
       refine (uh Hw).mono ?_
       rintro e w4 ⟨rfl,C4,L4,hS4⟩
       have E4:=hide ((uh E2).does hS4).step
       go_wp2
       go_ret
       rw [uh HW]
       exact ⟨rfl,C4,L4,uh E4⟩
     · simp only [if_neg hf] at Hw HW
       clear hT hB HM1 HM2 c3 c4
       go_wp2_with fail
       refine (uh Hw).mono ?_
       rintro e w4 ⟨rfl,hb4⟩
       have E4:=hide ((uh E2).later hb4).step
       go_wp2
       go_ret
       rw [uh HW]
       exact ⟨rfl,Cv,Lv,uh E4⟩
   · rw [if_neg hs] at HW
     rw [show decide (32768≤p.second)=true by simp;omega]
     go_wp2_with fail
     refine (uh HM2 _).mono ?_
     rintro e w3 ⟨rfl,rfl⟩
     by_cases hbk:p.block<32768
     · rw [if_pos hbk] at HW
       rw [show decide (32768≤p.block)=false by simp;omega]
       have Hw:=hide (writeNewBlock_any _ v Cv Lv V Vb (uh E2).at' h5 hC hL p hl1 (hpc (by omega)) hpj data hd (hB (by omega) hbk))
       by_cases hf:0<(lowFree (cntsOf V.C) 1).length
       · simp only [if_pos hf] at Hw HW
         clear hT hB HM1 HM2 c3 c4
         go_wp2_with fail
         refine (uh Hw).mono ?_
         rintro e w4 ⟨rfl,C4,L4,hS4⟩
         have E4:=hide ((uh E2).does hS4).step
         go_wp2
         go_ret
         rw [uh HW]
         exact ⟨rfl,C4,L4,uh E4⟩
       · simp only [if_neg hf] at Hw HW
         clear hT hB HM1 HM2 c3 c4
         go_wp2_with fail
         refine (uh Hw).mono ?_
         rintro e w4 ⟨rfl,hb4⟩
         have E4:=hide ((uh E2).later hb4).step
         go_wp2
         go_ret
         rw [uh HW]
         exact ⟨rfl,Cv,Lv,uh E4⟩
     · rw [if_neg hbk] at HW
       rw [show decide (32768≤p.block)=true by simp;omega]
       have hpbb:=hpb (by omega)
       have HCl:Hid (∀ W,_):=fun W=>cluster_of p.block hl2 W
       generalize p.block%32768=bc at*
       have hpL:=putV_lenL V bc data
       have HP:Hid (∀ W C1 L1,VolAt W v C1 L1 V→_):=fun W C1 L1 hW=>put_any W v C1 L1 V hW bc (by omega) data hd (by omega) (by omega)
       generalize putV V bc data=V2 at*
       have HF:Hid (∀ W C1 L1,VolAt W v C1 L1 V2→_):=fun W C1 L1 hW=>flush_any W v C1 L1 V2 hW (by omega)
       have c4':(w2.alloc (.cells (placeCells p).toArray 171)).drew.cell? ⟨w2.heap.size,4,none⟩=some (.int .u16 (p.block:Nat)):=c4
       have m3:=box_has (uh E2).drew.o1 hd
       have m4:=box_cells (uh E2).drew.o1 hd
       clear hT hB HM1 HM2 l1 l2 l3 l4
       go_wp2
       go_region_law (first
         | (go_simp
            go_at_call 108
            refine (uh HCl _).mono ?_
            rintro e w5 ⟨rfl,rfl⟩)
         | (go_simp
            go_at_call 70
            refine (uh HP _ _ _ (uh E2).drew.at').mono ?_
            rintro e w5 ⟨rfl,C5,L5,hS5⟩
            have E5:=hide ((uh E2).drew.does hS5)
            clear hS5))
       all_goals
         clear m3 m4 c3 c4 c4' HP HCl
         go_wp2_with fail
         refine (uh HF _ _ _ (uh E5).at').mono ?_
         rintro e w6 ⟨rfl,C6,L6,hS6⟩
         have E6:=hide ((uh E5).does hS6).step
         go_wp2
         go_ret
         rw [uh HW]
         exact ⟨rfl,C6,L6,uh E6⟩
end Go.Proofs.YtknjjjenklfeoaaGreatDoor
namespace Go.Proofs.YtknjjjenklfeoaaGreatDoor
open Go.RowKit
attribute [local go_sem ↓] loadVar_clus storeVar_clus zeroValue_clus loadVar_tab storeVar_tab zeroValue_tab loadVar_cnt storeVar_cnt zeroValue_cnt loadVar_head storeVar_head zeroValue_head build_head buildSlice_clus loadVar_wr storeVar_wr zeroValue_wr build_wr buildSlice_wr equalIn_clus loadVar_place storeVar_place zeroValue_place build_place
attribute [local go_sem] run_loadClus run_storeClus run_zeroClus run_storeClus_new run_loadClus_new zc_length run_loadTab run_storeTab run_zeroTab run_storeTab_new run_loadTab_new zt_length run_loadCnt run_storeCnt run_zeroCnt run_storeCnt_new run_loadCnt_new zk_length run_loadHead run_storeHead run_zeroHead run_storeHead_new run_bHead HasAt_drew cellsAt_drew HasAt_drewN cellsAt_drewN run_bsClus run_loadWr run_zeroWr run_storeWr run_storeWr_new run_bWr0 run_bsWr run_loadPlace run_storePlace run_zeroPlace run_storePlace_new run_bPlace
theorem diskWrite_any (w:World) (d v:Nat) (Cv Lv:Value) (V Vt Vb:VolR) (h:DskAt w d v Cv Lv V) (h5:5<V.C.length) (hC:V.C.length≤256) (hL:V.L.length≤500000000) (n:Int) (data:Clus) (hd:data.length=64) (hin:InFile V.C (num (cl V.C 0) 6))
   (hT:blockB n=true→(placeOf V n).second<32768→2≤(lowFree (cntsOf V.C) 2).length→LetsGo v (wntV V (placeOf V n) data) Vt [(placeOf V n).second,(placeOf V n).block])
   (hB:blockB n=true→32768≤(placeOf V n).second→(placeOf V n).block<32768→0<(lowFree (cntsOf V.C) 1).length→LetsGo v (wnbV V (placeOf V n) data) Vb [(placeOf V n).block]):
   Calls Tryz.prog 26 #[.pointer (some ⟨d,0,none⟩),.int .i64 n,.agg (cv data).toArray] w fun e w'=>e= .returned (.int .i64 ((writeR V n data Vt Vb).2:Nat))∧ ∃ C1 L1,VStep w w' v Cv Lv C1 L1 (writeR V n data Vt Vb).1:=by
 have E0:=(Env.start h.vol).lay (.cells (cv data).toArray 38)
 have h1:=h.below ((Below.refl _ w).alloc (Nat.le_refl _) (.cells (cv data).toArray 38))
 have Hm:=hide (made_any _ d v Cv Lv V h1)
 have c0:(w.alloc (.cells (cv data).toArray 38)).drew.cell? ⟨d,0,none⟩=some (.pointer (some ⟨v,0,none⟩)):=h1.c0
 have l1:=box_has E0.drew.o0 hd
 have l2:=box_cells E0.drew.o0 hd
 have Hw:=hide (volWrite_any _ v Cv Lv V Vt Vb E0.drew.at' h5 hC hL n data hd hin hT hB)
 have E0:=hide E0
 clear h h1 hT hB
 generalize writeR V n data Vt Vb=R at*
 obtain ⟨R1,R2⟩:=R
 dsimp only at Hw ⊢
 go_enter Tryz.func26,Tryz.ntmps26
 go_wp2_with fail
 refine (uh Hm).mono ?_
 rintro e w1 ⟨rfl,rfl⟩
 go_wp2
 go_region_law (go_simp
                go_at_call 54
                refine (uh Hw).mono ?_
                rintro e w2 ⟨rfl,C2,L2,hS2⟩
                have E2:=hide ((uh E0).drew.does hS2).step
                clear hS2)
 all_goals
   go_wp2
   refine bodyPost_ret (results_tmp rfl _ _ _) rfl ?_
   exact ⟨rfl,C2,L2,uh E2⟩
end Go.Proofs.YtknjjjenklfeoaaGreatDoor
namespace Go.Proofs.YtknjjjenklfeoaaGreatDoor
open Go.RowKit
def putsOne (V:VolR):Option (Nat × Clus)→VolR
 | some x=>putV V x.1 x.2
 | none=>flushV V
def putsAll (V:VolR) (l:List (Option (Nat × Clus))):VolR:=l.foldl putsOne V
def Puts (V V':VolR):Prop:= ∃ l,V'=putsAll V l
theorem Puts.refl (V:VolR):Puts V V:=⟨[],rfl⟩
theorem Puts.put {V V1:VolR} (h:Puts V V1) (n:Nat) (data:Clus):Puts V (putV V1 n data):=by
 obtain ⟨l,rfl⟩:=h
 exact ⟨l++[some (n,data)],by simp [putsAll,putsOne]⟩
theorem Puts.flush {V V1:VolR} (h:Puts V V1):Puts V (flushV V1):=by
 obtain ⟨l,rfl⟩:=h
 exact ⟨l++[none],by simp [putsAll,putsOne]⟩
theorem Puts.keeps {V V':VolR} (k:Puts V V') (Ok:VolR→Prop) (hp: ∀ V n d,Ok V→Ok (putV V n d)) (hf: ∀ V,Ok V→Ok (flushV V)) (h:Ok V):Ok V':=by
 obtain ⟨l,rfl⟩:=k
 unfold putsAll
 induction l generalizing V with
 | nil=>exact h
 | cons x r ih=>
   refine ih ?_
   cases x with
   | none=>exact hf _ h
   | some y=>exact hp _ _ _ h
structure Logged (base:List Clus) (V:VolR):Prop where
 some:V.short=true→0<V.C.length
 rep:replay base V.L=V.C
 low: ∀ x ∈ V.L,x.cl<(V.C.length:Int)
 tail:V.loose=false→V.L=[]∨ ∃ l,V.L=l++[flushW]
theorem replay_snoc (base:List Clus) (L:List WrR) (x:WrR):replay base (L++[x])=replayOne (replay base L) x:=by simp [replay]
theorem set_same (C:List Clus) (n:Nat) (h:n<C.length):C.set n (cl C n)=C:=by
 apply List.ext_getElem?
 intro i
 rw [List.getElem?_set]
 by_cases e:n=i
 · subst e
   rw [if_pos rfl,if_pos h,cl,List.getD_eq_getElem?_getD,List.getElem?_eq_getElem h]
   rfl
 · rw [if_neg e]
theorem growTo_none (C:List Clus) (n:Nat) (h:n≤C.length):growTo C n=C:=by
 unfold growTo
 rw [show n - C.length=0 by omega]
 simp
theorem Logged.complete {base:List Clus} {V:VolR} (h:Logged base V):Logged base (completeV V):=by
 unfold completeV
 by_cases hs:V.short=true
 · have hp:=h.some hs
   rw [if_pos hs]
   refine ⟨fun e=>(by cases e),?_,fun x hx=> ?_,fun e=>(by cases e)⟩
   · show replay base (V.L++[⟨((V.C.length - 1:Nat):Int),cl V.C (V.C.length - 1)⟩])=V.C
     rw [replay_snoc,h.rep,replayOne,if_neg (by simp)]
     show (growTo V.C (((V.C.length - 1:Nat):Int).toNat+1)).set ((V.C.length - 1:Nat):Int).toNat (cl V.C (V.C.length - 1))=V.C
     rw [Int.toNat_natCast,growTo_none _ _ (by omega),set_same _ _ (by omega)]
   · rcases List.mem_append.1 (show x ∈ V.L++[⟨((V.C.length - 1:Nat):Int),cl V.C (V.C.length - 1)⟩] from hx) with y | y
     · exact h.low x y
     · rw [List.mem_singleton.1 y]
       show ((V.C.length - 1:Nat):Int)<(V.C.length:Int)
       omega
 · rw [if_neg hs];exact h
theorem Logged.put {base:List Clus} {V:VolR} (h:Logged base V) (n:Nat) (data:Clus):Logged base (putV V n data):=by
 unfold putV
 by_cases hc:n<V.C.length∧cl V.C n=data
 · rw [if_pos hc];exact h
 · rw [if_neg hc]
   have hC:=h.complete
   have el:(putW V n data).C.length=max V.C.length (n+1):=by simp only [putW,List.length_set,growTo_length]
   refine ⟨fun e=>(by cases e),?_,fun x hx=> ?_,fun hl=>(by cases hl)⟩
   rotate_left
   · have hx':x ∈ (completeV V).L++[⟨n,data⟩]:=hx
     rw [el]
     rcases List.mem_append.1 hx' with y | y
     · have:=hC.low x y
       rw [completeV_C] at this
       omega
     · rw [List.mem_singleton.1 y];show ((n:Nat):Int)<_;omega
   show replay base ((completeV V).L++[⟨n,data⟩])=_
   rw [replay_snoc,hC.rep,completeV_C,replayOne,if_neg (by simp)]
   rfl
theorem Logged.flush {base:List Clus} {V:VolR} (h:Logged base V):Logged base (flushV V):=by
 unfold flushV
 by_cases hc:V.loose=true
 · rw [if_pos hc]
   refine ⟨h.some,?_,fun x hx=> ?_,fun _=>Or.inr ⟨V.L,rfl⟩⟩
   rotate_left
   · rcases List.mem_append.1 (show x ∈ V.L++[flushW] from hx) with y | y
     · exact h.low x y
     · rw [List.mem_singleton.1 y];show (-1:Int)<_;omega
   show replay base (V.L++[flushW])=_
   rw [replay_snoc,h.rep,replayOne,if_pos (by decide)]
 · rw [if_neg hc];exact h
theorem Logged.puts {base:List Clus} {V V':VolR} (h:Logged base V) (k:Puts V V'):Logged base V':=
 k.keeps (Logged base) (fun _ n d h=>h.put n d) (fun _ h=>h.flush) h
theorem flushV_loose (V:VolR):(flushV V).loose=false:=by
 unfold flushV
 by_cases hc:V.loose=true
 · rw [if_pos hc]
 · rw [if_neg hc];simpa using hc
theorem puts_putCnt {V V1:VolR} (h:Puts V V1) (k:List UInt8) (p:Nat):Puts V (putCnt V1 k p):=by
 induction p with
 | zero=>exact h
 | succ p ih=>exact ih.put _ _
theorem puts_putNum {V V1:VolR} (h:Puts V V1) (t i n:Nat):Puts V (putNumV V1 t i n):=h.put _ _
theorem puts_lengthen {V V1:VolR} (h:Puts V V1) (F:List Nat):Puts V (lengthenV V1 F):=by
 unfold lengthenV
 split
 · exact (h.put _ _).flush
 · exact h
theorem puts_claim {V V1:VolR} (h:Puts V V1) (F:List Nat):Puts V (claimV V1 F):=puts_putCnt (puts_lengthen h F) _ _
theorem puts_wnb {V V1:VolR} (h:Puts V V1) (p:PlaceR) (data:Clus):Puts V (wnbV V1 p data):=(puts_putNum ((puts_claim h _).put _ _).flush _ _ _).flush
theorem puts_wnt {V V1:VolR} (h:Puts V V1) (p:PlaceR) (data:Clus):Puts V (wntV V1 p data):=(puts_putNum (((puts_claim h _).put _ _).put _ _).flush _ _ _).flush
theorem puts_renum {V V1:VolR} (h:Puts V V1) (ch:Nat→Nat) (ts:List Nat):Puts V (renumV ch V1 ts):=by
 unfold renumV
 induction ts generalizing V1 with
 | nil=>exact h
 | cons t r ih=>exact ih (h.put _ _)
theorem puts_lone {V V1:VolR} (h:Puts V V1) (k:List UInt8) (fs:List Nat):Puts V (loneV k V1 fs):=by
 unfold loneV
 induction fs generalizing V1 with
 | nil=>exact h
 | cons f r ih=>exact ih (puts_renum h _ _)
theorem puts_letGo {V V1:VolR} (h:Puts V V1) (us:List Nat):Puts V (letGoV V1 us):=(puts_lone (puts_putCnt h _ 4).flush _ _).flush
theorem puts_new:Puts vol0 newV:=(((((puts_putCnt (Puts.refl vol0) _ 4).put _ _).put _ _).flush).put _ _).flush
theorem logged_vol0:Logged [] vol0:=⟨fun e=>(by cases e),rfl,fun x hx=>(by cases hx),fun _=>Or.inl rfl⟩
theorem logged_new:Logged [] newV:=logged_vol0.puts puts_new
theorem new_loose:newV.loose=false:=flushV_loose _
theorem setPart_get (k:List UInt8) (p:Nat) (c:Clus) (hk:k.length=256) (hc:c.length=64) (hp:p<4) (j:Nat):(setPart k p c)[j]? = if j<64*p then k[j]? else if j<64*p+64 then c[j - 64*p]? else k[j]? := by
 unfold setPart
 have hl:(k.take (64*p)).length=64*p:=by rw [List.length_take,hk];omega
 rw [List.append_assoc,List.getElem?_append,hl]
 by_cases h1:j<64*p
 · rw [if_pos h1,if_pos h1,List.getElem?_take,if_pos h1]
 · rw [if_neg h1,if_neg h1,List.getElem?_append,hc]
   by_cases h2:j<64*p+64
   · rw [if_pos h2,if_pos (by omega)]
   · rw [if_neg h2,if_neg (by omega),List.getElem?_drop]
     congr 1
     omega
theorem cntsTo_get (C:List Clus) (hl: ∀ c ∈ C,c.length=64) (h5:5≤C.length): ∀ k,k≤4→ ∀ j,j<64*k→(cntsTo C k)[j]? = (cl C (1+j / 64))[j%64]?
 | 0,_,j,hj=>by omega
 | k+1,hk,j,hj=>by
   rw [cntsTo,setPart_get _ _ _ (cntsTo_length C hl h5 k (by omega)) (cl_length hl (by omega)) (by omega)]
   by_cases h1:j<64*k
   · rw [if_pos h1];exact cntsTo_get C hl h5 k (by omega) j h1
   · rw [if_neg h1,if_pos (by omega),show j / 64=k by omega,show j%64=j - 64*k by omega]
theorem byteAt_cnts {C:List Clus} (hl: ∀ c ∈ C,c.length=64) (h5:5≤C.length) (n:Nat) (hn:n<256):byteAt (cntsOf C) n=countOf C n:=by
 unfold byteAt countOf cntsOf byteAt
 rw [List.getD_eq_getElem?_getD,cntsTo_get C hl h5 4 (by omega) n (by omega),List.getD_eq_getElem?_getD]
theorem clus_ext {c d:Clus} (hc:c.length=64) (hd:d.length=64) (h: ∀ i,i<32→num c (2*i)=num d (2*i)):c=d:=by
 have hb: ∀ i,i<32→byteAt c (2*i)=byteAt d (2*i)∧byteAt c (2*i+1)=byteAt d (2*i+1):=fun i hi=>by
   have h0:=h i hi
   have h1:=byteAt_lt c (2*i+1)
   have h2:=byteAt_lt d (2*i+1)
   unfold num at h0
   omega
 refine List.ext_getElem (by rw [hc,hd]) fun j h1 h2=> ?_
 have hj:byteAt c j=byteAt d j:=by
   obtain ⟨x,y⟩:=hb (j / 2) (by omega)
   by_cases e:j%2=0
   · rw [show j=2*(j / 2) by omega];exact x
   · rw [show j=2*(j / 2)+1 by omega];exact y
 unfold byteAt at hj
 rw [List.getD_eq_getElem?_getD,List.getD_eq_getElem?_getD,List.getElem?_eq_getElem h1,List.getElem?_eq_getElem h2] at hj
 exact UInt8.toNat_inj.1 hj
section
variable {L:List Clus} {rs:List RootR}
end
def numAt (L:List Clus) (t b:Nat):Nat:=if num (cl L t) (2*(b / 32))=0 then 0 else num (cl L (num (cl L t) (2*(b / 32))%32768)) (2*(b%32))
def secOf (L:List Clus) (t i:Nat):Tells:=if num (cl L t) (2*i)=0 then [] else (num (cl L t) (2*i)%32768,2) :: inTells L (num (cl L t) (2*i)%32768) 32 0
theorem outTells_two (L:List Clus) (t:Nat):outTells L t 32 0=secOf L t 0++(secOf L t 1++outTells L t 30 2):=rfl
def occ (ts:Tells) (n:Nat):Nat:=(ts.map (·.1)).count n
theorem occ_append (a b:Tells) (n:Nat):occ (a++b) n=occ a n+occ b n:=by unfold occ;rw [List.map_append,List.count_append]
theorem numAt_ne {L:List Clus} {t b:Nat} (h:numAt L t b≠0):num (cl L t) (2*(b / 32))≠0∧numAt L t b=num (cl L (num (cl L t) (2*(b / 32))%32768)) (2*(b%32)):=by
 unfold numAt at h ⊢
 by_cases e:num (cl L t) (2*(b / 32))=0
 · rw [if_pos e] at h;exact absurd rfl h
 · rw [if_neg e];exact ⟨e,rfl⟩
theorem blkOf_numAt (L:List Clus) (t b:Nat):blkOf L t b=if numAt L t b=0 then zc else cl L (numAt L t b%32768):=by
 unfold blkOf numAt
 by_cases h0:num (cl L t) (2*(b / 32))=0
 · rw [if_pos h0,if_pos h0,if_pos rfl]
 · rw [if_neg h0,if_neg h0]
theorem cl_setN (L:List Clus) (n:Nat) (data:Clus) (t:Nat) (hn:n<L.length):cl (L.set n data) t=if n=t then data else cl L t:=by
 unfold cl
 rw [List.getD_eq_getElem?_getD,List.getElem?_set]
 by_cases e:n=t
 · subst e;rw [if_pos rfl,if_pos hn,if_pos rfl];rfl
 · rw [if_neg e,if_neg e,List.getD_eq_getElem?_getD]
theorem contentOf_get (L:List Clus) (t b:Nat) (hb:b<64):(contentOf L t)[b]? = some (blkOf L t b):=by
 unfold contentOf
 rw [List.getElem?_map,List.getElem?_range hb];rfl
theorem contentOf_length (L:List Clus) (t:Nat):(contentOf L t).length=64:=by unfold contentOf;simp
def entBytes (e:EntR):Clus:=UInt8.ofNat (e.first / 256) :: UInt8.ofNat (e.first%256) :: (e.name++List.replicate (14 - e.name.length) 0)
def pad4 (E:List EntR):List EntR:=E++List.replicate (4 - E.length) ze
def listBytes (E:List EntR):Clus:=(pad4 E).flatMap entBytes
structure EntOK (e:EntR):Prop where
 name:isNameB e.name=true
 pos:e.first≠0
 lt:e.first<65536
structure EntsOK (E:List EntR):Prop where
 len:E.length≤4
 all: ∀ e ∈ E,EntOK e
 nodup:(E.map (·.name)).Nodup
theorem name_le {l:List UInt8} (h:isNameB l=true):1≤l.length∧l.length≤12:=by
 unfold isNameB at h
 simp at h
 omega
theorem name_letter {l:List UInt8} (h:isNameB l=true): ∀ b ∈ l,b≠0:=by
 intro b hb e
 unfold isNameB at h
 rw [Bool.and_eq_true,List.all_eq_true] at h
 have:=h.1 b hb
 rw [e] at this
 revert this
 decide
theorem EntOK.le {e:EntR} (h:EntOK e):e.name.length≤12:=(name_le h.name).2
theorem entBytes_length {e:EntR} (h:e.name.length≤12):(entBytes e).length=16:=by simp [entBytes];omega
theorem pad4_length {E:List EntR} (h:E.length≤4):(pad4 E).length=4:=by simp [pad4];omega
theorem pad4_mem {E:List EntR} {e:EntR} (h:e ∈ pad4 E):e ∈ E∨e=ze:=by
 rcases List.mem_append.1 h with x | x
 · exact Or.inl x
 · exact Or.inr (List.eq_of_mem_replicate x)
theorem EntsOK.short {E:List EntR} (h:EntsOK E): ∀ e ∈ pad4 E,e.name.length≤12:=by
 intro e he
 rcases pad4_mem he with x | x
 · exact (h.all e x).le
 · rw [x];decide
theorem flat16_length: ∀ E:List EntR,(∀ e ∈ E,e.name.length≤12)→(E.flatMap entBytes).length=16*E.length
 | [],_=>rfl
 | e :: r,h=>by
   rw [List.flatMap_cons,List.length_append,entBytes_length (h e (by simp)),flat16_length r (fun x hx=>h x (by simp [hx])),List.length_cons]
   omega
theorem flat16_get: ∀ (E:List EntR),(∀ e ∈ E,e.name.length≤12)→ ∀ i,i<E.length→ ∀ j,j<16→(E.flatMap entBytes).getD (16*i+j) 0=(entBytes (E.getD i ze)).getD j 0
 | [],_,i,hi,_,_=>by simp at hi
 | e :: r,h,i,hi,j,hj=>by
   have hl:=entBytes_length (h e (by simp))
   rw [List.flatMap_cons,List.getD_eq_getElem?_getD]
   cases i with
   | zero=>rw [List.getElem?_append_left (by omega),List.getD_eq_getElem?_getD];simp
   | succ i=>
     have ih:=flat16_get r (fun x hx=>h x (by simp [hx])) i (by simpa using hi) j hj
     rw [List.getElem?_append_right (by rw [hl];omega),hl,show 16*(i+1)+j - 16=16*i+j by omega,← List.getD_eq_getElem?_getD,ih]
     rfl
section
variable {E:List EntR}
theorem EntsOK.length (h:EntsOK E):(listBytes E).length=64:=by
 unfold listBytes
 rw [flat16_length _ h.short,pad4_length h.len]
theorem EntsOK.get (h:EntsOK E) (i:Nat) (hi:i<4) (j:Nat) (hj:j<16):(listBytes E).getD (16*i+j) 0=(entBytes ((pad4 E).getD i ze)).getD j 0:=
 flat16_get _ h.short i (by rw [pad4_length h.len];exact hi) j hj
theorem pad4_get (i:Nat) (hi:i<E.length):(pad4 E).getD i ze=E.getD i ze:=by
 unfold pad4
 rw [List.getD_eq_getElem?_getD,List.getElem?_append_left hi,List.getD_eq_getElem?_getD]
theorem pad4_past (i:Nat) (hi:E.length≤i):(pad4 E).getD i ze=ze:=by
 unfold pad4
 rw [List.getD_eq_getElem?_getD,List.getElem?_append_right hi,List.getElem?_replicate]
 split <;> rfl
theorem EntsOK.at (h:EntsOK E) (i:Nat):(pad4 E).getD i ze=ze∨(i<E.length∧EntOK ((pad4 E).getD i ze)):=by
 by_cases hi:i<E.length
 · right
   refine ⟨hi,?_⟩
   rw [pad4_get i hi]
   apply h.all
   rw [List.getD_eq_getElem?_getD,List.getElem?_eq_getElem hi]
   exact List.getElem_mem hi
 · exact Or.inl (pad4_past i (by omega))
theorem EntsOK.lt (h:EntsOK E) (i:Nat):((pad4 E).getD i ze).first<65536:=by
 rcases h.at i with x | ⟨_,x⟩
 · rw [x];decide
 · exact x.lt
theorem EntsOK.num (h:EntsOK E) (i:Nat) (hi:i<4):num (listBytes E) (16*i)=((pad4 E).getD i ze).first:=by
 have hlt:=h.lt i
 have h0:=h.get i hi 0 (by omega)
 have h1:=h.get i hi 1 (by omega)
 rw [Nat.add_zero] at h0
 unfold Go.Proofs.YtknjjjenklfeoaaGreatDoor.num byteAt
 rw [h0,h1]
 show 256*(UInt8.ofNat (((pad4 E).getD i ze).first / 256)).toNat+(UInt8.ofNat (((pad4 E).getD i ze).first%256)).toNat=_
 rw [UInt8.toNat_ofNat',UInt8.toNat_ofNat']
 omega
theorem entBytes_name (e:EntR) (j:Nat):(entBytes e).getD (j+2) 0=e.name.getD j 0:=by
 show (e.name++List.replicate (14 - e.name.length) 0).getD j 0=_
 rw [List.getD_eq_getElem?_getD,List.getD_eq_getElem?_getD]
 by_cases hj:j<e.name.length
 · rw [List.getElem?_append_left hj]
 · rw [List.getElem?_append_right (by omega),List.getElem?_replicate,List.getElem?_eq_none (show e.name.length≤j by omega)]
   split <;> rfl
theorem EntsOK.byte (h:EntsOK E) (i:Nat) (hi:i<4) (j:Nat) (hj:j<14):(listBytes E).getD (16*i+2+j) 0=((pad4 E).getD i ze).name.getD j 0:=by
 rw [Nat.add_assoc,Nat.add_comm 2 j,h.get i hi (j+2) (by omega),entBytes_name]
theorem nameFrom_over (c:Clus) (a:Nat) (acc:List UInt8): ∀ m i,(∀ j,i≤j→j<i+m→c.getD (a+j) 0=0)→nameFrom c a m i true acc=some acc
 | 0,_,_=>rfl
 | m+1,i,h=>by
   rw [nameFrom,if_pos (by unfold byteAt;rw [h i (by omega) (by omega)];rfl)]
   exact nameFrom_over c a acc m (i+1) (fun j h1 h2=>h j (by omega) (by omega))
theorem toNat_ne {b:UInt8} (h:b≠0):b.toNat≠0:=fun e=>h (UInt8.toNat_inj.1 (by simpa using e))
theorem nameFrom_name (c:Clus) (a:Nat) (s:List UInt8) (hs: ∀ b ∈ s,b≠0) (h: ∀ j,j<12→c.getD (a+j) 0=s.getD j 0): ∀ m i,i+m=12→i≤s.length→s.length≤12→nameFrom c a m i false (s.take i)=some s
 | 0,i,h1,h2,h3=>by rw [nameFrom,List.take_of_length_le (by omega)]
 | m+1,i,h1,h2,h3=>by
   rw [nameFrom]
   by_cases hi:i<s.length
   · have e:c.getD (a+i) 0=s[i]:=by rw [h i (by omega),List.getD_eq_getElem?_getD,List.getElem?_eq_getElem hi];rfl
     have hne:=toNat_ne (hs _ (List.getElem_mem hi))
     rw [if_neg (by unfold byteAt;rw [e];exact hne),if_neg (by decide),e,← List.take_succ_eq_append_getElem hi]
     exact nameFrom_name c a s hs h m (i+1) (by omega) (by omega) h3
   · have hz: ∀ j,i≤j→j<12→c.getD (a+j) 0=0:=fun j k1 k2=>by rw [h j k2,List.getD_eq_getElem?_getD,List.getElem?_eq_none (by omega)];rfl
     rw [if_pos (by unfold byteAt;rw [hz i (by omega) (by omega)];rfl),List.take_of_length_le (by omega)]
     exact nameFrom_over c a s m (i+1) (fun j k1 k2=>hz j (by omega) (by omega))
theorem EntsOK.nameOf (h:EntsOK E) (i:Nat) (hi:i<E.length):nameOf (listBytes E) (16*i+2)=((E.getD i ze).name,true):=by
 have h4:=h.len
 have ok:EntOK (E.getD i ze):=by
   rcases h.at i with x | ⟨_,x⟩
   · rw [pad4_get i hi] at x
     have:=h.all (E.getD i ze) (by rw [List.getD_eq_getElem?_getD,List.getElem?_eq_getElem hi];exact List.getElem_mem hi)
     exact this
   · rw [pad4_get i hi] at x;exact x
 have e:=nameFrom_name (listBytes E) (16*i+2) (E.getD i ze).name (name_letter ok.name) (fun j hj=>by rw [h.byte i (by omega) j (by omega),pad4_get i hi]) 12 0 (by omega) (by omega) ok.le
 unfold Go.Proofs.YtknjjjenklfeoaaGreatDoor.nameOf
 rw [List.take_zero] at e
 rw [e]
 simp only
 rw [ok.name]
def rootE (e:EntR):RootR:=⟨e.first,5,e.name⟩
theorem nameIn_none (Q:List RootR) (s:List UInt8): ∀ m k,(∀ j,k≤j→j<k+m→(Q.getD j ⟨0,0,[]⟩).name≠s)→nameIn Q s m k=false
 | 0,_,_=>rfl
 | m+1,k,h=>by rw [nameIn,if_neg (h k (by omega) (by omega))];exact nameIn_none Q s m (k+1) (fun j h1 h2=>h j (by omega) (by omega))
theorem EntsOK.zero (h:EntsOK E) (i:Nat) (hi:i<4) (hE:E.length≤i):restZero (listBytes E) 16 (16*i)=true:=by
 have hb: ∀ j,j<16→byteAt (listBytes E) (16*i+j)=0:=fun j hj=>by
   unfold byteAt
   rw [h.get i hi j hj,pad4_past i hE]
   have: ∀ j:Fin 16,((entBytes ze).getD j.val 0).toNat=0:=by decide
   exact this ⟨j,hj⟩
 have key: ∀ m k,k+m=16→restZero (listBytes E) m (16*i+k)=true:=by
   intro m
   induction m with
   | zero=>intro k _;rfl
   | succ m ih=>
     intro k hk
     rw [restZero,if_pos (hb k (by omega)),Nat.add_assoc]
     exact ih (k+1) (by omega)
 exact key 16 0 rfl
theorem EntsOK.listFrom_past (h:EntsOK E) (Q:List RootR): ∀ m i over,i+m=4→E.length≤i→listFrom (listBytes E) m i over Q=(true,Q)
 | 0,_,_,_,_=>rfl
 | m+1,i,over,h1,h2=>by
   rw [listFrom,if_pos (by rw [h.num i (by omega),pad4_past i h2];rfl),if_pos (h.zero i (by omega) h2)]
   exact h.listFrom_past Q m (i+1) true (by omega) (by omega)
theorem EntsOK.listFrom (h:EntsOK E) (r0:RootR): ∀ m i,i+m=4→i≤E.length→Go.Proofs.YtknjjjenklfeoaaGreatDoor.listFrom (listBytes E) m i false (r0 :: (E.take i).map rootE)=(true,r0 :: E.map rootE)
 | 0,i,h1,h2=>by rw [Go.Proofs.YtknjjjenklfeoaaGreatDoor.listFrom,List.take_of_length_le (by have:=h.len;omega)]
 | m+1,i,h1,h2=>by
   by_cases hi:i<E.length
   · have hE:E.getD i ze=E[i]:=by rw [List.getD_eq_getElem?_getD,List.getElem?_eq_getElem hi];rfl
     have ok:EntOK E[i]:=h.all _ (List.getElem_mem hi)
     have hn:=h.nameOf i hi
     have hnum:Go.Proofs.YtknjjjenklfeoaaGreatDoor.num (listBytes E) (16*i)=E[i].first:=by rw [h.num i (by omega),pad4_get i hi,hE]
     have hbad:entryBad (listBytes E) i false=false:=by
       unfold entryBad
       rw [hn]
       have e1:byteAt (listBytes E) (16*i+14)=0:=by
         unfold byteAt
         rw [show 16*i+14=16*i+2+12 by omega,h.byte i (by omega) 12 (by omega),pad4_get i hi,hE,List.getD_eq_getElem?_getD,List.getElem?_eq_none (by have:=ok.le;omega)]
         rfl
       have e2:byteAt (listBytes E) (16*i+15)=0:=by
         unfold byteAt
         rw [show 16*i+15=16*i+2+13 by omega,h.byte i (by omega) 13 (by omega),pad4_get i hi,hE,List.getD_eq_getElem?_getD,List.getElem?_eq_none (by have:=ok.le;omega)]
         rfl
       rw [e1,e2]
       rfl
     have hin:nameIn (r0 :: (E.take i).map rootE) E[i].name ((r0 :: (E.take i).map rootE).length - 1) 1=false:=by
       refine nameIn_none _ _ _ _ fun j k1 k2=> ?_
       have hj:j - 1<i:=by simp at k2;omega
       obtain ⟨q,rfl⟩: ∃ q,j=q+1:=⟨j - 1,by omega⟩
       rw [List.getD_cons_succ,List.getD_eq_getElem?_getD,List.getElem?_map,List.getElem?_take_of_lt (by omega),List.getElem?_eq_getElem (by omega)]
       show E[q].name≠E[i].name
       intro e
       have hnd:=h.nodup
       rw [List.nodup_iff_pairwise_ne,List.pairwise_map,List.pairwise_iff_getElem] at hnd
       exact hnd q i (by omega) hi (by omega) e
     rw [Go.Proofs.YtknjjjenklfeoaaGreatDoor.listFrom,if_neg (by rw [hnum];exact ok.pos),hbad,hn]
     simp only [hE,Bool.false_eq_true,if_false,hin]
     rw [hnum]
     have e:(r0 :: (E.take i).map rootE)++[⟨E[i].first,5,E[i].name⟩]=r0 :: (E.take (i+1)).map rootE:=by
       rw [List.take_succ_eq_append_getElem hi,List.map_append];rfl
     rw [e]
     exact h.listFrom r0 m (i+1) (by omega) (by omega)
   · rw [List.take_of_length_le (by omega)]
     exact h.listFrom_past _ (m+1) i false h1 (by omega)
theorem cutLen_name (s:List UInt8) (k:Nat) (hs: ∀ b ∈ s,b≠0):cutLen (s++List.replicate k 0)=s.length:=by
 have h1: ∀ k,Lib.indexByte (List.replicate k (0:UInt8)) 0=if k=0 then -1 else 0:=fun k=>by
   cases k with
   | zero=>rfl
   | succ k=>simp [List.replicate_succ,Lib.indexByte]
 have key: ∀ s:List UInt8,(∀ b ∈ s,b≠0)→Lib.indexByte (s++List.replicate k 0) 0=if k=0 then -1 else (s.length:Int):=by
   intro s
   induction s with
   | nil=>intro _;rw [List.nil_append,h1];split <;> rfl
   | cons b r ih=>
     intro hs
     have:=ih (fun x hx=>hs x (by simp [hx]))
     have hb:(b == (0:UInt8))=false:=by simpa using hs b (by simp)
     rw [List.cons_append,Lib.indexByte,hb,this]
     by_cases hk:k=0
     · simp [hk]
     · have hne:(((r.length:Nat):Int) == -1)=false:=by rw [beq_eq_false_iff_ne];omega
       simp only [hk,if_false,hne,Bool.false_eq_true,List.length_cons]
       omega
 unfold cutLen zeroAt
 rw [key s hs]
 by_cases hk:k=0
 · rw [if_pos hk,if_neg (by decide),hk];simp
 · rw [if_neg hk,if_pos (by omega)];simp
theorem EntsOK.entOf (h:EntsOK E) (i:Nat) (hi:i<4):entOf (listBytes E) i=(pad4 E).getD i ze:=by
 have hl:=h.length
 have hshort:((pad4 E).getD i ze).name.length≤12:=by
   rcases h.at i with x | ⟨_,x⟩
   · rw [x];decide
   · exact x.le
 have hlet: ∀ b ∈ ((pad4 E).getD i ze).name,b≠0:=by
   rcases h.at i with x | ⟨_,x⟩
   · rw [x];intro b hb;cases hb
   · exact name_letter x.name
 have e:nameBytes (listBytes E) i=((pad4 E).getD i ze).name++List.replicate (12 - ((pad4 E).getD i ze).name.length) 0:=by
   unfold nameBytes
   apply List.ext_getElem?
   intro j
   by_cases hj:j<12
   · have hb:=h.byte i hi j (by omega)
     rw [List.getElem?_take_of_lt hj,List.getElem?_drop,List.getElem?_eq_getElem (by omega)]
     rw [List.getD_eq_getElem?_getD,List.getElem?_eq_getElem (by omega),List.getD_eq_getElem?_getD] at hb
     simp only [Option.getD_some] at hb
     rw [hb]
     by_cases hn:j<((pad4 E).getD i ze).name.length
     · rw [List.getElem?_append_left hn,List.getElem?_eq_getElem hn];rfl
     · rw [List.getElem?_append_right (by omega),List.getElem?_replicate,if_pos (by omega),List.getElem?_eq_none (by omega)];rfl
   · rw [List.getElem?_eq_none (by rw [List.length_take];omega),List.getElem?_eq_none (by rw [List.length_append,List.length_replicate];omega)]
 unfold Go.Proofs.YtknjjjenklfeoaaGreatDoor.entOf
 rw [e,cutLen_name _ _ hlet,List.take_left,h.num i hi]
theorem EntsOK.entsOf (h:EntsOK E):entsOf (listBytes E)=pad4 E:=by
 apply List.ext_getElem?
 intro i
 unfold Go.Proofs.YtknjjjenklfeoaaGreatDoor.entsOf
 rw [List.getElem?_map]
 by_cases hi:i<4
 · rw [List.getElem?_range hi,Option.map_some,h.entOf i hi,List.getD_eq_getElem?_getD,List.getElem?_eq_getElem (by rw [pad4_length h.len];exact hi)];rfl
 · rw [List.getElem?_eq_none (by simpa using hi),List.getElem?_eq_none (by rw [pad4_length h.len];omega)];rfl
theorem lenFrom_pad (h:EntsOK E): ∀ m k,k+m=4→k≤E.length→lenFrom (pad4 E) m k=E.length
 | 0,k,h1,h2=>by rw [lenFrom];have:=h.len;omega
 | m+1,k,h1,h2=>by
   rw [lenFrom]
   by_cases hk:k<E.length
   · rw [if_neg]
     · exact lenFrom_pad h m (k+1) (by omega) (by omega)
     · rcases h.at k with x | ⟨_,x⟩
       · rw [pad4_get k hk] at x ⊢
         exact (h.all (E.getD k ze) (by rw [List.getD_eq_getElem?_getD,List.getElem?_eq_getElem hk];exact List.getElem_mem hk)).pos
       · exact x.pos
   · rw [if_pos (by rw [pad4_past k (by omega)];rfl)]
     omega
theorem EntsOK.lenOf (h:EntsOK E):lenOf (pad4 E)=E.length:=lenFrom_pad h 4 0 rfl (Nat.zero_le _)
theorem pad4_take:(pad4 E).take E.length=E:=by unfold pad4;rw [List.take_left]
theorem EntsOK.picFirsts {C:List Clus} (h:EntsOK E) (hc:cl C 5=listBytes E):picFirsts C=E.map (·.first):=by
 unfold Go.Proofs.YtknjjjenklfeoaaGreatDoor.picFirsts
 rw [hc,h.entsOf,h.lenOf,pad4_take]
end
theorem growTo_same {l:List Clus} {n:Nat} (h:n≤l.length):growTo l n=l:=by
 unfold growTo
 rw [show n - l.length=0 by omega]
 simp
theorem cl_growTo {l:List Clus} (n t:Nat) (ht:t<l.length):cl (growTo l n) t=cl l t:=by
 unfold cl growTo
 rw [List.getD_eq_getElem?_getD,List.getElem?_append_left ht,List.getD_eq_getElem?_getD]
theorem set_cl {l:List Clus} {n:Nat} (h:n<l.length):l.set n (cl l n)=l:=by
 apply List.ext_getElem?
 intro i
 rw [List.getElem?_set]
 by_cases e:n=i
 · subst e
   rw [if_pos rfl,if_pos h,cl,List.getD_eq_getElem?_getD,List.getElem?_eq_getElem h]
   rfl
 · rw [if_neg e]
theorem putV_C (V:VolR) (n:Nat) (d:Clus):(putV V n d).C=(growTo V.C (n+1)).set n d:=by
 unfold putV
 by_cases hc:n<V.C.length∧cl V.C n=d
 · rw [if_pos hc,growTo_same (by omega),← hc.2,set_cl hc.1]
 · rw [if_neg hc];rfl
theorem cl_putV_at (V:VolR) (n:Nat) (d:Clus):cl (putV V n d).C n=d:=by
 rw [putV_C,cl_setN _ _ _ _ (by rw [growTo_length];omega),if_pos rfl]
theorem cl_putV_ne (V:VolR) (n:Nat) (d:Clus) (t:Nat) (ht:t<V.C.length) (hne:n≠t):cl (putV V n d).C t=cl V.C t:=by
 rw [putV_C,cl_setN _ _ _ _ (by rw [growTo_length];omega),if_neg hne,cl_growTo _ _ ht]
theorem putCnt_len {V:VolR} (k:List UInt8) (h5:5≤V.C.length): ∀ p,p≤4→(putCnt V k p).C.length=V.C.length
 | 0,_=>rfl
 | p+1,hp=>by
   rw [putCnt,putV_lenC,putCnt_len k h5 p (by omega)]
   omega
theorem cl_putCnt {V:VolR} (k:List UInt8) (h5:5≤V.C.length) (t:Nat) (ht:t<V.C.length): ∀ p,p≤4→cl (putCnt V k p).C t=if 1≤t∧t≤p then partOf k (t - 1) else cl V.C t
 | 0,_=>by rw [if_neg (by omega)];rfl
 | p+1,hp=>by
   have ih:=cl_putCnt k h5 t ht p (by omega)
   rw [putCnt]
   by_cases e:1+p=t
   · subst e
     rw [cl_putV_at,if_pos (by omega),show 1+p - 1=p by omega]
   · rw [cl_putV_ne _ _ _ _ (by rw [putCnt_len k h5 p (by omega)];exact ht) e,ih]
     by_cases h1:1≤t∧t≤p
     · rw [if_pos h1,if_pos (by omega)]
     · rw [if_neg h1,if_neg (by omega)]
theorem byteAt_part (k:List UInt8) (n:Nat):byteAt (partOf k (n / 64)) (n%64)=byteAt k n:=by
 unfold byteAt partOf
 rw [List.getD_eq_getElem?_getD,List.getElem?_take_of_lt (by omega),List.getElem?_drop,List.getD_eq_getElem?_getD]
 congr 3
 omega
theorem byteAt_ones (m:Nat): ∀ (F:List Nat) (k:List UInt8),k.length=256→(∀ n ∈ F,n<256)→byteAt (ones k F) m=if m ∈ F then 1 else byteAt k m
 | [],k,_,_=>by simp [ones]
 | a :: r,k,hk,hF=>by
   have ih:=byteAt_ones m r (k.set a 1) (by simpa using hk) (fun n hn=>hF n (by simp [hn]))
   have e:ones k (a :: r)=ones (k.set a 1) r:=rfl
   rw [e,ih]
   by_cases hm:m ∈ r
   · rw [if_pos hm,if_pos (by simp [hm])]
   · rw [if_neg hm,byteAt_set _ _ _ _ (by have:=hF a (by simp);omega)]
     by_cases ha:a=m
     · subst ha;rw [if_pos rfl,if_pos (by simp)];rfl
     · rw [if_neg ha,if_neg (by simp [hm];exact fun x=>ha x.symm)]
theorem lowTo_zero (c:List UInt8) (want:Nat): ∀ k,∀ n ∈ lowTo c want k,byteAt c n=0
 | 0,n,hn=>by simp [lowTo] at hn
 | k+1,n,hn=>by
   rw [lowTo] at hn
   split at hn
   · exact lowTo_zero c want k n hn
   · split at hn
     · rename_i _ h0
       rcases List.mem_append.1 hn with h | h
       · exact lowTo_zero c want k n h
       · rw [List.mem_singleton.1 h];exact h0
     · exact lowTo_zero c want k n hn
theorem lowTo_pair (c:List UInt8) (want:Nat): ∀ k,(lowTo c want k).Pairwise (· < ·)
 | 0=>by simp [lowTo]
 | k+1=>by
   rw [lowTo]
   split
   · exact lowTo_pair c want k
   · split
     · rw [List.pairwise_append]
       refine ⟨lowTo_pair c want k,by simp,fun a ha b hb=> ?_⟩
       rw [List.mem_singleton.1 hb]
       exact lowTo_lt c want k a ha
     · exact lowTo_pair c want k
theorem lowFree_one {c:List UInt8} (h:0<(lowFree c 1).length): ∃ n,lowFree c 1=[n]∧n<256∧byteAt c n=0:=by
 have h1:(lowFree c 1).length≤1:=(lowTo_le c 1 256).1
 obtain ⟨n,hn⟩:=List.length_eq_one_iff.1 (show (lowFree c 1).length=1 by omega)
 exact ⟨n,hn,lowFree_lt c 1 n (by rw [hn];simp),lowTo_zero c 1 256 n (by show n ∈ lowFree c 1;rw [hn];simp)⟩
theorem lowFree_two {c:List UInt8} (h:2≤(lowFree c 2).length): ∃ s n,lowFree c 2=[s,n]∧s<n∧n<256∧byteAt c s=0∧byteAt c n=0:=by
 have h1:(lowFree c 2).length≤2:=(lowTo_le c 2 256).1
 obtain ⟨s,n,hn⟩: ∃ s n,lowFree c 2=[s,n]:=by
   match hl:lowFree c 2,(show (lowFree c 2).length=2 by omega) with
   | [s,n],_=>exact ⟨s,n,rfl⟩
 have hp:=lowTo_pair c 2 256
 have hp':(lowFree c 2).Pairwise (· < ·):=hp
 rw [hn] at hp'
 exact ⟨s,n,hn,by simpa using hp',lowFree_lt c 2 n (by rw [hn];simp),lowTo_zero c 2 256 s (by show s ∈ lowFree c 2;rw [hn];simp),lowTo_zero c 2 256 n (by show n ∈ lowFree c 2;rw [hn];simp)⟩
theorem lowTo_all (c:List UInt8) (want:Nat): ∀ k,(lowTo c want k).length<want→(lowTo c want k).length=cntTo (fun m=>byteAt c m == 0) k
 | 0,_=>rfl
 | k+1,h=>by
   rw [lowTo] at h ⊢
   simp only [cntTo]
   split at h
   · omega
   · rename_i hw
     rw [if_neg hw]
     have hk:=(lowTo_le c want k).1
     have ih:=lowTo_all c want k (by omega)
     split at h
     · rename_i h0
       rw [if_pos h0,if_pos (by simpa using h0),List.length_append,ih];rfl
     · rename_i h0
       rw [if_neg h0,if_neg (by simpa using h0),ih];rfl
end Go.Proofs.YtknjjjenklfeoaaGreatDoor
