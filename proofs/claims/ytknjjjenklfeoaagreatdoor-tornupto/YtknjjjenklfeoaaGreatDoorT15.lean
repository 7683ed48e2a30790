import Derived.Test.YtknjjjenklfeoaaGreatDoorT14
import Derived.Test.YtknjjjenklfeoaaGreatDoorT01
import Derived.Test.YtknjjjenklfeoaaGreatDoorT00
import Derived.Deep.Cut
import Derived.Test.YtknjjjenklfeoaaGreatDoorT07
import Derived.Test.YtknjjjenklfeoaaGreatDoorT08
set_option maxHeartbeats 8000000
set_option maxRecDepth 100000
namespace Go.Proofs.YtknjjjenklfeoaaGreatDoor
open Go.RowKit Go.Shelf
attribute [local go_sem ↓] loadVar_clus storeVar_clus zeroValue_clus loadVar_cnt storeVar_cnt zeroValue_cnt loadVar_head storeVar_head zeroValue_head build_head
attribute [local go_sem] run_loadClus run_storeClus run_zeroClus run_storeClus_new run_loadClus_new zc_length run_loadCnt run_storeCnt run_zeroCnt run_storeCnt_new run_loadCnt_new zk_length run_loadHead run_storeHead run_zeroHead run_storeHead_new run_bHead HasAt_drew cellsAt_drew
attribute [local go_sem ↓] loadVar_use storeVar_use zeroValue_use
attribute [local go_sem] run_loadUse run_storeUse run_storeUse_new run_zeroUse zI_length
attribute [local go_sem] field_head1 field_head0 Oper.semAt_some
theorem state_len (s:StateR):(stateCells s).length=5:=rfl
theorem state_one (s:StateR): ∀ v ∈ stateCells s,v.oneCell'=true:=by
 intro v hv
 simp only [stateCells,List.mem_cons,List.not_mem_nil,or_false] at hv
 rcases hv with rfl | rfl | rfl | rfl | rfl <;> rfl
def loadSt (a:Addr):Sem Value:=loadVar 51 a
theorem loadVar_st (a:Addr):loadVar 51 a=loadSt a:=rfl
theorem run_loadSt {w:World} {b o:Nat} (h:HasAt w b o 5):(loadSt ⟨b,o,none⟩).run Tryz.prog w= .ok (.agg (cellsAt w b o 5).toArray) w:=
 run_loadVar_has h 51 _ Tryz.underlying51 rfl (by kernel_rfl)
def storeSt (a:Addr) (v:Value):Sem Unit:=storeVar 51 a v
theorem storeVar_st (a:Addr) (v:Value):storeVar 51 a v=storeSt a v:=rfl
theorem run_storeSt {w:World} {b o:Nat} (s:StateR) (ht:w.there b o 5):(storeSt ⟨b,o,none⟩ (.agg #[.int .i64 s.clusters,.int .i64 s.used,.int .i64 s.lost,.int .i64 s.over,.int .i64 s.unmarked])).run Tryz.prog w= .ok () (w.setCells b o (stateCells s)):=by
 have:=run_storeVar_mid (P:=Tryz.prog) w b o 51 (stateCells s).toArray (by simpa [state_len] using ht) (by simp only [List.size_toArray,state_len];kernel_rfl) (all_oneCell_toArray (state_one s))
 exact this
theorem run_storeSt_new {w:World} {z:List Value} (s:StateR) (hz:z.length=5):
   (storeSt ⟨w.heap.size,0,none⟩ (.agg #[.int .i64 s.clusters,.int .i64 s.used,.int .i64 s.lost,.int .i64 s.over,.int .i64 s.unmarked])).run Tryz.prog (w.alloc (.cells z.toArray 51))= .ok () (w.alloc (.cells (stateCells s).toArray 51)):=
 run_storeVar_new w 51 z.toArray (stateCells s).toArray (by simp only [List.size_toArray,state_len];kernel_rfl) (by simp [state_len,hz]) (all_oneCell_toArray (state_one s))
def usedM (M:List Nat) (n:Nat):Bool:=decide (0<M.getD n 0)
def lostM (M:List Nat) (k:List UInt8) (n:Nat):Bool:=M.getD n 0 == 0 && decide (0<byteAt k n)
def overM (M:List Nat) (k:List UInt8) (n:Nat):Bool:=decide (0<M.getD n 0) && decide (M.getD n 0<byteAt k n)
def checkR (V:VolR):StateR:=
 ⟨num (cl V.C 0) 4,cntTo (usedM (usesOf V)) 256,cntTo (lostM (usesOf V) (cntsOf V.C)) 256,cntTo (overM (usesOf V) (cntsOf V.C)) 256,lackAll V (usesOf V) (firstsOf V)⟩
def UseT (bu:Nat) (M:List Nat) (w':World):Prop:=HasAt w' bu 0 256∧cellsAt w' bu 0 256=nv M
structure ChkAt (w W:World) (bu bs:Nat) (M:List Nat) (s:List Value):Prop where
 below:Below w.heap.size w W
 bz:W.heap[w.heap.size]? = some (.cells zs5.toArray 51 (0,0))
 bu':W.heap[bu]? = some (.cells (nv M).toArray 161 (0,0))
 bs':W.heap[bs]? = some (.cells s.toArray 51 (0,0))
 lo:w.heap.size<bs
theorem ChkAt.ne {w W:World} {bu bs:Nat} {M:List Nat} {s:List Value} (h:ChkAt w W bu bs M s):bu≠bs:=fun e=>by
 have h1:=h.bu'
 rw [e] at h1
 rw [h.bs'] at h1
 injection h1 with h1
 injection h1 with _ h2
 exact absurd h2 (by decide)
theorem ChkAt.later {w W W':World} {bu bs:Nat} {M:List Nat} {s:List Value} (h:ChkAt w W bu bs M s) (hb:Below W.heap.size W W'):ChkAt w W' bu bs M s:=
 ⟨h.below.trans (hb.mono h.below.size),(hb.block _ (blk_lt h.bz)).trans h.bz,(hb.block _ (blk_lt h.bu')).trans h.bu',(hb.block _ (blk_lt h.bs')).trans h.bs',h.lo⟩
theorem ChkAt.set {w W:World} {bu bs:Nat} {M:List Nat} {s:List Value} (h:ChkAt w W bu bs M s) (i:Nat) (v:Value):ChkAt w (W.setCell ⟨bs,i,none⟩ v) bu bs M (s.set i v):=by
 have hk:=Kept.only W bs i v
 have:=h.lo
 have:=h.ne
 refine ⟨?_,hk.blk (by omega) h.bz,hk.blk (by omega) h.bu',?_,h.lo⟩
 · exact ⟨hk.os.trans h.below.os,hk.tape.trans h.below.tape,hk.output.trans h.below.output,Nat.le_trans h.below.size hk.size,fun i hi=>by
     rw [hk.block i (Nat.lt_of_lt_of_le hi h.below.size) (by omega)];exact h.below.block i hi⟩
 · rw [heap_setCell_same _ _ _ _ _ _ _ h.bs',List.setIfInBounds_toArray]
theorem ChkAt.all {w W:World} {bu bs:Nat} {M:List Nat} {s t:List Value} (h:ChkAt w W bu bs M s) (hl:s.length=t.length):ChkAt w (W.setCells bs 0 t) bu bs M t:=by
 have hk:=Kept.onlys W bs 0 t
 have:=h.lo
 have:=h.ne
 refine ⟨?_,hk.blk (by omega) h.bz,hk.blk (by omega) h.bu',all_store h.bs' hl,h.lo⟩
 exact ⟨hk.os.trans h.below.os,hk.tape.trans h.below.tape,hk.output.trans h.below.output,Nat.le_trans h.below.size hk.size,fun i hi=>by
     rw [hk.block i (Nat.lt_of_lt_of_le hi h.below.size) (by omega)];exact h.below.block i hi⟩
attribute [local go_sem ↓] loadVar_st storeVar_st
attribute [local go_sem] run_loadSt
set_option linter.unusedSimpArgs false in
theorem volCheck_any (w:World) (v:Nat) (Cv Lv:Value) (V:VolR) (h:VolAt w v Cv Lv V) (h5:5<V.C.length) (hC:V.C.length≤256) (hF: ∀ f ∈ firstsOf V,FirstOK V f):
   Calls Tryz.prog 52 #[.pointer (some ⟨v,0,none⟩)] w fun e w'=>e= .returned (.agg (stateCells (checkR V)).toArray)∧Below w.heap.size w w':=by
 have Hu:=hide (fun (W:World) (hB:Below w.heap.size w W)=>callsIn_wide.1 (uses_in W v Cv Lv V (h.below hB) h5 hC hF))
 have hml:(usesOf V).length=256:=useAll_length V _
 have hmm:=useAll_most (V:=V) (firstsOf V) hF
 have hfl:(firstsOf V).length≤5:=by
   unfold firstsOf picFirsts
   have:=lenOf_le (entsOf (cl V.C 5))
   simp only [List.length_cons,List.length_map,List.length_take]
   omega
 have hll:=lackAll_le (V:=V) (usesOf V) (firstsOf V) hF
 have Hl:=hide (fun (W:World) (hB:Below w.heap.size w W)=>callsIn_wide.1 (unmarked_in W v Cv Lv V (h.below hB) h5 hC hF (usesOf V) hml))
 have Hh:=hide (fun (W:World) (hB:Below w.heap.size w W)=>head_vol W v Cv Lv V (h.below hB) (by omega))
 have Hc:=hide (fun (W:World) (hB:Below w.heap.size w W)=>counts_vol W v Cv Lv V (h.below hB) (by omega))
 have hcl:=cntsOf_length V.C h.lenC (by omega)
 have HR:Hid (checkR V=⟨num (cl V.C 0) 4,cntTo (usedM (usesOf V)) 256,cntTo (lostM (usesOf V) (cntsOf V.C)) 256,cntTo (overM (usesOf V) (cntsOf V.C)) 256,lackAll V (usesOf V) (firstsOf V)⟩):=rfl
 have hMm: ∀ n,(usesOf V).getD n 0≤10000:=fun n=>by have:=hmm n;unfold usesOf;omega
 have n4:=num_lt (cl V.C 0) 4
 have n6:=num_lt (cl V.C 0) 6
 generalize lackAll V (usesOf V) (firstsOf V)=q at*
 generalize usesOf V=M at*
 generalize cntsOf V.C=k at*
 generalize num (cl V.C 0) 4=cls at*
 generalize num (cl V.C 0) 6=fst at*
 clear h hF hmm
 go_enter Tryz.func52,Tryz.ntmps52
 go_wp2_with fail
 have B0:=hide ((Below.refl w.heap.size w).alloc (Nat.le_refl _) (.cells #[.int .i64 0,.int .i64 0,.int .i64 0,.int .i64 0,.int .i64 0] 51))
 have X0:=hide (heap_alloc_new w (.cells #[.int .i64 0,.int .i64 0,.int .i64 0,.int .i64 0,.int .i64 0] 51))
 generalize w.alloc (.cells #[.int .i64 0,.int .i64 0,.int .i64 0,.int .i64 0,.int .i64 0] 51)=w0 at*
 refine (uh Hu w0 (uh B0)).mono ?_
 rintro e w1 ⟨rfl,b1⟩
 have hs1:w.heap.size<w1.heap.size:=Nat.lt_of_lt_of_le (blk_lt (uh X0)) b1.size
 have B1:=hide (((uh B0).trans (b1.mono (uh B0).size)).alloc (Nat.le_of_lt hs1) (.cells (nv M).toArray 161))
 have X1:=hide ((Below.heap_alloc w1 (.cells (nv M).toArray 161) w.heap.size hs1).trans ((b1.block _ (blk_lt (uh X0))).trans (uh X0)))
 have Y1:=hide (heap_alloc_new w1 (.cells (nv M).toArray 161))
 clear Hu B0 X0 b1
 have st1: ∀ {w:World} {b:Nat},w.there b 0 5→(storeSt ⟨b,0,none⟩ (.agg #[.int .i64 (cls:Nat),.int .i64 0,.int .i64 0,.int .i64 0,.int .i64 (q:Nat)])).run Tryz.prog w= .ok () (w.setCells b 0 (stateCells ⟨cls,0,0,0,q⟩)):=fun ht=>run_storeSt ⟨cls,0,0,0,q⟩ ht
 have st2: ∀ {w:World},(storeSt ⟨w.heap.size,0,none⟩ (.agg #[.int .i64 (cls:Nat),.int .i64 0,.int .i64 0,.int .i64 0,.int .i64 (q:Nat)])).run Tryz.prog (w.alloc (.cells #[.int .i64 0,.int .i64 0,.int .i64 0,.int .i64 0,.int .i64 0] 51))= .ok () (w.alloc (.cells (stateCells ⟨cls,0,0,0,q⟩).toArray 51)):=fun {w}=>run_storeSt_new (w:=w) (z:=zs5) ⟨cls,0,0,0,q⟩ rfl
 have hsz1:Hid ((w1.alloc (.cells (nv M).toArray 161)).heap.size=w1.heap.size+1):=World.size_alloc _ _
 go_wp2_with fail
 generalize w1.alloc (.cells (nv M).toArray 161)=wa at*
 generalize w1.heap.size=bu at*
 have HT:=hide (fun (W:World) (hB:Below wa.heap.size wa W)=>(show UseT bu M W from ⟨blk_has ((hB.block _ (blk_lt (uh Y1))).trans (uh Y1)) (by rw [nv_length,hml]),blk_cells ((hB.block _ (blk_lt (uh Y1))).trans (uh Y1)) (by rw [nv_length,hml])⟩))
 have hTa:=uh HT _ (Below.refl _ wa).drew
 have hsa:w.heap.size<wa.heap.size:=blk_lt (uh X1)
 go_cut [4] from 9 (fun s4 wc=> ∃ bs,s4= .pointer (some ⟨bs,0,none⟩)∧ChkAt w wc bu bs M (stateCells ⟨cls,0,0,0,q⟩))
 case first=>
   refine wp_region_L (UseT bu M) 8 (by kernel_rfl) ?_
   refine takeL 0 ?_ (fun W hW=> ?_) hTa ?_
   rotate_left 1
   · (obtain ⟨t0,t1⟩:=hW;go_simp;with_reducible rfl)
   simp only [Act.put,setB,set0,setS]
   refine takeL 3 ?_ (fun W hW=> ?_) hTa ?_
   rotate_left 1
   · (obtain ⟨t0,t1⟩:=hW;go_simp;with_reducible rfl)
   simp only [Act.put,setB,set0,setS]
   refine takeL 4 ?_ (fun W hW=> ?_) hTa ?_
   rotate_left 1
   · (obtain ⟨t0,t1⟩:=hW;go_simp;with_reducible rfl)
   simp only [Act.put,setB,set0,setS]
   have BB:=hide (Below.refl wa.heap.size wa).drew
   have B1:=hide (uh B1).drew
   refine wpAnyL_two (i:=1) (j:=7) (by kernel_rfl) rfl rfl (fun KA hKA=> ?_) (fun KB hKB=> ?_)
   · go_simp
     go_at_call 87
     refine (uh Hh _ (uh B1)).mono ?_
     rintro e w2 ⟨rfl,b2⟩
     have B2:=hide ((uh B1).trans (b2.mono (uh B1).size))
     have C2:=hide ((uh BB).trans (b2.mono (uh BB).size))
     have hT2:=uh HT _ (uh C2)
     clear b2
     refine hKA _ _ (Or.inr hT2) ?_
     try simp only [Act.put,setB,set0,setS]
     refine takeL 2 ?_ (fun W hW=> ?_) hT2 ?_
     rotate_left 1
     · (obtain ⟨t0,t1⟩:=hW;go_simp;with_reducible rfl)
     simp only [Act.put,setB,set0,setS]
     refine wpAnyL_two (i:=5) (j:=7) (by kernel_rfl) rfl rfl (fun KC hKC=> ?_) (fun KD hKD=> ?_)
     · go_simp
       go_at_call 100
       refine (uh Hl _ (uh B2)).mono ?_
       rintro e w3 ⟨rfl,b3⟩
       have B3:=hide ((uh B2).trans (b3.mono (uh B2).size))
       have C3:=hide ((uh C2).trans (b3.mono (uh C2).size))
       have hT3:=uh HT _ (uh C3)
       have hT4:=fun x=>uh HT _ ((uh C3).alloc (uh C3).size x)
       clear b3
       refine hKC _ _ (Or.inr hT3) ?_
       try simp only [Act.put,setB,set0,setS]
       refine takeL 6 ?_ (fun W hW=> ?_) hT3 ?_
       rotate_left 1
       · (obtain ⟨t0,t1⟩:=hW;go_simp;with_reducible rfl)
       simp only [Act.put,setB,set0,setS]
       refine wpAnyL_one (i:=7) (by kernel_rfl) rfl fun K7 hK7=> ?_
       go_simp
       refine hK7 _ _ (Or.inr (hT4 _)) ?_
       try simp only [Act.put,setB,set0,setS]
       refine wpAnyL_one (i:=8) (by kernel_rfl) rfl fun K8 hK8=> ?_
       go_simp
       refine hK8 _ _ (Or.inl rfl) ?_
       try simp only [Act.put,setB,set0,setS]
       refine wpAnyL_done (by kernel_rfl) ?_ _
       have hs3:w.heap.size<w3.heap.size:=Nat.lt_of_lt_of_le hsa (uh C3).size
       have CC:ChkAt w (w3.alloc (.cells (stateCells ⟨cls,0,0,0,q⟩).toArray 51)) bu w3.heap.size M (stateCells ⟨cls,0,0,0,q⟩):=
         ⟨(uh B3).alloc (uh B3).size _,(Below.heap_alloc _ _ _ hs3).trans (((uh C3).block _ hsa).trans (uh X1)),(Below.heap_alloc _ _ _ (Nat.lt_of_lt_of_le (blk_lt (uh Y1)) (uh C3).size)).trans (((uh C3).block _ (blk_lt (uh Y1))).trans (uh Y1)),heap_alloc_new _ _,hs3⟩
       go_wp2
       go_meet
       exact ⟨_,rfl,CC⟩
     · go_simp
       have B3:=hide ((uh B2).alloc (uh B2).size (.cells #[.int .i64 0,.int .i64 0,.int .i64 0,.int .i64 0,.int .i64 0] 51))
       have C3:=hide ((uh C2).alloc (uh C2).size (.cells #[.int .i64 0,.int .i64 0,.int .i64 0,.int .i64 0,.int .i64 0] 51))
       have Z3:=hide (heap_alloc_new w2 (.cells #[.int .i64 0,.int .i64 0,.int .i64 0,.int .i64 0,.int .i64 0] 51))
       have hT3:=uh HT _ (uh C3)
       have hs2:w.heap.size<w2.heap.size:=Nat.lt_of_lt_of_le hsa (uh C2).size
       refine hKD _ _ (Or.inr hT3) ?_
       try simp only [Act.put,setB,set0,setS]
       refine wpAnyL_one (i:=5) (by kernel_rfl) rfl fun K5 hK5=> ?_
       go_simp
       go_at_call 100
       refine (uh Hl _ (uh B3)).mono ?_
       rintro e w4 ⟨rfl,b4⟩
       have B4:=hide ((uh B3).trans (b4.mono (uh B3).size))
       have C4:=hide ((uh C3).trans (b4.mono (uh C3).size))
       have Z4:=hide ((b4.block _ (blk_lt (uh Z3))).trans (uh Z3))
       have hT4:=uh HT _ (uh C4)
       have C0:ChkAt w w4 bu w2.heap.size M zs5:=⟨uh B4,((uh C4).block _ hsa).trans (uh X1),((uh C4).block _ (blk_lt (uh Y1))).trans (uh Y1),uh Z4,hs2⟩
       have CC:=hide (C0.all (t:=stateCells ⟨cls,0,0,0,q⟩) rfl)
       have th:=there_blk (uh Z4) 0 5 (by simp)
       clear b4 C0
       refine hK5 _ _ (Or.inr hT4) ?_
       try simp only [Act.put,setB,set0,setS]
       refine takeL 6 ?_ (fun W hW=> ?_) hT4 ?_
       rotate_left 1
       · (obtain ⟨t0,t1⟩:=hW;go_simp;with_reducible rfl)
       simp only [Act.put,setB,set0,setS]
       refine wpAnyL_one (i:=8) (by kernel_rfl) rfl fun K8 hK8=> ?_
       go_simp
       refine hK8 _ _ (Or.inl rfl) ?_
       try simp only [Act.put,setB,set0,setS]
       refine wpAnyL_done (by kernel_rfl) ?_ _
       go_wp2
       go_meet
       exact ⟨_,rfl,uh CC⟩
   · go_simp
     have B2:=hide ((uh B1).alloc (uh B1).size (.cells #[.int .i64 0,.int .i64 0,.int .i64 0,.int .i64 0,.int .i64 0] 51))
     have C2:=hide ((uh BB).alloc (uh BB).size (.cells #[.int .i64 0,.int .i64 0,.int .i64 0,.int .i64 0,.int .i64 0] 51))
     have Z2:=hide (heap_alloc_new wa.drew (.cells #[.int .i64 0,.int .i64 0,.int .i64 0,.int .i64 0,.int .i64 0] 51))
     have hT2:=uh HT _ (uh C2)
     have hT2':=uh HT _ ((Below.refl wa.heap.size wa).alloc (Nat.le_refl _) (.cells #[.int .i64 0,.int .i64 0,.int .i64 0,.int .i64 0,.int .i64 0] 51)).drew
     refine hKB _ _ (Or.inr (uh HT _ (uh C2))) ?_
     try simp only [Act.put,setB,set0,setS]
     refine wpAnyL_one (i:=1) (by kernel_rfl) rfl fun K1 hK1=> ?_
     go_simp
     go_at_call 87
     refine (uh Hh _ (uh B2)).mono ?_
     rintro e w3 ⟨rfl,b3⟩
     have B3:=hide ((uh B2).trans (b3.mono (uh B2).size))
     have C3:=hide ((uh C2).trans (b3.mono (uh C2).size))
     have Z3:=hide ((b3.block _ (blk_lt (uh Z2))).trans (uh Z2))
     have hT3:=uh HT _ (uh C3)
     clear b3
     refine hK1 _ _ (Or.inr hT3) ?_
     try simp only [Act.put,setB,set0,setS]
     refine takeL 2 ?_ (fun W hW=> ?_) hT3 ?_
     rotate_left 1
     · (obtain ⟨t0,t1⟩:=hW;go_simp;with_reducible rfl)
     simp only [Act.put,setB,set0,setS]
     refine wpAnyL_one (i:=5) (by kernel_rfl) rfl fun K5 hK5=> ?_
     go_simp
     go_at_call 100
     refine (uh Hl _ (uh B3)).mono ?_
     rintro e w4 ⟨rfl,b4⟩
     have B4:=hide ((uh B3).trans (b4.mono (uh B3).size))
     have C4:=hide ((uh C3).trans (b4.mono (uh C3).size))
     have Z4:=hide ((b4.block _ (blk_lt (uh Z3))).trans (uh Z3))
     have hT4:=uh HT _ (uh C4)
     have C0:ChkAt w w4 bu wa.heap.size M zs5:=⟨uh B4,((uh C4).block _ hsa).trans (uh X1),((uh C4).block _ (blk_lt (uh Y1))).trans (uh Y1),uh Z4,hsa⟩
     have CC:=hide (C0.all (t:=stateCells ⟨cls,0,0,0,q⟩) rfl)
     have th:w4.there wa.heap.size 0 5:=there_blk (uh Z4) 0 5 (by simp)
     clear b4 C0
     refine hK5 _ _ (Or.inr hT4) ?_
     try simp only [Act.put,setB,set0,setS]
     refine takeL 6 ?_ (fun W hW=> ?_) hT4 ?_
     rotate_left 1
     · (obtain ⟨t0,t1⟩:=hW;go_simp;with_reducible rfl)
     simp only [Act.put,setB,set0,setS]
     refine wpAnyL_one (i:=8) (by kernel_rfl) rfl fun K8 hK8=> ?_
     go_simp
     refine hK8 _ _ (Or.inl rfl) ?_
     try simp only [Act.put,setB,set0,setS]
     refine wpAnyL_done (by kernel_rfl) ?_ _
     go_wp2
     go_meet
     exact ⟨_,rfl,uh CC⟩
 case rest=>
   obtain ⟨bs,rfl,hcc⟩:=hcut
   have C1:=hide hcc
   have Hc':=hide (uh Hc _ hcc.below)
   clear hcc Hl Hh HT hTa st1 st2 B1 X1 Y1 hsz1
   go_wp2_with fail
   refine (uh Hc').mono ?_
   rintro e wd ⟨rfl,b5⟩
   have C5:=hide ((uh C1).later b5)
   clear b5 C1 Hc' Hc
   go_wp2
   go_loopw [18] (fun i w'=> ∃ j:Nat,j≤256∧i= .int .i64 j∧ChkAt w w' bu bs M (stateCells ⟨cls,cntTo (usedM M) j,cntTo (lostM M k) j,cntTo (overM M k) j,q⟩)) (fun i _=>256 - (intOf i).toNat)
   case atStart=>exact ⟨0,by omega,rfl,uh C5⟩
   case round=>
     obtain ⟨j,hj,rfl,hC1⟩:=hrel
     clear C5
     by_cases hlt:j<256
     · have hji:(j:Int)<256:=by omega
       have hix:=run_index_cnt wr k hcl j hlt
       have hbl:=byteAt_lt k j
       have hU:cntTo (usedM M) (j+1)=cntTo (usedM M) j+if 0<M.getD j 0 then 1 else 0:=by simp [cntTo,usedM]
       have hLo:cntTo (lostM M k) (j+1)=cntTo (lostM M k) j+if M.getD j 0=0∧0<byteAt k j then 1 else 0:=by simp [cntTo,lostM]
       have hO:cntTo (overM M k) (j+1)=cntTo (overM M k) j+if 0<M.getD j 0∧M.getD j 0<byteAt k j then 1 else 0:=by simp [cntTo,overM]
       have l1:=cntTo_le (usedM M) j
       have l2:=cntTo_le (lostM M k) j
       have l3:=cntTo_le (overM M k) j
       have hm:=hMm j
       have cu:wr.cell? ⟨bu,j,none⟩=some (.int .i64 ((M.getD j 0:Nat):Int)):=by rw [cell_blk hC1.bu',List.getElem?_toArray,nv_get _ _ (by omega)]
       have s1:wr.cell? ⟨bs,1,none⟩=some (.int .i64 (cntTo (usedM M) j:Nat)):=by rw [cell_blk hC1.bs'];rfl
       have s2:wr.cell? ⟨bs,2,none⟩=some (.int .i64 (cntTo (lostM M k) j:Nat)):=by rw [cell_blk hC1.bs'];rfl
       have s3:wr.cell? ⟨bs,3,none⟩=some (.int .i64 (cntTo (overM M k) j:Nat)):=by rw [cell_blk hC1.bs'];rfl
       have hfz: ∀ i,wr.frozen? ⟨bs,i,none⟩=false:=fun i=>frozen_blk hC1.bs' i
       have hne:=hC1.ne
       generalize byteAt k j=b at*
       generalize M.getD j 0=u at*
       generalize cntTo (usedM M) j=u0 at*
       generalize cntTo (lostM M k) j=l0 at*
       generalize cntTo (overM M k) j=o0 at*
       have HU:=hide hU
       have HL:=hide hLo
       have HO:=hide hO
       have HC:=hide hC1
       clear hU hLo hO hC1
       by_cases hu0:u=0
       · subst hu0
         by_cases hq0:0<b
         · have dq:decide ((0:Int)<(b:Int))=true:=by simp;omega
           have dz:(((0:Nat):Int) == 0)=true:=rfl
           have du:decide ((0:Int)<((0:Nat):Int))=false:=rfl
           go_wp2
           go_roundw
           case rel=>
             refine ⟨j+1,by omega,by go_num,?_⟩
             have eU:cntTo (usedM M) (j+1)=u0:=by have e:=uh HU;split at e <;> omega
             have eL:cntTo (lostM M k) (j+1)=l0+1:=by have e:=uh HL;split at e <;> omega
             have eO:cntTo (overM M k) (j+1)=o0:=by have e:=uh HO;split at e <;> omega
             rw [eU,eL,eO]
             exact (uh HC).set 2 (.int .i64 ((l0:Int)+1))
           case measure=>simp [intOf];omega
         · have hb0:b=0:=by omega
           subst hb0
           have dq:decide ((0:Int)<((0:Nat):Int))=false:=rfl
           have dz:(((0:Nat):Int) == 0)=true:=rfl
           go_wp2
           go_roundw
           case rel=>
             refine ⟨j+1,by omega,by go_num,?_⟩
             have eU:cntTo (usedM M) (j+1)=u0:=by have e:=uh HU;split at e <;> omega
             have eL:cntTo (lostM M k) (j+1)=l0:=by have e:=uh HL;split at e <;> omega
             have eO:cntTo (overM M k) (j+1)=o0:=by have e:=uh HO;split at e <;> omega
             rw [eU,eL,eO]
             exact uh HC
           case measure=>simp [intOf];omega
       · have d1:((u:Int) == 0)=false:=by rw [beq_eq_false_iff_ne];omega
         have d2:decide ((0:Int)<(u:Int))=true:=by simp;omega
         by_cases hqu:u<b
         · have dq:decide ((u:Int)<(b:Int))=true:=by simp;omega
           go_wp2
           go_roundw
           case rel=>
             refine ⟨j+1,by omega,by go_num,?_⟩
             have eU:cntTo (usedM M) (j+1)=u0+1:=by have e:=uh HU;split at e <;> omega
             have eL:cntTo (lostM M k) (j+1)=l0:=by have e:=uh HL;split at e <;> omega
             have eO:cntTo (overM M k) (j+1)=o0+1:=by have e:=uh HO;split at e <;> omega
             rw [eU,eL,eO]
             exact ((uh HC).set 3 (.int .i64 ((o0:Int)+1))).set 1 (.int .i64 ((u0:Int)+1))
           case measure=>simp [intOf];omega
         · have dq:decide ((u:Int)<(b:Int))=false:=by simp;omega
           go_wp2
           go_roundw
           case rel=>
             refine ⟨j+1,by omega,by go_num,?_⟩
             have eU:cntTo (usedM M) (j+1)=u0+1:=by have e:=uh HU;split at e <;> omega
             have eL:cntTo (lostM M k) (j+1)=l0:=by have e:=uh HL;split at e <;> omega
             have eO:cntTo (overM M k) (j+1)=o0:=by have e:=uh HO;split at e <;> omega
             rw [eU,eL,eO]
             exact (uh HC).set 1 (.int .i64 ((u0:Int)+1))
           case measure=>simp [intOf];omega
     · have hj2:j=256:=by omega
       rw [hj2] at hC1
       have l1:=blk_has hC1.bs' (n:=5) (by rw [state_len])
       have l2:=blk_cells hC1.bs' (n:=5) (by rw [state_len])
       have th:wr.there w.heap.size 0 5:=there_blk hC1.bz 0 5 (by simp [zs5])
       have st1: ∀ {w:World} {b:Nat} (s:StateR),w.there b 0 5→(storeSt ⟨b,0,none⟩ (.agg (stateCells s).toArray)).run Tryz.prog w= .ok () (w.setCells b 0 (stateCells s)):=fun s ht=>run_storeSt s ht
       have B9:=hide (below_setCells hC1.below (Nat.le_refl _) 0 (stateCells ⟨cls,cntTo (usedM M) 256,cntTo (lostM M k) 256,cntTo (overM M k) 256,q⟩))
       have X9:=all_store hC1.bz (vs:=stateCells ⟨cls,cntTo (usedM M) 256,cntTo (lostM M k) 256,cntTo (overM M k) 256,q⟩) rfl
       have n3:=hide (blk_has X9 (n:=5) (by rw [state_len]))
       have n4':=hide (blk_cells X9 (n:=5) (by rw [state_len]))
       have hji: ¬ (j:Int)<256:=by omega
       clear hC1 X9
       generalize (⟨cls,cntTo (usedM M) 256,cntTo (lostM M k) 256,cntTo (overM M k) 256,q⟩:StateR)=st at*
       go_wp2
       refine bodyPost_ret (results_cell rfl ⟨w.heap.size,0,none⟩ rfl (v:= .agg (stateCells st).toArray) (by rw [loadVar_st,run_loadSt (uh n3),uh n4'])) rfl ?_
       refine ⟨?_,uh B9⟩
       rw [uh HR]
end Go.Proofs.YtknjjjenklfeoaaGreatDoor
namespace Go.Proofs.YtknjjjenklfeoaaGreatDoor
open Go.RowKit Go.Shelf
attribute [local go_sem ↓] loadVar_st storeVar_st
attribute [local go_sem] run_loadSt
theorem diskCheck_any (w:World) (d v:Nat) (Cv Lv:Value) (V:VolR) (h:DskAt w d v Cv Lv V) (h5:5<V.C.length) (hC:V.C.length≤256) (hF: ∀ f ∈ firstsOf V,FirstOK V f):
   Calls Tryz.prog 22 #[.pointer (some ⟨d,0,none⟩)] w fun e w'=>e= .returned (.agg (stateCells (checkR V)).toArray)∧Below w.heap.size w w':=by
 have hb0:Below w.heap.size w (w.alloc (.cells #[.int .i64 0,.int .i64 0,.int .i64 0,.int .i64 0,.int .i64 0] 51)):=(Below.refl _ _).alloc (Nat.le_refl _) _
 have hx0:(w.alloc (.cells #[.int .i64 0,.int .i64 0,.int .i64 0,.int .i64 0,.int .i64 0] 51)).heap[w.heap.size]? = some (.cells #[.int .i64 0,.int .i64 0,.int .i64 0,.int .i64 0,.int .i64 0] 51 (0,0)):=heap_alloc_new _ _
 have h':=h.below hb0
 have Hm:=hide (made_any _ d v Cv Lv V h')
 have c0:=h'.c0
 have Hw:=hide (volCheck_any _ v Cv Lv V h'.vol h5 hC hF)
 have B0:=hide hb0
 have X0:=hide hx0
 generalize checkR V=st at*
 have hst: ∀ {w:World} {b:Nat},w.there b 0 5→(storeSt ⟨b,0,none⟩ (.agg (stateCells st).toArray)).run Tryz.prog w= .ok () (w.setCells b 0 (stateCells st)):=fun ht=>run_storeSt st ht
 clear h hF h' hb0 hx0
 go_enter Tryz.func22,Tryz.ntmps22
 go_wp2_with fail
 generalize w.alloc (.cells #[.int .i64 0,.int .i64 0,.int .i64 0,.int .i64 0,.int .i64 0] 51)=w0 at*
 refine (uh Hm).mono ?_
 rintro e w1 ⟨rfl,rfl⟩
 go_wp2_with fail
 refine (uh Hw).mono ?_
 rintro e w2 ⟨rfl,hb⟩
 have hx2:=(hb.block _ (blk_lt (uh X0))).trans (uh X0)
 have th:w2.there w.heap.size 0 5:=there_blk hx2 0 5 (by simp)
 have B2:=hide (below_setCells ((uh B0).trans (hb.mono (uh B0).size)) (Nat.le_refl _) 0 (stateCells st))
 have X9:=all_store (cs:=zs5) hx2 (vs:=stateCells st) rfl
 have n3:=hide (blk_has X9 (n:=5) (by rw [state_len]))
 have n4:=hide (blk_cells X9 (n:=5) (by rw [state_len]))
 clear hb hx2 X9 Hw Hm B0 X0
 go_wp2
 refine bodyPost_ret (results_cell rfl ⟨w.heap.size,0,none⟩ rfl (v:= .agg (stateCells st).toArray) (by rw [loadVar_st,run_loadSt (uh n3),uh n4])) rfl ?_
 exact ⟨rfl,uh B2⟩
end Go.Proofs.YtknjjjenklfeoaaGreatDoor
namespace Go.Proofs.YtknjjjenklfeoaaGreatDoor
open Go.RowKit
attribute [local go_sem ↓] loadVar_clus storeVar_clus zeroValue_clus loadVar_tab storeVar_tab zeroValue_tab loadVar_cnt storeVar_cnt zeroValue_cnt loadVar_head storeVar_head zeroValue_head build_head buildSlice_clus loadVar_wr storeVar_wr zeroValue_wr build_wr buildSlice_wr equalIn_clus loadVar_place storeVar_place zeroValue_place build_place
attribute [local go_sem] run_loadClus run_storeClus run_zeroClus run_storeClus_new run_loadClus_new zc_length run_loadTab run_storeTab run_zeroTab run_storeTab_new run_loadTab_new zt_length run_loadCnt run_storeCnt run_zeroCnt run_storeCnt_new run_loadCnt_new zk_length run_loadHead run_storeHead run_zeroHead run_storeHead_new run_bHead HasAt_drew cellsAt_drew HasAt_drewN cellsAt_drewN run_bsClus run_loadWr run_zeroWr run_storeWr run_storeWr_new run_bWr0 run_bsWr run_loadPlace run_storePlace run_zeroPlace run_storePlace_new run_bPlace
attribute [local go_sem] field_head1 field_head0
def LetsGo (v:Nat) (V V':VolR) (ns:List Nat):Prop:=
 ∀ W C1 L1 bx bs,VolAt W v C1 L1 V→W.heap[bx]? = some (.cells #[.slice (some ⟨bs,0,none⟩) ns.length ns.length] 260 (0,0))→W.heap[bs]? = some (.cells (tv ns).toArray 167 (0,0))→ ¬ foot v C1 L1 bs→
   Calls Tryz.prog 110 #[.pointer (some ⟨v,0,none⟩),.func (.func 179) #[] #[.pointer (some ⟨bx,0,none⟩)]] W fun e w'=>e= .returned (.tuple #[])∧ ∃ C2 L2,VStep W w' v C1 L1 C2 L2 V'
def wnb1 (V:VolR) (data:Clus):VolR:=flushV (putV (claimV V (lowFree (cntsOf V.C) 1)) ((lowFree (cntsOf V.C) 1).getD 0 0) data)
def wnbV (V:VolR) (p:PlaceR) (data:Clus):VolR:=flushV (putNumV (wnb1 V data) (p.second%32768) p.inSecond ((lowFree (cntsOf V.C) 1).getD 0 0+32768))
theorem lowTo_lt (c:List UInt8) (want:Nat): ∀ k,∀ n ∈ lowTo c want k,n<k
 | 0,n,hn=>by simp [lowTo] at hn
 | k+1,n,hn=>by
   rw [lowTo] at hn
   split at hn
   · have:=lowTo_lt c want k n hn;omega
   · split at hn
     · rcases List.mem_append.1 hn with h | h
       · have:=lowTo_lt c want k n h;omega
       · rw [List.mem_singleton.1 h];omega
     · have:=lowTo_lt c want k n hn;omega
theorem lowFree_lt (c:List UInt8) (want:Nat): ∀ n ∈ lowFree c want,n<256:=lowTo_lt c want 256
theorem lastOf_lt {F:List Nat} (hF:0<F.length) (h: ∀ n ∈ F,n<256):lastOf F<256:=by
 unfold lastOf
 rw [List.getD_eq_getElem?_getD,List.getElem?_eq_getElem (by omega)]
 exact h _ (List.getElem_mem _)
theorem claimV_lenC (V:VolR) (F:List Nat) (h5:5≤V.C.length):(claimV V F).C.length=V.C.length:=by
 unfold claimV
 simp only [putCnt,putV_lenC,lengthenV_lenC V F (by omega)]
 omega
theorem claimV_lenL (V:VolR) (F:List Nat):(claimV V F).L.length≤V.L.length+11:=by
 unfold claimV
 have h1:=putCnt_lenL (lengthenV V F) (ones (cntsOf (lengthenV V F).C) F) 4
 have h2:=lengthenV_lenL V F
 omega
theorem ints_get {w:World} {g cap:Nat} {F:List Nat} {base:Nat} (hx:w.ownsRow base 3 1 (.slice (some ⟨g,0,none⟩) F.length cap) F.length (iv F)) (k:Nat) (hk:k<F.length):w.cell? ⟨g,k,none⟩=some (.int .i64 ((F.getD k 0:Nat):Int)):=by
 rw [hx.cellAt k (by omega)]
 unfold iv
 rw [List.getElem?_map,List.getD_eq_getElem?_getD,List.getElem?_eq_getElem hk]
 rfl
theorem row_base {w:World} {b1 b2:Nat} {e:TypeId} {size:Nat} {v:Value} {n:Nat} {xs:List Value} (h:w.ownsRow b1 e size v n xs) (hb:b2≤b1):w.ownsRow b2 e size v n xs:=by
 obtain ⟨h1,h2⟩:=h
 refine ⟨h1,?_⟩
 rcases h2 with h2 | ⟨g,cap,cur,rfl,hg,r⟩
 · exact Or.inl h2
 · exact Or.inr ⟨g,cap,cur,rfl,Nat.le_trans hb hg,r⟩
def bsNum (parts:Array (Nat × Value)):Sem Value:=Instr.buildSlice 260 1 parts
theorem buildSlice_num (parts:Array (Nat × Value)):Instr.buildSlice 260 1 parts=bsNum parts:=rfl
theorem run_bsNum {w:World} {n:Nat}:(bsNum #[(0,.int .u16 (n:Nat))]).run Tryz.prog w= .ok (.slice (some ⟨w.heap.size,0,none⟩) 1 1) (w.alloc (.cells (tv [n]).toArray 167)):=
 run_buildSlice_one w 260 167 1 (.int .u16 0) (.int .u16 (n:Nat)) Tryz.underlying260 (by kernel_rfl) (by omega) (by omega) (by rfl)
attribute [local go_sem ↓] buildSlice_num
attribute [local go_sem] run_bsNum
theorem writeNewBlock_any (w:World) (v:Nat) (Cv Lv:Value) (V V':VolR) (h:VolAt w v Cv Lv V) (h5:5<V.C.length) (hC:V.C.length≤256) (hL:V.L.length≤500000000) (p:PlaceR) (hps:p.second<65536) (hpc:p.second%32768<V.C.length) (hpi:p.inSecond<32) (data:Clus) (hd:data.length=64)
   (hLG:0<(lowFree (cntsOf V.C) 1).length→LetsGo v (wnbV V p data) V' [p.block]):
   Calls Tryz.prog 107 #[.pointer (some ⟨v,0,none⟩),.agg (placeCells p).toArray,.agg (cv data).toArray] w fun e w'=>
     if 0<(lowFree (cntsOf V.C) 1).length then e= .returned (.int .i64 0)∧ ∃ C1 L1,VStep w w' v Cv Lv C1 L1 V' else e= .returned (.int .i64 5)∧Below w.heap.size w w':=by
 have E0:=((Env.start h).lay (.cells (placeCells p).toArray 171)).lay (.cells (cv data).toArray 38)
 simp only [World.size_alloc] at E0
 have Hf:=hide (lowestFree_any _ v Cv Lv V E0.at' (by omega) 1 (by omega))
 have HB:Hid (Below w.heap.size w ((w.alloc (.cells (placeCells p).toArray 171)).alloc (.cells (cv data).toArray 38))):=((Below.refl _ w).alloc (Nat.le_refl _) _).alloc (by simp) _
 have hFlt:=lowFree_lt (cntsOf V.C) 1
 have hFle:=(lowTo_le (cntsOf V.C) 1 256).1
 have H1:Hid (wnb1 V data=flushV (putV (claimV V (lowFree (cntsOf V.C) 1)) ((lowFree (cntsOf V.C) 1).getD 0 0) data)):=rfl
 have H2:Hid (wnbV V p data=flushV (putNumV (wnb1 V data) (p.second%32768) p.inSecond ((lowFree (cntsOf V.C) 1).getD 0 0+32768))):=rfl
 have E0:=hide E0
 change (lowFree (cntsOf V.C) 1).length≤1 at hFle
 generalize lowFree (cntsOf V.C) 1=F at*
 by_cases hF:0<F.length
 · simp only [if_pos hF]
   have hlt:=lastOf_lt hF hFlt
   have hF1:F.length=1:=by omega
   have hLG:=hLG hF
   have hb0:F.getD 0 0<256:=by rw [List.getD_eq_getElem?_getD,List.getElem?_eq_getElem hF];exact hFlt _ (List.getElem_mem _)
   have hcC:=claimV_lenC V F (by omega)
   have hcL:=claimV_lenL V F
   have HC:Hid (∀ W C1 L1 x,VolAt W v C1 L1 V→W.ownsRow 0 3 1 x F.length (iv F)→_):=fun W C1 L1 x hW hx=>claim_any W v C1 L1 V hW F hF (by omega) hlt hFlt x hx (by omega) (by omega) (by omega)
   generalize claimV V F=V1 at*
   generalize hbb:F.getD 0 0=b at*
   have hpC:=putV_lenC V1 b data
   have hpL:=putV_lenL V1 b data
   have HP1:Hid (∀ W C1 L1,VolAt W v C1 L1 V1→_):=fun W C1 L1 hW=>put_any W v C1 L1 V1 hW b (by omega) data hd (by omega) (by omega)
   generalize putV V1 b data=V2 at*
   have hf2:=flushV_lenL V2
   have hf2c:(flushV V2).C.length=V2.C.length:=by rw [flushV_C]
   rw [← uh H1] at hf2 hf2c
   have HF2:Hid (∀ W C1 L1,VolAt W v C1 L1 V2→_):=fun W C1 L1 hW=>flush_any W v C1 L1 V2 hW (by omega)
   rw [← uh H1] at HF2
   generalize wnb1 V data=V3 at*
   have HN:Hid (∀ W C1 L1,VolAt W v C1 L1 V3→_):=fun W C1 L1 hW=>putNumber_vol W v C1 L1 V3 hW (p.second%32768) p.inSecond (b+32768) (by omega) hpi (by omega) (by omega) (by omega)
   have hn4:=putV_lenL V3 (p.second%32768) (bytesOf ((numsOf (cl V3.C (p.second%32768))).set p.inSecond (b+32768)))
   change (putNumV V3 (p.second%32768) p.inSecond (b+32768)).L.length≤_ at hn4
   generalize hV4:putNumV V3 (p.second%32768) p.inSecond (b+32768)=V4 at*
   have HF4:Hid (∀ W C1 L1,VolAt W v C1 L1 V4→_):=fun W C1 L1 hW=>flush_any W v C1 L1 V4 hW (by omega)
   rw [← uh H2] at HF4
   generalize wnbV V p data=V5 at*
   have HO:Hid (∀ W,_):=fun W=>own_of b (by omega) W
   have HCl:Hid (∀ W,_):=fun W=>cluster_of p.second hps W
   have HLG:=hide hLG
   clear hLG h H1 H2 hV4 hFlt hlt
   generalize p.second%32768=c2 at*
   go_enter Tryz.func107,Tryz.ntmps107
   go_wp2_with fail
   refine (uh Hf).mono ?_
   rintro e w1 ⟨x,rfl,hx,hb1⟩
   obtain ⟨g,cap,rfl,_⟩:=row_some hx hF
   have E1:=hide ((uh E0).later hb1)
   have cx:w1.cell? ⟨g,0,none⟩=some (.int .i64 (b:Nat)):=by rw [← hbb];exact ints_get hx 0 hF
   have Hx:=hide (row_base hx (Nat.zero_le _))
   clear hx hb1 Hf E0 HB
   rw [hF1] at HC Hx ⊢
   go_wp2_with fail
   refine (uh HC w1 _ _ _ (uh E1).at' (uh Hx)).mono ?_
   rintro e w2 ⟨rfl,C2,L2,hS2⟩
   have E2:=(uh E1).does hS2
   have l1:=box_has E2.drew.o0 hd
   have l2:=box_cells E2.drew.o0 hd
   have E2:=hide E2
   clear hS2 E1 Hx cx HC
   go_wp2
   go_region_law (go_simp
                  go_at_call 70
                  refine (uh HP1 _ _ _ (uh E2).drew.at').mono ?_
                  rintro e w3 ⟨rfl,C3,L3,hS3⟩
                  have E3:=hide ((uh E2).drew.does hS3)
                  clear hS3)
   go_wp2_with fail
   refine (uh HF2 _ _ _ (uh E3).at').mono ?_
   rintro e w4 ⟨rfl,C4,L4,hS4⟩
   have E4:=(uh E3).does hS4
   have d1:w4.drew.cell? ⟨w.heap.size,3,none⟩=some (.int .u16 (p.second:Nat)):=(cell_blk E4.drew.o1 3).trans rfl
   have d2:w4.drew.cell? ⟨w.heap.size,2,none⟩=some (.int .i64 (p.inSecond:Nat)):=(cell_blk E4.drew.o1 2).trans rfl
   have E4:=hide E4
   clear hS4 E3 E2 HP1 HF2 l1 l2
   go_wp2
   go_region_law (first
     | (go_simp
        go_at_call 108
        refine (uh HCl _).mono ?_
        rintro e w5 ⟨rfl,rfl⟩)
     | (go_simp
        go_at_call 161
        refine (uh HO _).mono ?_
        rintro e w5 ⟨rfl,rfl⟩)
     | (go_simp
        go_at_call 164
        refine (uh HN _ _ _ (uh E4).drew.at').mono ?_
        rintro e w5 ⟨rfl,C5,L5,hS5⟩
        have E5:=hide ((uh E4).drew.does hS5)
        clear hS5))
   all_goals
     clear E4 d1 d2 HN HO HCl
     go_wp2_with fail
     refine (uh HF4 _ _ _ (uh E5).at').mono ?_
     rintro e w6 ⟨rfl,C6,L6,hS6⟩
     have E6:=(uh E5).does hS6
     have d3:w6.cell? ⟨w.heap.size,4,none⟩=some (.int .u16 (p.block:Nat)):=(cell_blk E6.o1 4).trans rfl
     have E7:=E6.lay (.cells (tv [p.block]).toArray 167)
     have Hm:=hide (clusters_make (w6.alloc (.cells (tv [p.block]).toArray 167)) (some ⟨w6.heap.size,0,none⟩) 1 1)
     have E8:=E7.lay (.cells #[.slice (some ⟨w6.heap.size,0,none⟩) 1 1] 260)
     simp only [World.size_alloc] at E8
     have Hg:=hide (uh HLG _ C6 L6 (w6.heap.size+1) w6.heap.size E8.at' E8.o0 E8.o1 (E8.objs (w6.heap.size,.cells (tv [p.block]).toArray 167 (0,0)) (by simp)).2.2)
     have E8:=hide E8
     clear hS6 E6 E7 E5 HF4 HLG
     go_wp2_with fail
     refine (uh Hm).mono ?_
     rintro e w8 ⟨rfl,rfl⟩
     simp only [World.size_alloc]
     go_wp2_with fail
     refine (uh Hg).mono ?_
     rintro e w9 ⟨rfl,C9,L9,hS9⟩
     have E9:=hide ((uh E8).does hS9).step
     go_wp2
     go_ret
     exact ⟨rfl,C9,L9,uh E9⟩
 · simp only [if_neg hF]
   have hF0:F.length=0:=by omega
   go_enter Tryz.func107,Tryz.ntmps107
   go_wp2_with fail
   refine (uh Hf).mono ?_
   rintro e w1 ⟨x,rfl,hx,hb1⟩
   obtain ⟨g,cap,rfl⟩:=row_form hx
   rw [hF0]
   have HB1:=hide ((uh HB).trans (hb1.mono (uh HB).size))
   go_wp2
   go_ret
   exact ⟨rfl,uh HB1⟩
end Go.Proofs.YtknjjjenklfeoaaGreatDoor
