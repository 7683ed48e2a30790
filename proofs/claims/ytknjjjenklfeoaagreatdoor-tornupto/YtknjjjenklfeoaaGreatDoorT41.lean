import Derived.Test.YtknjjjenklfeoaaGreatDoorT40
import Derived.WalkKit
import Derived.LaidEql
import Derived.RowKitTokens
import Derived.Test.YtknjjjenklfeoaaGreatDoorT05
import Derived.Test.YtknjjjenklfeoaaGreatDoorT35
import Derived.Test.YtknjjjenklfeoaaGreatDoorT31
set_option maxHeartbeats 8000000
set_option maxRecDepth 100000
namespace Go.Proofs.YtknjjjenklfeoaaGreatDoor
open Go.RowKit Go.Shelf
attribute [local go_sem ↓] loadVar_clus storeVar_clus zeroValue_clus loadVar_tab storeVar_tab zeroValue_tab loadVar_cnt storeVar_cnt zeroValue_cnt loadVar_head storeVar_head zeroValue_head build_head buildSlice_clus loadVar_wr storeVar_wr zeroValue_wr build_wr buildSlice_wr equalIn_clus
attribute [local go_sem] run_loadClus run_storeClus run_zeroClus run_storeClus_new run_loadClus_new zc_length run_loadTab run_storeTab run_zeroTab run_storeTab_new run_loadTab_new zt_length run_loadCnt run_storeCnt run_zeroCnt run_storeCnt_new run_loadCnt_new zk_length run_loadHead run_storeHead run_zeroHead run_storeHead_new run_bHead HasAt_drew cellsAt_drew HasAt_drewN cellsAt_drewN run_bsClus run_loadWr run_zeroWr run_storeWr run_storeWr_new run_bWr0 run_bsWr
attribute [local go_sem] Oper.semAt_some
attribute [local go_sem] field_head1 field_head0
theorem headP_iff {file:List Clus} (hl: ∀ c ∈ file,c.length=64):headGood file=true↔HeadP file:=by
 constructor
 · intro h
   obtain ⟨h1,_,h3,h4,h5,h6,h7⟩:=headGood_parts h
   have hc:(cl file 0).length=64:=cl_length hl (by omega)
   have hb:headB (cl file 0)=true:=by rw [headB_iff hc,h7,decide_eq_true h3];rfl
   exact ⟨h1,of_decide_eq_true hb,h4,h5,h6⟩
 · intro h
   have h6:=h.six
   have h7:=h.seven
   have h8:=h.most
   have h9:=h.le
   have hc:(cl file 0).length=64:=cl_length hl (by omega)
   have hb:headB (cl file 0)=true:=decide_eq_true h.same
   rw [headB_iff hc,Bool.and_eq_true,decide_eq_true_iff] at hb
   unfold headGood
   simp only [Bool.and_eq_true,decide_eq_true_iff]
   exact ⟨h6,by omega,hb.1,h7,h8,h9,hb.2⟩
section
variable {file:List Clus}
theorem open1 (hh:headGood file=true) (h1:listGood (cl (openV file).C 5)=false):openBad file=5:=by
 unfold openBad
 rw [if_neg (by rw [hh];decide),if_pos h1]
theorem open2 (hh:headGood file=true) (h1:listGood (cl (openV file).C 5)=true) (h2:(foldF (firstsOf (openV file)) 0 (R2of file)).1=false):openBad file=(foldF (firstsOf (openV file)) 0 (R2of file)).2.bad:=by
 unfold openBad
 rw [if_neg (by rw [hh];decide),if_neg (by rw [h1];decide),if_pos h2]
theorem open3 (hh:headGood file=true) (h1:listGood (cl (openV file).C 5)=true) (h2:(foldF (firstsOf (openV file)) 0 (R2of file)).1=true) (h3:0≤countsP (usesOf (openV file)) (cntsOf (openV file).C) (openV file).C.length 256 0):
   openBad file=countsP (usesOf (openV file)) (cntsOf (openV file).C) (openV file).C.length 256 0:=by
 unfold openBad
 rw [if_neg (by rw [hh];decide),if_neg (by rw [h1];decide),if_neg (by rw [h2];decide),if_pos h3]
theorem open4 (hh:headGood file=true) (h1:listGood (cl (openV file).C 5)=true) (h2:(foldF (firstsOf (openV file)) 0 (R2of file)).1=true) (h3:countsP (usesOf (openV file)) (cntsOf (openV file).C) (openV file).C.length 256 0= -1):
   openBad file=marksP (openV file).C (cntsOf (openV file).C) (firstsOf (openV file)):=by
 unfold openBad
 rw [if_neg (by rw [hh];decide),if_neg (by rw [h1];decide),if_neg (by rw [h2];decide),if_neg (by rw [h3];decide)]
theorem open_firsts (hl: ∀ c ∈ file,c.length=64) (hh:headGood file=true) (h1:listGood (cl (openV file).C 5)=true) (h2:(foldF (firstsOf (openV file)) 0 (R2of file)).1=true): ∀ f ∈ firstsOf (openV file),FirstOK (openV file) f:=by
 obtain ⟨E,hE⟩:=fileE_of hh hl h1
 have h3:(R3of file).1=true:=by rw [hE.nums,← hE.openFirsts];exact h2
 have ht:=(hE.trees h3).1
 rw [← hE.openC] at ht
 intro f hf
 rw [hE.openFirsts] at hf
 exact ht.firstOK hf
end
structure Stage (file:List Clus) (j:Nat):Prop where
 s1:1≤j→listGood (cl (openV file).C 5)=true
 s2:2≤j→(foldF (firstsOf (openV file)) 0 (R2of file)).1=true
 s3:3≤j→countsP (usesOf (openV file)) (cntsOf (openV file).C) (openV file).C.length 256 0= -1
 s4:4≤j→marksP (openV file).C (cntsOf (openV file).C) (firstsOf (openV file))= -1
def checksV (v:Nat):Array Value:= #[.func (.func 93) #[.pointer (some ⟨v,0,none⟩)] #[],.func (.func 94) #[.pointer (some ⟨v,0,none⟩)] #[],.func (.func 95) #[.pointer (some ⟨v,0,none⟩)] #[],.func (.func 96) #[.pointer (some ⟨v,0,none⟩)] #[]]
def OpenBad (file:List Clus) (e:Ending):Prop:= ∃ (n:Nat) (x:Value),openBad file=(n:Int)∧isIface x∧e= .returned (.tuple #[.pointer none,faultV n x])
def OpenGood (w w':World) (file:List Clus) (e:Ending):Prop:=openBad file= -1∧ ∃ v Cv Lv,e= .returned (.tuple #[.pointer (some ⟨v,0,none⟩),.nilIface])∧VolAt w' v Cv Lv (openV file)∧ ∀ k,foot v Cv Lv k→w.heap.size≤k
theorem volOpen_head (w:World) (fv:Value) (file:List Clus) (hf:FRow w fv file) (hG:Glob w) (hm:file.length≤1000000) (hbad: ¬ HeadP file):
   Calls Tryz.prog 48 #[fv] w fun e w'=>(∃ x,isIface x∧e= .returned (.tuple #[.pointer none,faultV 0 x]))∧Below w.heap.size w w':=by
 have Hh:=hide (checkHead_bad w fv file hf hG hm hbad)
 clear hf hG
 go_enter Tryz.func48,Tryz.ntmps48
 go_wp2_with fail
 refine (uh Hh).mono ?_
 rintro e w1 ⟨⟨x,⟨t,y,rfl⟩,rfl⟩,hb1⟩
 have HB:=hide hb1
 clear Hh hb1
 unfold faultV
 go_wp2
 refine bodyPost_ret (results_tmp2 rfl _ _ _) rfl ?_
 exact ⟨⟨_,⟨_,_,rfl⟩,rfl⟩,uh HB⟩
theorem volOpen_rest (w:World) (fv:Value) (file:List Clus) (hf:FRow w fv file) (hG:Glob w) (hH:HeadP file):
   Calls Tryz.prog 48 #[fv] w fun e w'=>(OpenBad file e∨OpenGood w w' file e)∧Below w.heap.size w w':=by
 have hh:=(headP_iff hf.lens).2 hH
 have Hh:=hide (checkHead_good w fv file hf hG hH)
 have h6:=hH.six
 have h7:=hH.seven
 have h8:=hH.most
 have h9:=hH.le
 have hlen0:=cl_length hf.lens (k:=0) (by omega)
 have Hho:=hide (fun W=>headOf_any W (cl file 0) hlen0)
 have Hof:=hide (fun W (hb:Below w.heap.size w W)=>of_any W fv file (hf.kept (S:=fun _=>False) (Kept.of_below hb) (fun _ _=>id)) (num (cl file 0) 4) (by omega) h9 h8)
 obtain ⟨g,cap,rfl,hcap⟩:=row_some hf.row (by omega)
 have HL:=hide (fun W (hb:Below w.heap.size w W)=>(⟨row_has (hf.kept (S:=fun _=>False) (Kept.of_below hb) (fun _ _=>id)).row hf.lens 0 (by omega),row_cells (hf.kept (S:=fun _=>False) (Kept.of_below hb) (fun _ _=>id)).row hf.lens 0 (by omega)⟩:_∧_))
 simp only [Nat.zero_mul] at HL
 have hli:(0:Int)<(file.length:Int):=by omega
 go_enter Tryz.func48,Tryz.ntmps48
 go_wp2_with fail
 refine (uh Hh).mono ?_
 rintro e w1 ⟨rfl,hb1⟩
 have HB1:=hide hb1
 clear Hh hb1
 have l1:=(uh HL _ (uh HB1)).1
 have l2:=(uh HL _ (uh HB1)).2
 go_wp2_with fail
 refine (uh Hho _).mono ?_
 rintro e w2 ⟨rfl,hb2⟩
 have HB2:=hide ((uh HB1).trans (hb2.mono (uh HB1).size))
 clear hb2 HB1 l1 l2 Hho HL
 have Hof:=hide (uh Hof w2 (uh HB2))
 go_wp2_with fail
 refine (uh Hof).mono ?_
 rintro e w3 ⟨gc,hgc,rfl,hrow,hb3⟩
 have HB3:=hide ((uh HB2).trans (hb3.mono (uh HB2).size))
 have hgw:w.heap.size≤gc:=Nat.le_trans (uh HB2).size hgc
 have hgl:gc<w3.heap.size:=(hrow.lt gc rfl).2
 have HR:=hide hrow
 have Hb3:=hb3.size
 clear hb3 hrow Hof
 have hv3:(w3.alloc (.cells #[.slice (some ⟨gc,0,none⟩) (num (cl file 0) 4) (num (cl file 0) 4),.slice none 0 0,.bool false,.bool (decide (file.length<num (cl file 0) 4))] 121)).heap[w3.heap.size]? = some (.cells (volCells (.slice (some ⟨gc,0,none⟩) (num (cl file 0) 4) (num (cl file 0) 4)) (.slice none 0 0) (openV file)).toArray 121 (0,0)):=heap_alloc_new _ _
 have hk3:Below w3.heap.size w3 (w3.alloc (.cells #[.slice (some ⟨gc,0,none⟩) (num (cl file 0) 4) (num (cl file 0) 4),.slice none 0 0,.bool false,.bool (decide (file.length<num (cl file 0) 4))] 121)):=(Below.refl _ _).alloc (Nat.le_refl _) _
 have hVa:VolAt (w3.alloc (.cells #[.slice (some ⟨gc,0,none⟩) (num (cl file 0) 4) (num (cl file 0) 4),.slice none 0 0,.bool false,.bool (decide (file.length<num (cl file 0) 4))] 121)) w3.heap.size (.slice (some ⟨gc,0,none⟩) (num (cl file 0) 4) (num (cl file 0) 4)) (.slice none 0 0) (openV file):=by
   refine ⟨hv3,?_,World.ownsRow_nil _ _ _ _,openV_lens hf.lens,fun x hx=>(by cases hx),fun _=>by rw [openV_len];omega⟩
   rw [openV_len]
   exact ownsRow_kept (S:=fun _=>False) (Kept.of_below hk3) (uh HR) (fun _ _=>id)
 have hVb:=hVa.alloc (.cells #[.func (.func 93) #[.pointer (some ⟨w3.heap.size,0,none⟩)] #[],.func (.func 94) #[.pointer (some ⟨w3.heap.size,0,none⟩)] #[],.func (.func 95) #[.pointer (some ⟨w3.heap.size,0,none⟩)] #[],.func (.func 96) #[.pointer (some ⟨w3.heap.size,0,none⟩)] #[]] 154)
 have hBb:=((uh HB3).alloc (uh HB3).size (.cells #[.slice (some ⟨gc,0,none⟩) (num (cl file 0) 4) (num (cl file 0) 4),.slice none 0 0,.bool false,.bool (decide (file.length<num (cl file 0) 4))] 121))
 have hBb:=hBb.alloc hBb.size (.cells #[.func (.func 93) #[.pointer (some ⟨w3.heap.size,0,none⟩)] #[],.func (.func 94) #[.pointer (some ⟨w3.heap.size,0,none⟩)] #[],.func (.func 95) #[.pointer (some ⟨w3.heap.size,0,none⟩)] #[],.func (.func 96) #[.pointer (some ⟨w3.heap.size,0,none⟩)] #[]] 154)
 have hXb:=heap_alloc_new (w3.alloc (.cells #[.slice (some ⟨gc,0,none⟩) (num (cl file 0) 4) (num (cl file 0) 4),.slice none 0 0,.bool false,.bool (decide (file.length<num (cl file 0) 4))] 121)) (.cells #[.func (.func 93) #[.pointer (some ⟨w3.heap.size,0,none⟩)] #[],.func (.func 94) #[.pointer (some ⟨w3.heap.size,0,none⟩)] #[],.func (.func 95) #[.pointer (some ⟨w3.heap.size,0,none⟩)] #[],.func (.func 96) #[.pointer (some ⟨w3.heap.size,0,none⟩)] #[]] 154)
 rw [World.size_alloc] at hXb
 have hVb:=hide hVb
 have hBb:=hide hBb
 have hXb:=hide hXb
 have hw3:w.heap.size≤w3.heap.size:=(uh HB3).size
 have hT4:num (cl (openV file).C 0) 4=(openV file).C.length:=by rw [openV_cl hh 0 (by omega),openV_len]
 have h5C:5<(openV file).C.length:=by rw [openV_len];omega
 have hCC:(openV file).C.length≤256:=by rw [openV_len];exact h8
 have hFF:=open_firsts hf.lens hh
 have HGl:=hide hG
 clear hVa hv3 hk3 HR HB3 hG hH
 unfold volCells
 go_wp2_with fail
 change Hid (_=some (Obj.cells (checksV w3.heap.size) 154 (0,0))) at hXb
 generalize World.alloc _ _=wb at*
 go_loopw [7,8,33] (fun _ _ i wr=> ∃ j:Nat,j≤4∧i= .int .i64 j∧Below w.heap.size w wr∧VolAt wr w3.heap.size (.slice (some ⟨gc,0,none⟩) (num (cl file 0) 4) (num (cl file 0) 4)) (.slice none 0 0) (openV file)∧wr.heap[w3.heap.size+1]? = some (.cells (checksV w3.heap.size) 154 (0,0))∧Stage file j) (fun _ _ i _=>4 - (intOf i).toNat)
 case atStart=>exact ⟨0,by omega,rfl,uh hBb,uh hVb,uh hXb,⟨fun h=>by omega,fun h=>by omega,fun h=>by omega,fun h=>by omega⟩⟩
 case round=>
   obtain ⟨j,hj,rfl,hB,hV,hX,hS⟩:=hrel
   clear hBb hVb hXb
   by_cases j0:j=0
   · subst j0
     have cj:wr.cell? ⟨w3.heap.size+1,0,none⟩=some (.func (.func 93) #[.pointer (some ⟨w3.heap.size,0,none⟩)] #[]):=(cell_blk hX 0).trans rfl
     have Hck:=hide (checkList_any wr w3.heap.size _ _ (openV file) hV ((uh HGl).below hB) h5C)
     have HB:=hide hB
     have HV:=hide hV
     have HX:=hide hX
     clear hB hV hX
     go_wp2_with fail
     refine (uh Hck).mono ?_
     rintro e wn ⟨hend,hbn⟩
     have HBn:=hide ((uh HB).trans (hbn.mono (uh HB).size))
     have HVn:=hide ((uh HV).below hbn)
     have HXn:=hide ((hbn.block _ (blk_lt (uh HX))).trans (uh HX))
     clear HB HV HX Hck hbn cj
     rcases hend with ⟨h1,rfl⟩ | ⟨h1,x,⟨t,y,rfl⟩,rfl⟩
     · have hst:Stage file 1:=⟨fun _=>h1,fun h=>by omega,fun h=>by omega,fun h=>by omega⟩
       have HS:=hide hst
       go_wp2
       go_roundw
       case rel=>exact ⟨1,by omega,by go_num,uh HBn,uh HVn,uh HXn,uh HS⟩
       case measure=>simp [intOf]
     · have hx:OpenBad file (.returned (.tuple #[.pointer none,faultV 5 (.iface t y)])):=⟨5,_,open1 hh h1,⟨_,_,rfl⟩,rfl⟩
       unfold faultV at hx ⊢
       have HX:=hide hx
       go_wp2
       refine bodyPost_ret (results_tmp2 rfl _ _ _) rfl ?_
       exact ⟨Or.inl (uh HX),uh HBn⟩
   by_cases j1:j=1
   · subst j1
     have cj:wr.cell? ⟨w3.heap.size+1,1,none⟩=some (.func (.func 94) #[.pointer (some ⟨w3.heap.size,0,none⟩)] #[]):=(cell_blk hX 1).trans rfl
     have Hck:=hide (callsIn_wide.1 (checkNumbers_in wr w3.heap.size _ _ (openV file) hV ((uh HGl).below hB) h5C hCC hT4 (R2of file) rfl rfl))
     have HB:=hide hB
     have HV:=hide hV
     have HX:=hide hX
     clear hB hV hX
     go_wp2_with fail
     refine (uh Hck).mono ?_
     rintro e wn ⟨hend,hbn⟩
     have HBn:=hide ((uh HB).trans (hbn.mono (uh HB).size))
     have HVn:=hide ((uh HV).below hbn)
     have HXn:=hide ((hbn.block _ (blk_lt (uh HX))).trans (uh HX))
     clear HB HV HX Hck hbn cj
     rcases hend with ⟨h1,rfl⟩ | ⟨h1,n,x,h2,⟨t,y,rfl⟩,rfl⟩
     · have hst:Stage file 2:=⟨fun _=>hS.s1 (by omega),fun _=>h1,fun h=>by omega,fun h=>by omega⟩
       have HS:=hide hst
       go_wp2
       go_roundw
       case rel=>exact ⟨2,by omega,by go_num,uh HBn,uh HVn,uh HXn,uh HS⟩
       case measure=>simp [intOf]
     · have hx:OpenBad file (.returned (.tuple #[.pointer none,faultV n (.iface t y)])):=⟨n,_,(open2 hh (hS.s1 (by omega)) h1).trans h2,⟨_,_,rfl⟩,rfl⟩
       unfold faultV at hx ⊢
       have HX:=hide hx
       go_wp2
       refine bodyPost_ret (results_tmp2 rfl _ _ _) rfl ?_
       exact ⟨Or.inl (uh HX),uh HBn⟩
   by_cases j2:j=2
   · subst j2
     have cj:wr.cell? ⟨w3.heap.size+1,2,none⟩=some (.func (.func 95) #[.pointer (some ⟨w3.heap.size,0,none⟩)] #[]):=(cell_blk hX 2).trans rfl
     have Hck:=hide (checkCounts_any wr w3.heap.size _ _ (openV file) hV ((uh HGl).below hB) h5C hCC (hFF (hS.s1 (by omega)) (hS.s2 (by omega))) hT4)
     have HB:=hide hB
     have HV:=hide hV
     have HX:=hide hX
     clear hB hV hX
     go_wp2_with fail
     refine (uh Hck).mono ?_
     rintro e wn ⟨hend,hbn⟩
     have HBn:=hide ((uh HB).trans (hbn.mono (uh HB).size))
     have HVn:=hide ((uh HV).below hbn)
     have HXn:=hide ((hbn.block _ (blk_lt (uh HX))).trans (uh HX))
     clear HB HV HX Hck hbn cj
     rcases hend with ⟨h1,rfl⟩ | ⟨n,x,h2,⟨t,y,rfl⟩,rfl⟩
     · have hst:Stage file 3:=⟨fun _=>hS.s1 (by omega),fun _=>hS.s2 (by omega),fun _=>h1,fun h=>by omega⟩
       have HS:=hide hst
       go_wp2
       go_roundw
       case rel=>exact ⟨3,by omega,by go_num,uh HBn,uh HVn,uh HXn,uh HS⟩
       case measure=>simp [intOf]
     · have hx:OpenBad file (.returned (.tuple #[.pointer none,faultV n (.iface t y)])):=⟨n,_,(open3 hh (hS.s1 (by omega)) (hS.s2 (by omega)) (by rw [h2];omega)).trans h2,⟨_,_,rfl⟩,rfl⟩
       unfold faultV at hx ⊢
       have HX:=hide hx
       go_wp2
       refine bodyPost_ret (results_tmp2 rfl _ _ _) rfl ?_
       exact ⟨Or.inl (uh HX),uh HBn⟩
   by_cases j3:j=3
   · subst j3
     have cj:wr.cell? ⟨w3.heap.size+1,3,none⟩=some (.func (.func 96) #[.pointer (some ⟨w3.heap.size,0,none⟩)] #[]):=(cell_blk hX 3).trans rfl
     have Hck:=hide (callsIn_wide.1 (checkMarks_in wr w3.heap.size _ _ (openV file) hV ((uh HGl).below hB) h5C hCC (hFF (hS.s1 (by omega)) (hS.s2 (by omega)))))
     have HB:=hide hB
     have HV:=hide hV
     have HX:=hide hX
     clear hB hV hX
     go_wp2_with fail
     refine (uh Hck).mono ?_
     rintro e wn ⟨hend,hbn⟩
     have HBn:=hide ((uh HB).trans (hbn.mono (uh HB).size))
     have HVn:=hide ((uh HV).below hbn)
     have HXn:=hide ((hbn.block _ (blk_lt (uh HX))).trans (uh HX))
     clear HB HV HX Hck hbn cj
     rcases hend with ⟨h1,rfl⟩ | ⟨n,x,h2,⟨t,y,rfl⟩,rfl⟩
     · have hst:Stage file 4:=⟨fun _=>hS.s1 (by omega),fun _=>hS.s2 (by omega),fun _=>hS.s3 (by omega),fun _=>h1⟩
       have HS:=hide hst
       go_wp2
       go_roundw
       case rel=>exact ⟨4,by omega,by go_num,uh HBn,uh HVn,uh HXn,uh HS⟩
       case measure=>simp [intOf]
     · have hx:OpenBad file (.returned (.tuple #[.pointer none,faultV n (.iface t y)])):=⟨n,_,(open4 hh (hS.s1 (by omega)) (hS.s2 (by omega)) (hS.s3 (by omega))).trans h2,⟨_,_,rfl⟩,rfl⟩
       unfold faultV at hx ⊢
       have HX:=hide hx
       go_wp2
       refine bodyPost_ret (results_tmp2 rfl _ _ _) rfl ?_
       exact ⟨Or.inl (uh HX),uh HBn⟩
   have j4:j=4:=by omega
   subst j4
   have hx:OpenGood w wr file (.returned (.tuple #[.pointer (some ⟨w3.heap.size,0,none⟩),.nilIface])):=by
     refine ⟨(open4 hh (hS.s1 (by omega)) (hS.s2 (by omega)) (hS.s3 (by omega))).trans (hS.s4 (by omega)),_,_,_,rfl,hV,?_⟩
     rintro k (rfl | hk | hk)
     · exact hw3
     · injection hk with hk
       rw [← hk]
       exact hgw
     · cases hk
   have HB:=hide hB
   have HX:=hide hx
   clear hB hV hX hx hS
   go_wp2
   refine bodyPost_ret (results_tmp2 rfl _ _ _) rfl ?_
   exact ⟨Or.inr (uh HX),uh HB⟩
end Go.Proofs.YtknjjjenklfeoaaGreatDoor
namespace Go.Proofs.YtknjjjenklfeoaaGreatDoor
open Go.RowKit Go.Shelf Go.Extern
attribute [local go_sem] Oper.semAt_some
theorem as_valueP (t:Addr) (w:World):(ReflectliteValue.unpack (.iface 159 (.pointer (some t)))).run Tryz.prog w
   = .ok (.agg #[.pointer (some ⟨10,159,none⟩),.pointer (some ⟨w.heap.size,0,none⟩),.int .u64 150]) (w.alloc (.cells #[.pointer (some t)] 159)):=by kernel_rfl
theorem as_typeP (a : Addr) (w : World) : (ReflectliteValue.methodAny (ReflectliteValue.valueError "reflectlite.Value.Type" 0) (fun t _ _ _ => ReflectliteType.toType t) #[.agg #[.pointer (some ⟨10, 159, none⟩), .pointer (some a), .int .u64 150]]).run Tryz.prog w
   = .ok (.iface 246 (.agg #[.pointer (some ⟨10,159,none⟩)])) w:=by kernel_rfl
theorem as_methodKind (h : Value) (w : World) : (Go.method 398 246 (.agg #[h]) "Kind").run Tryz.prog w = .ok (204, h) w := by kernel_rfl
theorem as_kindP (w:World):((ReflectliteType.abiMethod fun t=>(fun a:Nat=>Value.int IntKind.u8 (a:Int)) <$> Rtype.kind t) #[.pointer (some ⟨10,159,none⟩)]).run Tryz.prog w= .ok (.int .u8 22) w:=by kernel_rfl
theorem as_kindF (w:World):((ReflectliteType.abiMethod fun t=>(fun a:Nat=>Value.int IntKind.u8 (a:Int)) <$> Rtype.kind t) #[.pointer (some ⟨10,157,none⟩)]).run Tryz.prog w= .ok (.int .u8 25) w:=by kernel_rfl
theorem as_partsP (a:Addr) (w:World):(ReflectliteValue.parts (.agg #[.pointer (some ⟨10,159,none⟩),.pointer (some a),.int .u64 150])).run Tryz.prog w= .ok (some (159,a,150)) w:=by kernel_rfl
theorem as_isNil (a p:Addr) (W:World) (ha:W.cell? a=some (.pointer (some p))):
   (ReflectliteValue.method (ReflectliteValue.valueError "reflectlite.Value.IsNil" 0) ReflectliteValue.isNil #[.agg #[.pointer (some ⟨10, 159, none⟩), .pointer (some a), .int .u64 150]]).run Tryz.prog W = .ok (.bool false) W := by
 show (ReflectliteValue.parts (.agg #[.pointer (some ⟨10,159,none⟩),.pointer (some a),.int .u64 150]) >>= _).run Tryz.prog W=_
 rw [Sem.run_bind,as_partsP]
 simp only [Result.andThen]
 simp [ReflectliteValue.isNil,loadVar,isAgg,underlying,Tryz.underlying159,ha,Result.andThen]
theorem as_methodElem (h : Value) (w : World) : (Go.method 398 246 (.agg #[h]) "Elem").run Tryz.prog w = .ok (215, .agg #[h]) w := by kernel_rfl
theorem as_methodImpl (h : Value) (w : World) : (Go.method 398 246 (.agg #[h]) "Implements").run Tryz.prog w = .ok (216, .agg #[h]) w := by kernel_rfl
theorem as_methodAssign (h : Value) (w : World) : (Go.method 398 246 (.agg #[h]) "AssignableTo").run Tryz.prog w = .ok (213, .agg #[h]) w := by kernel_rfl
theorem as_elemP (w:World):(ReflectliteType.method ReflectliteType.elem #[.agg #[.pointer (some ⟨10,159,none⟩)]]).run Tryz.prog w= .ok (.iface 246 (.agg #[.pointer (some ⟨10,157,none⟩)])) w:=by kernel_rfl
theorem as_implF (w : World) : (ReflectliteType.relation "Implements" ReflectliteType.implements_ #[.agg #[.pointer (some ⟨10, 157, none⟩)], .iface 246 (.agg #[.pointer (some ⟨10, 98, none⟩)])]).run Tryz.prog w = .ok (.bool true) w := by kernel_rfl
theorem as_typeOfF (v:Value) (w:World):(ReflectliteType.typeOf #[.iface 157 v]).run Tryz.prog w= .ok (.iface 246 (.agg #[.pointer (some ⟨10,157,none⟩)])) w:=by kernel_rfl
theorem as_assignF (w : World) : (ReflectliteType.relation "AssignableTo" ReflectliteType.assignableTo #[.agg #[.pointer (some ⟨10, 157, none⟩)], .iface 246 (.agg #[.pointer (some ⟨10, 157, none⟩)])]).run Tryz.prog w = .ok (.bool true) w := by kernel_rfl
theorem as_valueF (a b:Value) (w:World):(ReflectliteValue.unpack (.iface 157 (.agg #[a,b]))).run Tryz.prog w
   = .ok (.agg #[.pointer (some ⟨10,157,none⟩),.pointer (some ⟨w.heap.size,0,none⟩),.int .u64 153]) (w.alloc (.cells #[a,b] 157)):=by kernel_rfl
theorem as_elemOf (w:World):(Rtype.elem? 159).run Tryz.prog w= .ok (some 157) w:=by kernel_rfl
theorem as_mk (p:Addr) (w:World):(ReflectliteValue.mk 157 p ReflectliteValue.flagAddr).run Tryz.prog w= .ok (.agg #[.pointer (some ⟨10,157,none⟩),.pointer (some p),.int .u64 409]) w:=by kernel_rfl
theorem as_elemV (a p:Addr) (W:World) (ha:W.cell? a=some (.pointer (some p))):
   (ReflectliteValue.method (ReflectliteValue.valueError "reflectlite.Value.Elem" 0) ReflectliteValue.elem #[.agg #[.pointer (some ⟨10, 159, none⟩), .pointer (some a), .int .u64 150]]).run Tryz.prog W
     = .ok (.agg #[.pointer (some ⟨10,157,none⟩),.pointer (some p),.int .u64 409]) W:=by
 show (ReflectliteValue.parts (.agg #[.pointer (some ⟨10,159,none⟩),.pointer (some a),.int .u64 150]) >>= _).run Tryz.prog W=_
 rw [Sem.run_bind,as_partsP]
 simp only [Result.andThen]
 simp [ReflectliteValue.elem,loadVar,isAgg,underlying,Tryz.underlying159,ha,Result.andThen,as_elemOf,as_mk]
theorem as_partsA (a:Addr) (w:World):(ReflectliteValue.parts (.agg #[.pointer (some ⟨10,157,none⟩),.pointer (some a),.int .u64 409])).run Tryz.prog w= .ok (some (157,a,409)) w:=by kernel_rfl
theorem as_partsF (a:Addr) (w:World):(ReflectliteValue.parts (.agg #[.pointer (some ⟨10,157,none⟩),.pointer (some a),.int .u64 153])).run Tryz.prog w= .ok (some (157,a,153)) w:=by kernel_rfl
theorem as_direct (w:World):(Rtype.directlyAssignable 157 157).run Tryz.prog w= .ok true w:=by kernel_rfl
theorem as_set (t b:Nat) (c x:Value) (W:World) (hc:c.oneCell'=true) (hx:x.oneCell'=true) (hb:W.heap[b]? = some (.cells #[c,x] 157 (0,0))) (ht:W.there t 0 2):
   (ReflectliteValue.set #[.agg #[.pointer (some ⟨10,157,none⟩),.pointer (some ⟨t,0,none⟩),.int .u64 409],.agg #[.pointer (some ⟨10,157,none⟩),.pointer (some ⟨b,0,none⟩),.int .u64 153]]).run Tryz.prog W
     = .ok (.tuple #[]) (W.setCells t 0 [c,x]):=by
 have hb':W.heap[b]? = some (.cells [c,x].toArray 157 (0,0)):=hb
 have hl:=run_loadVar_has (P:=Tryz.prog) (blk_has hb' (n:=2) rfl) 157 _ Tryz.underlying157 rfl (by kernel_rfl)
 rw [blk_cells hb' (n:=2) rfl] at hl
 have hs:=run_storeVar_mid (P:=Tryz.prog) W t 0 157 [c,x].toArray (by simpa using ht) (by simp only [List.size_toArray];kernel_rfl) (all_oneCell_toArray (by
   intro v hv
   simp only [List.mem_cons,List.not_mem_nil,or_false] at hv
   rcases hv with rfl | rfl
   · exact hc
   · exact hx))
 show (ReflectliteValue.parts (.agg #[.pointer (some ⟨10,157,none⟩),.pointer (some ⟨t,0,none⟩),.int .u64 409]) >>= _).run Tryz.prog W=_
 rw [Sem.run_bind,as_partsA]
 show (ReflectliteValue.parts (.agg #[.pointer (some ⟨10,157,none⟩),.pointer (some ⟨b,0,none⟩),.int .u64 153]) >>= _).run Tryz.prog W=_
 rw [Sem.run_bind,as_partsF]
 simp only [Result.andThen]
 simp [ReflectliteValue.flagAddr,hl,Result.andThen,as_direct]
 rw [hs]
theorem as_fault (t:Nat) (c x:Value) (hc:c.oneCell'=true) (hx:x.oneCell'=true) (w:World) (hG:Glob w) (ht:w.there t 0 2):
   Calls Tryz.prog 97 #[.iface 157 (.agg #[c,x]),.iface 159 (.pointer (some ⟨t,0,none⟩))] w fun ev w'=>ev= .returned (.bool true)∧ ∃ W,Below w.heap.size w W∧w'=W.setCells t 0 [c,x]:=by
 have h6:= @run_callFunc_extern Tryz.prog 154 _ (fun args=>ReflectliteValue.unpack (args.getD 0 (.tuple #[]))) Tryz.func154 (by kernel_rfl) (by kernel_rfl) (by kernel_rfl) (by kernel_rfl)
 have h7 := @run_callFunc_extern Tryz.prog 155 _ (ReflectliteValue.methodAny (ReflectliteValue.valueError "reflectlite.Value.Type" 0) (fun t _ _ _ => ReflectliteType.toType t)) Tryz.func155 (by kernel_rfl) (by kernel_rfl) (by kernel_rfl) (by kernel_rfl)
 have h8 := @run_callFunc_extern Tryz.prog 156 _ (ReflectliteValue.method (ReflectliteValue.valueError "reflectlite.Value.IsNil" 0) ReflectliteValue.isNil) Tryz.func156 (by kernel_rfl) (by kernel_rfl) (by kernel_rfl) (by kernel_rfl)
 have h27:= @run_callFunc_extern Tryz.prog 204 _ (ReflectliteType.abiMethod fun t=>do pure (.int .u8 (← Rtype.kind t))) Tryz.func204 (by kernel_rfl) (by kernel_rfl) (by kernel_rfl) (by kernel_rfl)
 have h37:= @run_callFunc_extern Tryz.prog 215 _ (ReflectliteType.method ReflectliteType.elem) Tryz.func215 (by kernel_rfl) (by kernel_rfl) (by kernel_rfl) (by kernel_rfl)
 have h38 := @run_callFunc_extern Tryz.prog 216 _ (ReflectliteType.relation "Implements" ReflectliteType.implements_) Tryz.func216 (by kernel_rfl) (by kernel_rfl) (by kernel_rfl) (by kernel_rfl)
 have h10:= @run_callFunc_extern Tryz.prog 175 _ (ReflectliteType.typeOf) Tryz.func175 (by kernel_rfl) (by kernel_rfl) (by kernel_rfl) (by kernel_rfl)
 have h35 := @run_callFunc_extern Tryz.prog 213 _ (ReflectliteType.relation "AssignableTo" ReflectliteType.assignableTo) Tryz.func213 (by kernel_rfl) (by kernel_rfl) (by kernel_rfl) (by kernel_rfl)
 have h11 := @run_callFunc_extern Tryz.prog 176 _ (ReflectliteValue.method (ReflectliteValue.valueError "reflectlite.Value.Elem" 0) ReflectliteValue.elem) Tryz.func176 (by kernel_rfl) (by kernel_rfl) (by kernel_rfl) (by kernel_rfl)
 have h12:= @run_callFunc_extern Tryz.prog 177 _ (ReflectliteValue.set) Tryz.func177 (by kernel_rfl) (by kernel_rfl) (by kernel_rfl) (by kernel_rfl)
 have tO:=as_typeOfF
 have mA:=as_methodAssign
 have a25:=as_assignF
 have v25:=as_valueF c x
 have f6:=as_valueP
 have f7:=as_typeP
 have mK:=as_methodKind
 have mE:=as_methodElem
 have mI:=as_methodImpl
 have k27:=as_kindP
 have k25:=as_kindF
 have e27:=as_elemP
 have i25:=as_implF
 have h9:=hG.size
 have htl:t<w.heap.size:=by
   have h0:=(ht 0 (by omega)).1
   rcases Nat.lt_or_ge t w.heap.size with h | h
   · exact h
   · simp [World.cell?,Array.getElem?_eq_none h] at h0
 have b1:Below w.heap.size w (w.alloc (.cells #[.pointer (some ⟨t,0,none⟩)] 159)):=(Below.refl _ _).alloc (Nat.le_refl _) _
 have b2:Below w.heap.size w ((w.alloc (.cells #[.pointer (some ⟨t,0,none⟩)] 159)).alloc (.cells #[.pointer (some ⟨10,159,none⟩),.pointer (some ⟨w.heap.size,0,none⟩),.int .u64 150] 224)):=b1.alloc b1.size _
 have b3:Below w.heap.size w (((w.alloc (.cells #[.pointer (some ⟨t,0,none⟩)] 159)).alloc (.cells #[.pointer (some ⟨10,159,none⟩),.pointer (some ⟨w.heap.size,0,none⟩),.int .u64 150] 224)).alloc (.cells #[.pointer (some ⟨10,159,none⟩),.pointer (some ⟨w.heap.size,0,none⟩),.int .u64 150] 224)):=b2.alloc b2.size _
 have b4:Below w.heap.size w ((((w.alloc (.cells #[.pointer (some ⟨t,0,none⟩)] 159)).alloc (.cells #[.pointer (some ⟨10,159,none⟩),.pointer (some ⟨w.heap.size,0,none⟩),.int .u64 150] 224)).alloc (.cells #[.pointer (some ⟨10,159,none⟩),.pointer (some ⟨w.heap.size,0,none⟩),.int .u64 150] 224)).alloc (.cells #[c,x] 157)):=b3.alloc b3.size _
 have x1:(w.alloc (.cells #[.pointer (some ⟨t,0,none⟩)] 159)).heap[w.heap.size]? = some (.cells #[.pointer (some ⟨t,0,none⟩)] 159 (0,0)):=heap_alloc_new _ _
 have x2:((w.alloc (.cells #[.pointer (some ⟨t,0,none⟩)] 159)).alloc (.cells #[.pointer (some ⟨10,159,none⟩),.pointer (some ⟨w.heap.size,0,none⟩),.int .u64 150] 224)).heap[w.heap.size]? = some (.cells #[.pointer (some ⟨t,0,none⟩)] 159 (0,0)):=(Below.heap_alloc _ _ _ (blk_lt x1)).trans x1
 have x3:(((w.alloc (.cells #[.pointer (some ⟨t,0,none⟩)] 159)).alloc (.cells #[.pointer (some ⟨10,159,none⟩),.pointer (some ⟨w.heap.size,0,none⟩),.int .u64 150] 224)).alloc (.cells #[.pointer (some ⟨10,159,none⟩),.pointer (some ⟨w.heap.size,0,none⟩),.int .u64 150] 224)).heap[w.heap.size]? = some (.cells #[.pointer (some ⟨t,0,none⟩)] 159 (0,0)):=(Below.heap_alloc _ _ _ (blk_lt x2)).trans x2
 have n8:=as_isNil ⟨w.heap.size,0,none⟩ ⟨t,0,none⟩ ((w.alloc (.cells #[.pointer (some ⟨t,0,none⟩)] 159)).alloc (.cells #[.pointer (some ⟨10,159,none⟩),.pointer (some ⟨w.heap.size,0,none⟩),.int .u64 150] 224)) ((cell_blk x2 0).trans rfl)
 have hg2:=(hG.below b2).typ
 have el:=as_elemV ⟨w.heap.size,0,none⟩ ⟨t,0,none⟩ (((w.alloc (.cells #[.pointer (some ⟨t,0,none⟩)] 159)).alloc (.cells #[.pointer (some ⟨10,159,none⟩),.pointer (some ⟨w.heap.size,0,none⟩),.int .u64 150] 224)).alloc (.cells #[.pointer (some ⟨10,159,none⟩),.pointer (some ⟨w.heap.size,0,none⟩),.int .u64 150] 224)) ((cell_blk x3 0).trans rfl)
 have x4:((((w.alloc (.cells #[.pointer (some ⟨t,0,none⟩)] 159)).alloc (.cells #[.pointer (some ⟨10,159,none⟩),.pointer (some ⟨w.heap.size,0,none⟩),.int .u64 150] 224)).alloc (.cells #[.pointer (some ⟨10,159,none⟩),.pointer (some ⟨w.heap.size,0,none⟩),.int .u64 150] 224)).alloc (.cells #[c,x] 157)).heap[w.heap.size+1+1+1]? = some (.cells #[c,x] 157 (0,0)):=by
   have:=heap_alloc_new (((w.alloc (.cells #[.pointer (some ⟨t,0,none⟩)] 159)).alloc (.cells #[.pointer (some ⟨10,159,none⟩),.pointer (some ⟨w.heap.size,0,none⟩),.int .u64 150] 224)).alloc (.cells #[.pointer (some ⟨10,159,none⟩),.pointer (some ⟨w.heap.size,0,none⟩),.int .u64 150] 224)) (.cells #[c,x] 157)
   rwa [World.size_alloc,World.size_alloc,World.size_alloc] at this
 have ht4:((((w.alloc (.cells #[.pointer (some ⟨t,0,none⟩)] 159)).alloc (.cells #[.pointer (some ⟨10,159,none⟩),.pointer (some ⟨w.heap.size,0,none⟩),.int .u64 150] 224)).alloc (.cells #[.pointer (some ⟨10,159,none⟩),.pointer (some ⟨w.heap.size,0,none⟩),.int .u64 150] 224)).alloc (.cells #[c,x] 157)).there t 0 2:=fun j hj=>by
   have h1:=ht j hj
   have hb:=b4.block t htl
   unfold World.cell? World.frozen? at h1 ⊢
   rw [show ((((w.alloc (.cells #[.pointer (some ⟨t,0,none⟩)] 159)).alloc (.cells #[.pointer (some ⟨10,159,none⟩),.pointer (some ⟨w.heap.size,0,none⟩),.int .u64 150] 224)).alloc (.cells #[.pointer (some ⟨10,159,none⟩),.pointer (some ⟨w.heap.size,0,none⟩),.int .u64 150] 224)).alloc (.cells #[c,x] 157)).heap[(⟨t,0+j,none⟩:Addr).block]? = w.heap[(⟨t,0+j,none⟩:Addr).block]? from hb]
   exact h1
 have st:=as_set t (w.heap.size+1+1+1) c x ((((w.alloc (.cells #[.pointer (some ⟨t,0,none⟩)] 159)).alloc (.cells #[.pointer (some ⟨10,159,none⟩),.pointer (some ⟨w.heap.size,0,none⟩),.int .u64 150] 224)).alloc (.cells #[.pointer (some ⟨10,159,none⟩),.pointer (some ⟨w.heap.size,0,none⟩),.int .u64 150] 224)).alloc (.cells #[c,x] 157)) hc hx x4 ht4
 have B4:=hide b4
 clear b1 b2 b3 b4 x1 x2 x3 x4 ht4
 go_enter Tryz.func97,Tryz.ntmps97
 go_wp2
 refine wp_loop_rounds 1 ?_
 rw [rounds_succ]
 go_wp2
 go_ret
 exact ⟨rfl,_,uh B4,rfl⟩
end Go.Proofs.YtknjjjenklfeoaaGreatDoor
namespace Go.Proofs.YtknjjjenklfeoaaGreatDoor
open Go.RowKit Go.Shelf
attribute [local go_sem] Oper.semAt_some
theorem faulty_any (n:Nat) (x:Value) (hx:isIface x) (w:World) (hG:Glob w):
   Calls Tryz.prog 49 #[faultV n x] w fun e w'=>e= .returned (.int .i64 (n:Nat))∧Below w.heap.size w w':=by
 obtain ⟨tx,vx,rfl⟩:=hx
 have b1:Below w.heap.size w (w.alloc (.cells #[.int .i64 0,.nilIface] 157)):=(Below.refl _ _).alloc (Nat.le_refl _) _
 have x1:(w.alloc (.cells #[.int .i64 0,.nilIface] 157)).heap[w.heap.size]? = some (.cells [Value.int .i64 0,.nilIface].toArray 157 (0,0)):=heap_alloc_new _ _
 have Ha:=hide (as_fault w.heap.size (.int .i64 (n:Nat)) (.iface tx vx) rfl rfl _ (hG.below b1) (there_blk x1 0 2 (by simp)))
 have B1:=hide b1
 have X1:=hide x1
 clear b1 x1 hG
 unfold faultV
 go_enter Tryz.func49,Tryz.ntmps49
 go_wp2_with fail
 refine (uh Ha).mono ?_
 rintro e w2 ⟨rfl,W,hW,rfl⟩
 have hXW:=(hW.block _ (blk_lt (uh X1))).trans (uh X1)
 have hset:=all_store (vs:=[Value.int .i64 (n:Nat),.iface tx vx]) hXW rfl
 have c0:(W.setCells w.heap.size 0 [.int .i64 (n:Nat),.iface tx vx]).cell? ⟨w.heap.size,0,none⟩=some (.int .i64 (n:Nat)):=(cell_blk hset 0).trans rfl
 have hB:Below w.heap.size w (W.setCells w.heap.size 0 [.int .i64 (n:Nat),.iface tx vx]):=by
   have hk:=Kept.onlys W w.heap.size 0 [.int .i64 (n:Nat),.iface tx vx]
   have hw:=(uh B1).trans (hW.mono (uh B1).size)
   exact ⟨hk.os.trans hw.os,hk.tape.trans hw.tape,hk.output.trans hw.output,Nat.le_trans hw.size hk.size,fun j hj=>by
     rw [hk.block j (Nat.lt_of_lt_of_le hj hw.size) (by omega)];exact hw.block j hj⟩
 have HB:=hide hB
 clear hB hset hXW hW Ha
 generalize W.setCells w.heap.size 0 [.int .i64 (n:Nat),.iface tx vx]=W2 at*
 go_wp2
 go_ret
 exact ⟨rfl,uh HB⟩
def DOpenBad (file:List Clus) (e:Ending):Prop:= ∃ n:Nat,openBad file=(n:Int)∧e= .returned (.tuple #[.pointer none,.int .i64 (n:Nat),.int .i64 6])
def DOpenGood (w w':World) (file:List Clus) (e:Ending):Prop:=openBad file= -1∧ ∃ d v Cv Lv,e= .returned (.tuple #[.pointer (some ⟨d,0,none⟩),.int .i64 0,.int .i64 0])∧DskAt w' d v Cv Lv (openV file)∧ ∀ k,dfoot d v Cv Lv k→w.heap.size≤k
theorem volOpen_any (w:World) (fv:Value) (file:List Clus) (hf:FRow w fv file) (hG:Glob w) (hm:file.length≤1000000):
   Calls Tryz.prog 48 #[fv] w fun e w'=>(OpenBad file e∨OpenGood w w' file e)∧Below w.heap.size w w':=by
 by_cases hH:HeadP file
 · exact volOpen_rest w fv file hf hG hH
 · refine (volOpen_head w fv file hf hG hm hH).mono ?_
   rintro e w' ⟨⟨x,hx,rfl⟩,hb⟩
   refine ⟨Or.inl ⟨0,x,?_,hx,rfl⟩,hb⟩
   unfold openBad
   rw [if_pos (by
     cases h:headGood file with
     | true=>exact absurd ((headP_iff hf.lens).1 h) hH
     | false=>rfl)]
   rfl
theorem diskOpen_any (w:World) (fv:Value) (file:List Clus) (hf:FRow w fv file) (hG:Glob w) (hm:file.length≤1000000):
   Calls Tryz.prog 18 #[fv] w fun e w'=>(DOpenBad file e∨DOpenGood w w' file e)∧Below w.heap.size w w':=by
 have Ho:=hide (volOpen_any w fv file hf hG hm)
 have HG:=hide hG
 clear hf hG
 go_enter Tryz.func18,Tryz.ntmps18
 go_wp2_with fail
 refine (uh Ho).mono ?_
 rintro e w1 ⟨(⟨n,x,hn,hx,rfl⟩ | ⟨hn,v,Cv,Lv,rfl,hV,hfo⟩),hb1⟩
 · have Hf:=hide (faulty_any n x hx w1 ((uh HG).below hb1))
   have HB:=hide hb1
   have Hn:=hide hn
   clear hb1 hn Ho
   unfold faultV at Hf ⊢
   go_wp2_with fail
   refine (uh Hf).mono ?_
   rintro e w2 ⟨rfl,hb2⟩
   have HB2:=hide ((uh HB).trans (hb2.mono (uh HB).size))
   clear hb2 HB Hf
   go_wp2
   refine bodyPost_ret (results_tmp3 rfl _ _ _) rfl ?_
   exact ⟨Or.inl ⟨n,uh Hn,rfl⟩,uh HB2⟩
 · have hb2:Below w1.heap.size w1 (w1.alloc (.cells #[.pointer (some ⟨v,0,none⟩)] 85)):=(Below.refl _ _).alloc (Nat.le_refl _) _
   have hD:DskAt (w1.alloc (.cells #[.pointer (some ⟨v,0,none⟩)] 85)) w1.heap.size v Cv Lv (openV file):=⟨heap_alloc_new _ _,hV.below hb2⟩
   have HB2:=hide (hb1.trans (hb2.mono hb1.size))
   have hsz:=hb1.size
   have hgood:DOpenGood w (w1.alloc (.cells #[.pointer (some ⟨v,0,none⟩)] 85)) file (.returned (.tuple #[.pointer (some ⟨w1.heap.size,0,none⟩),.int .i64 0,.int .i64 0])):=by
     refine ⟨hn,_,_,_,_,rfl,hD,?_⟩
     rintro k (rfl | hk)
     · exact hsz
     · exact hfo k hk
   have HX:=hide hgood
   clear hb1 hb2 hD hV hfo hgood hn Ho
   go_wp2
   refine bodyPost_ret (results_tmp3 rfl _ _ _) rfl ?_
   exact ⟨Or.inr (uh HX),uh HB2⟩
end Go.Proofs.YtknjjjenklfeoaaGreatDoor
namespace Go.Proofs.YtknjjjenklfeoaaGreatDoor
open Go.RowKit
attribute [local go_sem ↓] loadVar_st storeVar_st
attribute [local go_sem] run_loadSt
section
variable {base:List Clus} {V:VolR} {N0:Nat} {E:List EntR}
end
end Go.Proofs.YtknjjjenklfeoaaGreatDoor
namespace Go.Proofs.YtknjjjenklfeoaaGreatDoor
open Go.RowKit
attribute [local go_sem ↓] loadVar_co storeVar_co zeroValue_co
attribute [local go_sem] run_loadCo run_zeroCo
end Go.Proofs.YtknjjjenklfeoaaGreatDoor
