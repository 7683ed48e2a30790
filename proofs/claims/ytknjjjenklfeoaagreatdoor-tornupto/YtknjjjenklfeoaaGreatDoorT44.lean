import Derived.Test.YtknjjjenklfeoaaGreatDoorT43
import Derived.Deep.CutBlock
import Derived.Test.YtknjjjenklfeoaaGreatDoorT33
set_option maxHeartbeats 8000000
set_option maxRecDepth 100000
namespace Go.Proofs.YtknjjjenklfeoaaGreatDoor
open Go.RowKit
attribute [local go_sem ↓] loadVar_co storeVar_co zeroValue_co storeVar_clus loadVar_st storeVar_st
attribute [local go_sem] run_loadCo run_zeroCo run_storeClus
theorem ContAt.set {w:World} {b:Nat} {C:List Clus} (h:ContAt w b C) (n:Nat) (hn:n<64) (x:Clus) (hx:x.length=64):ContAt (w.setCells b (n*64) (cv x)) b (C.set n x):=by
 refine ⟨?_,⟨?_,by rw [List.length_set];exact h.cont.len⟩⟩
 · rw [heap_setCells_same _ _ _ _ _ _ _ h.blk,setList_flatC C h.cont.all n (by have:=h.cont.len;omega) x hx]
 · intro y hy
   rcases List.mem_or_eq_of_mem_set hy with z | z
   · exact h.cont.all y z
   · rw [z];exact hx
def Settled (w0 W:World) (d v bc b1 ba:Nat) (nv tv:Value) (V V':VolR) (D0:DiskR) (Ca:List Clus):Prop:=
 ∃ D1:DiskR,Mid w0 W d v bc b1 ba nv tv V V' D0 D1 D1.C Ca (D1.L.map (·.name))∧NamesOK D1
def StT (bo:Nat) (o:StepR) (W:World):Prop:=W.cell? ⟨bo,0,none⟩=some (.int .i64 o.block)∧W.cell? ⟨bo,1,none⟩=some (.string o.text)
set_option linter.unusedSimpArgs false in
theorem torn_any (w:World) (hG:Glob w) (a1 a2:Option Addr) (n1 n2 c1 c2:Nat) (s1 s2:Nat→StepR) (r1:KRow w a1 n1 s1) (r2:KRow w a2 n2 s2) (l1:n1≤524288) (l2:n2≤524288) (o:StepR) (ho:o.text.size≤maxLen∧ -9223372036854775808≤o.block∧o.block≤9223372036854775807) (what place:Int) (hwh: -9223372036854775808≤what∧what≤9223372036854775807) (hpl: -9223372036854775808≤place∧place≤9223372036854775807) (ga:Option Addr) (gn gcap:Nat) (gs:Nat→Bool) (hgo:GRow w ga gn gs) (hgn:gn≤1048576):
   Calls Tryz.prog 9 #[.slice a1 n1 c1,.slice a2 n2 c2,.agg (stepCells o).toArray,.int .i64 what,.int .i64 place,.slice ga gn gcap] w fun e w'=>e= .returned (.bool true)∧Below w.heap.size w w':=by
 have hb0:Below w.heap.size w (w.alloc (.cells (stepCells o).toArray 56)):=(Below.refl _ _).alloc (Nat.le_refl _) _
 have hx0:(w.alloc (.cells (stepCells o).toArray 56)).heap[w.heap.size]? = some (.cells (stepCells o).toArray 56 (0,0)):=heap_alloc_new _ _
 have HG:=hide (hG.below hb0)
 have HGo:=hide (hgo.below hb0)
 have r1:=r1.below hb0
 have r2:=r2.below hb0
 have B0:=hide hb0
 have X0:=hide hx0
 clear hG hgo hb0 hx0
 go_enter Tryz.func9,Tryz.ntmps9
 go_wp2_with fail
 generalize w.alloc (.cells (stepCells o).toArray 56)=w0 at*
 obtain ⟨bo,hbo⟩: ∃ bo,w.heap.size=bo:=⟨_,rfl⟩
 rw [hbo] at X0 ⊢
 have HBO:=hide hbo
 clear hbo
 refine (keepBegun_any w0).mono ?_
 rintro e w1 ⟨d,v,Cv,Lv,rfl,hD,b1,f1⟩
 have K1:KAt w0 (w1.alloc (.cells (flatC zD).toArray 40)) d v w1.heap.size Cv Lv newV (dskOf newV.C 6 []).C:=by
   have hb:Below w1.heap.size w1 (w1.alloc (.cells (flatC zD).toArray 40)):=(Below.refl _ _).alloc (Nat.le_refl _) _
   refine ⟨hD.below hb,⟨?_,?_⟩,b1.trans (hb.mono b1.size),f1,b1.size⟩
   · rw [new_disk];exact heap_alloc_new _ _
   · rw [new_disk];exact ⟨zD_all,zD_length⟩
 have K1:=hide K1
 clear hD b1 f1
 go_wp2_with fail
 have G1:Hid (At w0 (w1.alloc (.cells (flatC zD).toArray 40)) d v w1.heap.size Cv Lv newV 6 [] 1 zDisk):=⟨by have:=uh K1;rw [new_disk] at this;exact this,new_held,new_disk⟩
 have lg0:=new_logL
 clear K1
 generalize w1.heap.size=bc at*
 generalize w1.alloc (.cells (flatC zD).toArray 40)=w2 at*
 refine (written_any w0 w2 d v bc Cv Lv newV 6 [] 1 (Nat.le_refl _) (by rw [new_disk];exact (uh G1).at') (uh G1).held a1 n1 c1 s1 r1 (by omega) (by omega)).mono ?_
 rintro e w3 ⟨rfl,C3,L3,V3,hw3⟩
 obtain ⟨⟨Ca,La⟩,g3,e3⟩:=(uh G1).wrote hw3
 obtain rfl:La=[]:=e3
 have lg3:=hw3.log
 have G3:=hide g3
 clear hw3 g3 G1
 go_wp2_with fail
 obtain ⟨q1,q2,q3,q4⟩:=(uh G3).hyps
 refine (diskTake_any w3 d v C3 L3 V3 q1 q2 q3 (by omega) q4 ⟨#[111,110,101]⟩ (by unfold maxLen;decide)).mono ?_
 rintro e w4 ⟨rfl,C4,L4,hs4⟩
 have t3:refTakeR ⟨Ca,[]⟩ ⟨#[111,110,101]⟩=(⟨Ca,[⟨[111,110,101],Ca⟩]⟩,0):=rfl
 obtain ⟨z4,lg4,E4,g4,n4⟩:=(uh G3).taken (by omega) (by omega) (by simp) _ t3 hs4
 rw [z4]
 have G4:=hide g4
 clear q1 q4 hs4 g4 G3 z4
 generalize (takeR V3 ⟨#[111,110,101]⟩).1=V4 at*
 obtain ⟨m1,m2⟩:=(uh G4).at'.cont.has
 have cZ:Cont zD:=⟨zD_all,zD_length⟩
 have cA:=(uh G4).at'.cont.cont
 have st4:=run_storeCo_new (w:=w4) cZ cA
 dsimp only at m1 m2 st4 cA
 have B5:Below w4.heap.size w4 (w4.alloc (.cells (flatC Ca).toArray 40)):=(Below.refl _ _).alloc (Nat.le_refl _) _
 have G5:=hide ((uh G4).later B5)
 have O5:Hid (ContAt (w4.alloc (.cells (flatC Ca).toArray 40)) w4.heap.size Ca):=⟨heap_alloc_new _ _,cA⟩
 have hb5:Hid (w4.heap.size≠bc):=fun e=>by have:=blk_lt (uh G4).at'.cont.blk;omega
 have hb5w:Hid (w0.heap.size≤w4.heap.size):=(uh G4).at'.below.size
 clear B5 G4
 go_wp2_with fail
 clear m1 m2 st4
 generalize w4.alloc (.cells (flatC Ca).toArray 40)=w5 at*
 generalize w4.heap.size=b1 at*
 refine (written_any w0 w5 d v bc C4 L4 V4 6 E4 2 (by omega) (by rw [(uh G5).disk];exact (uh G5).at') (uh G5).held a2 n2 c2 s2 r2 (by omega) (by omega)).mono ?_
 rintro e w6 ⟨rfl,C6,L6,V6,hw6⟩
 obtain ⟨⟨Cb,Lb⟩,g6,e6⟩:=(uh G5).wrote hw6
 obtain rfl:Lb=[⟨[111,110,101],Ca⟩]:=e6
 have O6:=hide ((uh O5).kept hw6.kept (fun x=>by
   rcases x with y | y
   · exact (uh G5).at'.dsk.vol.footKey (uh O5).blk (by decide) (by decide) (by decide) y
   · exact uh hb5 y))
 have lg6:=hw6.log
 have G6:=hide g6
 clear hw6 g6 G5 O5
 go_wp2_with fail
 refine (diskLog_all w6 d v C6 L6 V6 (uh G6).at'.dsk (by omega)).mono ?_
 rintro e w7 ⟨lx,rfl,hlx,b7⟩
 obtain ⟨la,lcap,rfl⟩:=row_form hlx
 have G7:=hide ((uh G6).later b7)
 have O7:=hide ((uh O6).below b7)
 clear hlx b7 G6 O6
 obtain ⟨m1,m2⟩:=(uh G7).at'.cont.has
 have cB:=(uh G7).at'.cont.cont
 have st7:=run_storeCo_new (w:=w7) cZ cB
 dsimp only at m1 m2 st7 cB
 have B8:Below w7.heap.size w7 (w7.alloc (.cells (flatC Cb).toArray 40)):=(Below.refl _ _).alloc (Nat.le_refl _) _
 have G8:=hide ((uh G7).later B8)
 have O8:=hide ((uh O7).below B8)
 have A8:Hid (ContAt (w7.alloc (.cells (flatC Cb).toArray 40)) w7.heap.size Cb):=⟨heap_alloc_new _ _,cB⟩
 have hba:Hid (bc<w7.heap.size∧b1<w7.heap.size):=⟨blk_lt (uh G7).at'.cont.blk,blk_lt (uh O7).blk⟩
 clear B8 G7 O7
 have hlog6:V6.L.length≤200000000:=by omega
 have hs8:(w7.alloc (.cells (flatC Cb).toArray 40)).heap.size=w7.heap.size+1:=World.size_alloc _ _
 have Hs8:=hide hs8
 clear hs8
 go_wp2_with fail
 clear m1 m2 st7
 generalize w7.alloc (.cells (flatC Cb).toArray 40)=w8 at*
 rw [← uh Hs8]
 have b9:Below w8.heap.size w8 (w8.alloc (.cells #[.string ⟨#[111,110,101]⟩] 9)):=(Below.refl _ _).alloc (Nat.le_refl _) _
 have hs9:(w8.alloc (.cells #[.string ⟨#[111,110,101]⟩] 9)).heap.size=w8.heap.size+1:=World.size_alloc _ _
 have b10:Below w8.heap.size w8 ((w8.alloc (.cells #[.string ⟨#[111,110,101]⟩] 9)).alloc (.cells #[.string ⟨#[111,110,101]⟩] 9)):=b9.alloc b9.size _
 have x9:((w8.alloc (.cells #[.string ⟨#[111,110,101]⟩] 9)).alloc (.cells #[.string ⟨#[111,110,101]⟩] 9)).heap[w8.heap.size]? = some (.cells [Value.string ⟨#[111,110,101]⟩].toArray 9 (0,0)):=(Below.heap_alloc _ _ _ (by rw [hs9];omega)).trans (heap_alloc_new _ _)
 have x10:((w8.alloc (.cells #[.string ⟨#[111,110,101]⟩] 9)).alloc (.cells #[.string ⟨#[111,110,101]⟩] 9)).heap[w8.heap.size+1]? = some (.cells [Value.string ⟨#[111,110,101]⟩].toArray 9 (0,0)):=by rw [← hs9];exact heap_alloc_new _ _
 have G10:=hide ((uh G8).later b10)
 have O10:=hide ((uh O8).below b10)
 have A10:=hide ((uh A8).below b10)
 have NR:=hide (row_of_blk x9 (by unfold maxLen;decide))
 have TR:=hide (row_of_blk x10 (by unfold maxLen;decide))
 clear b9 b10 hs9 x9 x10 G8 O8 A8
 generalize (w8.alloc (.cells #[.string ⟨#[111,110,101]⟩] 9)).alloc (.cells #[.string ⟨#[111,110,101]⟩] 9)=w10 at*
 generalize w8.heap.size+1=bt at*
 generalize w8.heap.size=bn at*
 generalize w7.heap.size=ba at*
 refine (keepPickG_any what 4 (by omega) (by omega) w10 hwh).mono ?_
 rintro e w11 ⟨rfl,rfl⟩
 have hq:=pickG_lt what (n:=4) (by omega)
 generalize pickG what 4=q at*
 go_upto_block 0 with fail
 go_cut [21,23] from 60 to 90 (fun f tv W=>Switched w0 W d v bc b1 ba (.slice (some ⟨bn,0,none⟩) 1 1) f tv V6 ⟨Cb,[⟨[111,110,101],Ca⟩]⟩ Ca)
 case first=>
   have hq4:q=3∨q=1∨q=2∨q=0:=by omega
   have hE4:E4.length≤2:=by have:E4.length≤1:=n4;omega
   rcases hq4 with rfl | rfl | rfl | rfl
   · go_wp2_with fail
     refine ((uh G10).av.droppedT (D':=⟨Cb,[]⟩) sOne (by unfold maxLen;decide) (by omega) rfl).mono ?_
     rintro e w12 ⟨rfl,hg⟩
     obtain ⟨V',hm⟩:=hg.mid (NS:=[]) (tv:= .slice none 0 0) (uh G10).at'.dsk (uh G10).at'.cont (uh O10) (uh A10) (uh NR) (World.ownsRow_nil _ _ _ _)
     have HM:Hid (Switched w0 w12 d v bc b1 ba (.slice (some ⟨bn,0,none⟩) 1 1) (.int .i64 0) (.slice none 0 0) V6 ⟨Cb,[⟨[111,110,101],Ca⟩]⟩ Ca):=⟨V',_,_,_,hm,Or.inl rfl,Or.inl ⟨rfl,rfl,rfl⟩⟩
     clear hg hm
     go_wp2
     go_meet
     exact uh HM
   · go_wp2_with fail
     refine ((uh G10).takenT (D':=⟨Cb,[⟨[111,110,101],Ca⟩,⟨[116,119,111],Cb⟩]⟩) (by omega) (by omega) hE4 sTwo (by unfold maxLen;decide) (by omega) rfl).mono ?_
     rintro e w12 ⟨rfl,hg⟩
     obtain ⟨V',hm⟩:=hg.mid (NS:=[[111,110,101]]) (uh G10).at'.dsk (uh G10).at'.cont (uh O10) (uh A10) (uh NR) (uh TR)
     have b13:Below w12.heap.size w12 (w12.alloc (.cells #[.string ⟨#[111,110,101]⟩,.string ⟨#[116,119,111]⟩] 9)):=(Below.refl _ _).alloc (Nat.le_refl _) _
     have x13:(w12.alloc (.cells #[.string ⟨#[111,110,101]⟩,.string ⟨#[116,119,111]⟩] 9)).heap[w12.heap.size]? = some (.cells (sv [[111,110,101],[116,119,111]]).toArray 9 (0,0)):=heap_alloc_new _ _
     have hm2:=hm.later (NS':=[[111,110,101],[116,119,111]]) b13 (row_of_blk x13 (by unfold maxLen;decide))
     have HM:Hid (Switched w0 (w12.alloc (.cells #[.string ⟨#[111,110,101]⟩,.string ⟨#[116,119,111]⟩] 9)) d v bc b1 ba (.slice (some ⟨bn,0,none⟩) 1 1) (.int .i64 0) (.slice (some ⟨w12.heap.size,0,none⟩) 2 2) V6 ⟨Cb,[⟨[111,110,101],Ca⟩]⟩ Ca):=⟨V',_,_,_,hm2,Or.inr (Or.inr rfl),Or.inl ⟨rfl,rfl,rfl⟩⟩
     clear hg hm hm2 b13 x13
     go_wp2
     go_meet
     exact uh HM
   · go_wp2_with fail
     refine ((uh G10).returnedT (D':=⟨Ca,[⟨[111,110,101],Ca⟩]⟩) (by omega) hE4 sOne (by unfold maxLen;decide) (by omega) rfl).mono ?_
     rintro e w12 ⟨rfl,hg⟩
     obtain ⟨V',hm⟩:=hg.mid (NS:=[[111,110,101]]) (uh G10).at'.dsk (uh G10).at'.cont (uh O10) (uh A10) (uh NR) (uh TR)
     have cA':=hm.one.cont
     obtain ⟨p1,p2⟩:=hm.one.has
     have st12:=run_storeCo (w:=w12) (b:=ba) (there_blk hm.aft.blk 0 4096 (by rw [List.size_toArray,hm.aft.cont.flat];omega)) cA'
     have ha:ContAt (w12.setCells ba 0 (flatC Ca)) ba Ca:=⟨all_store hm.aft.blk (by rw [hm.aft.cont.flat,cA'.flat]),cA'⟩
     have hm2:=hm.put (by have:=(uh G10).at'.bcl;have:=(uh hba).1;omega) (by have:=(uh hba).1;omega) (by have:=(uh hba).2;omega) (Kept.onlys w12 ba 0 (flatC Ca)) ha
     have HM:Hid (Switched w0 (w12.setCells ba 0 (flatC Ca)) d v bc b1 ba (.slice (some ⟨bn,0,none⟩) 1 1) (.int .i64 0) (.slice (some ⟨bt,0,none⟩) 1 1) V6 ⟨Cb,[⟨[111,110,101],Ca⟩]⟩ Ca):=⟨V',_,_,_,hm2,Or.inr (Or.inl rfl),Or.inl ⟨rfl,rfl,rfl⟩⟩
     clear hg hm hm2 ha cA'
     go_wp2
     go_meet
     exact uh HM
   · have hbo:bo<w0.heap.size:=blk_lt (uh X0)
     have T0: ∀ W,Below w0.heap.size w0 W→StT bo o W:=fun W hB=>by
       have hx:=(hB.block _ hbo).trans (uh X0)
       exact ⟨(cell_blk hx 0).trans rfl,(cell_blk hx 1).trans rfl⟩
     have HT:=hide T0
     clear T0
     have G11:=hide ((uh G10).later (Below.refl _ w11).drew)
     have O11:=hide ((uh O10).below (Below.refl _ w11).drew)
     have A11:=hide ((uh A10).below (Below.refl _ w11).drew)
     have NR11:=hide (ownsRow_kept (Kept.of_below (S:=fun _=>False) (Below.refl _ w11).drew) (uh NR) (fun _ _=>id))
     have TR11:=hide (ownsRow_kept (Kept.of_below (S:=fun _=>False) (Below.refl _ w11).drew) (uh TR) (fun _ _=>id))
     have hT:=uh HT _ (uh G11).at'.below
     have hba':=uh hba
     have h0ba:w0.heap.size≤ba:=by have:=(uh G11).at'.bcl;omega
     clear G10 O10 A10 NR TR
     go_wp2_with fail
     refine wp_region_L (StT bo o) 8 (by kernel_rfl) ?_
     refine takeL 0 ?_ (fun W hW=> ?_) hT ?_
     rotate_left 1
     · (obtain ⟨t0,t1⟩:=hW;go_simp;with_reducible rfl)
     simp only [Act.put,setB,set0,setS]
     refine takeL 1 ?_ (fun W hW=> ?_) hT ?_
     rotate_left 1
     · (obtain ⟨t0,t1⟩:=hW;go_simp;with_reducible rfl)
     simp only [Act.put,setB,set0,setS]
     refine takeL 2 ?_ (fun W hW=> ?_) hT ?_
     rotate_left 1
     · (obtain ⟨t0,t1⟩:=hW;go_simp;with_reducible rfl)
     simp only [Act.put,setB,set0,setS]
     refine takeL 4 ?_ (fun W hW=> ?_) hT ?_
     rotate_left 1
     · (obtain ⟨t0,t1⟩:=hW;go_simp;with_reducible rfl)
     simp only [Act.put,setB,set0,setS]
     refine takeL 5 ?_ (fun W hW=> ?_) hT ?_
     rotate_left 1
     · (obtain ⟨t0,t1⟩:=hW;go_simp;with_reducible rfl)
     simp only [Act.put,setB,set0,setS]
     refine wpAnyL_one (i:=3) (by kernel_rfl) rfl fun K3 hK3=> ?_
     go_simp
     go_at_call 25
     refine (keepPick_any o.block _ ho.2).mono ?_
     rintro e w12 ⟨rfl,rfl⟩
     have hp:=pickN_lt o.block
     refine hK3 _ _ (Or.inr hT) ?_
     try simp only [Act.put,setB,set0,setS]
     refine wpAnyL_one (i:=6) (by kernel_rfl) rfl fun K6 hK6=> ?_
     go_simp
     go_at_call 27
     refine (keepCluster_any o.text _ ho.1).mono ?_
     rintro e w13 ⟨rfl,b13⟩
     have hdl:(clusOf o.text.data.toList).length=64:=clusTo_length _ _ (Nat.min_le_left _ _) (Nat.min_le_right _ _)
     have G13:=hide ((uh G11).later b13)
     have O13:=hide ((uh O11).below b13)
     have A13:=hide ((uh A11).below b13)
     have NR13:=hide (ownsRow_kept (Kept.of_below (S:=fun _=>False) b13) (uh NR11) (fun _ _=>id))
     have TR13:=hide (ownsRow_kept (Kept.of_below (S:=fun _=>False) b13) (uh TR11) (fun _ _=>id))
     have hT13:=uh HT _ (uh G13).at'.below
     clear b13 G11 O11 A11 NR11 TR11
     refine hK6 _ _ (Or.inr hT13) ?_
     try simp only [Act.put,setB,set0,setS]
     refine wpAnyL_one (i:=7) (by kernel_rfl) rfl fun K7 hK7=> ?_
     go_simp
     go_at_call 26
     refine ((uh G13).wroteT (by omega) (pickN o.block) hp hdl (by omega)).mono ?_
     intro e w14 hor
     generalize hdata:clusOf o.text.data.toList=data at*
     have Hdata:=hide hdata
     clear hdata
     have hfin: ∃ (c:Int) (V':VolR) (D1:DiskR),e= .returned (.int .i64 c)∧Mid w0 w14 d v bc b1 ba (.slice (some ⟨bn,0,none⟩) 1 1) (.slice (some ⟨bt,0,none⟩) 1 1) V6 V' ⟨Cb,[⟨[111,110,101],Ca⟩]⟩ D1 Cb Ca [[111,110,101]]∧(c=0∧D1=⟨Cb.set (pickN o.block) data,[⟨[111,110,101],Ca⟩]⟩∨c=5∧D1=⟨Cb,[⟨[111,110,101],Ca⟩]⟩):=by
       rcases hor with ⟨rfl,hg⟩ | ⟨rfl,hg⟩
       · obtain ⟨V',hm⟩:=hg.mid (NS:=[[111,110,101]]) (uh G13).at'.dsk (uh G13).at'.cont (uh O13) (uh A13) (uh NR13) (uh TR13)
         exact ⟨0,V',_,rfl,hm,Or.inl ⟨rfl,rfl⟩⟩
       · obtain ⟨V',hm⟩:=hg.mid (NS:=[[111,110,101]]) (uh G13).at'.dsk (uh G13).at'.cont (uh O13) (uh A13) (uh NR13) (uh TR13)
         exact ⟨5,V',_,rfl,hm,Or.inr ⟨rfl,rfl⟩⟩
     obtain ⟨c,V',D1,rfl,hm,hc⟩:=hfin
     have hT14:StT bo o w14:=by
       obtain ⟨C1,L1,N1,E1,D',av⟩:=hm.av
       exact uh HT _ av.below
     have HM:=hide hm
     have Hc:=hide hc
     clear hor hm hc G13 O13 A13 NR13 TR13
     refine hK7 _ _ (Or.inr hT14) ?_
     try simp only [Act.put,setB,set0,setS]
     refine wpAnyL_one (i:=8) (by kernel_rfl) rfl fun K8 hK8=> ?_
     go_simp
     refine hK8 _ _ (Or.inl rfl) ?_
     try simp only [Act.put,setB,set0,setS]
     refine wpAnyL_done (by kernel_rfl) ?_ _
     go_wp2_with fail
     have b15:Below w14.heap.size w14 w14.drew:=(Below.refl _ w14).drew
     have HM15:=hide ((uh HM).later b15 (ownsRow_kept (Kept.of_below (S:=fun _=>False) b15) (uh HM).then' (fun _ _=>id)))
     have hT15:StT bo o w14.drew:=hT14
     clear HM b15
     refine wp_region_L (StT bo o) 7 (by kernel_rfl) ?_
     refine takeL 0 ?_ (fun W hW=> ?_) hT15 ?_
     rotate_left 1
     · (obtain ⟨t0,t1⟩:=hW;go_simp;with_reducible rfl)
     simp only [Act.put,setB,set0,setS]
     refine takeL 1 ?_ (fun W hW=> ?_) hT15 ?_
     rotate_left 1
     · (obtain ⟨t0,t1⟩:=hW;go_simp;with_reducible rfl)
     simp only [Act.put,setB,set0,setS]
     refine takeL 3 ?_ (fun W hW=> ?_) hT15 ?_
     rotate_left 1
     · (obtain ⟨t0,t1⟩:=hW;go_simp;with_reducible rfl)
     simp only [Act.put,setB,set0,setS]
     refine takeL 4 ?_ (fun W hW=> ?_) hT15 ?_
     rotate_left 1
     · (obtain ⟨t0,t1⟩:=hW;go_simp;with_reducible rfl)
     simp only [Act.put,setB,set0,setS]
     refine wpAnyL_one (i:=2) (by kernel_rfl) rfl fun K2 hK2=> ?_
     go_simp
     go_at_call 25
     refine (keepPick_any o.block _ ho.2).mono ?_
     rintro e w15 ⟨rfl,rfl⟩
     refine hK2 _ _ (Or.inr hT15) ?_
     try simp only [Act.put,setB,set0,setS]
     refine wpAnyL_one (i:=5) (by kernel_rfl) rfl fun K5 hK5=> ?_
     go_simp
     go_at_call 27
     refine (keepCluster_any o.text _ ho.1).mono ?_
     rintro e w16 ⟨rfl,b16⟩
     rw [uh Hdata]
     have HM16:=hide ((uh HM15).later b16 (ownsRow_kept (Kept.of_below (S:=fun _=>False) b16) (uh HM15).then' (fun _ _=>id)))
     have hT16:StT bo o w16:=by
       obtain ⟨C1,L1,N1,E1,D',av⟩:=(uh HM16).av
       exact uh HT _ av.below
     have th:w16.there ba (pickN o.block*64) 64:=there_blk (uh HM16).aft.blk _ 64 (by rw [List.size_toArray,(uh HM16).aft.cont.flat];omega)
     have HM17:=hide ((uh HM16).put h0ba (by omega) (by omega) (Kept.onlys w16 ba (pickN o.block*64) (cv data)) ((uh HM16).aft.set (pickN o.block) hp data hdl))
     have hpi:((pickN o.block:Nat):Int)<64:=by omega
     clear b16 HM15 HM16
     generalize pickN o.block=N at*
     refine hK5 _ _ (Or.inr hT16) ?_
     try simp only [Act.put,setB,set0,setS]
     refine wpAnyL_one (i:=6) (by kernel_rfl) rfl fun K6 hK6=> ?_
     go_simp
     refine hK6 _ _ (Or.inr hT16) ?_
     try simp only [Act.put,setB,set0,setS]
     refine wpAnyL_one (i:=7) (by kernel_rfl) rfl fun K7 hK7=> ?_
     go_simp
     refine hK7 _ _ (Or.inl rfl) ?_
     try simp only [Act.put,setB,set0,setS]
     refine wpAnyL_done (by kernel_rfl) ?_ _
     have HX:Hid (Switched w0 (w16.setCells ba (N*64) (cv data)) d v bc b1 ba (.slice (some ⟨bn,0,none⟩) 1 1) (.int .i64 c) (.slice (some ⟨bt,0,none⟩) 1 1) V6 ⟨Cb,[⟨[111,110,101],Ca⟩]⟩ Ca):=by
       refine ⟨V',D1,_,_,uh HM17,?_⟩
       rcases uh Hc with ⟨rfl,e⟩ | ⟨rfl,e⟩
       · exact ⟨by rw [e];exact Or.inr (Or.inl rfl),Or.inl ⟨rfl,by rw [e],by rw [e];rfl⟩⟩
       · exact ⟨by rw [e];exact Or.inr (Or.inl rfl),Or.inr ⟨rfl,e⟩⟩
     clear HM17 th
     go_wp2
     go_meet
     exact uh HX
 case rest=>
   obtain ⟨V',D1,A,NS,hm,hok,hor0⟩:=hcut
   have HOK:=hide hok
   clear hok
   obtain ⟨c,rfl,hor⟩: ∃ c:Int,u21= .int .i64 c∧(c=0∧A=D1.C∧NS=D1.L.map (·.name)∨c=5∧D1=⟨Cb,[⟨[111,110,101],Ca⟩]⟩):=by
     rcases hor0 with ⟨e,h⟩ | ⟨e,h⟩
     · exact ⟨0,e,Or.inl ⟨rfl,h⟩⟩
     · exact ⟨5,e,Or.inr ⟨rfl,h⟩⟩
   have HM:=hide hm
   have Hor:=hide hor
   have hba':=uh hba
   have h0ba:w0.heap.size≤ba:=by have:=(uh G10).at'.bcl;omega
   have HV6:Hid (Vol [] V6 6 E4∧V6.short=false):=⟨(uh G10).held.vol,(uh G10).held.long rfl⟩
   clear hm hor hor0 G10 O10 A10 NR TR
   go_upto_if 102 with fail
   go_cut [23] from 103 to 107 (fun tv W=>Settled w0 W d v bc b1 ba (.slice (some ⟨bn,0,none⟩) 1 1) tv V6 V' ⟨Cb,[⟨[111,110,101],Ca⟩]⟩ Ca)
   case first=>
     rcases uh Hor with ⟨rfl,hA,hN⟩ | ⟨rfl,hD⟩
     · have HX:Hid (Settled w0 wc d v bc b1 ba (.slice (some ⟨bn,0,none⟩) 1 1) u23 V6 V' ⟨Cb,[⟨[111,110,101],Ca⟩]⟩ Ca):=⟨D1,by have:=uh HM;rw [hA,hN] at this;exact this,uh HOK⟩
       clear HM Hor hA hN
       go_wp2
       go_meet
       exact uh HX
     · have cB':=(uh HM).c.cont
       obtain ⟨p1,p2⟩:=(uh HM).c.has
       dsimp only at cB' p1 p2
       have st12:=run_storeCo (w:=wc) (b:=ba) (there_blk (uh HM).aft.blk 0 4096 (by rw [List.size_toArray,(uh HM).aft.cont.flat];omega)) cB'
       have ha:ContAt (wc.setCells ba 0 (flatC Cb)) ba Cb:=⟨all_store (uh HM).aft.blk (by rw [(uh HM).aft.cont.flat,cB'.flat]),cB'⟩
       have hm2:=(uh HM).put h0ba (by omega) (by omega) (Kept.onlys wc ba 0 (flatC Cb)) ha
       have HX:Hid (Settled w0 (wc.setCells ba 0 (flatC Cb)) d v bc b1 ba (.slice (some ⟨bn,0,none⟩) 1 1) (.slice (some ⟨bn,0,none⟩) 1 1) V6 V' ⟨Cb,[⟨[111,110,101],Ca⟩]⟩ Ca):=by
         subst hD
         exact ⟨_,⟨hm2.av,hm2.traced,hm2.log,hm2.c,hm2.one,hm2.aft,hm2.names,hm2.names⟩,Or.inr (Or.inl rfl)⟩
       clear HM Hor ha hm2 hD
       go_wp2
       go_meet
       exact uh HX
   case rest=>
     obtain ⟨D2,hm2,hok2⟩:=hcut
     have HOK2:=hide hok2
     clear hok2 HOK
     have HM2:=hide hm2
     have Hgrow:Hid (V6.L.length≤V'.L.length∧ ∀ n,V6.L.length≤n→n≤V'.L.length→PC ⟨Cb,[⟨[111,110,101],Ca⟩]⟩ D2 (cutTo V'.L (lastFl V'.L n) gn gs n)):=by
       obtain ⟨es,e,hsafe⟩:=hm2.traced
       obtain ⟨C1,L1,N1,E1,D',av⟩:=hm2.av
       obtain ⟨hv6,hs6⟩:=uh HV6
       obtain ⟨_,_,tl,htl⟩:=runE_log es V6 hs6 hv6.firm
       have hlow: ∀ x ∈ V'.L,x.cl<256:=fun x hx=>by
         have h1:=av.vol.log.low x hx
         have h2:=av.vol.file.most
         omega
       subst e
       exact ⟨by rw [htl];simp,fun n h1 h2=>cut_safe _ gn gs es V6 hv6.log hs6 hv6.firm hlow hsafe n h1 h2⟩
     obtain ⟨hge,_⟩:=uh Hgrow
     have hlg:=hm2.log
     obtain ⟨C1,L1,N1,E1,D',av⟩:=hm2.av
     have AV:=hide av
     have hll:=av.dsk.vol.lenL
     clear hm2 HM
     go_wp2_with fail
     refine (diskLog_all _ d v C1 L1 V' av.dsk (by omega)).mono ?_
     rintro e w20 ⟨lx,rfl,hlx,b20⟩
     have LR:Hid (LRow w20 lx V'.L):=⟨row_base hlx (Nat.zero_le _),hll⟩
     obtain ⟨la2,lcap2,rfl⟩:=row_form hlx
     have AV20:=hide (av.later b20)
     have HM20:=hide ((uh HM2).later b20 (ownsRow_kept (Kept.of_below (S:=fun _=>False) b20) (uh HM2).then' (fun _ _=>id)))
     have hgi:(V6.L.length:Int)≤(V'.L.length:Int):=by omega
     have hli:(V'.L.length:Int)≤300000000:=by omega
     have hpk:((V'.L.length:Int) - (V6.L.length:Int)+1)=((V'.L.length - V6.L.length+1:Nat):Int):=by omega
     clear hlx b20 av AV HM2
     go_wp2_with fail
     have hpp:=keepPickG_any place (V'.L.length - V6.L.length+1) (by omega) (by omega) w20 hpl
     rw [show (((V'.L.length - V6.L.length+1:Nat)):Int)=((V'.L.length - V6.L.length:Nat):Int)+1 by omega] at hpp
     refine hpp.mono ?_
     rintro e w21 ⟨rfl,rfl⟩
     have hplt:=pickG_lt place (n:=V'.L.length - V6.L.length+1) (by omega)
     generalize pickG place (V'.L.length - V6.L.length+1)=pk at*
     have hsum:((V6.L.length:Nat):Int)+((pk:Nat):Int)≤300000000:=by omega
     have HPC:=hide ((uh Hgrow).2 (V6.L.length+pk) (by omega) (by omega))
     have hn2:V6.L.length+pk≤V'.L.length:=by omega
     have Hn2:=hide hn2
     clear hpp Hgrow hn2 hplt hpk hge
     go_wp2_with fail
     have hk:=keepCut_any w21 _ V'.L (uh LR) (V6.L.length+pk) (uh Hn2) (by omega) ga gn gcap gs ((uh HGo).below (uh AV20).below) (by omega)
     rw [show ((V6.L.length+pk:Nat):Int)=(V6.L.length:Int)+(pk:Int) by omega] at hk
     refine hk.mono ?_
     rintro e w22 ⟨fv,rfl,hfr,hfl,b22⟩
     obtain ⟨T2,N2,E2,DD,hDD,ok⟩:=uh HPC
     obtain ⟨hbad,N3,E3,hv3,hd3⟩:=ok.opened
     generalize cutTo V'.L (lastFl V'.L (V6.L.length+pk)) gn gs (V6.L.length+pk)=file at*
     have FR:=hide hfr
     have HV3:=hide hv3
     have Hd3:=hide hd3
     have HDD:=hide hDD
     have AV22:=hide ((uh AV20).later b22)
     have HM22:=hide ((uh HM20).later b22 (ownsRow_kept (Kept.of_below (S:=fun _=>False) b22) (uh HM20).then' (fun _ _=>id)))
     clear hk hfr b22 hDD ok hv3 hd3 HPC HM20 AV20 LR
     go_wp2_with fail
     refine (diskOpen_any w22 fv file (uh FR) ((uh HG).below (uh AV22).below) (by omega)).mono ?_
     rintro e w23 ⟨(⟨n',hn',rfl⟩ | ⟨_,d2,v2,C8,L8,rfl,hD8,f8⟩),b23⟩
     · rw [hbad] at hn';omega
     have HD8:=hide hD8
     have F8:=hide f8
     have AV23:=hide ((uh AV22).later b23)
     have HM23:=hide ((uh HM22).later b23 (ownsRow_kept (Kept.of_below (S:=fun _=>False) b23) (uh HM22).then' (fun _ _=>id)))
     have H022:Hid (w0.heap.size≤w22.heap.size):=(uh AV22).below.size
     clear hD8 f8 b23 AV22 HM22 FR
     have X23:Hid (Xv w0 w23 d2 v2 C8 L8 (openV file) N3 E3 DD (openV file).C):=⟨uh HD8,uh HV3,uh Hd3,(uh AV23).below,fun k hk=>Nat.le_trans (uh H022) (uh F8 k hk)⟩
     have S23:Hid (Nearby w23 bc b1 ba (.slice (some ⟨bn,0,none⟩) 1 1) u23 Cb Ca D2.C (D2.L.map (·.name))):=⟨(uh HM23).c,(uh HM23).one,(uh HM23).aft,(uh HM23).names,(uh HM23).then'⟩
     have hL0:(openV file).L.length≤600000000:=Nat.zero_le _
     have HL0:=hide hL0
     obtain ⟨ta,tcap,htv⟩:=row_form (uh S23).then'
     obtain ⟨ns,hNS⟩: ∃ ns,(D2.L.map (·.name)).length=ns:=⟨_,rfl⟩
     rw [hNS] at htv
     subst htv
     have HNS:=hide hNS
     clear hL0 hNS HD8 HV3 Hd3 AV23 HM23 F8 HV6 Hor Hn2
     generalize openV file=V3 at*
     go_wp2_with fail
     refine ((uh X23).holds (uh S23).c).mono ?_
     rintro e w24 ⟨⟨rh,rfl,hrh⟩,b24⟩
     have X24:=hide ((uh X23).later b24)
     have S24:=hide ((uh S23).later b24)
     have Hrh:=hide hrh
     clear b24 X23 S23 hrh
     go_wp2_with fail
     refine ((uh X24).holds (uh S24).aft).mono ?_
     rintro e w25 ⟨⟨ri,rfl,hri⟩,b25⟩
     have X25:=hide ((uh X24).later b25)
     have S25:=hide ((uh S24).later b25)
     have Hri:=hide hri
     clear b25 X24 S24 hri
     go_wp2_with fail
     refine ((uh X25).lists).mono ?_
     rintro e w26 ⟨lv,rfl,hlv,b26⟩
     obtain ⟨la,lcap3,hlx⟩:=row_form hlv
     obtain ⟨nl,hNL⟩: ∃ nl,(DD.L.map (·.name)).length=nl:=⟨_,rfl⟩
     rw [hNL] at hlx
     subst hlx
     have HNL:=hide hNL
     have Q26:Hid (Asked w0 w26 d2 v2 C8 L8 V3 N3 E3 DD V3.C bc b1 ba (.slice (some ⟨bn,0,none⟩) 1 1) (.slice ta ns tcap) (.slice la nl lcap3) Cb Ca D2):=⟨(uh X25).later b26,(uh S25).later b26,hlv⟩
     clear b26 hlv hNL X25 S25
     have Hnn:Hid (NamesOK DD):=by
       rcases uh HDD with e | e
       · rw [e];exact Or.inr (Or.inl rfl)
       · rw [e];exact uh HOK2
     have hnl:nl≤2:=by rw [← uh HNL];rcases uh Hnn with e | e | e <;> rw [e] <;> simp
     have hnt:ns≤2:=by rw [← uh HNS];rcases uh HOK2 with e | e | e <;> rw [e] <;> simp
     have Hsame:Hid (DD=D2→nl=ns):=fun e=>by rw [← uh HNL,← uh HNS,e]
     have Hone:Hid (DD=⟨Cb,[⟨[111,110,101],Ca⟩]⟩→nl=1):=fun e=>by rw [← uh HNL,e];rfl
     have hnli:(nl:Int)≤2:=by omega
     have hnti:(ns:Int)≤2:=by omega
     go_upto_region 42 with fail
     go_cut [32] from 139 to 152 (fun j W=> ∃ jb,j= .bool jb∧(DD=⟨Cb,[⟨[111,110,101],Ca⟩]⟩→jb=true)∧Asked w0 W d2 v2 C8 L8 V3 N3 E3 DD V3.C bc b1 ba (.slice (some ⟨bn,0,none⟩) 1 1) (.slice ta ns tcap) (.slice la nl lcap3) Cb Ca D2)
     case first=>
       by_cases h1:nl=1
       · subst h1
         go_wp2_with fail
         refine ((uh Q26).x.holdsOne (uh Q26).s.one).mono ?_
         rintro e w27 ⟨⟨rj,rfl,hrj⟩,b27⟩
         have Q27:=hide ((uh Q26).later b27)
         have Hrj:=hide hrj
         clear b27 hrj Q26
         go_wp2
         go_meet
         exact ⟨rj,rfl,uh Hrj _,uh Q27⟩
       · have h1i: ¬ (nl:Int)=1:=by omega
         have h1b:((nl:Int) == 1)=false:=by simp [h1i]
         go_wp2
         go_meet
         exact ⟨false,rfl,fun e=>absurd (uh Hone e) h1,uh Q26⟩
     case rest=>
       obtain ⟨jb,rfl,hjb,hQ⟩:=hcut
       have Q28:=hide hQ
       have Hjb:=hide hjb
       clear hQ hjb Q26
       go_wp2_with fail
       go_loopw [32,33,34] (fun j k m w'=> ∃ (i:Nat) (jb kb:Bool),i≤nl∧m= .int .i64 i∧j= .bool jb∧k= .bool kb∧(DD=⟨Cb,[⟨[111,110,101],Ca⟩]⟩→jb=true)∧(DD=D2→kb=true)∧Asked w0 w' d2 v2 C8 L8 V3 N3 E3 DD V3.C bc b1 ba (.slice (some ⟨bn,0,none⟩) 1 1) (.slice ta ns tcap) (.slice la nl lcap3) Cb Ca D2) (fun _ _ m _=>nl - (intOf m).toNat)
       case atStart=>exact ⟨0,jb,_,Nat.zero_le _,rfl,rfl,rfl,uh Hjb,fun e=>by have:=uh Hsame e;simp [this],uh Q28⟩
       case round=>
         obtain ⟨i,jr,kr,hi,rfl,rfl,rfl,hj,hk,hq⟩:=hrel
         have Hj:=hide hj
         have Hk:=hide hk
         have QR:=hide hq
         clear hj hk hq Q28 Hjb
         by_cases hlt:i<nl
         · have hlti:(i:Int)<(nl:Int):=by omega
           have hii:(i:Int)≤2:=by omega
           have hl:=(uh QR).l
           rw [uh HNL] at hl
           obtain ⟨lg,lc,hlg,_⟩:=row_some hl (by omega)
           obtain ⟨rfl,rfl⟩:la=some ⟨lg,0,none⟩∧lcap3=lc:=by injection hlg with x1 x2 x3;exact ⟨x1,x3⟩
           have k1:=row_at hl i _ (sv_at _ i (by rw [uh HNL];exact hlt))
           have k2:wr.cell? ⟨bn,0,none⟩=some (.string ⟨#[111,110,101]⟩):=row_at (uh QR).s.names 0 _ rfl
           have Hs1:Hid (DD=⟨Cb,[⟨[111,110,101],Ca⟩]⟩→i=0→txt ((DD.L.map (·.name)).getD i [])=⟨#[111,110,101]⟩):=fun e e0=>by rw [e,e0];rfl
           have Hs2:Hid (DD=D2→txt ((DD.L.map (·.name)).getD i [])=txt ((D2.L.map (·.name)).getD i [])):=fun e=>by rw [e]
           clear hl hlg
           rcases uh HDD with hD | hD
           · obtain rfl:jr=true:=uh Hj hD
             have h0:Hid (i=0):=by have:=uh Hone hD;unfold Hid;omega
             have hi1:(i:Int)<1:=by have:=uh h0;omega
             rw [uh Hs1 hD (uh h0)] at k1
             have k2:wr.cell? ⟨bn,i,none⟩=some (.string ⟨#[111,110,101]⟩):=by rw [uh h0];exact k2
             have m1: ∀ n,(wr.drewN n).cell? ⟨lg,i,none⟩=some (.string ⟨#[111,110,101]⟩):=fun _=>k1
             have m2: ∀ n,(wr.drewN n).cell? ⟨bn,i,none⟩=some (.string ⟨#[111,110,101]⟩):=fun _=>k2
             by_cases hs:i<ns
             · have hsi:(i:Int)<(ns:Int):=by omega
               have ht:=(uh QR).s.then'
               rw [uh HNS] at ht
               obtain ⟨tg,tc,htg,_⟩:=row_some ht (by omega)
               obtain ⟨rfl,rfl⟩:ta=some ⟨tg,0,none⟩∧tcap=tc:=by injection htg with x1 x2 x3;exact ⟨x1,x3⟩
               have k3:=row_at ht i _ (sv_at _ i (by rw [uh HNS];exact hs))
               have Hs3:Hid (DD=D2→txt ((D2.L.map (·.name)).getD i [])=⟨#[111,110,101]⟩):=fun e=>by rw [← uh Hs2 e];exact uh Hs1 hD (uh h0)
               clear Hs1 Hs2
               generalize txt ((D2.L.map (·.name)).getD i [])=sc at*
               have m3: ∀ n,(wr.drewN n).cell? ⟨tg,i,none⟩=some (.string sc):=fun _=>k3
               clear ht htg
               cases kr
               · go_wp2
                 go_quiet (fail)
                 go_wp2
                 go_quiet (fail)
                 go_wp2
                 go_roundw
                 case rel=>exact ⟨i+1,_,_,by omega,by go_num,rfl,rfl,fun _=>rfl,fun e=>uh Hk e,(uh QR).later (((Kept.refl (fun _=>False) wr).drewN _).below)⟩
                 case measure=>simp [intOf];omega
               · go_wp2
                 go_quiet (fail)
                 go_wp2
                 go_quiet (fail)
                 go_wp2
                 go_roundw
                 case rel=>exact ⟨i+1,_,_,by omega,by go_num,rfl,rfl,fun _=>rfl,fun e=>by rw [uh Hs3 e];exact one_beq,(uh QR).later (((Kept.refl (fun _=>False) wr).drewN _).below)⟩
                 case measure=>simp [intOf];omega
             · have hsi: ¬ (i:Int)<(ns:Int):=by omega
               have Hx:Hid (DD=D2→False):=fun e=>by have:=uh Hsame e;omega
               clear Hs1 Hs2
               cases kr
               · go_wp2
                 go_quiet (fail)
                 go_wp2
                 go_quiet (fail)
                 go_wp2
                 go_roundw
                 case rel=>exact ⟨i+1,_,_,by omega,by go_num,rfl,rfl,fun _=>rfl,fun e=>(uh Hx e).elim,(uh QR).later (((Kept.refl (fun _=>False) wr).drewN _).below)⟩
                 case measure=>simp [intOf];omega
               · go_wp2
                 go_quiet (fail)
                 go_wp2
                 go_quiet (fail)
                 go_wp2
                 go_roundw
                 case rel=>exact ⟨i+1,_,_,by omega,by go_num,rfl,rfl,fun _=>rfl,fun e=>(uh Hx e).elim,(uh QR).later (((Kept.refl (fun _=>False) wr).drewN _).below)⟩
                 case measure=>simp [intOf];omega
           · obtain rfl:kr=true:=uh Hk hD
             have hs:i<ns:=by have:=uh Hsame hD;omega
             have hsi:(i:Int)<(ns:Int):=by omega
             have ht:=(uh QR).s.then'
             rw [uh HNS] at ht
             obtain ⟨tg,tc,htg,_⟩:=row_some ht (by omega)
             obtain ⟨rfl,rfl⟩:ta=some ⟨tg,0,none⟩∧tcap=tc:=by injection htg with x1 x2 x3;exact ⟨x1,x3⟩
             have k3:=row_at ht i _ (sv_at _ i (by rw [uh HNS];exact hs))
             rw [← uh Hs2 hD] at k3
             clear Hs2 ht htg
             generalize txt ((DD.L.map (·.name)).getD i [])=sa at*
             have m1: ∀ n,(wr.drewN n).cell? ⟨lg,i,none⟩=some (.string sa):=fun _=>k1
             have m3: ∀ n,(wr.drewN n).cell? ⟨tg,i,none⟩=some (.string sa):=fun _=>k3
             by_cases h0:i=0
             · have H0:=hide h0
               have hi1:(i:Int)<1:=by omega
               have k2:wr.cell? ⟨bn,i,none⟩=some (.string ⟨#[111,110,101]⟩):=by rw [h0];exact k2
               have m2: ∀ n,(wr.drewN n).cell? ⟨bn,i,none⟩=some (.string ⟨#[111,110,101]⟩):=fun _=>k2
               clear h0
               cases jr
               · go_wp2
                 go_quiet (fail)
                 go_wp2
                 go_quiet (fail)
                 go_wp2
                 go_roundw
                 case rel=>exact ⟨i+1,_,_,by omega,by go_num,rfl,rfl,fun e=>uh Hj e,fun _=>by simp,(uh QR).later (((Kept.refl (fun _=>False) wr).drewN _).below)⟩
                 case measure=>simp [intOf];omega
               · go_wp2
                 go_quiet (fail)
                 go_wp2
                 go_quiet (fail)
                 go_wp2
                 go_roundw
                 case rel=>exact ⟨i+1,_,_,by omega,by go_num,rfl,rfl,fun e=>by rw [uh Hs1 e (uh H0)];exact beq_one,fun _=>by simp,(uh QR).later (((Kept.refl (fun _=>False) wr).drewN _).below)⟩
                 case measure=>simp [intOf];omega
             · have hi1:decide ((i:Int)<1)=false:=by simp;omega
               have Hx:Hid (DD=⟨Cb,[⟨[111,110,101],Ca⟩]⟩→False):=fun e=>by have:=uh Hone e;omega
               clear h0
               cases jr
               · go_wp2
                 go_quiet (fail)
                 go_wp2
                 go_quiet (fail)
                 go_wp2
                 go_roundw
                 case rel=>exact ⟨i+1,_,_,by omega,by go_num,rfl,rfl,fun e=>(uh Hx e).elim,fun _=>by simp,(uh QR).later (((Kept.refl (fun _=>False) wr).drewN _).below)⟩
                 case measure=>simp [intOf];omega
               · go_wp2
                 go_quiet (fail)
                 go_wp2
                 go_quiet (fail)
                 go_wp2
                 go_roundw
                 case rel=>exact ⟨i+1,_,_,by omega,by go_num,rfl,rfl,fun e=>(uh Hx e).elim,fun _=>by simp,(uh QR).later (((Kept.refl (fun _=>False) wr).drewN _).below)⟩
                 case measure=>simp [intOf];omega
         · have hlti: ¬ (i:Int)<(nl:Int):=by omega
           go_upto_region 51 with fail
           go_cut [215] from 202 to 214 (fun c W=>c= .bool false∧W=wr)
           case first=>
             rcases uh HDD with hD | hD
             · obtain rfl:jr=true:=uh Hj hD
               obtain rfl:rh=true:=uh Hrh (by rw [hD])
               clear hD
               go_wp2
               go_meet
               exact ⟨rfl,rfl⟩
             · obtain rfl:kr=true:=uh Hk hD
               obtain rfl:ri=true:=uh Hri (by rw [hD])
               clear hD
               cases rh
               · go_wp2
                 go_meet
                 exact ⟨rfl,rfl⟩
               · cases jr
                 · go_wp2
                   go_meet
                   exact ⟨rfl,rfl⟩
                 · go_wp2
                   go_meet
                   exact ⟨rfl,rfl⟩
           case rest=>
             obtain ⟨rfl,rfl⟩:=hcut
             go_wp2_with fail
             refine ((uh QR).x.repairs (uh HL0)).mono ?_
             rintro e w30 ⟨rfl,hx30,C9,L9,hs30,x30⟩
             have X30:=hide x30
             have HX30:=hide hx30
             have c30:=hide ((uh QR).x.box hs30 (uh QR).s.c)
             have a30:=hide ((uh QR).x.box hs30 (uh QR).s.aft)
             clear x30 hs30 hx30 QR
             go_wp2_with fail
             refine ((uh X30).checks (uh HX30)).mono ?_
             rintro e w31 ⟨⟨st,rfl,hs2,hs3,hs4⟩,b31⟩
             have X31:=hide (((uh X30).later b31).later ((Below.refl _ _).alloc (Nat.le_refl _) (.cells (stateCells st).toArray 51)))
             have c31:=hide (((uh c30).below b31).below ((Below.refl _ _).alloc (Nat.le_refl _) (.cells (stateCells st).toArray 51)))
             have a31:=hide (((uh a30).below b31).below ((Below.refl _ _).alloc (Nat.le_refl _) (.cells (stateCells st).toArray 51)))
             have z31:Hid ((w31.alloc (.cells (stateCells st).toArray 51)).heap[w31.heap.size]? = some (.cells (stateCells st).toArray 51 (0,0))):=heap_alloc_new _ _
             have st31:(storeSt ⟨w31.heap.size,0,none⟩ (.agg (stateCells st).toArray)).run Tryz.prog (w31.alloc (.cells #[.int .i64 0,.int .i64 0,.int .i64 0,.int .i64 0,.int .i64 0] 51))= .ok () (w31.alloc (.cells (stateCells st).toArray 51)):=run_storeSt_new (w:=w31) (z:=zs5) st rfl
             have Hs2:=hide hs2
             have Hs3:=hide hs3
             have Hs4:=hide hs4
             clear b31 X30 c30 a30 hs2 hs3 hs4
             go_wp2_with fail
             clear st31
             generalize w31.alloc (.cells (stateCells st).toArray 51)=w32 at*
             generalize w31.heap.size=bs at*
             refine ((uh X31).holds (uh c31)).mono ?_
             rintro e w33 ⟨⟨ro,rfl,hro⟩,b33⟩
             have X33:=hide ((uh X31).later b33)
             have a33:=hide ((uh a31).below b33)
             have z33:=hide ((b33.block _ (blk_lt (uh z31))).trans (uh z31))
             clear b33 X31 c31 a31 z31
             go_wp2_with fail
             refine ((uh X33).holds (uh a33)).mono ?_
             rintro e w34 ⟨⟨rp,rfl,hrp⟩,b34⟩
             have z34:=(b34.block _ (blk_lt (uh z33))).trans (uh z33)
             have t2:w34.cell? ⟨bs,2,none⟩=some (.int .i64 0):=by rw [cell_blk z34 2];show some (Value.int .i64 ((st.lost:Nat):Int))=_;rw [uh Hs2];rfl
             have t3:w34.cell? ⟨bs,3,none⟩=some (.int .i64 0):=by rw [cell_blk z34 3];show some (Value.int .i64 ((st.over:Nat):Int))=_;rw [uh Hs3];rfl
             have t4:w34.cell? ⟨bs,4,none⟩=some (.int .i64 0):=by rw [cell_blk z34 4];show some (Value.int .i64 ((st.unmarked:Nat):Int))=_;rw [uh Hs4];rfl
             have BB:=hide ((uh X33).below.trans (b34.mono (uh X33).below.size))
             have hop:ro=true∨ro=false∧rp=true:=by
               rcases uh HDD with hD | hD
               · exact Or.inl (hro (by rw [hD]))
               · cases ro
                 · exact Or.inr ⟨rfl,hrp (by rw [hD])⟩
                 · exact Or.inl rfl
             clear b34 X33 a33 z33 z34 hro hrp
             rcases hop with rfl | ⟨rfl,rfl⟩
             · go_wp2
               go_ret
               exact ⟨rfl,(uh B0).trans ((uh BB).mono (by rw [uh HBO];exact Nat.le_of_lt (blk_lt (uh X0))))⟩
             · go_wp2
               go_ret
               exact ⟨rfl,(uh B0).trans ((uh BB).mono (by rw [uh HBO];exact Nat.le_of_lt (blk_lt (uh X0))))⟩
end Go.Proofs.YtknjjjenklfeoaaGreatDoor
namespace Go.Proofs.YtknjjjenklfeoaaGreatDoor
open Go.RowKit
attribute [local go_sem ↓] loadVar_clus storeVar_clus zeroValue_clus loadVar_op equalIn_clus
attribute [local go_sem] run_loadClus run_storeClus run_zeroClus run_storeClus_new run_loadClus_new zc_length run_loadOp HasAt_drew cellsAt_drew
end Go.Proofs.YtknjjjenklfeoaaGreatDoor
namespace Go.Proofs.YtknjjjenklfeoaaGreatDoor
open Go.RowKit
attribute [local go_sem ↓] loadVar_op build_disk
attribute [local go_sem] run_loadOp
section
end
end Go.Proofs.YtknjjjenklfeoaaGreatDoor
