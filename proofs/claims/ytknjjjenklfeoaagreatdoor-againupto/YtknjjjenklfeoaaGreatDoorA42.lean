import Derived.Test.YtknjjjenklfeoaaGreatDoorA41
import Derived.Test.YtknjjjenklfeoaaGreatDoorA35
import Derived.Test.YtknjjjenklfeoaaGreatDoorRows
import Derived.Test.YtknjjjenklfeoaaGreatDoorA36
import Derived.LaidLaws
import Derived.LaidHandle
import Derived.Test.YtknjjjenklfeoaaGreatDoorA29
import Derived.Test.YtknjjjenklfeoaaGreatDoorA33
import Derived.ChangeSame
import Derived.ProofKit
import Derived.Below
import Derived.Test.YtknjjjenklfeoaaGreatDoorChecked
import Derived.Deep.Slices
import Derived.Deep.DeepHandedRow
import Derived.OpenShut
import Derived.Deep.DeepWitnessRowRef
import Derived.Test.YtknjjjenklfeoaaGreatDoorCards
import Derived.Test.YtknjjjenklfeoaaGreatDoorTie
import Derived.SevenTiedAt
set_option maxHeartbeats 8000000
set_option maxRecDepth 100000
namespace Go.Proofs.YtknjjjenklfeoaaGreatDoor
open Go.RowKit
attribute [local go_sem ↓] loadVar_co storeVar_co zeroValue_co
attribute [local go_sem] run_loadCo run_zeroCo
theorem At.opened {w W W':World} {d v bc d2 v2:Nat} {Cv Lv C2 L2:Value} {V:VolR} {N0:Nat} {E:List EntR} {K:Nat} {D:DiskR} {base:List Clus} (h:At w W d v bc Cv Lv V N0 E K D base) (hb:Below W.heap.size W W') (hD:DskAt W' d2 v2 C2 L2 (openV V.C)) (hf: ∀ k,dfoot d2 v2 C2 L2 k→W.heap.size≤k):Av w W' d2 v2 C2 L2 (openV V.C) N0 E D V.C∧Held (openV V.C) N0 E K V.C:=by
 have hC:=h.held.vol.openC
 have hx:ExactS (openV V.C).C (rsOf N0 E):=by rw [hC];exact h.held.exact
 exact ⟨⟨hD,h.held.vol.reopen,hx,by rw [hC];exact h.disk,h.at'.below.trans (hb.mono h.at'.below.size),fun k hk=>Nat.le_trans h.at'.below.size (hf k hk)⟩,⟨h.held.vol.reopen,hx,fun m hm=>by rw [hC];exact h.held.cnt m hm⟩⟩
theorem one_name {base:List Clus} {V:VolR} {N0:Nat} {E:List EntR} {D:DiskR} (h:Vol base V N0 E) (hd:dskOf V.C N0 E=D) {Cb Ca:List Clus} (hD:D=⟨Cb,[⟨[111,110,101],Ca⟩]⟩):lenOf (entsOf (cl V.C 5))=1∧sv (namesTo (entsOf (cl V.C 5)) (lenOf (entsOf (cl V.C 5))))=[.string ⟨#[111,110,101]⟩]:=by
 have h1:=names_told h
 have h2:=(h.ents).2
 have h3:=names_held (V:=V) (N0:=N0) (E:=E)
 rw [hd,hD] at h3
 have hE:E.length=1:=by
   have:=congrArg List.length h3
   rw [List.length_map] at this
   exact this.symm
 rw [h1,h2,hE,← h3]
 exact ⟨rfl,rfl⟩
theorem again_any (w:World) (hG:Glob w) (a1 a2 a3:Option Addr) (n1 n2 n3 c1 c2 c3:Nat) (s1 s2 s3:Nat→StepR) (r1:KRow w a1 n1 s1) (r2:KRow w a2 n2 s2) (r3:KRow w a3 n3 s3) (l1:n1≤524288) (l2:n2≤524288) (l3:n3≤524288):
   Calls Tryz.prog 7 #[.slice a1 n1 c1,.slice a2 n2 c2,.slice a3 n3 c3] w fun e w'=>e= .returned (.bool true)∧Below w.heap.size w w':=by
 have HG:=hide hG
 clear hG
 go_enter Tryz.func7,Tryz.ntmps7
 go_wp2_with fail
 refine (keepBegun_any w).mono ?_
 rintro e w1 ⟨d,v,Cv,Lv,rfl,hD,b1,f1⟩
 have K1:KAt w (w1.alloc (.cells (flatC zD).toArray 40)) d v w1.heap.size Cv Lv newV (dskOf newV.C 6 []).C:=by
   have hb:Below w1.heap.size w1 (w1.alloc (.cells (flatC zD).toArray 40)):=(Below.refl _ _).alloc (Nat.le_refl _) _
   refine ⟨hD.below hb,⟨?_,?_⟩,b1.trans (hb.mono b1.size),f1,b1.size⟩
   · rw [new_disk];exact heap_alloc_new _ _
   · rw [new_disk];exact ⟨zD_all,zD_length⟩
 have K1:=hide K1
 clear hD b1 f1
 go_wp2_with fail
 have G1:Hid (At w (w1.alloc (.cells (flatC zD).toArray 40)) d v w1.heap.size Cv Lv newV 6 [] 1 zDisk):=⟨by have:=uh K1;rw [new_disk] at this;exact this,new_held,new_disk⟩
 have lg0:=new_logL
 clear K1
 generalize w1.heap.size=bc at*
 generalize w1.alloc (.cells (flatC zD).toArray 40)=w2 at*
 refine (written_any w w2 d v bc Cv Lv newV 6 [] 1 (Nat.le_refl _) (by rw [new_disk];exact (uh G1).at') (uh G1).held a1 n1 c1 s1 r1 (by omega) (by omega)).mono ?_
 rintro e w3 ⟨rfl,C3,L3,V3,hw3⟩
 obtain ⟨⟨Ca,La⟩,g3,e3⟩:=(uh G1).wrote hw3
 obtain rfl:La=[]:=e3
 have lg3:=hw3.log
 have G3:=hide g3
 clear hw3 g3 G1
 go_wp2_with fail
 obtain ⟨q1,q2,q3,q4⟩:=(uh G3).hyps
 refine (diskTake_any w3 d v C3 L3 V3 q1 q2 q3 (by omega) q4 ⟨#[111,110,101]⟩ (by unfold maxLen;decide)).mono ?_
 rintro e w4 ⟨rfl,C4,L4,hs4⟩
 have t3:refTakeR ⟨Ca,[]⟩ ⟨#[111,110,101]⟩=(⟨Ca,[⟨[111,110,101],Ca⟩]⟩,0):=rfl
 obtain ⟨z4,lg4,E4,g4,n4⟩:=(uh G3).taken (by omega) (by omega) (by simp) _ t3 hs4
 rw [z4]
 have G4:=hide g4
 clear q1 q4 hs4 g4 G3 z4
 generalize (takeR V3 ⟨#[111,110,101]⟩).1=V4 at*
 obtain ⟨m1,m2⟩:=(uh G4).at'.cont.has
 have cZ:Cont zD:=⟨zD_all,zD_length⟩
 have cA:=(uh G4).at'.cont.cont
 have st4:=run_storeCo_new (w:=w4) cZ cA
 dsimp only at m1 m2 st4 cA
 have B5:Below w4.heap.size w4 (w4.alloc (.cells (flatC Ca).toArray 40)):=(Below.refl _ _).alloc (Nat.le_refl _) _
 have G5:=hide ((uh G4).later B5)
 have O5:Hid (ContAt (w4.alloc (.cells (flatC Ca).toArray 40)) w4.heap.size Ca):=⟨heap_alloc_new _ _,cA⟩
 have hb5:Hid (w4.heap.size≠bc):=fun e=>by have:=blk_lt (uh G4).at'.cont.blk;omega
 have hb5w:Hid (w.heap.size≤w4.heap.size):=(uh G4).at'.below.size
 clear B5 G4
 go_wp2_with fail
 clear m1 m2 st4
 generalize w4.alloc (.cells (flatC Ca).toArray 40)=w5 at*
 generalize w4.heap.size=b1 at*
 refine (written_any w w5 d v bc C4 L4 V4 6 E4 2 (by omega) (by rw [(uh G5).disk];exact (uh G5).at') (uh G5).held a2 n2 c2 s2 r2 (by omega) (by omega)).mono ?_
 rintro e w6 ⟨rfl,C6,L6,V6,hw6⟩
 obtain ⟨⟨Cb,Lb⟩,g6,e6⟩:=(uh G5).wrote hw6
 obtain rfl:Lb=[⟨[111,110,101],Ca⟩]:=e6
 have O6:=hide ((uh O5).kept hw6.kept (fun x=>by
   rcases x with y | y
   · exact (uh G5).at'.dsk.vol.footKey (uh O5).blk (by decide) (by decide) (by decide) y
   · exact uh hb5 y))
 have lg6:=hw6.log
 have G6:=hide g6
 clear hw6 g6 G5 O5
 go_wp2_with fail
 obtain ⟨q1,q2',q3',_⟩:=(uh G6).hyps
 refine (diskFile_any w6 d v C6 L6 V6 q1 (by omega) (by omega)).mono ?_
 rintro e w7 ⟨x,rfl,hrow,b7⟩
 have R7:Hid (FRow w7 x V6.C):=⟨row_base hrow (Nat.zero_le _),(uh G6).held.vol.file.lens⟩
 have G7:=hide ((uh G6).later b7)
 have O7:=hide ((uh O6).below b7)
 clear b7 hrow G6 O6 q1
 go_wp2_with fail
 refine (diskOpen_any w7 x V6.C (uh R7) ((uh HG).below (uh G7).at'.below) (by omega)).mono ?_
 rintro e w8 ⟨(⟨n',hn',rfl⟩ | ⟨_,d2,v2,C8,L8,rfl,hD8,f8⟩),b8⟩
 · rw [(uh G7).held.vol.openBad] at hn';omega
 obtain ⟨a8,h8⟩:=(uh G7).opened b8 hD8 f8
 have hs78:=b8.size
 have F8:=hide f8
 have dlt:=hide (uh G7).at'.dsk.foot_lt
 have G8:=hide ((uh G7).later b8)
 have O8:=hide ((uh O7).below b8)
 have A8:=hide a8
 have H8:=hide h8
 clear b8 hD8 f8 a8 h8 G7 O7 R7
 obtain ⟨m1,m2⟩:=(uh G8).at'.cont.has
 have cB:=(uh G8).at'.cont.cont
 have st8:=run_storeCo_new (w:=w8) cZ cB
 dsimp only at m1 m2 st8 cB
 have B9:Below w8.heap.size w8 (w8.alloc (.cells (flatC Cb).toArray 40)):=(Below.refl _ _).alloc (Nat.le_refl _) _
 have G9:=hide ((uh G8).later B9)
 have O9:=hide ((uh O8).below B9)
 have A9:=hide ((uh A8).later B9)
 have Z9:Hid (ContAt (w8.alloc (.cells (flatC Cb).toArray 40)) w8.heap.size Cb):=⟨heap_alloc_new _ _,cB⟩
 have hbz:Hid (bc<w8.heap.size):=blk_lt (uh G8).at'.cont.blk
 have hbz1:Hid (b1<w8.heap.size):=blk_lt (uh O8).blk
 have hzw:Hid (w.heap.size≤w8.heap.size):=(uh A8).below.size
 clear B9 G8 O8 A8
 go_wp2_with fail
 clear m1 m2 st8
 generalize w8.alloc (.cells (flatC Cb).toArray 40)=w9 at*
 generalize w8.heap.size=bz at*
 refine ((uh A9).holds (uh Z9)).mono ?_
 rintro e w10 ⟨rfl,b10⟩
 have G10:=hide ((uh G9).later b10)
 have A10:=hide ((uh A9).later b10)
 have O10:=hide ((uh O9).below b10)
 have Z10:=hide ((uh Z9).below b10)
 clear b10 G9 A9 O9 Z9
 go_wp2_with fail
 refine ((uh A10).holdsOf sOne (by unfold maxLen;decide) 0 rfl rfl (uh O10)).mono ?_
 rintro e w11 ⟨rfl,b11⟩
 have G11:=hide ((uh G10).later b11)
 have A11:=hide ((uh A10).later b11)
 have O11:=hide ((uh O10).below b11)
 have Z11:=hide ((uh Z10).below b11)
 clear b11 G10 A10 O10 Z10
 go_wp2_with fail
 have h57:=(uh A11).vol.file.seven
 refine (diskList_any w11 d2 v2 C8 L8 (openV V6.C) (uh A11).dsk (by omega)).mono ?_
 rintro e w12 ⟨lv,rfl,hlv,b12⟩
 obtain ⟨ln1,ln2⟩:=one_name (uh A11).vol (uh A11).disk rfl
 rw [ln2,ln1] at hlv
 obtain ⟨lg,lcap,rfl,_⟩:=row_some hlv (by omega)
 have RL12:=hide (row_base hlv (Nat.zero_le _))
 have G12:=hide ((uh G11).later b12)
 have A12:=hide ((uh A11).later b12)
 have O12:=hide ((uh O11).below b12)
 have Z12:=hide ((uh Z11).below b12)
 clear b12 G11 A11 O11 Z11 hlv ln1 ln2
 have X12:Hid (At w w12 d2 v2 bz C8 L8 (openV V6.C) 6 E4 2 ⟨Cb,[⟨[111,110,101],Ca⟩]⟩ V6.C):=⟨⟨(uh A12).dsk,uh Z12,(uh A12).below,(uh A12).lo,uh hzw⟩,uh H8,(uh A12).disk⟩
 clear A12 Z12 H8
 go_wp2_with fail
 refine (written_any w w12 d2 v2 bz C8 L8 (openV V6.C) 6 E4 2 (by omega) (by rw [(uh X12).disk];exact (uh X12).at') (uh X12).held a3 n3 c3 s3 r3 (by omega) (Nat.zero_le _)).mono ?_
 rintro e w13 ⟨rfl,C13,L13,V13,hw13⟩
 obtain ⟨⟨Cc,Lc⟩,x13,e13⟩:=(uh X12).wrote hw13
 obtain rfl:Lc=[⟨[111,110,101],Ca⟩]:=e13
 have hnf: ∀ k,dfoot d v C6 L6 k→ ¬ (foot v2 C8 L8 k∨k=bz):=by
   rintro k hk (hf | rfl)
   · have h1:=uh dlt k hk
     have h2:=uh F8 k (Or.inr hf)
     omega
   · have h1:=uh dlt k hk
     omega
 have A13:Hid (Av w w13 d v C6 L6 V6 6 E4 ⟨Cb,[⟨[111,110,101],Ca⟩]⟩):=⟨(uh G12).at'.dsk.kept hw13.kept hnf,(uh G12).held.vol,(uh G12).held.exact,(uh G12).disk,x13.at'.below,(uh G12).at'.lo⟩
 have M13:=hide ((uh G12).at'.cont.kept hw13.kept (fun y=>by
   rcases y with y | y
   · exact (uh X12).at'.dsk.vol.footKey (uh G12).at'.cont.blk (by decide) (by decide) (by decide) y
   · have:=uh hbz;omega))
 have O13:=hide ((uh O12).kept hw13.kept (fun y=>by
   rcases y with y | y
   · exact (uh X12).at'.dsk.vol.footKey (uh O12).blk (by decide) (by decide) (by decide) y
   · have:=uh hbz1;omega))
 have RL13:=hide (ownsRow_kept hw13.kept (uh RL12) (fun g hg y=>by
   rcases y with y | y
   · obtain ⟨cs',fr',hb'⟩:=row_blk (uh RL12) hg
     exact (uh X12).at'.dsk.vol.footKey hb' (by decide) (by decide) (by decide) y
   · exact row_ne (uh RL12) (uh X12).at'.cont.blk (by decide) g hg y))
 have X13:=hide x13
 clear hw13 x13 hnf X12 G12 O12 RL12
 go_wp2_with fail
 refine ((uh X13).av.holds (uh X13).at'.cont).mono ?_
 rintro e w14 ⟨rfl,b14⟩
 have X14:=hide ((uh X13).later b14)
 have A14:=hide ((uh A13).later b14)
 have O14:=hide ((uh O13).below b14)
 have M14:=hide ((uh M13).below b14)
 have RL14:=hide (ownsRow_kept (Kept.of_below (S:=fun _=>False) b14) (uh RL13) (fun _ _=>id))
 clear b14 X13 A13 O13 M13 RL13
 go_wp2_with fail
 refine ((uh A14).holds (uh M14)).mono ?_
 rintro e w15 ⟨rfl,b15⟩
 have X15:=hide ((uh X14).later b15)
 have O15:=hide ((uh O14).below b15)
 have RL15:=hide (ownsRow_kept (Kept.of_below (S:=fun _=>False) b15) (uh RL14) (fun _ _=>id))
 clear b15 X14 A14 O14 M14 RL14
 go_wp2_with fail
 refine ((uh X15).av.holdsOf sOne (by unfold maxLen;decide) 0 rfl rfl (uh O15)).mono ?_
 rintro e w16 ⟨rfl,b16⟩
 have X16:=hide ((uh X15).later b16)
 have RL16:=hide (ownsRow_kept (Kept.of_below (S:=fun _=>False) b16) (uh RL15) (fun _ _=>id))
 have c16:w16.cell? ⟨lg,0,none⟩=some (.string ⟨#[111,110,101]⟩):=row_at (uh RL16) 0 _ rfl
 have ck:=hide (diskCheck_any w16 d2 v2 C13 L13 V13 (uh X16).at'.dsk (by have:=(uh X16).held.vol.file.seven;omega) (uh X16).held.vol.file.most (fun f hf=>by rw [(uh X16).held.vol.firsts] at hf;exact (uh X16).held.vol.sound.firstOK hf))
 have lk:=hide (fun W (hb:Below w16.heap.size w16 W)=>keepLooked_any W d2 v2 C13 L13 V6.C V13 6 E4 ((uh X16).later hb).at'.dsk (uh X16).held.vol ((uh HG).below ((uh X16).later hb).at'.below))
 have B16:=hide (uh X16).at'.below
 obtain ⟨st,hs0⟩: ∃ st,st=checkR V13:=⟨_,rfl⟩
 rw [← hs0] at ck lk
 clear b16 X15 O15 RL15 RL16 X16 hs0
 unfold stateCells at ck lk
 go_wp2_with fail
 refine (uh ck).mono ?_
 rintro e w17 ⟨rfl,b17⟩
 have B17:=hide ((uh B16).trans (b17.mono (uh B16).size))
 have L17:=hide (uh lk w17 b17)
 clear b17 ck lk B16 c16
 go_wp2_with fail
 refine (uh L17).mono ?_
 rintro e w18 ⟨rfl,b18⟩
 have B18:=hide ((uh B17).trans (b18.mono (uh B17).size))
 clear b18 L17 B17
 go_wp2
 go_ret
 exact ⟨rfl,uh B18⟩
end Go.Proofs.YtknjjjenklfeoaaGreatDoor
namespace Go.Proofs.YtknjjjenklfeoaaGreatDoor
open Go.RowKit
theorem var_cell {P:Program} {w:World} {n:String} {g:Nat} {cs:Array Value} {x:Value} (hn:P.globalNamed n=some g) (h:w.var? P n=some cs) (hx:cs.toList=[x]):w.cell? ⟨g,0,none⟩=some x:=by
 unfold World.var? at h
 rw [hn] at h
 simp only [Option.bind_some] at h
 have hcs:cs= #[x]:=Array.eq_one_of_toList hx
 subst hcs
 split at h
 · rename_i c t fr hh
   injection h with h
   subst h
   exact (cell_blk hh 0).trans rfl
 · cases h
theorem laid_iface {w:World} {n nm:String} {d:DataW Unit} {r:List (String × DataW Unit)} {ps:List MemPlace} (g:Nat) (h:DataW.LaidVars Tryz.prog w ((n,.iface nm d) :: r) ps)
   (hn:Tryz.prog.globalNamed n=some g) (ht:(Tryz.prog.globals[g]?).map (·.type)=some 98):(∃ u v,w.cell? ⟨g,0,none⟩=some (.iface u v))∧ ∃ q,DataW.LaidVars Tryz.prog w r q:=by
 obtain ⟨g',t,cs,fuel,p,q,h1,h2,h3,h4,h5,_⟩:=h
 obtain rfl:g=g':=Option.some.inj (hn.symm.trans h1)
 obtain rfl:98=t:=Option.some.inj (ht.symm.trans h2)
 obtain ⟨_,u,v,hcs,_⟩:=iface_of_trod Tryz.underlying98 h4
 exact ⟨⟨u,v,var_cell hn h3 hcs⟩,q,h5⟩
theorem error_named: ∀ ty,ty<Tryz.prog.types.size→Tryz.prog.rowNamed ty [101,114,114,111,114]=true→ty=98:=by
 have h:(List.range Tryz.prog.types.size).all (fun t=> !(Tryz.prog.rowNamed t [101,114,114,111,114]) || t == 98)=true:=by kernel_rfl
 intro ty hty hr
 have:=List.all_eq_true.1 h ty (List.mem_range.2 hty)
 rw [hr] at this
 simpa using this
theorem glob_of_laid {W:World} (h:laidMetH Tryz.prog Rows.anyRow.laid W):Glob W:=by
 have h' : laidMet Tryz.prog [("vellum/volume.errLength", Rows.laid_vellum_volume_errLength), ("vellum/volume.errHead", Rows.laid_vellum_volume_errHead), ("vellum/volume.errList", Rows.laid_vellum_volume_errList), ("vellum/volume.errNowhere", Rows.laid_vellum_volume_errNowhere), ("vellum/volume.errTwice", Rows.laid_vellum_volume_errTwice), ("vellum/volume.errBehind", Rows.laid_vellum_volume_errBehind), ("vellum/volume.errCount", Rows.laid_vellum_volume_errCount), ("vellum/volume.errMark", Rows.laid_vellum_volume_errMark)] W ∧ handlesMet Tryz.prog [("errors.errorType", Rows.laid_errors_errorType)] W := h
 obtain ⟨⟨ps,hl,_⟩,hh⟩:=h'
 obtain ⟨e0,_,hl⟩:=laid_iface 0 hl (by kernel_rfl) (by kernel_rfl)
 obtain ⟨e1,_,hl⟩:=laid_iface 1 hl (by kernel_rfl) (by kernel_rfl)
 obtain ⟨e2,_,hl⟩:=laid_iface 2 hl (by kernel_rfl) (by kernel_rfl)
 obtain ⟨e6,_,hl⟩:=laid_iface 6 hl (by kernel_rfl) (by kernel_rfl)
 obtain ⟨e7,_,hl⟩:=laid_iface 7 hl (by kernel_rfl) (by kernel_rfl)
 obtain ⟨e8,_,hl⟩:=laid_iface 8 hl (by kernel_rfl) (by kernel_rfl)
 obtain ⟨e3,_,hl⟩:=laid_iface 3 hl (by kernel_rfl) (by kernel_rfl)
 obtain ⟨e4,_,_⟩:=laid_iface 4 hl (by kernel_rfl) (by kernel_rfl)
 have hx := hh ("errors.errorType", Rows.laid_errors_errorType) (List.mem_singleton.2 rfl)
 have hx' : ∃ name u ty, (Rows.laid_errors_errorType : DataW Unit).handleName? = some name ∧ (Tryz.prog.cutTypes.find? (·.1 == "internal/reflectlite.rtype")).map (·.2) = some u ∧ ty < Tryz.prog.types.size ∧ Tryz.prog.rowNamed ty name = true ∧ W.var? Tryz.prog "errors.errorType" = some #[.iface u (.agg #[typeHandle Tryz.prog ty])] := hx
 obtain ⟨name,u,ty,h1,h2,h3,h4,h5⟩:=hx'
 obtain rfl:([101,114,114,111,114]:List UInt8)=name:=Option.some.inj ((show (Rows.laid_errors_errorType:DataW Unit).handleName? = some [101,114,114,111,114] by kernel_rfl).symm.trans h1)
 obtain rfl : 246 = u := Option.some.inj ((show (Tryz.prog.cutTypes.find? (·.1 == "internal/reflectlite.rtype")).map (·.2) = some 246 by kernel_rfl).symm.trans h2)
 have hty:=error_named ty h3 h4
 subst hty
 have e5 : W.cell? ⟨5, 0, none⟩ = some (.iface 246 (.agg #[typeHandle Tryz.prog 98])) := var_cell (show Tryz.prog.globalNamed "errors.errorType" = some 5 by kernel_rfl) h5 rfl
 have hsz:Tryz.prog.globals.size=10:=by kernel_rfl
 have e5':W.cell? ⟨5,0,none⟩=some (.iface 246 (.agg #[.pointer (some ⟨10,98,none⟩)])):=by
   rw [e5]
   unfold typeHandle
   rw [hsz]
 refine ⟨fun g hg=> ?_,e5'⟩
 have:g=0∨g=1∨g=2∨g=3∨g=4∨g=5∨g=6∨g=7∨g=8:=by omega
 rcases this with rfl | rfl | rfl | rfl | rfl | rfl | rfl | rfl | rfl
 · exact e0
 · exact e1
 · exact e2
 · exact e3
 · exact e4
 · exact ⟨_,_,e5'⟩
 · exact e6
 · exact e7
 · exact e8
end Go.Proofs.YtknjjjenklfeoaaGreatDoor
namespace Go.Proofs.YtknjjjenklfeoaaGreatDoor
open Go.RowKit
attribute [local go_sem ↓] buildSlice_mark
attribute [local go_sem] run_bsMark
end Go.Proofs.YtknjjjenklfeoaaGreatDoor
namespace Go.Proofs.YtknjjjenklfeoaaGreatDoor
open Go.RowKit
attribute [local go_sem ↓] loadVar_clus storeVar_clus zeroValue_clus loadVar_op equalIn_clus
attribute [local go_sem] run_loadClus run_storeClus run_zeroClus run_storeClus_new run_loadClus_new zc_length run_loadOp HasAt_drew cellsAt_drew
structure Stepped (w w':World) (p b:Nat) (P:PairR) (S:Nat→Prop) (B:BookR) (U:Nat→Prop) (P':PairR) (S':Nat→Prop) (V':BookV) (B':BookR) (U':Nat→Prop):Prop where
 at':PairAt w' p P' S'
 book:BookAt w' b V' B' U'
 base:P'.B=P.B
 log:P'.V.L.length≤P.V.L.length+100
 logp:0<P.V.L.length→0<P'.V.L.length
 marks:P'.ms.length≤P.ms.length+1
 next:B'.next≤B.next+2
 files:B'.files.length≤B.files.length+4
 writes:B'.writes.length≤B.writes.length+4
 names:B'.names.length≤B.names.length+4
 lowF: ∀ x ∈ B'.files,x ∈ B.files∨x.n≤258
 lowW: ∀ x ∈ B'.writes,x ∈ B.writes∨x.n≤P.V.L.length+2
 lowN: ∀ x ∈ B'.names,x ∈ B.names∨x.n≤8
 kept:Kept (fun k=>S k∨U k) w w'
 newS: ∀ k,S' k→S k∨w.heap.size≤k
 newU: ∀ k,U' k→U k∨w.heap.size≤k
 apart: ∀ k,S' k→ ¬ U' k
theorem Stepped.none {w w':World} {p b:Nat} {P:PairR} {S:Nat→Prop} {V:BookV} {B:BookR} {U:Nat→Prop} (h:PairAt w p P S) (hb:BookAt w b V B U) (hSU: ∀ k,S k→ ¬ U k) (hB:Below w.heap.size w w'):Stepped w w' p b P S B U P S V B U:=
 ⟨h.below hB,hb.below hB,rfl,by omega,id,by omega,by omega,by omega,by omega,by omega,fun x hx=>Or.inl hx,fun x hx=>Or.inl hx,fun x hx=>Or.inl hx,Kept.of_below hB,fun k hk=>Or.inl hk,fun k hk=>Or.inl hk,hSU⟩
end Go.Proofs.YtknjjjenklfeoaaGreatDoor
namespace Go.Proofs.YtknjjjenklfeoaaGreatDoor
open Go.RowKit
attribute [local go_sem ↓] loadVar_op storeVar_op zeroValue_op build_disk
attribute [local go_sem] run_loadOp run_zeroOp run_storeOp_new
theorem run_bDisk0 {w:World}:(bDisk #[]).run Tryz.prog w= .ok (.agg (diskCells ⟨zD,[]⟩ (.slice none 0 0)).toArray) w:=by
 have hz:=(zero_of_info (P:=Tryz.prog) (t:=70) (v:= .agg (diskCells ⟨zD,[]⟩ (.slice none 0 0)).toArray) (n:=4097) (by kernel_rfl)).1
 exact run_build_struct w 70 _ (.agg (diskCells ⟨zD,[]⟩ (.slice none 0 0)).toArray) #[(0,4096),(4096,1)] #[] _ Tryz.underlying70 hz (fun w=>by kernel_rfl) rfl
attribute [local go_sem] run_bDisk0
structure Stepping (w w':World) (p' b:Nat) (P:PairR) (S:Nat→Prop) (B:BookR) (U:Nat→Prop) (P':PairR) (S':Nat→Prop) (V':BookV) (B':BookR) (U':Nat→Prop):Prop where
 at':PairAt w' p' P' S'
 book:BookAt w' b V' B' U'
 log:P'.V.L.length≤P.V.L.length+100
 marks:P'.ms.length≤P.ms.length+2
 next:B'.next≤B.next+2
 files:B'.files.length≤B.files.length+4
 writes:B'.writes.length≤B.writes.length+4
 names:B'.names.length≤B.names.length+4
 lowF: ∀ x ∈ B'.files,x ∈ B.files∨x.n≤258
 lowW: ∀ x ∈ B'.writes,x ∈ B.writes∨x.n≤P.V.L.length+2
 lowN: ∀ x ∈ B'.names,x ∈ B.names∨x.n≤8
 kept:Kept (fun k=>S k∨U k) w w'
 newS: ∀ k,S' k→S k∨w.heap.size≤k
 newU: ∀ k,U' k→U k∨w.heap.size≤k
 apart: ∀ k,S' k→ ¬ U' k
structure Playing (w w':World) (i p q b:Nat) (P Q:PairR) (S R:Nat→Prop) (V:BookV) (B:BookR) (U:Nat→Prop):Prop where
 one:PairAt w' p P S
 two:PairAt w' q Q R
 book:BookAt w' b V B U
 sr: ∀ k,S k→ ¬ R k
 su: ∀ k,S k→ ¬ U k
 ru: ∀ k,R k→ ¬ U k
 s0: ∀ k,S k→w.heap.size≤k
 r0: ∀ k,R k→w.heap.size≤k
 u0: ∀ k,U k→w.heap.size≤k
 below:Below w.heap.size w w'
 logP:P.V.L.length≤20+100*i
 logQ:Q.V.L.length≤20+100*i
 msP:P.ms.length≤4+2*i
 msQ:Q.ms.length≤4+2*i
 next:B.next≤2*i
 lf:B.files.length≤4*i
 lw:B.writes.length≤4*i
 ln:B.names.length≤4*i
 ef: ∀ x ∈ B.files,x.n≤258
 ew: ∀ x ∈ B.writes,x.n≤100+100*i
 en: ∀ x ∈ B.names,x.n≤8
section
variable {w w1 w2:World} {i p q b:Nat} {P Q:PairR} {S R:Nat→Prop} {V:BookV} {B:BookR} {U:Nat→Prop}
theorem Playing.low (h:Playing w w1 i p q b P Q S R V B U) (hi:i≤1048576):BookLow B:=
 ⟨by have:=h.ln;omega,by have:=h.lf;omega,by have:=h.lw;omega,fun x hx=>by have:=h.en x hx;omega,fun x hx=>by have:=h.ef x hx;omega,fun x hx=>by have:=h.ew x hx;omega⟩
theorem Playing.later (h:Playing w w1 i p q b P Q S R V B U) (hb:Below w1.heap.size w1 w2):Playing w w2 i p q b P Q S R V B U:=
 { h with one:=h.one.below hb,two:=h.two.below hb,book:=h.book.below hb,below:=h.below.trans (hb.mono h.below.size) }
theorem Playing.on (h:Playing w w1 i p q b P Q S R V B U):Playing w w1 (i+1) p q b P Q S R V B U:=
 { h with
   logP:=by have:=h.logP;omega
   logQ:=by have:=h.logQ;omega
   msP:=by have:=h.msP;omega
   msQ:=by have:=h.msQ;omega
   next:=by have:=h.next;omega
   lf:=by have:=h.lf;omega
   lw:=by have:=h.lw;omega
   ln:=by have:=h.ln;omega
   ew:=fun x hx=>by have:=h.ew x hx;omega }
theorem Playing.step {p':Nat} {P':PairR} {S':Nat→Prop} {V':BookV} {B':BookR} {U':Nat→Prop} (h:Playing w w1 i p q b P Q S R V B U) (hs:Stepping w1 w2 p' b P S B U P' S' V' B' U'):Playing w w2 (i+1) p' q b P' Q S' R V' B' U':=by
 have hR: ∀ k,R k→ ¬ (S k∨U k):=fun k hk hx=>by
   rcases hx with x | x
   · exact h.sr k x hk
   · exact h.ru k hk x
 refine ⟨hs.at',h.two.kept hs.kept hR,hs.book,fun k hk hr=> ?_,hs.apart,fun k hr hu=> ?_,fun k hk=> ?_,h.r0,fun k hk=> ?_,?_,?_,?_,?_,?_,?_,?_,?_,?_,fun x hx=> ?_,fun x hx=> ?_,fun x hx=> ?_⟩
 · rcases hs.newS k hk with x | x
   · exact h.sr k x hr
   · have:=h.two.lt k hr;omega
 · rcases hs.newU k hu with x | x
   · exact h.ru k hr x
   · have:=h.two.lt k hr;omega
 · rcases hs.newS k hk with x | x
   · exact h.s0 k x
   · have:=h.below.size;omega
 · rcases hs.newU k hk with x | x
   · exact h.u0 k x
   · have:=h.below.size;omega
 · exact h.below.trans ⟨hs.kept.os,hs.kept.tape,hs.kept.output,hs.kept.size,fun k hk=>hs.kept.block k (Nat.lt_of_lt_of_le hk h.below.size) (fun hx=>by
     rcases hx with x | x
     · have:=h.s0 k x;omega
     · have:=h.u0 k x;omega)⟩
 · have:=hs.log;have:=h.logP;omega
 · have:=h.logQ;omega
 · have:=hs.marks;have:=h.msP;omega
 · have:=h.msQ;omega
 · have:=hs.next;have:=h.next;omega
 · have:=hs.files;have:=h.lf;omega
 · have:=hs.writes;have:=h.lw;omega
 · have:=hs.names;have:=h.ln;omega
 · rcases hs.lowF x hx with y | y
   · exact h.ef x y
   · exact y
 · rcases hs.lowW x hx with y | y
   · have:=h.ew x y;omega
   · have:=h.logP;omega
 · rcases hs.lowN x hx with y | y
   · exact h.en x y
   · exact y
end
end Go.Proofs.YtknjjjenklfeoaaGreatDoor
namespace Go.Proofs.YtknjjjenklfeoaaGreatDoor.Row1
open Go.ChangeShapes Go.WideShapes Go.RowKit
def shutB (P:Program) (t:TypeId):Bool:=
 match P.underlying t with
 | some (.slice e)=>decide (0<P.cellsOf e) && decide (e<P.types.size)
 | some (.pointer e)=>decide (e<P.types.size)
 | some (.struct fs)=>fs.toList.all fun f=>decide (f.type<P.types.size)
 | some (.array _ e)=>decide (e<P.types.size)
 | some (.map _ e)=>decide (e<P.types.size)
 | _=>true
def Shut (P:Program):Prop:= ∀ t,t<P.types.size→shutB P t=true
theorem shut_of {P:Program} (h:((List.range P.types.size).all (shutB P))=true):Shut P:=fun t ht=>List.all_eq_true.1 h t (List.mem_range.2 ht)
theorem shut:Shut Tryz.prog:=shut_of (by kernel_rfl)
section
variable {H:Type} {enc:TypeId × Value→H} {P:Program} {w:World} {base:Nat} {sp:Nat→Bool}
theorem step_spare (hz:Shut P) {r r':TypeId→List Value→Option (DataW H × List MemPlace)}
   (hr: ∀ t cs x,t<P.types.size→r t cs=some x→(∀ p ∈ x.2,sp p.block=true)→r' t cs=some x) {t:TypeId} {cs:List Value} {x:DataW H × List MemPlace} (hT:t<P.types.size)
   (h:DataW.trodStep enc P w base (fun _=>true) true r t cs=some x) (hs: ∀ p ∈ x.2,sp p.block=true):
   DataW.trodStep enc P w base sp true r' t cs=some x:=by
 have hz':=hz t hT
 unfold shutB at hz'
 unfold DataW.trodStep at h ⊢
 split at h
 case h_6 e a ht=>
   rw [ht] at hz'
   have hE:e<P.types.size:=by simpa using hz'
   simp only [Option.map_eq_some_iff,Option.bind_eq_some_iff] at h ⊢
   obtain ⟨y,⟨cs',hc,hy⟩,rfl⟩:=h
   exact ⟨y,⟨cs',hc,hr _ _ _ hE hy (fun p hp=>hs p (by simp [hp]))⟩,rfl⟩
 case h_8 e a len cap ht=>
   rw [ht] at hz'
   obtain ⟨he0,hE⟩:0<P.cellsOf e∧e<P.types.size:=by simpa using hz'
   simp only [if_true] at h ⊢
   split at h
   · rename_i hc
     rw [if_pos hc]
     simp only [Option.map_eq_some_iff,Option.bind_eq_some_iff] at h ⊢
     obtain ⟨elems,he,rest,hrest,rfl⟩:=h
     have hrl:rest.length=cap - len:=by simpa using mapM_some_length hrest
     have one: ∀ (i:Nat) (y:DataW H × List MemPlace),y ∈ elems++rest→
         (w.cells? base (a.add (i*P.cellsOf e)) (P.cellsOf e)).bind (r e)=some y→(w.cells? base (a.add (i*P.cellsOf e)) (P.cellsOf e)).bind (r' e)=some y:=by
       intro i y hy hv
       simp only [Option.bind_eq_some_iff] at hv ⊢
       obtain ⟨cs',hc',hy'⟩:=hv
       refine ⟨cs',hc',hr _ _ _ hE hy' (fun p hp=>hs p ?_)⟩
       simp only [List.mem_append,List.mem_flatMap]
       exact Or.inr ⟨y,by simpa using hy,hp⟩
     refine ⟨elems,mapM_carry he (fun i y _ hy=>one i y (by simp [hy])),rest,?_,rfl⟩
     by_cases hcap:cap - len=0
     · have hr0:rest=[]:=List.eq_nil_of_length_eq_zero (hrl.trans hcap)
       subst hr0
       simp [hcap]
     · have hb:sp a.block=true:=by
         refine hs (.cell a.block (a.off+0)) ?_
         refine List.mem_append.2 (Or.inl (MemPlace.mem_row.2 ⟨0,?_,rfl⟩))
         exact Nat.mul_pos (by omega) he0
       rw [if_pos hb]
       exact mapM_carry hrest (fun j y _ hy=>one (len+j) y (by simp [hy]))
   · cases h
 case h_9 _ fs ht=>
   rw [ht] at hz'
   have hE: ∀ f ∈ fs.toList,f.type<P.types.size:=fun f hf=>by simpa using List.all_eq_true.1 hz' f hf
   split at h
   · rename_i hc
     rw [if_pos hc]
     simp only [Option.map_eq_some_iff] at h ⊢
     obtain ⟨xs,hx,rfl⟩:=h
     exact ⟨xs,mapM_carry hx (fun f y hf hy hv=>hr _ _ _ (hE f hf) hv (fun p hp=>hs p (List.mem_flatMap.2 ⟨y,hy,hp⟩))),rfl⟩
   · cases h
 case h_10 _ _ e ht=>
   rw [ht] at hz'
   have hE:e<P.types.size:=by simpa using hz'
   split at h
   · rename_i hc
     rw [if_pos hc]
     simp only [Option.map_eq_some_iff] at h ⊢
     obtain ⟨xs,hx,rfl⟩:=h
     exact ⟨xs,mapM_carry hx (fun f y _ hy hv=>hr _ _ _ hE hv (fun p hp=>hs p (List.mem_flatMap.2 ⟨y,hy,hp⟩))),rfl⟩
   · cases h
 case h_14 k e b ht=>
   rw [ht] at hz'
   have hE:e<P.types.size:=by simpa using hz'
   split at h
   · rename_i es clock hb
     split at h
     · rename_i hc
       simp only [Option.bind_eq_some_iff] at h
       obtain ⟨entries,he,hd⟩:=h
       split at hd
       · rename_i hris
         have hx:=Option.some.inj hd
         subst hx
         simp only [if_pos hc,Option.bind_eq_some_iff]
         refine ⟨entries,mapM_carry he (fun x y _ hy hv=> ?_),by simp [hris]⟩
         simp only [Option.bind_eq_some_iff] at hv ⊢
         obtain ⟨key,hk,hz⟩:=hv
         refine ⟨key,hk,?_⟩
         split at hz
         · rename_i hf
           rw [if_pos hf]
           simp only [Option.map_eq_some_iff] at hz ⊢
           obtain ⟨q,hq,rfl⟩:=hz
           exact ⟨q,hr _ _ _ hE hq (fun p hp=>hs p (by simp only [List.mem_cons,List.mem_flatMap];exact Or.inr ⟨_,hy,hp⟩)),rfl⟩
         · cases hz
       · cases hd
     · cases h
   · cases h
 all_goals first | exact h | cases h
theorem trod_spare (hz:Shut P): ∀ (n:Nat) (t:TypeId) (cs:List Value) (x:DataW H × List MemPlace),t<P.types.size→
   DataW.trod enc P w base (fun _=>true) true n t cs=some x→(∀ p ∈ x.2,sp p.block=true)→DataW.trod enc P w base sp true n t cs=some x:=by
 intro n
 induction n with
 | zero=>intro t cs x _ h;simp [DataW.trod] at h
 | succ n ih=>
   intro t cs x hT h hs
   rw [DataW.trod_step] at h ⊢
   exact step_spare hz ih hT h hs
theorem trodAll_spare {w':World} (hz:Shut P) (hB:Below w.heap.size w w'):
   ∀ {ts:List TypeId} {vs:List Value} {ds:List (DataW H)} {ps:List MemPlace},(∀ t ∈ ts,t<P.types.size)→DataW.TrodAll enc P w base (fun _=>true) true ts vs ds ps→
     (∀ p ∈ ps,sp p.block=true)→DataW.TrodAll enc P w' base sp true ts vs ds ps
 | [],[],[],_,_,h,_=>h
 | _ :: _,_ :: _,_ :: _,_,hT,⟨a,b,⟨n,h1⟩,h2,e⟩,hs=>by
   subst e
   refine ⟨a,b,⟨n,?_⟩,trodAll_spare hz hB (fun t ht=>hT t (List.mem_cons_of_mem _ ht)) h2 (fun p hp=>hs p (List.mem_append_right _ hp)),rfl⟩
   have h3:=trod_spare (sp:=sp) hz n _ _ _ (hT _ List.mem_cons_self) h1 (fun p hp=>hs p (List.mem_append_left _ hp))
   exact DataW.trod_carry n _ _ _ h3 (fun p hp=>hB.same (DataW.trod_lt n _ _ _ h3 p hp))
end
end Go.Proofs.YtknjjjenklfeoaaGreatDoor.Row1
namespace Go.Proofs.YtknjjjenklfeoaaGreatDoor
open Go.RowKit Go.ChangeShapes Go.WideShapes Go.Deep
section
variable {H:Type} {enc:TypeId × Value→H} {w:World} {sp:Nat→Bool}
theorem six {α:Type} {l:List α} (h:l.length=6): ∃ a b c d e f,l=[a,b,c,d,e,f]:=by
 match l,h with
 | [a,b,c,d,e,f],_=>exact ⟨a,b,c,d,e,f,rfl⟩
theorem one_int:Tryz.prog.cellsOf 3=1:=by kernel_rfl
theorem one_string:Tryz.prog.cellsOf 9=1:=by kernel_rfl
theorem bulk_pos: ∀ d:DataW H,1≤Rows.uptoBulk d:=by
 intro d
 cases d with
 | lit l=>cases l <;> simp [Rows.uptoBulk]
 | _=>simp [Rows.uptoBulk]
theorem bulk_len: ∀ ds:List (DataW H),ds.length≤Rows.uptoBulkAll ds
 | []=>Nat.le_refl 0
 | d :: r=>by
   have:=bulk_pos d
   have:=bulk_len r
   show r.length+1≤Rows.uptoBulk d+Rows.uptoBulkAll r
   omega
theorem bulk_two {D:Nat→DataW H}: ∀ {l:List Nat},(∀ i ∈ l,2≤Rows.uptoBulk (D i))→2*l.length≤Rows.uptoBulkAll (l.map D)
 | [],_=>Nat.le_refl 0
 | i :: r,h=>by
   have h1:=h i List.mem_cons_self
   have h2:=bulk_two (D:=D) (l:=r) (fun k hk=>h k (List.mem_cons_of_mem _ hk))
   show 2*(r.length+1)≤Rows.uptoBulk (D i)+Rows.uptoBulkAll (r.map D)
   omega
theorem range_of_cells {g o n:Nat} {spot:Option Nat} {cs:List Value} (hn:cs.length=n) (h0:0<n) (h:w.cells? 0 ⟨g,o,spot⟩ n=some cs):(spot=none→w.rangeAt g o cs)∧g<w.heap.size:=by
 refine ⟨fun hs=> ?_,World.cells?_block h h0⟩
 subst hs
 intro j v hj
 unfold World.cells? at h
 rw [if_pos (Nat.zero_le _)] at h
 have hj':j<n:=by
   rcases Nat.lt_or_ge j n with h' | h'
   · exact h'
   · rw [List.getElem?_eq_none (by omega)] at hj
     cases hj
 have:=mapM_some_get h j j (by rw [List.getElem?_range hj'])
 have e:(Addr.add ⟨g,o,none⟩ j)=⟨g,o+j,none⟩:=by
   unfold Addr.add
   split
   · simp
   · rfl
 rw [e] at this
 rw [this,hj]
end
section
variable {H:Type} {enc:TypeId × Value→H} {w:World} {sp:Nat→Bool}
theorem two_of {α:Type} {l:List α} (h:l.length=2): ∃ a b,l=[a,b]:=by
 match l,h with
 | [a,b],_=>exact ⟨a,b,rfl⟩
theorem open_step {n:Nat} {cs:List Value} {x:DataW H × List MemPlace} (h:DataW.trod enc Tryz.prog w 0 sp true n 56 cs=some x):
   ∃ o:StepR,cs=stepCells o∧(o.text.size≤maxLen∧ -9223372036854775808≤o.block∧o.block≤9223372036854775807)∧ ∃ ys,x.1= .agg ys∧0<ys.length:=by
 obtain ⟨xs,m,_,rfl,hl,hlen,hf⟩:=DataW.trod_struct Tryz.underlying56 h
 have hl6:cs.length=2:=hl.trans (by kernel_rfl)
 have hx6:xs.length=2:=hlen
 obtain ⟨c0,c1,rfl⟩:=two_of hl6
 obtain ⟨x0,x1,rfl⟩:=two_of hx6
 have f0:DataW.trod enc Tryz.prog w 0 sp true m 3 (([c0,c1].drop 0).take (Tryz.prog.cellsOf 3))=some x0:=hf 0 _ rfl
 have f1:DataW.trod enc Tryz.prog w 0 sp true m 9 (([c0,c1].drop 1).take (Tryz.prog.cellsOf 9))=some x1:=hf 1 _ rfl
 rw [one_int] at f0
 rw [one_string] at f1
 change DataW.trod enc Tryz.prog w 0 sp true m _ [c0]=_ at f0
 change DataW.trod enc Tryz.prog w 0 sp true m _ [c1]=_ at f1
 obtain ⟨k,hk,_,hwf⟩:=DataW.trod_int (k:= .i64) (by kernel_rfl) f0
 obtain ⟨s,hs,_,hsl⟩:=DataW.trod_string (by kernel_rfl) f1
 obtain rfl:c0= .int .i64 k:=by simpa using hk
 obtain rfl:c1= .string s:=by simpa using hs
 have hr: -9223372036854775808≤k∧k≤9223372036854775807:=by
   simp [Lit.wf] at hwf
   have e1:IntKind.i64.min= -9223372036854775808:=by decide
   have e2:IntKind.i64.max=9223372036854775807:=by decide
   omega
 exact ⟨⟨k,s⟩,rfl,⟨hsl,hr⟩,_,rfl,by simp⟩
theorem cells_step:Tryz.prog.cellsOf 56=2:=by kernel_rfl
theorem open_steps {fuel:Nat} {a:Option Addr} {len cap:Nat} {x:DataW H × List MemPlace} (h:DataW.trod enc Tryz.prog w 0 (fun _=>true) true fuel 36 [.slice a len cap]=some x):
   ∃ ops:Nat→StepR,KRow w a len ops∧2*len≤Rows.uptoBulk x.1:=by
 rcases open_slice Tryz.underlying36 h with ⟨hc,rfl⟩ | ⟨b,len',cap',m,n,D,Pl,hc,_,hl,hm,hmm,rfl,hel⟩
 · obtain ⟨rfl,rfl,rfl⟩:a=none∧len=0∧cap=0:=by simpa using hc
   exact ⟨fun _=>⟨0,.empty⟩,⟨fun h0=>by omega,fun i hi=>by omega⟩,by omega⟩
 · obtain ⟨rfl,rfl,rfl⟩:a=some b∧len=len'∧cap=cap':=by simpa using hc
   simp only [if_true] at hmm
   subst hmm
   rw [cells_step] at hel
   have each: ∀ i,i<m→ ∃ o:StepR,w.cells? 0 (b.add (i*2)) 2=some (stepCells o)∧(o.text.size≤maxLen∧ -9223372036854775808≤o.block∧o.block≤9223372036854775807)∧2≤Rows.uptoBulk (D i):=by
     intro i hi
     obtain ⟨cs,h1,h2⟩:=hel i hi
     obtain ⟨o,rfl,ht,ys,hy,hp⟩:=open_step h2
     refine ⟨o,h1,ht,?_⟩
     have hy':D i= .agg ys:=hy
     rw [hy']
     have:=bulk_len ys
     show 2≤Rows.uptoBulkAll ys+1
     omega
   have:Inhabited StepR:=⟨⟨0,.empty⟩⟩
   obtain ⟨ops,hops⟩:=choose_lt each
   obtain ⟨g,o,spot⟩:=b
   refine ⟨ops,⟨fun h0=> ?_,fun i hi=>(hops i (by omega)).2.1⟩,?_⟩
   · have h1:=(hops 0 (by omega)).1
     have hspot:spot=none:=by
       have h2:=h1
       unfold World.cells? at h2
       rw [if_pos (Nat.zero_le _)] at h2
       have h3:=mapM_some_get h2 0 0 rfl
       simpa [Addr.add] using World.cell?_spot (h3.trans (rfl:(stepCells (ops 0))[0]? = some _))
     subst hspot
     have hadd: ∀ i,Addr.add ⟨g,o,none⟩ (i*2)=⟨g,o+i*2,none⟩:=by
       intro i
       unfold Addr.add
       split
       · simp
       · rfl
     refine ⟨g,o,rfl,?_,fun i hi=> ?_⟩
     · rw [hadd] at h1
       exact (range_of_cells (n:=2) rfl (by decide) h1).2
     · have h4:=(hops i (by omega)).1
       rw [hadd] at h4
       exact (range_of_cells (n:=2) rfl (by decide) h4).1 rfl
   · have h5:=bulk_two (D:=D) (l:=List.range len) (fun i hi=>(hops i (by have:=List.mem_range.1 hi;omega)).2.2)
     rw [List.length_range] at h5
     show 2*len≤Rows.uptoBulkAll ((List.range len).map D)+Rows.uptoBulkAll _+1
     omega
end
end Go.Proofs.YtknjjjenklfeoaaGreatDoor
namespace Go.Proofs.YtknjjjenklfeoaaGreatDoor.Again
open Go.ChangeShapes Go.WideShapes Go.ChangeAt Go.RowKit
theorem trodAll_three {H:Type} {enc:TypeId × Value→H} {P:Program} {w:World} {base:Nat} {spare:Nat→Bool} {held:Bool} {t t' t2:TypeId} {args:Array Value} {ds:List (DataW H)} {ps:List MemPlace} (h:DataW.TrodAll enc P w base spare held [t,t',t2] args.toList ds ps):
   ∃ v v' v2 d d' d2,args= #[v,v',v2]∧ds=[d,d',d2]∧(∃ p,DataW.Trod enc P w base spare held t v d p)∧(∃ p,DataW.Trod enc P w base spare held t' v' d' p)∧ ∃ p,DataW.Trod enc P w base spare held t2 v2 d2 p:=by
 obtain ⟨v,vs,d,ds',p,q,hargs,rfl,rfl,hd,hrest⟩:=trodAll_cons h
 obtain ⟨v',vs',d',ds'',p',q',rfl,rfl,rfl,hd',hrest'⟩:=trodAll_cons hrest
 obtain ⟨v2,vs2,d2,ds2,p2,q2,rfl,rfl,rfl,hd2,hrest2⟩:=trodAll_cons hrest'
 obtain ⟨rfl,rfl,rfl⟩:=trodAll_nil hrest2
 exact ⟨v,v',v2,d,d',d2,by rw [← Array.toArray_toList (xs:=args),hargs],rfl,⟨_,hd⟩,⟨_,hd'⟩,⟨_,hd2⟩⟩
theorem typesB:((Tryz.f7.params.toList).all fun t=>decide (t<Tryz.prog.types.size))=true:=by kernel_rfl
theorem contract (H:Type) (enc:TypeId × Value→H) (W:World) (base:Nat) (args:Array Value) (ds gs:List (DataW H)) (before:List MemPlace)
   (hval: ∀ (j:Nat) t v,Tryz.f7.params[j]? = some t→args[j]? = some v→Value.okWide Tryz.prog W .any base t v)
   (hW:DataW.Whole enc Tryz.prog Tryz.f7.params.toList Rows.againSpec.vars false W args.toList ds gs before)
   (hsmall:Rows.uptoSmall H (ds++gs)=true) (hG:Glob W):
   Calls Tryz.prog 7 args W fun e W'=> ∃ v,e= .returned v∧Rows.againSpec.post enc Tryz.prog Tryz.f7 false true false false W args v W':=by
 have hW':=hW
 obtain ⟨p,q,hA0,hV,rfl,hfz,hnd⟩:=hW
 have hA1:DataW.TrodAll enc Tryz.prog W 0 (fun _=>true) true Tryz.f7.params.toList args.toList ds p:=hA0
 have hA:=hA1
 rw [Tryz.params7] at hA hval
 obtain ⟨v0,v1,v2,d0,d1,d2,rfl,rfl,⟨p0,h0⟩,⟨p1,h1⟩,⟨p2,h2⟩⟩:=trodAll_three hA
 obtain ⟨rfl,rfl⟩:=trodVars_none hV
 obtain ⟨a,len,cap,rfl⟩:=okWide_slice Tryz.underlying36 (hval 0 36 v0 rfl rfl)
 obtain ⟨a',len',cap',rfl⟩:=okWide_slice Tryz.underlying36 (hval 1 36 v1 rfl rfl)
 obtain ⟨a2,len2,cap2,rfl⟩:=okWide_slice Tryz.underlying36 (hval 2 36 v2 rfl rfl)
 obtain ⟨fuel,hf⟩:=h0
 obtain ⟨fuel',hf'⟩:=h1
 obtain ⟨fuel2,hf2⟩:=h2
 obtain ⟨st,hs,hb⟩:=open_steps hf
 obtain ⟨st',hs',hb'⟩:=open_steps hf'
 obtain ⟨st2,hs2,hb2⟩:=open_steps hf2
 have hbulk:Rows.uptoBulk d0+(Rows.uptoBulk d1+Rows.uptoBulk d2)≤1048576:=by
   have h1:Rows.uptoBulkAll ([d0,d1,d2]++[])≤1048576:=by simpa [Rows.uptoSmall] using hsmall
   have h3:Rows.uptoBulkAll ([d0,d1,d2]++[])=Rows.uptoBulk d0+(Rows.uptoBulk d1+(Rows.uptoBulk d2+0)):=rfl
   omega
 have e0:2*len≤Rows.uptoBulk d0:=hb
 have e1:2*len'≤Rows.uptoBulk d1:=hb'
 have e2:2*len2≤Rows.uptoBulk d2:=hb2
 simp only [List.append_nil] at hW'
 refine (again_any W hG a a' a2 len len' len2 cap cap' cap2 st st' st2 hs hs' hs2 (by omega) (by omega) (by omega)).mono fun e W' ⟨he,hB⟩=> ?_
 subst he
 have hT: ∀ t ∈ Tryz.f7.params.toList,t<Tryz.prog.types.size:=fun t ht=>of_decide_eq_true (List.all_eq_true.1 typesB t ht)
 have hold: ∀ x ∈ p,(fun b=>decide (b<W.heap.size)) x.block=true:=fun x hx=>by simpa using hW'.lt x (by simpa using hx)
 refine ⟨_,rfl,[d0,d1,d2],[],p,[],p,[],hW',?_,?_,rfl,World.keptBut_mono (fun x hx=>⟨hx,Or.inr (Or.inl hx)⟩) (hB.frame _),fun h=>by cases h⟩
 · exact trodAll_cons_mk (shut_bool (by kernel_rfl) _) trodAll_mk0
 · exact Row1.trodAll_spare Row1.shut hB hT hA1 hold
end Go.Proofs.YtknjjjenklfeoaaGreatDoor.Again
namespace Go.Proofs.YtknjjjenklfeoaaGreatDoor.Wit
open Go.RowKit
theorem own:ownKnob Tryz.prog.godebug=none:=by kernel_rfl
def low (P:Program):Nat:=(World.holding P default ⟨#[],#[],[]⟩).heap.size
def textOf:DataW Unit→List UInt8
 | .iface _ (.ptr (.agg [.lit (.string s)]))=>s
 | _=>[]
def cellOf (d:DataW Unit):Obj:= .cells #[.string ⟨(textOf d).toArray⟩] 287
def lay (h:Array Obj) (g:Nat) (v:Value):Array Obj:=h.modify g fun
 | .cells _ t frozen=> .cells #[v] t frozen
 | o=>o
def err (P:Program) (k:Nat):Value:= .iface 267 (.pointer (some ⟨low P+k,0,none⟩))
def laidWorld (P:Program) (os:Os):World:=
 let w0:=World.holding P os ⟨#[cellOf Rows.laid_vellum_volume_errLength,cellOf Rows.laid_vellum_volume_errHead,cellOf Rows.laid_vellum_volume_errList,cellOf Rows.laid_vellum_volume_errCount,cellOf Rows.laid_vellum_volume_errMark,cellOf Rows.laid_vellum_volume_errNowhere,cellOf Rows.laid_vellum_volume_errTwice,cellOf Rows.laid_vellum_volume_errBehind],#[],[]⟩
 let h0:=lay w0.heap 0 (err P 0)
 let h1:=lay h0 1 (err P 1)
 let h2:=lay h1 2 (err P 2)
 let h3:=lay h2 3 (err P 3)
 let h4:=lay h3 4 (err P 4)
 let h5:=lay h4 5 (.iface 246 (.agg #[.pointer (some ⟨10,98,none⟩)]))
 let h6:=lay h5 6 (err P 5)
 let h7:=lay h6 7 (err P 6)
 let h8:=lay h7 8 (err P 7)
 { w0 with heap:=h8 }
theorem laid_met (os:Os) (args:Array Value):laidMetH Tryz.prog Rows.blocksUptoRow.laid ((laidWorld Tryz.prog os).forCall (fun _ _=>0) ⟨#[],args,[]⟩).memory:=
 laidMetH_of_parts (laidMet_of_run' 8 (by kernel_rfl) (by kernel_rfl)) (by kernel_rfl)
theorem refs (os:Os) (args:Array Value):((laidWorld Tryz.prog os).forCall (fun _ _=>0) ⟨#[],args,[]⟩).variablesRefB Tryz.prog=true:=by kernel_rfl
theorem rows (os:Os) (args:Array Value):(((laidWorld Tryz.prog os).forCall (fun _ _=>0) ⟨#[],args,[]⟩).heap.toList.drop Tryz.prog.globals.size).take ((begin Tryz.prog (fun _ _=>0) default).world.heap.size - Tryz.prog.globals.size)=
     (begin Tryz.prog (fun _ _=>0) default).world.heap.toList.drop Tryz.prog.globals.size:=by kernel_rfl
end Go.Proofs.YtknjjjenklfeoaaGreatDoor.Wit
namespace Go.Proofs.YtknjjjenklfeoaaGreatDoor.Again
open Go.ChangeShapes Go.WideShapes Go.ChangeAt Go.RowKit
theorem reads (os:Os) {H:Type} (enc:TypeId × Value→H):
   DataW.whole enc Tryz.prog ((Wit.laidWorld Tryz.prog os).forCall (fun _ _=>0) ⟨#[],#[.slice none 0 0,.slice none 0 0,.slice none 0 0],[]⟩).memory Tryz.f7.params.toList Rows.againSpec.vars false #[Value.slice none 0 0,Value.slice none 0 0,Value.slice none 0 0].toList 8=some ([.nil,.nil,.nil],[],[]):=by kernel_rfl
theorem liftedUpto (os:Os) (started:os.Started) (H:Type) (enc:TypeId × Value→H) (F:Stop.Interp):
   ReturnsInHanded {} Tryz.checked os 7 .any ((Rows.OpenSpec.upto Rows.againSpec).preRow enc Tryz.prog Tryz.f7 Rows.againUptoRow.domain false Rows.againUptoRow.laid) (((Rows.OpenSpec.upto Rows.againSpec).at F).post enc Tryz.prog Tryz.f7 false true false false):=by
 refine returnsInHanded_of_row (C:=Tryz.checked) (s:=Rows.OpenSpec.upto Rows.againSpec) Wit.own started (by kernel_rfl) Tryz.func7
   (witness_row_atRef (enc:=enc) (C:=Tryz.checked) false (Wit.laidWorld Tryz.prog os) #[.slice none 0 0,.slice none 0 0,.slice none 0 0] rfl (Wit.refs os _) (Wit.rows os _) (by kernel_rfl)
     (OpenSpec.preRow_of_cond 8 (reads os enc) (by kernel_rfl) (fun k hk=>by cases hk;kernel_rfl) (by kernel_rfl) (Wit.laid_met os _))) ?_
 intro W base args ds gs before hval hW _ hcond _ hlaid _ _
 exact contract H enc W base args ds gs before hval hW (hcond _ rfl) (glob_of_laid hlaid)
theorem saidUpto:Rows.AgainUptoSaid:=
 OpenClaim.holds_of_cond 7 Tryz.f7 rfl rfl rfl rfl rfl rfl rfl ⟨rfl,rfl,rfl,rfl,rfl⟩ rfl rfl rfl rfl rfl (by kernel_rfl) Tryz.func7 (by kernel_rfl)
   (of_decide_eq_true (by kernel_rfl)) (by unfold Func.isWrapper;first | (rw [if_pos (by decide +kernel)];kernel_rfl) | (rw [if_neg (by decide +kernel)];exact ⟨rfl,rfl⟩))
   (fun os started H enc _ F=>by rw [OpenClaim.pre_eq_preRow];exact liftedUpto os started H enc F)
theorem plain (f:FuncId) (fn:Func) (hf:Tryz.pinned.checked.prog.funcNamed Rows.againUptoRow.func=some f) (hfn:Tryz.pinned.checked.prog.funcs[f]? = some fn):
   true=Tryz.pinned.checked.prog.looks []∧ ∀ (j:Nat) t,fn.params[j]? = some t→Tryz.pinned.checked.prog.wantsStandIn t=false:=by
 obtain rfl:f=7:=Option.some.inj ((show Tryz.prog.funcNamed Rows.againUptoRow.func=some 7 by kernel_rfl).symm.trans hf) |>.symm
 obtain rfl:fn=Tryz.f7:=(Option.some.inj (Tryz.func7.symm.trans hfn)).symm
 refine ⟨by kernel_rfl,fun j t ht=> ?_⟩
 rw [Tryz.params7] at ht
 obtain rfl:t=36:=by simpa using Array.mem_of_getElem? ht
 exact (show Tryz.prog.wantsStandIn 36=false by kernel_rfl)
theorem cardUpto:Rows.AgainUptoCardSaid:=
 Claim7.holds_tied_plain_at .later [] _ _ _ _ saidUpto (fun _ h=>by cases h) (by kernel_rfl) (fun _ h=>by cases h) againUpto_row_tie rfl ⟨rfl,rfl⟩ (by kernel_rfl) rfl plain (by kernel_rfl)
end Go.Proofs.YtknjjjenklfeoaaGreatDoor.Again
namespace Go.Proofs.YtknjjjenklfeoaaGreatDoor
theorem again_upto_card:Rows.AgainUptoCardSaid:=Again.cardUpto
end Go.Proofs.YtknjjjenklfeoaaGreatDoor
