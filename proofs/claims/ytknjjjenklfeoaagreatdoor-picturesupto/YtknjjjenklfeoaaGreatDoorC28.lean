import Derived.Test.YtknjjjenklfeoaaGreatDoorC27
import Derived.Test.YtknjjjenklfeoaaGreatDoorC25
set_option maxHeartbeats 8000000
set_option maxRecDepth 100000
namespace Go.Proofs.YtknjjjenklfeoaaGreatDoor
open Go.RowKit
attribute [local go_sem ↓] loadVar_clus loadVar_wr build_wr equalIn_wr
attribute [local go_sem] run_loadClus run_loadWr run_bWr0 zc_length
def bsMark (parts:Array (Nat × Value)):Sem Value:=Instr.buildSlice 105 1 parts
theorem buildSlice_mark (parts:Array (Nat × Value)):Instr.buildSlice 105 1 parts=bsMark parts:=rfl
theorem run_bsMark {w:World} {n:Int} {d:Nat}:(bsMark #[(0,.agg #[.int .i64 n,.pointer (some ⟨d,0,none⟩)])]).run Tryz.prog w= .ok (.slice (some ⟨w.heap.size,0,none⟩) 1 1) (w.alloc (.cells #[.int .i64 n,.pointer (some ⟨d,0,none⟩)] 109)):=
 run_buildSlice_one w 105 109 2 (.agg #[.int .i64 0,.pointer none]) (.agg #[.int .i64 n,.pointer (some ⟨d,0,none⟩)]) Tryz.underlying105 (by kernel_rfl) (by omega) (by omega) (by rfl)
theorem Tryz.infoMark:(Tryz.prog.info? 109).map (fun i=>(i.zero,i.size,i.bytes))=some (some (.agg #[.int .i64 0,.pointer none]),2,16):=by kernel_rfl
attribute [local go_sem ↓] buildSlice_mark
attribute [local go_sem] run_bsMark
def MarkT (p:Nat) (Mv:Value) (y:Nat) (w':World):Prop:=w'.cell? ⟨p,4,none⟩=some Mv∧w'.cell? ⟨p,1,none⟩=some (.pointer (some ⟨y,0,none⟩))
structure Stands (P:PairR) (N0:Nat) (E:List EntR):Prop where
 vol:Vol P.B P.V N0 E
 disk:dskOf P.V.C N0 E=P.D
 exact:P.ex=true→ExactS P.V.C (rsOf N0 E)
theorem EntsOK.dsk {L:List Clus} {N0:Nat} {E:List EntR} (h:EntsOK E):(dskOf L N0 E).L.length≤4:=by
 unfold dskOf
 simp only [List.length_map]
 exact h.len
theorem Stands.last {P:PairR} {N0:Nat} {E:List EntR} (h:Stands P N0 E):P.V.L=[]∨(0<P.V.L.length∧wrAt P.V.L (P.V.L.length - 1)=flushW):=by
 rcases h.vol.log.tail h.vol.firm with e | ⟨l,e⟩
 · exact Or.inl e
 · right
   refine ⟨by rw [e];simp,?_⟩
   unfold wrAt
   rw [e,List.getD_eq_getElem?_getD,List.length_append,List.length_singleton,Nat.add_sub_cancel,List.getElem?_append_right (Nat.le_refl _),Nat.sub_self]
   rfl
set_option linter.unusedSimpArgs false in
theorem stands_any (w:World) (p:Nat) (P:PairR) (S:Nat→Prop) (N0:Nat) (E:List EntR) (h:PairAt w p P S) (hst:Stands P N0 E) (hpos:0<P.V.L.length) (hL:P.V.L.length≤900000000) (hB:P.B.length≤1000) (hms:P.ms.length≤1000000000):
   Calls Tryz.prog 33 #[.pointer (some ⟨p,0,none⟩)] w fun e w'=>e= .returned (.bool true)∧
     ∃ Mv' m,m.log=P.V.L.length∧m.D=P.D∧ ∃ S',PairAt w' p { P with Mv:=Mv',ms:=P.ms++[m] } S'∧Kept S w w'∧ ∀ k,S' k→S k∨w.heap.size≤k:=by
 have hg:=hst.vol
 obtain ⟨k1,k2,k3,k4,k5⟩:=hg.look
 have hdo:diskOf (look P.V.C)=P.D:=by rw [hg.disk];exact hst.disk
 have hlast:wrAt P.V.L (P.V.L.length - 1)=flushW:=by
   rcases hst.last with e | e
   · rw [e] at hpos;simp at hpos
   · exact e.2
 have h7:=hg.file.seven
 have hmost:=hg.file.most
 have hrep:=hg.log.rep
 have hlow:=hg.log.low
 have hlens:=hg.file.lens
 have hlL:=h.dsk.vol.lenL
 have hDl:P.D.L.length≤4:=by rw [← hst.disk];exact hg.file.ents.dsk
 have hrl:(look P.V.C).roots.length≤5:=by rw [k3];have:=hg.file.ents.len;simp [rsOf];omega
 have hr0:0<(look P.V.C).roots.length:=by rw [k3];simp [rsOf]
 have hin: ∀ i,i<(look P.V.C).roots.length→InFile (look P.V.C).L (rootOf (look P.V.C) i).N:=by
   intro i hi
   unfold rootOf
   rw [k2,k3]
   rw [k3] at hi
   apply hg.sound.inFile
   rw [List.getD_eq_getElem?_getD,List.getElem?_eq_getElem hi]
   exact List.getElem_mem hi
 have hexB:P.ex=true→exactB (look P.V.C)=true:=fun e=>hg.exactB (hst.exact e)
 have Hin:=hide hin
 have HexB:=hide hexB
 have c0:=h.c0
 have H:=hide h
 clear h hg hst hin hexB
 go_enter Tryz.func33,Tryz.ntmps33
 go_wp2_with fail
 refine (diskFile_any w _ _ _ _ _ (uh H).dsk (by omega) (by omega)).mono ?_
 rintro e w1 ⟨fv,rfl,rf1,b1⟩
 have h1:=hide ((uh H).below b1)
 have c1:=(uh h1).c0
 have B1:=hide b1
 have R1:=hide rf1
 clear b1 rf1 c0
 go_wp2_with fail
 refine (diskLog_any w1 _ _ _ _ _ (uh h1).dsk hpos (by omega)).mono ?_
 rintro e w2 ⟨lv,rfl,rl2,b2⟩
 have h2:=hide ((uh h1).below b2)
 have B2:=hide ((uh B1).trans (b2.mono (uh B1).size))
 have R2:Hid (FRow w2 fv P.V.C):=⟨row_base (ownsRow_kept (Kept.of_below (S:=fun _=>False) b2) (uh R1) (fun _ _=>id)) (Nat.zero_le _),hlens⟩
 have RL2:Hid (LRow w2 lv P.V.L):=⟨row_base rl2 (Nat.zero_le _),hlL⟩
 clear b2 h1 B1 R1 rl2 c1
 go_wp2_with fail
 refine (look_any w2 fv P.V.C (uh R2) (by omega)).mono ?_
 rintro e w3 ⟨rfl,fl,fr,hLk⟩
 have hF3:=hLk.at'
 have b3:=hLk.below
 clear hLk
 have h3:=hide ((uh h2).below b3)
 have B3:=hide ((uh B2).trans (b3.mono (uh B2).size))
 have R3:Hid (FRow w3 fv P.V.C):=(uh R2).kept (S:=fun _=>False) (Kept.of_below b3) (fun _ _=>id)
 have RL3:Hid (LRow w3 lv P.V.L):=⟨ownsRow_kept (Kept.of_below (S:=fun _=>False) b3) (uh RL2).row (fun _ _=>id),hlL⟩
 have cb:=hF3.cBad
 rw [k1] at cb
 have HF3:=hide hF3
 clear hF3 b3 h2 B2 R2 RL2
 generalize w2.heap.size=f at*
 go_wp2_with fail
 refine (disk_any w3 f fl fr (look P.V.C) (uh HF3) (uh Hin) (by rw [k2];exact hmost) hr0 (by omega)).mono ?_
 rintro e w4 ⟨d4,Q4,rfl,hd4,hD4,hQ4,b4⟩
 rw [hdo] at hD4
 have h4:=hide ((uh h3).below b4)
 have B4:=hide ((uh B3).trans (b4.mono (uh B3).size))
 have R4:Hid (FRow w4 fv P.V.C):=(uh R3).kept (S:=fun _=>False) (Kept.of_below b4) (fun _ _=>id)
 have RL4:Hid (LRow w4 lv P.V.L):=⟨ownsRow_kept (Kept.of_below (S:=fun _=>False) b4) (uh RL3).row (fun _ _=>id),hlL⟩
 have HF4:=hide ((uh HF3).below b4)
 have c4:=(uh h4).c1
 have HD4:=hide hD4
 clear b4 h3 B3 R3 RL3 HF3 cb hD4
 go_wp2_with fail
 refine (same_any w4 d4 P.y _ _ _ _ (uh HD4) (uh h4).ref (by omega) (by omega)).mono ?_
 rintro e w5 ⟨rfl,b5⟩
 rw [sameR_iff.2 rfl]
 have h5:=hide ((uh h4).below b5)
 have B5:=hide ((uh B4).trans (b5.mono (uh B4).size))
 have R5:Hid (FRow w5 fv P.V.C):=(uh R4).kept (S:=fun _=>False) (Kept.of_below b5) (fun _ _=>id)
 have RL5:Hid (LRow w5 lv P.V.L):=⟨ownsRow_kept (Kept.of_below (S:=fun _=>False) b5) (uh RL4).row (fun _ _=>id),hlL⟩
 have HF5:=hide ((uh HF4).below b5)
 clear b5 h4 B4 R4 RL4 HF4 c4 HD4
 go_wp2_with fail
 refine (exact_any w5 f fl fr (look P.V.C) (uh HF5) (by rw [k2];exact hmost) (by rw [k2];omega) hrl (uh Hin) (fun n=>by have:=k5 n;omega)).mono ?_
 rintro e w6 ⟨rfl,b6⟩
 have h6:=hide ((uh h5).below b6)
 have B6:=hide ((uh B5).trans (b6.mono (uh B5).size))
 have R6:Hid (FRow w6 fv P.V.C):=(uh R5).kept (S:=fun _=>False) (Kept.of_below b6) (fun _ _=>id)
 have RL6:Hid (LRow w6 lv P.V.L):=⟨ownsRow_kept (Kept.of_below (S:=fun _=>False) b6) (uh RL5).row (fun _ _=>id),hlL⟩
 have c2:=(uh h6).c2
 have c3:=(uh h6).c3
 clear b6 h5 B5 R5 RL5 HF5
 obtain ⟨ba,bcap,hbv⟩:=row_form (uh h6).rowB.row
 obtain ⟨i0,hi0,hz0,hz1,hz2⟩:=info_parts Tryz.infoMark
 have Hbv:=hide hbv
 have hms2:P.ms.length<9223372036854775807:=by omega
 generalize hxb:exactB (look P.V.C)=xb at*
 clear hxb
 have hcase:P.ex=false∨xb=true:=by
   cases e:P.ex with
   | false=>exact Or.inl rfl
   | true=>exact Or.inr (uh HexB e)
 clear HexB
 have hdec: ∃ pe xe:Bool,P.ex=pe∧xb=xe∧(pe=false∨xe=true):=⟨P.ex,xb,rfl,rfl,hcase⟩
 obtain ⟨pe,xe,hpe,rfl,hor⟩:=hdec
 rw [hpe] at c3
 clear hpe hcase
 have hbool:(pe && !xb)=false:=by revert hor;cases pe <;> cases xb <;> simp
 cases pe <;> cases xb
 all_goals first | (exfalso;revert hor;simp;done) | skip
 all_goals
   clear hor hbool
   go_wp2_with fail
   refine (replayed_any w6 _ lv P.B P.V.L (by rw [← uh Hbv];exact (uh h6).rowB) (uh RL6) hB (by omega) (fun x hx=>by have:=hlow x hx;omega)).mono ?_
   rintro e w7 ⟨rv,rfl,rr7,lens7,b7⟩
   rw [hrep] at rr7
   have h7':=hide ((uh h6).below b7)
   have B7:=hide ((uh B6).trans (b7.mono (uh B6).size))
   have R7:Hid (FRow w7 fv P.V.C):=(uh R6).kept (S:=fun _=>False) (Kept.of_below b7) (fun _ _=>id)
   have RL7:Hid (LRow w7 lv P.V.L):=⟨ownsRow_kept (Kept.of_below (S:=fun _=>False) b7) (uh RL6).row (fun _ _=>id),hlL⟩
   have RR7:Hid (FRow w7 rv P.V.C):=⟨row_base rr7 (Nat.zero_le _),hlens⟩
   clear b7 h6 B6 R6 RL6 rr7 lens7 c2 c3 hbv
   go_wp2_with fail
   refine (sameFile_any w7 rv fv P.V.C P.V.C (uh RR7) (uh R7) (by omega) (by omega)).mono ?_
   rintro e w8 ⟨rfl,b8⟩
   rw [decide_eq_true rfl]
   have h8:=hide ((uh h7').below b8)
   have B8:=hide ((uh B7).trans (b8.mono (uh B7).size))
   have rl8:w8.ownsRow 0 104 65 lv P.V.L.length (flatW P.V.L):=ownsRow_kept (Kept.of_below (S:=fun _=>False) b8) (uh RL7).row (fun _ _=>id)
   clear b8 h7' B7 R7 RL7 RR7
   obtain ⟨lg,lcap,rfl,_⟩:=row_some rl8 hpos
   have rg:=LRow.range (⟨rl8,hlL⟩:LRow w8 _ P.V.L) (P.V.L.length - 1) (by omega)
   rw [hlast] at rg
   have hfl:flushW=⟨-1,zc⟩:=rfl
   rw [hfl] at rg
   have l1:HasAt w8 lg ((P.V.L.length - 1)*65) 65:=hasAt_of_range (w:=w8) rg (wrCells_length zc_length)
   have l2:cellsAt w8 lg ((P.V.L.length - 1)*65) 65=wrCells ⟨-1,zc⟩:=cellsAt_of_range (w:=w8) rg (wrCells_length zc_length)
   have heq:=run_eqWr (x:=⟨-1,zc⟩) zc_length
   have hNi:(0:Int)<(P.V.L.length:Int):=by omega
   have d0:((P.V.L.length:Int) == 0)=false:=by rw [beq_eq_false_iff_ne];omega
   have c4:=((uh h8).below ((Below.refl _ w8).drew)).c4
   have c1:=((uh h8).below ((Below.refl _ w8).drew)).c1
   have z4:=(uh h8).fz 4
   have Hc:=hide (fun (W:World) (hb:Below w8.heap.size w8 W)=>copied_any W P.y P.Pv P.D ((uh h8).below hb).ref (by omega))
   clear rg rl8
   go_wp2
   clear l1 l2 heq
   have hT:MarkT p P.Mv P.y w8.drew:=⟨c4,c1⟩
   refine wp_region_L (MarkT p P.Mv P.y) 17 (by kernel_rfl) ?_
   refine takeL 0 ?_ (fun W hW=> ?_) hT ?_
   rotate_left 1
   · (obtain ⟨t0,t1⟩:=hW;go_simp;with_reducible rfl)
   simp only [Act.put,setB,set0,setS]
   refine takeL 1 ?_ (fun W hW=> ?_) hT ?_
   rotate_left 1
   · (obtain ⟨t0,t1⟩:=hW;go_simp;with_reducible rfl)
   simp only [Act.put,setB,set0,setS]
   refine takeL 2 ?_ (fun W hW=> ?_) hT ?_
   rotate_left 1
   · (obtain ⟨t0,t1⟩:=hW;go_simp;with_reducible rfl)
   simp only [Act.put,setB,set0,setS]
   refine takeL 3 ?_ (fun W hW=> ?_) hT ?_
   rotate_left 1
   · (obtain ⟨t0,t1⟩:=hW;go_simp;with_reducible rfl)
   simp only [Act.put,setB,set0,setS]
   refine takeL 4 ?_ (fun W hW=> ?_) hT ?_
   rotate_left 1
   · (obtain ⟨t0,t1⟩:=hW;go_simp;with_reducible rfl)
   simp only [Act.put,setB,set0,setS]
   refine takeL 5 ?_ (fun W hW=> ?_) hT ?_
   rotate_left 1
   · (obtain ⟨t0,t1⟩:=hW;go_simp;with_reducible rfl)
   simp only [Act.put,setB,set0,setS]
   refine takeL 6 ?_ (fun W hW=> ?_) hT ?_
   rotate_left 1
   · (obtain ⟨t0,t1⟩:=hW;go_simp;with_reducible rfl)
   simp only [Act.put,setB,set0,setS]
   refine takeL 7 ?_ (fun W hW=> ?_) hT ?_
   rotate_left 1
   · (obtain ⟨t0,t1⟩:=hW;go_simp;with_reducible rfl)
   simp only [Act.put,setB,set0,setS]
   refine takeL 8 ?_ (fun W hW=> ?_) hT ?_
   rotate_left 1
   · (obtain ⟨t0,t1⟩:=hW;go_simp;with_reducible rfl)
   simp only [Act.put,setB,set0,setS]
   refine takeL 9 ?_ (fun W hW=> ?_) hT ?_
   rotate_left 1
   · (obtain ⟨t0,t1⟩:=hW;go_simp;with_reducible rfl)
   simp only [Act.put,setB,set0,setS]
   refine takeL 10 ?_ (fun W hW=> ?_) hT ?_
   rotate_left 1
   · (obtain ⟨t0,t1⟩:=hW;go_simp;with_reducible rfl)
   simp only [Act.put,setB,set0,setS]
   refine wpAnyL_one (i:=11) (by kernel_rfl) rfl fun K11 hK11=> ?_
   go_simp
   go_at_call 58
   refine (uh Hc _ ((Below.refl _ w8).drew)).mono ?_
   rintro e w9 ⟨Q9,rfl,hD9,hQ9,b9⟩
   have B9:Hid (Below w8.heap.size w8 w9):=((Below.refl _ w8).drew).trans b9
   have HD9:=hide hD9
   have HQ9:=hide hQ9
   have hT2:MarkT p P.Mv P.y w9:=⟨((uh h8).below (uh B9)).c4,((uh h8).below (uh B9)).c1⟩
   have hT3: ∀ o,MarkT p P.Mv P.y (w9.alloc o):=fun o=>⟨((uh h8).below ((uh B9).alloc (uh B9).size o)).c4,((uh h8).below ((uh B9).alloc (uh B9).size o)).c1⟩
   clear b9 hD9 hQ9
   refine hK11 _ _ (Or.inr hT2) ?_
   try simp only [Act.put,setB,set0,setS]
   refine takeL 12 ?_ (fun W hW=> ?_) hT2 ?_
   rotate_left 1
   · (obtain ⟨t0,t1⟩:=hW;go_simp;with_reducible rfl)
   simp only [Act.put,setB,set0,setS]
   refine wpAnyL_one (i:=13) (by kernel_rfl) rfl fun K13 hK13=> ?_
   go_simp
   refine hK13 _ _ (Or.inr (hT3 _)) ?_
   try simp only [Act.put,setB,set0,setS]
   refine wpAnyL_one (i:=14) (by kernel_rfl) rfl fun K14 hK14=> ?_
   refine step_append_lies _ (by rfl) _ _ _ (by rfl) 0 109 i0 _ 2 16 Tryz.underlying105 hi0 hz0 hz1 hz2 (by rfl) (by omega) P.Mv P.ms.length (P.ms.flatMap markCells) (by rfl) (((uh h8).below (uh B9)).rowM.alloc _) ⟨w9.heap.size,0,none⟩ 1 1 [.int .i64 (P.V.L.length:Nat),.pointer (some ⟨w8.heap.size,0,none⟩)] (by rfl) (by rfl) (World.news_of_block (cs:= #[.int .i64 (P.V.L.length:Nat),.pointer (some ⟨w8.heap.size,0,none⟩)]) (t:=109) (fr:=(0,0)) (heap_alloc_new w9 _)) (by intro u hu;simp at hu;rcases hu with rfl | rfl <;> rfl) (by omega) (by unfold maxLen;omega) (by omega) (by omega) (w9.heap.size+1) (by simp) ?_
   intro g5 cap5 w5 hown5 hgrow hat hlt5
   have b5:=hide (grown_blk hgrow ((uh h8).below ((uh B9).alloc (uh B9).size _)).blk (uh h8).neM)
   have c5:w5.cell? ⟨p,4,none⟩=some P.Mv:=(cell_blk (uh b5) 4).trans rfl
   have c51:w5.cell? ⟨p,1,none⟩=some (.pointer (some ⟨P.y,0,none⟩)):=(cell_blk (uh b5) 1).trans rfl
   have z5: ∀ i,w5.frozen? ⟨p,i,none⟩=false:=fun i=>frozen_blk (uh b5) i
   have hT5:MarkT p P.Mv P.y w5:=⟨c5,c51⟩
   have hfin:=PairAt.growM (m:=⟨P.V.L.length,w8.heap.size,Q9,P.D⟩) ((uh h8).below ((uh B9).alloc (uh B9).size _)) hgrow hown5 (by
     rcases hat with x | x
     · exact Or.inl x
     · right;rw [x];simp) hlt5 ((uh HD9).below ((Below.refl _ w9).alloc (Nat.le_refl _) _)) (fun e=>by have:=(uh h8).ref.lt;simp only at e;omega) w (by have h1:=(uh B8).size;have h2:=(uh B9).size;simp;omega) ⟨(uh B8).size,fun g hg=>by have h1:=(uh B8).size;have h2:=uh HQ9 g hg;have h3:w8.drew.heap.size=w8.heap.size:=rfl;omega⟩
   have Hfin:=hide hfin
   clear hgrow hown5 hfin
   refine hK14 _ _ (Or.inr hT5) ?_
   try simp only [Act.put,setB,set0,setS]
   refine wpAnyL_one (i:=15) (by kernel_rfl) rfl fun K15 hK15=> ?_
   go_simp
   refine hK15 _ _ (Or.inr hT5) ?_
   try simp only [Act.put,setB,set0,setS]
   refine wpAnyL_one (i:=16) (by kernel_rfl) rfl fun K16 hK16=> ?_
   go_simp
   refine hK16 _ _ (Or.inr hT5) ?_
   try simp only [Act.put,setB,set0,setS]
   refine wpAnyL_one (i:=17) (by kernel_rfl) rfl fun K17 hK17=> ?_
   go_simp
   refine hK17 _ _ (Or.inl rfl) ?_
   try simp only [Act.put,setB,set0,setS]
   refine wpAnyL_done (by kernel_rfl) ?_ _
   clear hT hT2 hT3 hT5
   go_wp2
   go_ret
   obtain ⟨f1,f2,f3⟩:=uh Hfin
   refine ⟨rfl,.slice (some ⟨g5,0,none⟩) (P.ms.length+1) cap5,⟨P.V.L.length,w8.heap.size,Q9,P.D⟩,rfl,rfl,_,f1,(Kept.of_below ((uh B8).trans (((uh B9).alloc (uh B9).size _).mono (uh B8).size))).trans f2,f3⟩
end Go.Proofs.YtknjjjenklfeoaaGreatDoor
