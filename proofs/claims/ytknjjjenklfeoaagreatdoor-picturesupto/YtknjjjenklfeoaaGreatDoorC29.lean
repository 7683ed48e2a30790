import Derived.Test.YtknjjjenklfeoaaGreatDoorC28
import Derived.Test.YtknjjjenklfeoaaGreatDoorC27
import Derived.Test.YtknjjjenklfeoaaGreatDoorC01
import Derived.Test.YtknjjjenklfeoaaGreatDoorC25
set_option maxHeartbeats 8000000
set_option maxRecDepth 100000
namespace Go.Proofs.YtknjjjenklfeoaaGreatDoor
open Go.RowKit
attribute [local go_sem ↓] buildSlice_mark
attribute [local go_sem] run_bsMark
def twoFoot (d v y:Nat) (Cv Lv Pv bv:Value) (k:Nat):Prop:=dfoot d v Cv Lv k∨k=y∨Pv.ownBlock=some k∨bv.ownBlock=some k
def MarkT1 (p:Nat) (w':World):Prop:=w'.cell? ⟨p,4,none⟩=some (.slice none 0 0)
set_option linter.unusedSimpArgs false in
theorem begun_any (w:World) (d v:Nat) (Cv Lv:Value) (V:VolR) (y:Nat) (Pv bv:Value) (D:DiskR) (B:List Clus) (hd:DskAt w d v Cv Lv V) (hy:DiskAt w y Pv D) (hB:FRow w bv B) (hap: ∀ g,bv.ownBlock=some g→ ¬ foot v Cv Lv g) (hD:D.L.length≤1000) (hpos:0<V.L.length) (hL:V.L.length≤900000000) (ex:Bool):
   Calls Tryz.prog 32 #[.pointer (some ⟨d,0,none⟩),.pointer (some ⟨y,0,none⟩),bv,.bool ex] w fun e w'=>
     ∃ p,e= .returned (.pointer (some ⟨p,0,none⟩))∧ ∃ Mv m,m.log=V.L.length∧m.D=D∧ ∃ S',PairAt w' p ⟨d,v,y,Cv,Lv,Pv,Mv,bv,ex,V,D,B,[m]⟩ S'∧Below w.heap.size w w'∧ ∀ k,S' k→twoFoot d v y Cv Lv Pv bv k∨w.heap.size≤k:=by
 obtain ⟨ba,bc,hbv⟩:=row_form hB.row
 subst hbv
 have hP0:PairAt (w.alloc (.cells #[.pointer (some ⟨d,0,none⟩),.pointer (some ⟨y,0,none⟩),.slice ba B.length bc,.bool ex,.slice none 0 0] 107)) w.heap.size ⟨d,v,y,Cv,Lv,Pv,.slice none 0 0,.slice ba B.length bc,ex,V,D,B,[]⟩ (fun k=>twoFoot d v y Cv Lv Pv (.slice ba B.length bc) k∨k=w.heap.size):=by
   have hb:Below w.heap.size w (w.alloc (.cells #[.pointer (some ⟨d,0,none⟩),.pointer (some ⟨y,0,none⟩),.slice ba B.length bc,.bool ex,.slice none 0 0] 107)):=(Below.refl _ _).alloc (Nat.le_refl _) _
   refine ⟨heap_alloc_new _ _,hd.below hb,hy.below hb,hB.kept (S:=fun _=>False) (Kept.of_below hb) (fun _ _=>id),World.ownsRow_nil _ _ _ _,fun m hm=>(by cases hm),fun m hm=>(by cases hm),hap,Or.inr rfl,fun k hk=>Or.inl (Or.inl hk),Or.inl (Or.inr (Or.inl rfl)),?_,fun m hm=>(by cases hm),?_⟩
   · rintro g (e | e | e)
     · exact Or.inl (Or.inr (Or.inr (Or.inl e)))
     · cases e
     · exact Or.inl (Or.inr (Or.inr (Or.inr e)))
   · rintro k ((e | e | e | e) | e)
     · have:=hd.foot_lt k e;simp;omega
     · have:=hy.lt;simp;omega
     · have:=(hy.row.lt k e).2;simp;omega
     · have:=(hB.row.lt k e).2;simp;omega
     · simp;omega
 have hB0:Below w.heap.size w (w.alloc (.cells #[.pointer (some ⟨d,0,none⟩),.pointer (some ⟨y,0,none⟩),.slice ba B.length bc,.bool ex,.slice none 0 0] 107)):=(Below.refl _ _).alloc (Nat.le_refl _) _
 have HB0:=hide hB0
 have HP0:=hide hP0
 have hsz0:w.heap.size<(w.alloc (.cells #[.pointer (some ⟨d,0,none⟩),.pointer (some ⟨y,0,none⟩),.slice ba B.length bc,.bool ex,.slice none 0 0] 107)).heap.size:=by simp
 have hylt:=hy.lt
 obtain ⟨i0,hi0,hz0,hz1,hz2⟩:=info_parts Tryz.infoMark
 clear hP0 hd hy hB0 hB hap
 go_enter Tryz.func32,Tryz.ntmps32
 go_wp2_with fail
 generalize w.alloc (.cells #[.pointer (some ⟨d,0,none⟩),.pointer (some ⟨y,0,none⟩),.slice ba B.length bc,.bool ex,.slice none 0 0] 107)=W0 at*
 refine (diskLog_any W0 _ _ _ _ _ (uh HP0).dsk hpos (Nat.le_trans hL (by omega))).mono ?_
 rintro e w8 ⟨lv,rfl,rl1,b1⟩
 obtain ⟨lg,lcap,rfl,_⟩:=row_some rl1 hpos
 have h8:=hide ((uh HP0).below b1)
 have B8:=hide ((uh HB0).trans (b1.mono (uh HB0).size))
 have hsz:w.heap.size<w8.heap.size:=Nat.lt_of_lt_of_le hsz0 b1.size
 have c4:w8.drew.cell? ⟨w.heap.size,4,none⟩=some (.slice none 0 0):=((uh h8).below ((Below.refl _ w8).drew)).c4
 have z4:=(uh h8).fz 4
 have Hc:=hide (fun (W:World) (hb:Below w8.heap.size w8 W)=>copied_any W y Pv D ((uh h8).below hb).ref (by omega))
 clear b1 rl1 HP0 HB0 hsz0
 go_wp2
 have hT:MarkT1 w.heap.size w8.drew:=c4
 refine wp_region_L (MarkT1 w.heap.size) 14 (by kernel_rfl) ?_
 refine takeL 0 ?_ (fun W hW=> ?_) hT ?_
 rotate_left 1
 · (unfold MarkT1 at hW;go_simp;with_reducible rfl)
 simp only [Act.put,setB,set0,setS]
 refine takeL 1 ?_ (fun W hW=> ?_) hT ?_
 rotate_left 1
 · (unfold MarkT1 at hW;go_simp;with_reducible rfl)
 simp only [Act.put,setB,set0,setS]
 refine takeL 2 ?_ (fun W hW=> ?_) hT ?_
 rotate_left 1
 · (unfold MarkT1 at hW;go_simp;with_reducible rfl)
 simp only [Act.put,setB,set0,setS]
 refine takeL 3 ?_ (fun W hW=> ?_) hT ?_
 rotate_left 1
 · (unfold MarkT1 at hW;go_simp;with_reducible rfl)
 simp only [Act.put,setB,set0,setS]
 refine takeL 4 ?_ (fun W hW=> ?_) hT ?_
 rotate_left 1
 · (unfold MarkT1 at hW;go_simp;with_reducible rfl)
 simp only [Act.put,setB,set0,setS]
 refine takeL 5 ?_ (fun W hW=> ?_) hT ?_
 rotate_left 1
 · (unfold MarkT1 at hW;go_simp;with_reducible rfl)
 simp only [Act.put,setB,set0,setS]
 refine takeL 6 ?_ (fun W hW=> ?_) hT ?_
 rotate_left 1
 · (unfold MarkT1 at hW;go_simp;with_reducible rfl)
 simp only [Act.put,setB,set0,setS]
 refine takeL 7 ?_ (fun W hW=> ?_) hT ?_
 rotate_left 1
 · (unfold MarkT1 at hW;go_simp;with_reducible rfl)
 simp only [Act.put,setB,set0,setS]
 refine wpAnyL_one (i:=8) (by kernel_rfl) rfl fun K8 hK8=> ?_
 go_simp
 go_at_call 58
 refine (uh Hc _ ((Below.refl _ w8).drew)).mono ?_
 rintro e w9 ⟨Q9,rfl,hD9,hQ9,b9⟩
 have B9:Hid (Below w8.heap.size w8 w9):=((Below.refl _ w8).drew).trans b9
 have HD9:=hide hD9
 have HQ9:=hide hQ9
 have hT2:MarkT1 w.heap.size w9:=((uh h8).below (uh B9)).c4
 have hT3: ∀ o,MarkT1 w.heap.size (w9.alloc o):=fun o=>((uh h8).below ((uh B9).alloc (uh B9).size o)).c4
 clear b9 hD9 hQ9
 refine hK8 _ _ (Or.inr hT2) ?_
 try simp only [Act.put,setB,set0,setS]
 refine takeL 9 ?_ (fun W hW=> ?_) hT2 ?_
 rotate_left 1
 · (unfold MarkT1 at hW;go_simp;with_reducible rfl)
 simp only [Act.put,setB,set0,setS]
 refine wpAnyL_one (i:=10) (by kernel_rfl) rfl fun K10 hK10=> ?_
 go_simp
 refine hK10 _ _ (Or.inr (hT3 _)) ?_
 try simp only [Act.put,setB,set0,setS]
 refine wpAnyL_one (i:=11) (by kernel_rfl) rfl fun K11 hK11=> ?_
 refine step_append_lies _ (by rfl) _ _ _ (by rfl) 0 109 i0 _ 2 16 Tryz.underlying105 hi0 hz0 hz1 hz2 (by rfl) (by omega) (.slice none 0 0) 0 [] (by rfl) (World.ownsRow_nil _ _ _ _) ⟨w9.heap.size,0,none⟩ 1 1 [.int .i64 (V.L.length:Nat),.pointer (some ⟨w8.heap.size,0,none⟩)] (by rfl) (by rfl) (World.news_of_block (cs:= #[.int .i64 (V.L.length:Nat),.pointer (some ⟨w8.heap.size,0,none⟩)]) (t:=109) (fr:=(0,0)) (heap_alloc_new w9 _)) (by intro u hu;simp at hu;rcases hu with rfl | rfl <;> rfl) (by omega) (by unfold maxLen;omega) (by omega) (by omega) (w9.heap.size+1) (by simp) ?_
 intro g5 cap5 w5 hown5 hgrow hat hlt5
 have b5:=hide (grown_blk hgrow ((uh h8).below ((uh B9).alloc (uh B9).size _)).blk (uh h8).neM)
 have c5:w5.cell? ⟨w.heap.size,4,none⟩=some (.slice none 0 0):=(cell_blk (uh b5) 4).trans rfl
 have z5: ∀ i,w5.frozen? ⟨w.heap.size,i,none⟩=false:=fun i=>frozen_blk (uh b5) i
 have hT5:MarkT1 w.heap.size w5:=c5
 have hg5:g5=w9.heap.size+1:=by
   rcases hat with x | x
   · cases x
   · exact x
 have hfin:=PairAt.growM (m:=⟨V.L.length,w8.heap.size,Q9,D⟩) ((uh h8).below ((uh B9).alloc (uh B9).size _)) hgrow hown5 (by right;rw [hg5];simp) hlt5 ((uh HD9).below ((Below.refl _ w9).alloc (Nat.le_refl _) _)) (fun e=>by simp only at e;omega) w (by have h1:=(uh B8).size;have h2:=(uh B9).size;simp;omega) ⟨by simp only;omega,fun g hg=>by have h2:=uh HQ9 g hg;have h3:w8.drew.heap.size=w8.heap.size:=rfl;omega⟩
 have hB5:Below w.heap.size w (w5.setCell ⟨w.heap.size,4,none⟩ (.slice (some ⟨g5,0,none⟩) (0+1) cap5)):=(((uh B8).trans (((uh B9).alloc (uh B9).size _).mono (uh B8).size)).grown hgrow (by have h2:=(uh B9).size;simp;omega) (fun k hk=>by cases hk)).setCell (Nat.le_refl _) _
 have Hfin:=hide hfin
 have HB5:=hide hB5
 clear hgrow hown5 hfin hB5 hg5 hat
 refine hK11 _ _ (Or.inr hT5) ?_
 try simp only [Act.put,setB,set0,setS]
 refine wpAnyL_one (i:=12) (by kernel_rfl) rfl fun K12 hK12=> ?_
 go_simp
 refine hK12 _ _ (Or.inr hT5) ?_
 try simp only [Act.put,setB,set0,setS]
 refine wpAnyL_one (i:=13) (by kernel_rfl) rfl fun K13 hK13=> ?_
 go_simp
 refine hK13 _ _ (Or.inr hT5) ?_
 try simp only [Act.put,setB,set0,setS]
 refine wpAnyL_one (i:=14) (by kernel_rfl) rfl fun K14 hK14=> ?_
 go_simp
 refine hK14 _ _ (Or.inl rfl) ?_
 try simp only [Act.put,setB,set0,setS]
 refine wpAnyL_done (by kernel_rfl) ?_ _
 clear hT hT2 hT3 hT5
 go_wp2
 go_ret
 obtain ⟨f1,f2,f3⟩:=uh Hfin
 refine ⟨w.heap.size,rfl,.slice (some ⟨g5,0,none⟩) 1 cap5,⟨V.L.length,w8.heap.size,Q9,D⟩,rfl,rfl,_,f1,uh HB5,fun k hk=> ?_⟩
 rcases f3 k hk with (x | x) | x
 · exact Or.inl x
 · exact Or.inr (by omega)
 · exact Or.inr x
end Go.Proofs.YtknjjjenklfeoaaGreatDoor
namespace Go.Proofs.YtknjjjenklfeoaaGreatDoor
open Go.RowKit
attribute [local go_sem ↓] loadVar_clus storeVar_clus zeroValue_clus loadVar_op
attribute [local go_sem] run_loadClus run_storeClus run_zeroClus run_storeClus_new run_loadClus_new zc_length run_loadOp HasAt_drew cellsAt_drew
structure Went (w w':World) (p:Nat) (P:PairR) (S:Nat→Prop) (P':PairR) (S':Nat→Prop):Prop where
 at':PairAt w' p P' S'
 base:P'.B=P.B
 marks:P'.ms=P.ms
 ex:P'.ex=P.ex
 log:P'.V.L.length≤P.V.L.length+100
 logp:0<P.V.L.length→0<P'.V.L.length
 kept:Kept S w w'
 new: ∀ k,S' k→S k∨w.heap.size≤k
theorem putsAll_pos (l:List (Option (Nat × Clus))): ∀ V:VolR,V.L.length≤(putsAll V l).L.length:=by
 induction l with
 | nil=>intro V;exact Nat.le_refl _
 | cons x r ih=>
   intro V
   refine Nat.le_trans ?_ (ih (putsOne V x))
   cases x with
   | none=>
     show V.L.length≤(flushV V).L.length
     unfold flushV
     split
     · simp
     · exact Nat.le_refl _
   | some y=>
     show V.L.length≤(putV V y.1 y.2).L.length
     unfold putV
     split
     · exact Nat.le_refl _
     · show V.L.length≤((completeV V).L++[_]).length
       unfold completeV
       split
       · show V.L.length≤((V.L++_)++[_]).length;simp
       · simp
theorem Puts.lenL {V V':VolR} (h:Puts V V'):V.L.length≤V'.L.length:=by
 obtain ⟨l,rfl⟩:=h
 exact putsAll_pos l V
theorem puts_write (V:VolR) (n:Int) (data:Clus):Puts V (writeV V n data).1:=by
 have h1:=puts_letGo (puts_wnb (Puts.refl V) (placeOf V n) data) (toldBy [(placeOf V n).block])
 have h2:=puts_letGo (puts_wnt (Puts.refl V) (placeOf V n) data) (toldBy [(placeOf V n).second,(placeOf V n).block])
 have h3:=((Puts.refl V).put ((placeOf V n).block%32768) data).flush
 have h0:=Puts.refl V
 unfold writeV writeR
 generalize letGoV (wnbV V (placeOf V n) data) (toldBy [(placeOf V n).block])=A at*
 generalize letGoV (wntV V (placeOf V n) data) (toldBy [(placeOf V n).second,(placeOf V n).block])=B at*
 split
 · exact h0
 · split
   · split
     · exact h2
     · exact h0
   · split
     · split
       · exact h1
       · exact h0
     · exact h3
theorem Went.did {w w4 w5 w6:World} {p:Nat} {P:PairR} {S:Nat→Prop} {C1 L1 Qv:Value} {V':VolR} {D':DiskR} (h:PairAt w p P S) (hb:Below w.heap.size w w4) (hs:VStep w4 w5 P.v P.Cv P.Lv C1 L1 V') (hk:Kept (fun k=>k=P.y) w5 w6) (hr:DiskAt w6 P.y Qv D') (hq: ∀ g,Qv.ownBlock=some g→S g∨w.heap.size≤g)
   (hl:V'.L.length≤P.V.L.length+100) (hm:P.V.L.length≤V'.L.length):Went w w6 p P S { P with Cv:=C1,Lv:=L1,V:=V',D:=D',Pv:=Qv } (fun k=>(S k∨foot P.v C1 L1 k)∨Qv.ownBlock=some k):=by
 have h4:=h.below hb
 have h5:=h4.step hs
 refine ⟨h5.refStep hk hr,rfl,rfl,rfl,hl,fun h0=>Nat.lt_of_lt_of_le h0 hm,((Kept.of_below hb).trans (h4.step_kept hs)).trans (hk.mono fun k e=>by rw [e];exact h.inY),fun k hk'=> ?_⟩
 rcases hk' with x | x
 · rcases h4.step_new hs k x with y | y
   · exact Or.inl y
   · have:=hb.size;exact Or.inr (by omega)
 · exact hq k x
theorem setD_ref (D:DiskR) (n:Int) (data:Clus) (hb:blockB n=true):refWriteR D n data=(setD D n.toNat data,0):=by
 unfold refWriteR setD
 rw [if_pos hb]
def WriteT (p bo c d:Nat) (n:Int) (data:Clus) (w':World):Prop:=w'.cell? ⟨p,0,none⟩=some (.pointer (some ⟨d,0,none⟩))∧w'.cell? ⟨bo,1,none⟩=some (.int .i64 n)∧HasAt w' c 0 64∧cellsAt w' c 0 64=cv data
def WriteT2 (p bo c y:Nat) (n:Int) (data:Clus) (w':World):Prop:=w'.cell? ⟨p,1,none⟩=some (.pointer (some ⟨y,0,none⟩))∧w'.cell? ⟨bo,1,none⟩=some (.int .i64 n)∧HasAt w' c 0 64∧cellsAt w' c 0 64=cv data
theorem PairAt.footNotY {w:World} {p:Nat} {P:PairR} {S:Nat→Prop} (h:PairAt w p P S):p≠P.y:=fun e=>by
 have hb:=h.blk
 rw [e] at hb
 exact absurd (blk_type hb h.ref.blk) (by decide)
set_option linter.unusedSimpArgs false in
theorem writes_any (w:World) (p:Nat) (P:PairR) (S:Nat→Prop) (N0:Nat) (E:List EntR) (h:PairAt w p P S) (hst:Stands P N0 E) (hL:P.V.L.length≤400000000) (o:OpR) (ht:o.text.size≤maxLen):
   Calls Tryz.prog 62 #[.pointer (some ⟨p,0,none⟩),.agg (opCells o).toArray] w fun e w'=>e= .returned (.bool true)∧ ∃ P',Stands P' N0 E∧ ∃ S',Went w w' p P S P' S':=by
 have hg:=hst.vol
 obtain ⟨k1,k2,k3,k4,k5⟩:=hg.look
 have h7:=hg.file.seven
 have hmost:=hg.file.most
 have hlens:=hg.file.lens
 have hr0:(⟨N0,0,[]⟩:RootR) ∈ rsOf N0 E:=by simp [rsOf]
 have hin:=hg.sound.inFile hr0
 have hdl:(clusOf o.text.data.toList).length=64:=clusTo_length _ _ (Nat.min_le_left _ _) (Nat.min_le_right _ _)
 have hcase:=hg.write (data:=clusOf o.text.data.toList) o.n hdl
 have hlL:=hg.write_lenL (data:=clusOf o.text.data.toList) o.n hdl
 have hlP:=(puts_write P.V o.n (clusOf o.text.data.toList)).lenL
 have hb0:Below w.heap.size w (w.alloc (.cells (opCells o).toArray 80)):=(Below.refl _ _).alloc (Nat.le_refl _) _
 have hbx0:(w.alloc (.cells (opCells o).toArray 80)).heap[w.heap.size]? = some (.cells (opCells o).toArray 80 (0,0)):=heap_alloc_new _ _
 have c0:=(h.below hb0).c0
 have H:=hide h
 have HG:=hide hg
 have HS:=hide hst
 have B0:=hide hb0
 have X0:=hide hbx0
 have HC:=hide hcase
 have hft:=fun k hk=>(uh H).lt k ((uh H).inD k (Or.inr hk))
 have Hft:=hide hft
 clear h hg hb0 hbx0 hcase hft hst
 go_enter Tryz.func62,Tryz.ntmps62
 go_wp2_with fail
 generalize w.alloc (.cells (opCells o).toArray 80)=w0 at*
 refine (diskFile_any w0 _ _ _ _ _ ((uh H).below (uh B0)).dsk (by omega) (by omega)).mono ?_
 rintro e w1 ⟨fv,rfl,rf1,b1⟩
 have B1:=hide ((uh B0).trans (b1.mono (uh B0).size))
 have X1:=hide ((b1.block _ (blk_lt (uh X0))).trans (uh X0))
 have R1:Hid (FRow w1 fv P.V.C):=⟨row_base rf1 (Nat.zero_le _),hlens⟩
 clear B0 X0 rf1 b1 c0
 go_wp2_with fail
 refine (look_any w1 fv P.V.C (uh R1) (by omega)).mono ?_
 rintro e w2 ⟨rfl,fl,fr,hLk⟩
 have B2:=hide ((uh B1).trans (hLk.below.mono (uh B1).size))
 have X2:=hide ((hLk.below.block _ (blk_lt (uh X1))).trans (uh X1))
 have F2:=hide hLk.at'
 have hfr: ∀ g,fl.ownBlock=some g→w.heap.size≤g:=fun g hg=>Nat.le_trans (uh B1).size (hLk.fresh g hg)
 have Hfr:=hide hfr
 have hfs:w.heap.size≤w1.heap.size:=(uh B1).size
 have ct:w2.cell? ⟨w.heap.size,3,none⟩=some (.string o.text):=(cell_blk (uh X2) 3).trans rfl
 clear hLk B1 X1 R1 hfr
 generalize w1.heap.size=f at*
 go_wp2_with fail
 refine (cluster_any o.text w2 ht).mono ?_
 rintro e w3 ⟨rfl,b3⟩
 generalize clusOf o.text.data.toList=data at*
 have hb4:=((uh B2).trans (b3.mono (uh B2).size)).alloc (by have:=(uh B2).size;have:=b3.size;omega) (.cells (cv data).toArray 38)
 have hx4:(w3.alloc (.cells (cv data).toArray 38)).heap[w.heap.size]? = some (.cells (opCells o).toArray 80 (0,0)):=(Below.heap_alloc _ _ _ (by have:=blk_lt (uh X2);have:=b3.size;omega)).trans ((b3.block _ (blk_lt (uh X2))).trans (uh X2))
 have hd4:(w3.alloc (.cells (cv data).toArray 38)).heap[w3.heap.size]? = some (.cells (cv data).toArray 38 (0,0)):=heap_alloc_new _ _
 have hF4:=(uh F2).below (b3.alloc b3.size (.cells (cv data).toArray 38))
 have hs3:w.heap.size<w3.heap.size:=by have:=blk_lt (uh X2);have:=b3.size;omega
 have B4:=hide hb4
 have X4:=hide hx4
 have D4:=hide hd4
 have F4:=hide hF4
 clear hb4 hx4 hd4 hF4 b3 B2 X2 F2 ct
 go_wp2
 generalize hW4:w3.alloc (.cells (cv data).toArray 38)=w4 at*
 generalize w3.heap.size=c at*
 clear hW4
 have c0:=((uh H).below (uh B4).drew).c0
 have cn:w4.drew.cell? ⟨w.heap.size,1,none⟩=some (.int .i64 o.n):=(cell_blk (w:=w4) (uh X4) 1).trans rfl
 have l1:HasAt w4.drew c 0 64:=box_has (w:=w4) (uh D4) hdl
 have l2:cellsAt w4.drew c 0 64=cv data:=box_cells (w:=w4) (uh D4) hdl
 have Hw:=hide ((uh HG).diskWrite (data:=data) ((uh H).below (uh B4).drew).dsk (by omega) o.n hdl)
 generalize hR:writeV P.V o.n data=R at*
 have HR:=hide hR
 clear hR
 have hT:WriteT p w.heap.size c P.d o.n data w4.drew:=⟨c0,cn,l1,l2⟩
 refine wp_region_L (WriteT p w.heap.size c P.d o.n data) 8 (by kernel_rfl) ?_
 refine takeL 0 ?_ (fun W hW=> ?_) hT ?_
 rotate_left 1
 · (obtain ⟨t0,t1,t2,t3⟩:=hW;go_simp;with_reducible rfl)
 simp only [Act.put,setB,set0,setS]
 refine takeL 1 ?_ (fun W hW=> ?_) hT ?_
 rotate_left 1
 · (obtain ⟨t0,t1,t2,t3⟩:=hW;go_simp;with_reducible rfl)
 simp only [Act.put,setB,set0,setS]
 refine takeL 2 ?_ (fun W hW=> ?_) hT ?_
 rotate_left 1
 · (obtain ⟨t0,t1,t2,t3⟩:=hW;go_simp;with_reducible rfl)
 simp only [Act.put,setB,set0,setS]
 refine takeL 3 ?_ (fun W hW=> ?_) hT ?_
 rotate_left 1
 · (obtain ⟨t0,t1,t2,t3⟩:=hW;go_simp;with_reducible rfl)
 simp only [Act.put,setB,set0,setS]
 refine takeL 4 ?_ (fun W hW=> ?_) hT ?_
 rotate_left 1
 · (obtain ⟨t0,t1,t2,t3⟩:=hW;go_simp;with_reducible rfl)
 simp only [Act.put,setB,set0,setS]
 refine takeL 5 ?_ (fun W hW=> ?_) hT ?_
 rotate_left 1
 · (obtain ⟨t0,t1,t2,t3⟩:=hW;go_simp;with_reducible rfl)
 simp only [Act.put,setB,set0,setS]
 refine takeL 6 ?_ (fun W hW=> ?_) hT ?_
 rotate_left 1
 · (obtain ⟨t0,t1,t2,t3⟩:=hW;go_simp;with_reducible rfl)
 simp only [Act.put,setB,set0,setS]
 refine wpAnyL_one (i:=7) (by kernel_rfl) rfl fun K7 hK7=> ?_
 go_simp
 go_at_call 26
 refine (uh Hw).mono ?_
 rintro e w5 ⟨rfl,C5,L5,hS5⟩
 have S5:Hid (VStep w4 w5 P.v P.Cv P.Lv C5 L5 R.1):=⟨hS5.at',⟨hS5.kept.os,hS5.kept.tape,hS5.kept.output,hS5.kept.size,hS5.kept.block⟩,hS5.new⟩
 have h5:=hide (((uh H).below (uh B4)).step (uh S5))
 have hnf: ∀ k,w.heap.size≤k→ ¬ foot P.v P.Cv P.Lv k:=fun k hk hf=>by have:=uh Hft k hf;omega
 have X5:=hide ((uh S5).kept.blk (hnf _ (Nat.le_refl _)) (uh X4))
 have D5:=hide ((uh S5).kept.blk (hnf _ (Nat.le_of_lt hs3)) (uh D4))
 have F5:=hide ((uh F4).kept (uh S5).kept (hnf _ hfs) (fun g hg=>hnf g (uh Hfr g hg)) (fun g hg=>by obtain ⟨cs,fr',hb⟩:=row_blk (uh F4).rowR hg;exact ((uh H).below (uh B4)).footKey hb (by decide) (by decide) (by decide)))
 have c05:=(uh h5).c0
 have cn5:w5.cell? ⟨w.heap.size,1,none⟩=some (.int .i64 o.n):=(cell_blk (uh X5) 1).trans rfl
 have l15:HasAt w5 c 0 64:=box_has (uh D5) hdl
 have l25:cellsAt w5 c 0 64=cv data:=box_cells (uh D5) hdl
 have hT5:WriteT p w.heap.size c P.d o.n data w5:=⟨c05,cn5,l15,l25⟩
 clear hS5 hnf
 refine hK7 _ _ (Or.inr hT5) ?_
 try simp only [Act.put,setB,set0,setS]
 refine wpAnyL_one (i:=8) (by kernel_rfl) rfl fun K8 hK8=> ?_
 go_simp
 refine hK8 _ _ (Or.inl rfl) ?_
 try simp only [Act.put,setB,set0,setS]
 refine wpAnyL_done (by kernel_rfl) ?_ _
 clear hT hT5 l1 l2 cn c0 Hw X4 D4 F4
 have hD0:=(uh HS).disk
 have hsplit:(((R.2:Nat):Int) == 5)=false∧(refWriteR P.D o.n data).2=R.2∧Stands { P with Cv:=C5,Lv:=L5,V:=R.1,D:=(refWriteR P.D o.n data).1 } N0 E∨(blockB o.n=true∧R=(P.V,5)∧ ∀ R:FileR,R.L=P.V.C→R.roots=rsOf N0 E→freeOf P.V.C<needs R o.n.toNat):=by
   rcases uh HC with ⟨hb,e1⟩ | ⟨hb,e2,hW⟩ | hfull
   · left
     have hrf:refWriteR P.D o.n data=(P.D,1):=by unfold refWriteR;rw [if_neg (by rw [hb];decide)]
     rw [e1,hrf]
     exact ⟨rfl,rfl,(uh HS).vol,(uh HS).disk,(uh HS).exact⟩
   · left
     rw [setD_ref _ _ _ hb,e2]
     exact ⟨rfl,rfl,hW.vol,by rw [hW.holds,hD0],fun hx=>hW.exact ((uh HS).exact hx)⟩
   · exact Or.inr hfull
 clear HC
 rcases hsplit with ⟨hne,hsame,hst'⟩ | ⟨hb,e1,hfull⟩
 · have Hst:=hide hst'
   have Hsame:=hide hsame
   have c15:=(uh h5).c1
   clear hst' hsame
   go_wp2_with fail
   have hTb:WriteT2 p w.heap.size c P.y o.n data w5.drew:=⟨c15,cn5,l15,l25⟩
   have hylt:=(uh H).ref.lt
   have hplt:=(uh H).lt _ (uh H).inP
   have Hnum:=hide (fun W=>num_any ((R.2:Nat):Int) W)
   have Hwr:=hide (refWrite_any w5.drew P.y P.Pv P.D ((uh h5).ref.below ((Below.refl _ w5).drew)) o.n data hdl)
   have Hrest:=hide (fun (w6:World) (hr:DiskAt w6 P.y P.Pv (refWriteR P.D o.n data).1) (hk:Kept (fun x=>x=P.y) w5.drew w6)=>Went.did (w6:=w6) (D':=(refWriteR P.D o.n data).1) (uh H) (uh B4) (uh S5) ⟨hk.os,hk.tape,hk.output,hk.size,hk.block⟩ hr (fun g hg=>Or.inl ((uh H).inV g (Or.inl hg))) (by omega) (by omega))
   have hpy:=(uh h5).footNotY
   have hp5:p<w5.heap.size:=Nat.lt_of_lt_of_le hplt (Nat.le_trans (uh B4).size (uh S5).kept.size)
   have HT6:=hide (fun (w6:World) (hk:Kept (fun x=>x=P.y) w5.drew w6)=>(show WriteT2 p w.heap.size c P.y o.n data w6 from
     ⟨(World.cell?_of_block (hk.block p hp5 hpy)).trans c15,(cell_blk (hk.blk (show ¬ w.heap.size=P.y by omega) (uh X5)) 1).trans rfl,box_has (hk.blk (show ¬ c=P.y by omega) (uh D5)) hdl,box_cells (hk.blk (show ¬ c=P.y by omega) (uh D5)) hdl⟩))
   clear hpy hp5
   refine wp_region_L (WriteT2 p w.heap.size c P.y o.n data) 11 (by kernel_rfl) ?_
   refine takeL 0 ?_ (fun W hW=> ?_) hTb ?_
   rotate_left 1
   · (obtain ⟨t0,t1,t2,t3⟩:=hW;go_simp;with_reducible rfl)
   simp only [Act.put,setB,set0,setS]
   refine takeL 2 ?_ (fun W hW=> ?_) hTb ?_
   rotate_left 1
   · (obtain ⟨t0,t1,t2,t3⟩:=hW;go_simp;with_reducible rfl)
   simp only [Act.put,setB,set0,setS]
   refine takeL 3 ?_ (fun W hW=> ?_) hTb ?_
   rotate_left 1
   · (obtain ⟨t0,t1,t2,t3⟩:=hW;go_simp;with_reducible rfl)
   simp only [Act.put,setB,set0,setS]
   refine takeL 4 ?_ (fun W hW=> ?_) hTb ?_
   rotate_left 1
   · (obtain ⟨t0,t1,t2,t3⟩:=hW;go_simp;with_reducible rfl)
   simp only [Act.put,setB,set0,setS]
   refine takeL 5 ?_ (fun W hW=> ?_) hTb ?_
   rotate_left 1
   · (obtain ⟨t0,t1,t2,t3⟩:=hW;go_simp;with_reducible rfl)
   simp only [Act.put,setB,set0,setS]
   refine takeL 6 ?_ (fun W hW=> ?_) hTb ?_
   rotate_left 1
   · (obtain ⟨t0,t1,t2,t3⟩:=hW;go_simp;with_reducible rfl)
   simp only [Act.put,setB,set0,setS]
   refine takeL 7 ?_ (fun W hW=> ?_) hTb ?_
   rotate_left 1
   · (obtain ⟨t0,t1,t2,t3⟩:=hW;go_simp;with_reducible rfl)
   simp only [Act.put,setB,set0,setS]
   refine takeL 8 ?_ (fun W hW=> ?_) hTb ?_
   rotate_left 1
   · (obtain ⟨t0,t1,t2,t3⟩:=hW;go_simp;with_reducible rfl)
   simp only [Act.put,setB,set0,setS]
   refine wpAnyL_one (i:=1) (by kernel_rfl) rfl fun K1 hK1=> ?_
   go_simp
   go_at_call 64
   refine (uh Hnum _).mono ?_
   rintro e w5' ⟨rfl,rfl⟩
   refine hK1 _ _ (Or.inr hTb) ?_
   try simp only [Act.put,setB,set0,setS]
   refine wpAnyL_one (i:=9) (by kernel_rfl) rfl fun K9 hK9=> ?_
   go_simp
   go_at_call 118
   refine (uh Hwr).mono ?_
   rintro e w6 ⟨rfl,hr6,hk6⟩
   have HP6:=hide (uh Hrest w6 hr6 hk6)
   have hT6:=uh HT6 w6 hk6
   rw [uh Hsame]
   clear hr6 hk6
   refine hK9 _ _ (Or.inr hT6) ?_
   try simp only [Act.put,setB,set0,setS]
   refine takeL 10 ?_ (fun W hW=> ?_) hT6 ?_
   rotate_left 1
   · (obtain ⟨t0,t1,t2,t3⟩:=hW;go_simp;with_reducible rfl)
   simp only [Act.put,setB,set0,setS]
   refine wpAnyL_one (i:=11) (by kernel_rfl) rfl fun K11 hK11=> ?_
   go_simp
   refine hK11 _ _ (Or.inl rfl) ?_
   try simp only [Act.put,setB,set0,setS]
   refine wpAnyL_done (by kernel_rfl) ?_ _
   clear hTb hT6
   go_wp2
   go_ret
   exact ⟨rfl,_,uh Hst,_,uh HP6⟩
 · have e2:R.2=5:=by rw [e1]
   have e3:R.1=P.V:=by rw [e1]
   have hbl:=blockB_lt hb
   have hn0:0≤o.n:=by unfold blockB at hb;simp at hb;omega
   obtain ⟨nb,hnb⟩:=Int.eq_ofNat_of_zero_le hn0
   have hfu:=hfull (look P.V.C) k2 k3
   rw [hnb,Int.toNat_natCast] at hfu hbl
   rw [e3] at S5 h5
   rw [e2]
   have hWent:=Went.did (uh H) (uh B4) (uh S5) (Kept.refl _ w5) (uh h5).ref (fun g hg=>Or.inl ((uh H).inV g (Or.inl hg))) (Nat.le_add_right _ _) (Nat.le_refl _)
   have HWent:=hide hWent
   have Hst:Hid (Stands { P with Cv:=C5,Lv:=L5,V:=P.V,D:=P.D } N0 E):=⟨(uh HS).vol,(uh HS).disk,(uh HS).exact⟩
   have hrt:rootOf (look P.V.C) 0=⟨N0,0,[]⟩:=by unfold rootOf;rw [k3];rfl
   have Hne:=hide (fun (W:World) (hB:Below w5.heap.size w5 W)=>needs_any W f fl fr (look P.V.C) ((uh F5).below hB) nb hbl (by rw [k3];simp [rsOf]) (by rw [hrt,k2];exact hin.at') (by
     rw [hrt,k2]
     by_cases hz:num (cl P.V.C N0) (2*(nb / 32))=0
     · rw [hz];omega
     · exact hin.second (nb / 32) (by omega) hz) (by rw [k2];exact hmost))
   have Hfe:=hide (fun (W:World) (hB:Below w5.heap.size w5 W)=>free_any W f fl fr (look P.V.C) ((uh F5).below hB) (by rw [k2];exact hmost) (by rw [k2];omega))
   rw [hnb] at cn5 hb
   have Hib:=hide (fun W=>isBlock_any (nb:Int) W)
   clear hnb hn0
   have cb5:=(uh F5).cBad
   rw [k1] at cb5
   rw [k2] at Hfe
   have hgt:decide ((freeOf P.V.C:Int)<(needs (look P.V.C) nb:Int))=true:=by simp;exact hfu
   clear hWent e1 e2 e3 hfull hrt
   go_wp2_with fail
   refine (uh Hib _).mono ?_
   rintro e w6 ⟨rfl,rfl⟩
   rw [hb]
   go_wp2_with fail
   refine (uh Hne _ (Below.refl _ _)).mono ?_
   rintro e w7 ⟨rfl,b7⟩
   have B7:=hide b7
   clear b7
   go_wp2_with fail
   refine (uh Hfe _ (uh B7)).mono ?_
   rintro e w8 ⟨rfl,rfl⟩
   generalize freeOf P.V.C=fr0 at*
   generalize needs (look P.V.C) nb=ne0 at*
   go_wp2
   go_ret
   have hWent:=uh HWent
   exact ⟨rfl,_,uh Hst,_,⟨hWent.at'.below (uh B7),hWent.base,hWent.marks,hWent.ex,hWent.log,hWent.logp,hWent.kept.trans (Kept.of_below (uh B7)),hWent.new⟩⟩
end Go.Proofs.YtknjjjenklfeoaaGreatDoor
namespace Go.Proofs.YtknjjjenklfeoaaGreatDoor
open Go.RowKit
attribute [local go_sem ↓] loadVar_clus storeVar_clus zeroValue_clus loadVar_op equalIn_clus
attribute [local go_sem] run_loadClus run_storeClus run_zeroClus run_storeClus_new run_loadClus_new zc_length run_loadOp HasAt_drew cellsAt_drew
structure Booked2 (w w':World) (b:Nat) (B:BookR) (U:Nat→Prop) (V':BookV) (B':BookR) (U':Nat→Prop) (m:Nat):Prop where
 at':BookAt w' b V' B' U'
 next:B'.next≤B.next+2
 files:B'.files.length≤B.files.length+4
 writes:B'.writes.length≤B.writes.length+4
 names:B'.names.length≤B.names.length+4
 lowF: ∀ x ∈ B'.files,x ∈ B.files∨x.n≤258
 lowW: ∀ x ∈ B'.writes,x ∈ B.writes∨x.n≤m
 lowN: ∀ x ∈ B'.names,x ∈ B.names∨x.n≤8
 kept:Kept U w w'
 new: ∀ k,U' k→U k∨w.heap.size≤k
theorem asksFile_any (w:World) (p b:Nat) (P:PairR) (S U:Nat→Prop) (N0:Nat) (E:List EntR) (V:BookV) (B:BookR) (h:PairAt w p P S) (hst:Stands P N0 E) (hb:BookAt w b V B U) (hSU: ∀ k,S k→ ¬ U k) (hpos:0<P.V.L.length) (hL:P.V.L.length≤900000000) (hnx:B.next≤900000000) (hfl:B.files.length≤9000000000) (hwl:B.writes.length≤9000000000) (o:OpR) (hk:o.kind=9):
   Calls Tryz.prog 67 #[.pointer (some ⟨p,0,none⟩),.pointer (some ⟨b,0,none⟩),.agg (opCells o).toArray] w fun e w'=>e= .returned (.bool true)∧
     ∃ V' B' U',Booked2 w w' b B U V' B' U' (P.V.L.length+2):=by
 have hg:=hst.vol
 have h7:=hg.file.seven
 have hmost:=hg.file.most
 have hlens:=hg.file.lens
 have hlL:=h.dsk.vol.lenL
 have hb0:Below w.heap.size w (w.alloc (.cells (opCells o).toArray 80)):=(Below.refl _ _).alloc (Nat.le_refl _) _
 have hbx0:(w.alloc (.cells (opCells o).toArray 80)).heap[w.heap.size]? = some (.cells (opCells o).toArray 80 (0,0)):=heap_alloc_new _ _
 have ck:(w.alloc (.cells (opCells o).toArray 80)).cell? ⟨w.heap.size,0,none⟩=some (.int .i64 9):=by rw [cell_blk hbx0 0,List.getElem?_toArray];show some (Value.int .i64 o.kind)=_;rw [hk]
 have c0:=(h.below hb0).c0
 have H:=hide h
 have HB:=hide hb
 have B0:=hide hb0
 have hUlt:=hb.lt
 have hSlt:=h.lt
 clear h hb hb0 hbx0 hg hst
 go_enter Tryz.func67,Tryz.ntmps67
 go_wp2_with fail
 generalize w.alloc (.cells (opCells o).toArray 80)=w0 at*
 refine (diskFile_any w0 _ _ _ _ _ ((uh H).below (uh B0)).dsk (by omega) (by omega)).mono ?_
 rintro e w1 ⟨fv,rfl,rf1,b1⟩
 have B1:=hide ((uh B0).trans (b1.mono (uh B0).size))
 have hs0:w.heap.size≤w0.heap.size:=(uh B0).size
 have hfv: ∀ g,fv.ownBlock=some g→w.heap.size≤g:=fun g hg=>Nat.le_trans hs0 (rf1.lt g hg).1
 have R1:=hide (row_base rf1 (Nat.zero_le _))
 clear b1 B0 c0 ck rf1
 go_wp2_with fail
 refine (ownsFile_any w1 b V B U fv P.V.C ((uh HB).below (uh B1)) (uh R1) hlens (fun g hg hu=>by have:=hfv g hg;have:=hUlt g hu;omega) (by omega) (by omega) (by omega)).mono ?_
 rintro e w2 ⟨rfl,V2,B2,U2,hB2,n2,l2,e2w,e2n,m2,k2,s2⟩
 have K2:Hid (Kept (fun k=>U k∨w.heap.size≤k) w w2):=(Kept.of_below (uh B1)).trans (k2.mono fun k hk=>by
   rcases hk with x | x
   · exact Or.inl x
   · exact Or.inr (hfv k x))
 have H2:=hide ((uh H).kept (uh K2) (fun k hk hu=>by
   rcases hu with x | x
   · exact hSU k hk x
   · have:=hSlt k hk;omega))
 have HB2:=hide hB2
 have c02:=(uh H2).c0
 have hsz2:=(uh K2).size
 have hsz1:=(uh B1).size
 have hU2: ∀ k,U2 k→U k∨w.heap.size≤k:=fun k hk=>by
   rcases s2 k hk with x | x | x
   · exact Or.inl x
   · exact Or.inr (hfv k x)
   · exact Or.inr (by omega)
 have hU2l:=hB2.lt
 have HU2:=hide hU2
 have HU2l:=hide hU2l
 have Hm2:=hide m2
 have He:=hide (And.intro e2w e2n)
 have hn2:B2.next≤B.next+1:=by omega
 have hl2:B2.files.length≤B.files.length+3:=by omega
 have hw2:B2.writes.length≤B.writes.length:=by rw [e2w];exact Nat.le_refl _
 have hnm2:B2.names.length≤B.names.length:=by rw [e2n];exact Nat.le_refl _
 clear hB2 k2 s2 hU2 m2 e2w e2n n2 l2 hU2l R1
 go_wp2_with fail
 refine (diskLog_any w2 _ _ _ _ _ (uh H2).dsk hpos (by omega)).mono ?_
 rintro e w3 ⟨lv,rfl,rl3,b3⟩
 have hlv: ∀ g,lv.ownBlock=some g→w2.heap.size≤g:=fun g hg=>(rl3.lt g hg).1
 have B3:=hide b3
 have R3:=hide (row_base rl3 (Nat.zero_le _))
 clear b3 rl3 c02
 go_wp2_with fail
 refine (ownsLog_any w3 b V2 B2 U2 lv P.V.L ((uh HB2).below (uh B3)) (uh R3) hlL (fun g hg hu=>by have:=hlv g hg;have:=uh HU2l g hu;omega) (by omega) (by omega) (by omega)).mono ?_
 rintro e w4 ⟨rfl,V4,B4,U4,hB4,n4,l4,e4f,e4n,m4,k4,s4⟩
 have hfin:Booked2 w w4 b B U V4 B4 U4 (P.V.L.length+2):=by
   obtain ⟨e2w,e2n⟩:=uh He
   refine ⟨hB4,by omega,by rw [e4f];omega,by omega,by rw [e4n];omega,fun x hx=> ?_,fun x hx=> ?_,fun x hx=>Or.inl (by rw [e4n,e2n] at hx;exact hx),?_,fun k hk=> ?_⟩
   · rw [e4f] at hx
     rcases uh Hm2 x hx with y | y
     · exact Or.inl y
     · exact Or.inr (by omega)
   · rcases m4 x hx with y | y
     · exact Or.inl (by rw [← e2w];exact y)
     · exact Or.inr y
   · refine ⟨k4.os.trans ((uh B3).os.trans (uh K2).os),k4.tape.trans ((uh B3).tape.trans (uh K2).tape),k4.output.trans ((uh B3).output.trans (uh K2).output),Nat.le_trans hsz2 (Nat.le_trans (uh B3).size k4.size),fun k hk hnu=> ?_⟩
     rw [k4.block k (by have:=(uh B3).size;omega) (fun hu=> ?_),(uh B3).block k (by omega),(uh K2).block k hk (fun hu=>by
       rcases hu with x | x
       · exact hnu x
       · omega)]
     rcases hu with x | x
     · rcases uh HU2 k x with y | y
       · exact hnu y
       · omega
     · have:=hlv k x;omega
   · rcases s4 k hk with x | x | x
     · exact uh HU2 k x
     · have:=hlv k x;exact Or.inr (by omega)
     · have:=(uh B3).size;exact Or.inr (by omega)
 have Hfin:=hide hfin
 clear hfin hB4 k4 s4 m4
 go_wp2
 go_ret
 exact ⟨rfl,_,_,_,uh Hfin⟩
end Go.Proofs.YtknjjjenklfeoaaGreatDoor
