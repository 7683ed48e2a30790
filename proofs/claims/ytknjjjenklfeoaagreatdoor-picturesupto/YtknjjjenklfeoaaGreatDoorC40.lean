import Derived.Test.YtknjjjenklfeoaaGreatDoorC31
import Derived.Test.YtknjjjenklfeoaaGreatDoorC39
set_option maxHeartbeats 8000000
set_option maxRecDepth 100000
namespace Go.Proofs.YtknjjjenklfeoaaGreatDoor
open Go.RowKit
attribute [local go_sem ↓] loadVar_op
attribute [local go_sem] run_loadOp HasAt_drew cellsAt_drew
set_option linter.unusedSimpArgs false in
theorem stepDrop_any (w:World) (p b:Nat) (P:PairR) (S U:Nat→Prop) (N0:Nat) (E:List EntR) (V:BookV) (B:BookR) (h:PairAt w p P S) (hst:Stands P N0 E) (hb:BookAt w b V B U) (hSU: ∀ k,S k→ ¬ U k) (hpos:0<P.V.L.length) (hL:P.V.L.length≤300000000) (hBl:P.B.length≤1000) (hms:P.ms.length≤1000000000) (o:OpR) (hn:o.name.size≤maxLen) (hk:o.kind=5):
   Calls Tryz.prog 34 (stepArgs p b o) w fun e w'=>e= .returned (.tuple #[.pointer (some ⟨p,0,none⟩),.bool true])∧ ∃ P' N1 E',Stands P' N1 E'∧ ∃ S' V' B' U',Stepped w w' p b P S B U P' S' V' B' U':=by
 unfold stepArgs
 have hbx0:(w.alloc (.cells (opCells o).toArray 80)).heap[w.heap.size]? = some (.cells (opCells o).toArray 80 (0,0)):=heap_alloc_new _ _
 have hb0:Below w.heap.size w (w.alloc (.cells (opCells o).toArray 80)):=(Below.refl _ _).alloc (Nat.le_refl _) _
 have ck:(w.alloc (.cells (opCells o).toArray 80)).cell? ⟨w.heap.size,0,none⟩=some (.int .i64 o.kind):=by rw [cell_blk hbx0 0,List.getElem?_toArray];rfl
 have l1:HasAt (w.alloc (.cells (opCells o).toArray 80)) w.heap.size 0 6:=fun j hj=>by rw [Nat.zero_add,cell_blk hbx0,List.getElem?_toArray,List.getElem?_eq_getElem (by rw [opCells_length];exact hj)];rfl
 have l2:cellsAt (w.alloc (.cells (opCells o).toArray 80)) w.heap.size 0 6=opCells o:=cellsAt_of_range (fun j v hv=>by rw [Nat.zero_add,cell_blk hbx0,List.getElem?_toArray];exact hv) (opCells_length o)
 have b1:(o.kind == 1)=false:=by rw [hk];rfl
 have b2:(o.kind == 2)=false:=by rw [hk];rfl
 have b3:(o.kind == 3)=false:=by rw [hk];rfl
 have b4:(o.kind == 4)=false:=by rw [hk];rfl
 have b5:(o.kind == 5)=true:=by rw [hk];rfl
 have b6:(o.kind == 6)=false:=by rw [hk];rfl
 have b7:(o.kind == 7)=false:=by rw [hk];rfl
 have b9:(o.kind == 9)=false:=by rw [hk];rfl
 have b10:(o.kind == 10)=false:=by rw [hk];rfl
 have b11:(o.kind == 11)=false:=by rw [hk];rfl
 have b12:(o.kind == 12)=false:=by rw [hk];rfl
 have b13:(o.kind == 13)=false:=by rw [hk];rfl
 have b14:(o.kind == 14)=false:=by rw [hk];rfl
 have H:=hide h
 have HB:=hide hb
 have HS:=hide hst
 have B0:=hide hb0
 have Hk:=hide hk
 have hsz:(w.alloc (.cells (opCells o).toArray 80)).heap.size=w.heap.size+1:=by simp
 have Hsz:=hide hsz
 clear h hst hb0 hbx0 hk hb hsz
 go_enter Tryz.func34,Tryz.ntmps34
 go_wp2_with fail
 have hg:=(uh HS).vol
 have h7:=hg.file.seven
 have hmost:=hg.file.most
 have hDl:P.D.L.length≤4:=by rw [← (uh HS).disk,dsk_len];exact hg.file.ents.len
 have HC:=hide (hg.dropCases o.name)
 rw [(uh HS).disk] at HC
 have HFst:=hide (fun he=>hg.dropGoes (s:=o.name) he)
 have hft:=fun k hk=>(uh H).lt k ((uh H).inD k (Or.inr hk))
 have Hft:=hide hft
 have X0:Hid ((w.alloc (.cells (opCells o).toArray 80)).heap[w.heap.size]? = some (.cells (opCells o).toArray 80 (0,0))):=heap_alloc_new _ _
 clear hg hft ck l1 l2
 generalize w.alloc (.cells (opCells o).toArray 80)=w3 at*
 have B3:=B0
 have X3:=X0
 clear B0 X0
 have hT:ShareT p w.heap.size P.d o.name w3.drew:=⟨((uh H).below (uh B3).drew).c0,(cell_blk (w:=w3) (uh X3) 2).trans rfl⟩
 have Hw:=hide (diskDrop_any w3.drew P.d P.v P.Cv P.Lv P.V ((uh H).below (uh B3).drew).dsk (by omega) hmost (by omega) o.name hn (uh HFst))
 generalize hR:dropR P.V o.name=R at*
 have HR:=hide hR
 clear hR
 refine wp_region_L (ShareT p w.heap.size P.d o.name) 7 (by kernel_rfl) ?_
 refine takeL 0 ?_ (fun W hW=> ?_) hT ?_
 rotate_left 1
 · (obtain ⟨t0,t1⟩:=hW;go_simp;with_reducible rfl)
 simp only [Act.put,setB,set0,setS]
 refine takeL 1 ?_ (fun W hW=> ?_) hT ?_
 rotate_left 1
 · (obtain ⟨t0,t1⟩:=hW;go_simp;with_reducible rfl)
 simp only [Act.put,setB,set0,setS]
 refine takeL 2 ?_ (fun W hW=> ?_) hT ?_
 rotate_left 1
 · (obtain ⟨t0,t1⟩:=hW;go_simp;with_reducible rfl)
 simp only [Act.put,setB,set0,setS]
 refine takeL 3 ?_ (fun W hW=> ?_) hT ?_
 rotate_left 1
 · (obtain ⟨t0,t1⟩:=hW;go_simp;with_reducible rfl)
 simp only [Act.put,setB,set0,setS]
 refine takeL 4 ?_ (fun W hW=> ?_) hT ?_
 rotate_left 1
 · (obtain ⟨t0,t1⟩:=hW;go_simp;with_reducible rfl)
 simp only [Act.put,setB,set0,setS]
 refine takeL 5 ?_ (fun W hW=> ?_) hT ?_
 rotate_left 1
 · (obtain ⟨t0,t1⟩:=hW;go_simp;with_reducible rfl)
 simp only [Act.put,setB,set0,setS]
 refine wpAnyL_one (i:=6) (by kernel_rfl) rfl fun K6 hK6=> ?_
 go_simp
 go_at_call 29
 refine (uh Hw).mono ?_
 rintro e w4 ⟨rfl,C4,L4,hS4⟩
 have S4:Hid (VStep w3 w4 P.v P.Cv P.Lv C4 L4 R.1):=⟨hS4.at',⟨hS4.kept.os,hS4.kept.tape,hS4.kept.output,hS4.kept.size,hS4.kept.block⟩,hS4.new⟩
 have hnf: ∀ k,w.heap.size≤k→ ¬ foot P.v P.Cv P.Lv k:=fun k hk hf=>by have:=uh Hft k hf;omega
 have X4:=hide ((uh S4).kept.blk (hnf _ (Nat.le_refl _)) (uh X3))
 have h4:=hide (((uh H).below (uh B3)).step (uh S4))
 have c04:=(uh h4).c0
 have hT4:ShareT p w.heap.size P.d o.name w4:=⟨c04,(cell_blk (uh X4) 2).trans rfl⟩
 clear hS4 hnf
 refine hK6 _ _ (Or.inr hT4) ?_
 try simp only [Act.put,setB,set0,setS]
 refine wpAnyL_one (i:=7) (by kernel_rfl) rfl fun K7 hK7=> ?_
 go_simp
 refine hK7 _ _ (Or.inl rfl) ?_
 try simp only [Act.put,setB,set0,setS]
 refine wpAnyL_done (by kernel_rfl) ?_ _
 clear hT hT4 c04 Hw X3
 go_wp2_with fail
 have hall: ∃ E1,(refDropR P.D o.name).2=R.2∧R.1.L.length≤P.V.L.length+100∧P.V.L.length≤R.1.L.length∧ ∀ Qv,Stands { P with Cv:=C4,Lv:=L4,V:=R.1,D:=(refDropR P.D o.name).1,Pv:=Qv } N0 E1:=by
   rcases uh HC with ⟨c,hc,e1,e2⟩ | ⟨e2,e1,hl,hm,E',hcm⟩
   · rw [e1,e2]
     exact ⟨E,rfl,Nat.le_add_right _ _,Nat.le_refl _,fun Qv=>⟨(uh HS).vol,(uh HS).disk,(uh HS).exact⟩⟩
   · rw [e1,e2]
     exact ⟨E',rfl,hl,hm,fun Qv=>⟨hcm.vol,hcm.holds,fun hx=>hcm.exact ((uh HS).exact hx)⟩⟩
 obtain ⟨E1,hsame,hl,hm,hst1⟩:=hall
 have Hst1:=hide hst1
 have hTb:ShareF p w.heap.size P.y o.name w4.drew:=⟨(uh h4).c1,(cell_blk (w:=w4) (uh X4) 2).trans rfl⟩
 have Hnum:=hide (fun W=>num_any ((R.2:Nat):Int) W)
 have Hwr:=hide (refDrop_any w4.drew P.y P.Pv P.D ((uh h4).ref.below ((Below.refl _ w4).drew)) (by omega) o.name hn)
 rw [hsame] at Hwr
 have hylt:=(uh H).ref.lt
 have hplt:=(uh H).lt _ (uh H).inP
 have hs3:=(uh B3).size
 have hs4:=(uh S4).kept.size
 have Hrest:=hide (fun (w6:World) (Qv:Value) (hr:DOnly w4.drew w6 P.y P.Pv Qv (refDropR P.D o.name).1)=>Went.did (w6:=w6) (D':=(refDropR P.D o.name).1) (uh H) (uh B3) (uh S4) ⟨hr.kept.os,hr.kept.tape,hr.kept.output,hr.kept.size,hr.kept.block⟩ hr.at' (fun g hg=>by
   rcases hr.new g hg with x | x
   · exact Or.inl ((uh H).inV g (Or.inl x))
   · exact Or.inr (Nat.le_trans (Nat.le_trans hs3 hs4) x)) hl hm)
 have hpy:=(uh h4).footNotY
 have hp5:p<w4.heap.size:=by omega
 have c15:=(uh h4).c1
 have HT6:=hide (fun (w6:World) (hk:Kept (fun x=>x=P.y) w4.drew w6)=>(show ShareF p w.heap.size P.y o.name w6 from
     ⟨(World.cell?_of_block (hk.block p hp5 hpy)).trans c15,(cell_blk (hk.blk (show ¬ w.heap.size=P.y by omega) (uh X4)) 2).trans rfl⟩))
 clear hpy hp5 c15 hst1 HC
 refine wp_region_L (ShareF p w.heap.size P.y o.name) 10 (by kernel_rfl) ?_
 refine takeL 0 ?_ (fun W hW=> ?_) hTb ?_
 rotate_left 1
 · (obtain ⟨t0,t1⟩:=hW;go_simp;with_reducible rfl)
 simp only [Act.put,setB,set0,setS]
 refine takeL 2 ?_ (fun W hW=> ?_) hTb ?_
 rotate_left 1
 · (obtain ⟨t0,t1⟩:=hW;go_simp;with_reducible rfl)
 simp only [Act.put,setB,set0,setS]
 refine takeL 3 ?_ (fun W hW=> ?_) hTb ?_
 rotate_left 1
 · (obtain ⟨t0,t1⟩:=hW;go_simp;with_reducible rfl)
 simp only [Act.put,setB,set0,setS]
 refine takeL 4 ?_ (fun W hW=> ?_) hTb ?_
 rotate_left 1
 · (obtain ⟨t0,t1⟩:=hW;go_simp;with_reducible rfl)
 simp only [Act.put,setB,set0,setS]
 refine takeL 5 ?_ (fun W hW=> ?_) hTb ?_
 rotate_left 1
 · (obtain ⟨t0,t1⟩:=hW;go_simp;with_reducible rfl)
 simp only [Act.put,setB,set0,setS]
 refine takeL 6 ?_ (fun W hW=> ?_) hTb ?_
 rotate_left 1
 · (obtain ⟨t0,t1⟩:=hW;go_simp;with_reducible rfl)
 simp only [Act.put,setB,set0,setS]
 refine takeL 7 ?_ (fun W hW=> ?_) hTb ?_
 rotate_left 1
 · (obtain ⟨t0,t1⟩:=hW;go_simp;with_reducible rfl)
 simp only [Act.put,setB,set0,setS]
 refine wpAnyL_one (i:=1) (by kernel_rfl) rfl fun K1 hK1=> ?_
 go_simp
 go_at_call 64
 refine (uh Hnum _).mono ?_
 rintro e w5' ⟨rfl,rfl⟩
 refine hK1 _ _ (Or.inr hTb) ?_
 try simp only [Act.put,setB,set0,setS]
 refine wpAnyL_one (i:=8) (by kernel_rfl) rfl fun K8 hK8=> ?_
 go_simp
 go_at_call 65
 refine (uh Hwr).mono ?_
 rintro e w1 ⟨rfl,Qv,hr6⟩
 have H1:=hide (uh Hrest w1 Qv hr6)
 have HS1:=hide (uh Hst1 Qv)
 have hT6:=uh HT6 w1 hr6.kept
 clear hr6 Hrest Hst1 Hwr HT6
 refine hK8 _ _ (Or.inr hT6) ?_
 try simp only [Act.put,setB,set0,setS]
 refine takeL 9 ?_ (fun W hW=> ?_) hT6 ?_
 rotate_left 1
 · (obtain ⟨t0,t1⟩:=hW;go_simp;with_reducible rfl)
 simp only [Act.put,setB,set0,setS]
 refine wpAnyL_one (i:=10) (by kernel_rfl) rfl fun K10 hK10=> ?_
 go_simp
 refine hK10 _ _ (Or.inl rfl) ?_
 try simp only [Act.put,setB,set0,setS]
 refine wpAnyL_done (by kernel_rfl) ?_ _
 clear hTb hT6 X4 h4 S4
 have hl1:=(uh H1).log
 generalize { P with Cv:=C4,Lv:=L4,V:=R.1,D:=(refDropR P.D o.name).1,Pv:=Qv }=P1 at*
 generalize (fun k=>(S k∨foot P.v C4 L4 k)∨Qv.ownBlock=some k)=S1 at*
 go_wp2_with fail
 refine (stands_any w1 p P1 S1 N0 E1 (uh H1).at' (uh HS1) ((uh H1).logp hpos) (by omega) (by rw [(uh H1).base];exact hBl) (by rw [(uh H1).marks];exact hms)).mono ?_
 rintro e w2 ⟨rfl,Mv2,m2,hm2,hd2,S2,h2,k2,n2⟩
 have hfin: ∃ P' N1 E',Stands P' N1 E'∧ ∃ S' V' B' U',Stepped w w2 p b P S B U P' S' V' B' U':=by
   have hlt:=(uh HB).lt
   have hw1:=uh H1
   have hkS:Kept S w w1:=hw1.kept
   have hs1:=hkS.size
   have new1: ∀ k,S1 k→S k∨w.heap.size≤k:=fun k hk=>by
     rcases hw1.new k hk with x | x
     · exact Or.inl x
     · exact Or.inr (by omega)
   have new2: ∀ k,S2 k→S k∨w.heap.size≤k:=fun k hk=>by
     rcases n2 k hk with x | x
     · exact new1 k x
     · exact Or.inr (by omega)
   have hk2:Kept S w w2:=by
     refine ⟨k2.os.trans hkS.os,k2.tape.trans hkS.tape,k2.output.trans hkS.output,Nat.le_trans hs1 k2.size,fun k hk hn=> ?_⟩
     rw [k2.block k (by omega) (fun hx=>by
       rcases new1 k hx with y | y
       · exact hn y
       · omega)]
     exact hkS.block k hk hn
   have hbk:BookAt w2 b V B U:=(uh HB).kept hk2 (fun k hu hsx=>hSU k hsx hu)
   refine ⟨{ P1 with Mv:=Mv2,ms:=P1.ms++[m2] },N0,E1,⟨(uh HS1).vol,(uh HS1).disk,(uh HS1).exact⟩,S2,V,B,U,h2,hbk,hw1.base,hw1.log,hw1.logp,?_,by omega,by omega,by omega,by omega,fun x hx=>Or.inl hx,fun x hx=>Or.inl hx,fun x hx=>Or.inl hx,hk2.mono fun k hk=>Or.inl hk,new2,fun k hk=>Or.inl hk,fun k hk hu=> ?_⟩
   · show (P1.ms++[m2]).length≤_
     rw [hw1.marks];simp
   · rcases new2 k hk with x | x
     · exact hSU k x hu
     · have:=hlt k hu;omega
 have Hfin:=hide hfin
 clear hfin h2 k2 n2
 go_wp2
 go_ret2
 exact ⟨rfl,uh Hfin⟩
end Go.Proofs.YtknjjjenklfeoaaGreatDoor
