import Derived.Test.YtknjjjenklfeoaaGreatDoorC29
import Derived.Test.YtknjjjenklfeoaaGreatDoorC39
import Derived.Test.YtknjjjenklfeoaaGreatDoorC37
import Derived.Test.YtknjjjenklfeoaaGreatDoorC38
import Derived.Test.YtknjjjenklfeoaaGreatDoorC40
import Derived.Test.YtknjjjenklfeoaaGreatDoorC41
import Derived.Test.YtknjjjenklfeoaaGreatDoorC31
import Derived.ChangeSame
import Derived.ProofKit
import Derived.Below
import Derived.Test.YtknjjjenklfeoaaGreatDoorChecked
import Derived.Test.YtknjjjenklfeoaaGreatDoorRows
import Derived.Deep.Slices
import Derived.Deep.DeepHandedRow
import Derived.OpenShut
import Derived.LaidHandle
import Derived.LaidLaws
import Derived.Deep.DeepWitnessRowRef
set_option maxHeartbeats 8000000
set_option maxRecDepth 100000
namespace Go.Proofs.YtknjjjenklfeoaaGreatDoor
open Go.RowKit
attribute [local go_sem ↓] loadVar_clus storeVar_clus zeroValue_clus loadVar_op equalIn_clus
attribute [local go_sem] run_loadClus run_storeClus run_zeroClus run_storeClus_new run_loadClus_new zc_length run_loadOp HasAt_drew cellsAt_drew
theorem names_told {base:List Clus} {V:VolR} {N0:Nat} {E:List EntR} (h:Vol base V N0 E):namesTo (entsOf (cl V.C 5)) (lenOf (entsOf (cl V.C 5)))=E.map (·.name):=by
 rw [h.ents.2,h.ents.1]
 unfold namesTo pad4
 rw [List.take_left']
 rfl
theorem names_held {V:VolR} {N0:Nat} {E:List EntR}:picNames (dskOf V.C N0 E).L (dskOf V.C N0 E).L.length=E.map (·.name):=by
 unfold picNames
 rw [List.take_length,dskOf_L,List.map_map]
 rfl
theorem asksList_any (w:World) (p b:Nat) (P:PairR) (S U:Nat→Prop) (N0:Nat) (E:List EntR) (V:BookV) (B:BookR) (h:PairAt w p P S) (hst:Stands P N0 E) (hb:BookAt w b V B U) (hnx:B.next≤900000000) (hnl:B.names.length≤9000000000) (o:OpR) (hk:o.kind=6):
   Calls Tryz.prog 67 #[.pointer (some ⟨p,0,none⟩),.pointer (some ⟨b,0,none⟩),.agg (opCells o).toArray] w fun e w'=>e= .returned (.bool true)∧
     ∃ V' B' U',Booked2 w w' b B U V' B' U' (P.V.L.length+2):=by
 have hg:=hst.vol
 have h7:=hg.file.seven
 have hn1:=names_told hg
 have hn2:picNames P.D.L P.D.L.length=E.map (·.name):=by rw [← hst.disk];exact names_held
 have hlE:P.D.L.length=E.length:=by rw [← hst.disk,dsk_len]
 have hlV:=hg.ents.2
 have h4:=hg.file.ents.len
 have hb0:Below w.heap.size w (w.alloc (.cells (opCells o).toArray 80)):=(Below.refl _ _).alloc (Nat.le_refl _) _
 have hbx0:(w.alloc (.cells (opCells o).toArray 80)).heap[w.heap.size]? = some (.cells (opCells o).toArray 80 (0,0)):=heap_alloc_new _ _
 have ck:(w.alloc (.cells (opCells o).toArray 80)).cell? ⟨w.heap.size,0,none⟩=some (.int .i64 6):=by rw [cell_blk hbx0 0,List.getElem?_toArray];show some (Value.int .i64 o.kind)=_;rw [hk]
 have c0:=(h.below hb0).c0
 have H:=hide h
 have HB:=hide hb
 have B0:=hide hb0
 have hUlt:=hb.lt
 have hSlt:=h.lt
 have HL0:=hide (fun (W:World) (hB:Below w.heap.size w W)=>diskList_any W P.d P.v P.Cv P.Lv P.V ((uh H).below hB).dsk (by omega))
 rw [hn1,hlV] at HL0
 have HL1:=hide (fun (W:World) (hB:Below w.heap.size w W)=>refList_any W P.y P.Pv P.D ((uh H).below hB).ref (by omega))
 rw [hn2,hlE] at HL1
 have hNl:(E.map (·.name)).length=E.length:=List.length_map _
 generalize E.map (·.name)=NN at*
 generalize E.length=n at*
 clear h hb hb0 hbx0 hg hst hn1 hn2 hlV hlE
 go_enter Tryz.func67,Tryz.ntmps67
 go_wp2_with fail
 generalize w.alloc (.cells (opCells o).toArray 80)=w0 at*
 refine (uh HL0 w0 (uh B0)).mono ?_
 rintro e w1 ⟨lv,rfl,rl1,b1⟩
 have B1:=hide ((uh B0).trans (b1.mono (uh B0).size))
 have hs0:w.heap.size≤w0.heap.size:=(uh B0).size
 have hlv: ∀ g,lv.ownBlock=some g→w.heap.size≤g:=fun g hg=>Nat.le_trans hs0 (rl1.lt g hg).1
 have c1:=((uh H).below (uh B1)).c1
 have R1:=hide (row_base rl1 (Nat.zero_le _))
 clear b1 B0 c0 ck rl1 HL0
 go_wp2_with fail
 refine (uh HL1 w1 (uh B1)).mono ?_
 rintro e w2 ⟨mv,rfl,rm2,b2⟩
 have R2:=hide (ownsRow_kept (Kept.of_below (S:=fun _=>False) b2) (uh R1) (fun _ _=>id))
 have M2:=hide (row_base rm2 (Nat.zero_le _))
 have B2:=hide ((uh B1).trans (b2.mono (uh B1).size))
 clear R1 rm2 b2 B1 c1 HL1
 obtain ⟨la,lcap,rfl⟩:=row_form (uh R2)
 obtain ⟨ma,mcap,rfl⟩:=row_form (uh M2)
 go_wp2
 have hsv:(sv NN).length=n:=by rw [sv_length,hNl]
 have hget: ∀ k,k<n→(sv NN)[k]? = some (.string (txt (NN.getD k []))):=fun k hk=>by
   unfold sv
   rw [List.getElem?_map,List.getD_eq_getElem?_getD,List.getElem?_eq_getElem (by omega)]
   rfl
 have Hget:=hide hget
 clear hget
 have hn4:(n:Int)≤4:=by omega
 go_loopw [17,18] (fun s i w'=> ∃ k:Nat,k≤n∧s= .bool true∧i= .int .i64 k∧Below w2.heap.size w2 w') (fun _ i _=>n - (intOf i).toNat)
 case atStart=>exact ⟨0,by omega,rfl,rfl,Below.refl _ _⟩
 case round=>
   obtain ⟨k,hk',rfl,rfl,hb⟩:=hrel
   by_cases hlt:k<n
   · have hki:(k:Int)<(n:Int):=by omega
     have r1:=ownsRow_kept (Kept.of_below (S:=fun _=>False) hb) (uh R2) (fun _ _=>id)
     have r2:=ownsRow_kept (Kept.of_below (S:=fun _=>False) hb) (uh M2) (fun _ _=>id)
     obtain ⟨g,cap2,e2,_⟩:=row_some r1 (by omega)
     obtain ⟨rfl,rfl⟩:la=some ⟨g,0,none⟩∧lcap=cap2:=by injection e2 with x1 x2 x3;exact ⟨x1,x3⟩
     obtain ⟨g3,cap3,e3,_⟩:=row_some r2 (by omega)
     obtain ⟨rfl,rfl⟩:ma=some ⟨g3,0,none⟩∧mcap=cap3:=by injection e3 with x1 x2 x3;exact ⟨x1,x3⟩
     have d1:=row_one r1 k hlt (uh Hget k hlt)
     have d2:=row_one r2 k hlt (uh Hget k hlt)
     have Hb:=hide hb
     clear hb r1 r2 e2 e3
     generalize txt (NN.getD k [])=t at*
     go_wp2
     go_quiet (fail)
     go_wp2
     go_roundw
     case rel=>exact ⟨k+1,by omega,rfl,by go_num,(uh Hb).trans ((((Kept.refl (fun _=>False) wr).drewN nq).below).mono (uh Hb).size)⟩
     case measure=>simp [intOf];omega
   · have hki: ¬ (k:Int)<(n:Int):=by omega
     have R3:=hide (ownsRow_kept (Kept.of_below (S:=fun _=>False) hb) (uh R2) (fun _ _=>id))
     have B3:=hide ((uh B2).trans (hb.mono (uh B2).size))
     clear hb
     go_wp2_with fail
     have Ho:=hide (ownsNames_any wr b V B U (.slice la n lcap) (sv NN) ((uh HB).below (uh B3)) (by rw [hsv];exact uh R3) (fun g hg hu=>by have:=hlv g hg;have:=hUlt g hu;omega) (by omega) (by omega) (by omega))
     rw [hsv] at Ho
     refine (uh Ho).mono ?_
     rintro e w4 ⟨rfl,V4,B4,U4,hB4,n4,l4,e4w,e4f,m4,k4,s4⟩
     have hfin:Booked2 w w4 b B U V4 B4 U4 (P.V.L.length+2):=by
       have hs3:=(uh B3).size
       refine ⟨hB4,by omega,by rw [e4f];omega,by rw [e4w];omega,by omega,fun x hx=>Or.inl (by rw [e4f] at hx;exact hx),fun x hx=>Or.inl (by rw [e4w] at hx;exact hx),fun x hx=> ?_,?_,fun k hk=> ?_⟩
       · rcases m4 x hx with y | y
         · exact Or.inl y
         · exact Or.inr (by omega)
       · refine ⟨k4.os.trans (uh B3).os,k4.tape.trans (uh B3).tape,k4.output.trans (uh B3).output,Nat.le_trans hs3 k4.size,fun k hk hnu=> ?_⟩
         rw [k4.block k (by omega) (fun hu=> ?_),(uh B3).block k hk]
         rcases hu with x | x
         · exact hnu x
         · have:=hlv k x;omega
       · rcases s4 k hk with x | x | x
         · exact Or.inl x
         · exact Or.inr (hlv k x)
         · exact Or.inr (by omega)
     have Hfin:=hide hfin
     clear hfin hB4 k4 s4 m4 Ho
     go_wp2
     go_ret
     exact ⟨rfl,_,_,_,uh Hfin⟩
theorem stepTake_any (w:World) (p b:Nat) (P:PairR) (S U:Nat→Prop) (N0:Nat) (E:List EntR) (V:BookV) (B:BookR) (h:PairAt w p P S) (hst:Stands P N0 E) (hb:BookAt w b V B U) (hSU: ∀ k,S k→ ¬ U k) (hpos:0<P.V.L.length) (hL:P.V.L.length≤300000000) (hBl:P.B.length≤1000) (hms:P.ms.length≤1000000000) (o:OpR) (hn:o.name.size≤maxLen) (hk:o.kind=3):
   Calls Tryz.prog 34 (stepArgs p b o) w fun e w'=>e= .returned (.tuple #[.pointer (some ⟨p,0,none⟩),.bool true])∧ ∃ P' N1 E',Stands P' N1 E'∧ ∃ S' V' B' U',Stepped w w' p b P S B U P' S' V' B' U':=by
 unfold stepArgs
 have hbx0:(w.alloc (.cells (opCells o).toArray 80)).heap[w.heap.size]? = some (.cells (opCells o).toArray 80 (0,0)):=heap_alloc_new _ _
 have hb0:Below w.heap.size w (w.alloc (.cells (opCells o).toArray 80)):=(Below.refl _ _).alloc (Nat.le_refl _) _
 have ck:(w.alloc (.cells (opCells o).toArray 80)).cell? ⟨w.heap.size,0,none⟩=some (.int .i64 o.kind):=by rw [cell_blk hbx0 0,List.getElem?_toArray];rfl
 have l1:HasAt (w.alloc (.cells (opCells o).toArray 80)) w.heap.size 0 6:=fun j hj=>by rw [Nat.zero_add,cell_blk hbx0,List.getElem?_toArray,List.getElem?_eq_getElem (by rw [opCells_length];exact hj)];rfl
 have l2:cellsAt (w.alloc (.cells (opCells o).toArray 80)) w.heap.size 0 6=opCells o:=cellsAt_of_range (fun j v hv=>by rw [Nat.zero_add,cell_blk hbx0,List.getElem?_toArray];exact hv) (opCells_length o)
 have b1:(o.kind == 1)=false:=by rw [hk];rfl
 have b2:(o.kind == 2)=false:=by rw [hk];rfl
 have b3:(o.kind == 3)=true:=by rw [hk];rfl
 have b4:(o.kind == 4)=false:=by rw [hk];rfl
 have b5:(o.kind == 5)=false:=by rw [hk];rfl
 have b6:(o.kind == 6)=false:=by rw [hk];rfl
 have b7:(o.kind == 7)=false:=by rw [hk];rfl
 have b9:(o.kind == 9)=false:=by rw [hk];rfl
 have b10:(o.kind == 10)=false:=by rw [hk];rfl
 have b11:(o.kind == 11)=false:=by rw [hk];rfl
 have b12:(o.kind == 12)=false:=by rw [hk];rfl
 have b13:(o.kind == 13)=false:=by rw [hk];rfl
 have b14:(o.kind == 14)=false:=by rw [hk];rfl
 have H:=hide h
 have HB:=hide hb
 have HS:=hide hst
 have B0:=hide hb0
 have Hk:=hide hk
 have hsz:(w.alloc (.cells (opCells o).toArray 80)).heap.size=w.heap.size+1:=by simp
 have Hsz:=hide hsz
 clear h hst hb0 hbx0 hk hb hsz
 go_enter Tryz.func34,Tryz.ntmps34
 go_wp2_with fail
 refine (sharesTake_any _ p P S N0 E ((uh H).below (uh B0)) (uh HS) (by omega) o hn (uh Hk)).mono ?_
 rintro e w1 ⟨rfl,P1,N1,E1,hst1,S1,hw1⟩
 have H1:=hide hw1
 have HS1:=hide hst1
 have hl1:=hw1.log
 clear hw1 hst1
 go_wp2_with fail
 refine (stands_any w1 p P1 S1 N1 E1 (uh H1).at' (uh HS1) ((uh H1).logp hpos) (by omega) (by rw [(uh H1).base];exact hBl) (by rw [(uh H1).marks];exact hms)).mono ?_
 rintro e w2 ⟨rfl,Mv2,m2,hm2,hd2,S2,h2,k2,n2⟩
 have hfin: ∃ P' N1 E',Stands P' N1 E'∧ ∃ S' V' B' U',Stepped w w2 p b P S B U P' S' V' B' U':=by
   have hlt:=(uh HB).lt
   have hs:=uh Hsz
   have hw1:=uh H1
   have hkS:Kept S w w1:=(Kept.of_below (uh B0)).trans hw1.kept
   have hs1:=hkS.size
   have new1: ∀ k,S1 k→S k∨w.heap.size≤k:=fun k hk=>by
     rcases hw1.new k hk with x | x
     · exact Or.inl x
     · exact Or.inr (by omega)
   have new2: ∀ k,S2 k→S k∨w.heap.size≤k:=fun k hk=>by
     rcases n2 k hk with x | x
     · exact new1 k x
     · exact Or.inr (by omega)
   have hk2:Kept S w w2:=by
     refine ⟨k2.os.trans hkS.os,k2.tape.trans hkS.tape,k2.output.trans hkS.output,Nat.le_trans hs1 k2.size,fun k hk hn=> ?_⟩
     rw [k2.block k (by omega) (fun hx=>by
       rcases new1 k hx with y | y
       · exact hn y
       · omega)]
     exact hkS.block k hk hn
   have hbk:BookAt w2 b V B U:=(uh HB).kept hk2 (fun k hu hsx=>hSU k hsx hu)
   refine ⟨{ P1 with Mv:=Mv2,ms:=P1.ms++[m2] },N1,E1,⟨(uh HS1).vol,(uh HS1).disk,(uh HS1).exact⟩,S2,V,B,U,h2,hbk,hw1.base,hw1.log,hw1.logp,?_,by omega,by omega,by omega,by omega,fun x hx=>Or.inl hx,fun x hx=>Or.inl hx,fun x hx=>Or.inl hx,hk2.mono fun k hk=>Or.inl hk,new2,fun k hk=>Or.inl hk,fun k hk hu=> ?_⟩
   · show (P1.ms++[m2]).length≤_
     rw [hw1.marks];simp
   · rcases new2 k hk with x | x
     · exact hSU k x hu
     · have:=hlt k hu;omega
 have Hfin:=hide hfin
 clear hfin h2 k2 n2
 go_wp2
 go_ret2
 exact ⟨rfl,uh Hfin⟩
theorem stepReturn_any (w:World) (p b:Nat) (P:PairR) (S U:Nat→Prop) (N0:Nat) (E:List EntR) (V:BookV) (B:BookR) (h:PairAt w p P S) (hst:Stands P N0 E) (hb:BookAt w b V B U) (hSU: ∀ k,S k→ ¬ U k) (hpos:0<P.V.L.length) (hL:P.V.L.length≤300000000) (hBl:P.B.length≤1000) (hms:P.ms.length≤1000000000) (o:OpR) (hn:o.name.size≤maxLen) (hk:o.kind=4):
   Calls Tryz.prog 34 (stepArgs p b o) w fun e w'=>e= .returned (.tuple #[.pointer (some ⟨p,0,none⟩),.bool true])∧ ∃ P' N1 E',Stands P' N1 E'∧ ∃ S' V' B' U',Stepped w w' p b P S B U P' S' V' B' U':=by
 unfold stepArgs
 have hbx0:(w.alloc (.cells (opCells o).toArray 80)).heap[w.heap.size]? = some (.cells (opCells o).toArray 80 (0,0)):=heap_alloc_new _ _
 have hb0:Below w.heap.size w (w.alloc (.cells (opCells o).toArray 80)):=(Below.refl _ _).alloc (Nat.le_refl _) _
 have ck:(w.alloc (.cells (opCells o).toArray 80)).cell? ⟨w.heap.size,0,none⟩=some (.int .i64 o.kind):=by rw [cell_blk hbx0 0,List.getElem?_toArray];rfl
 have l1:HasAt (w.alloc (.cells (opCells o).toArray 80)) w.heap.size 0 6:=fun j hj=>by rw [Nat.zero_add,cell_blk hbx0,List.getElem?_toArray,List.getElem?_eq_getElem (by rw [opCells_length];exact hj)];rfl
 have l2:cellsAt (w.alloc (.cells (opCells o).toArray 80)) w.heap.size 0 6=opCells o:=cellsAt_of_range (fun j v hv=>by rw [Nat.zero_add,cell_blk hbx0,List.getElem?_toArray];exact hv) (opCells_length o)
 have b1:(o.kind == 1)=false:=by rw [hk];rfl
 have b2:(o.kind == 2)=false:=by rw [hk];rfl
 have b3:(o.kind == 3)=false:=by rw [hk];rfl
 have b4:(o.kind == 4)=true:=by rw [hk];rfl
 have b5:(o.kind == 5)=false:=by rw [hk];rfl
 have b6:(o.kind == 6)=false:=by rw [hk];rfl
 have b7:(o.kind == 7)=false:=by rw [hk];rfl
 have b9:(o.kind == 9)=false:=by rw [hk];rfl
 have b10:(o.kind == 10)=false:=by rw [hk];rfl
 have b11:(o.kind == 11)=false:=by rw [hk];rfl
 have b12:(o.kind == 12)=false:=by rw [hk];rfl
 have b13:(o.kind == 13)=false:=by rw [hk];rfl
 have b14:(o.kind == 14)=false:=by rw [hk];rfl
 have H:=hide h
 have HB:=hide hb
 have HS:=hide hst
 have B0:=hide hb0
 have Hk:=hide hk
 have hsz:(w.alloc (.cells (opCells o).toArray 80)).heap.size=w.heap.size+1:=by simp
 have Hsz:=hide hsz
 clear h hst hb0 hbx0 hk hb hsz
 go_enter Tryz.func34,Tryz.ntmps34
 go_wp2_with fail
 refine (sharesReturn_any _ p P S N0 E ((uh H).below (uh B0)) (uh HS) (by omega) o hn (uh Hk)).mono ?_
 rintro e w1 ⟨rfl,P1,N1,E1,hst1,S1,hw1⟩
 have H1:=hide hw1
 have HS1:=hide hst1
 have hl1:=hw1.log
 clear hw1 hst1
 go_wp2_with fail
 refine (stands_any w1 p P1 S1 N1 E1 (uh H1).at' (uh HS1) ((uh H1).logp hpos) (by omega) (by rw [(uh H1).base];exact hBl) (by rw [(uh H1).marks];exact hms)).mono ?_
 rintro e w2 ⟨rfl,Mv2,m2,hm2,hd2,S2,h2,k2,n2⟩
 have hfin: ∃ P' N1 E',Stands P' N1 E'∧ ∃ S' V' B' U',Stepped w w2 p b P S B U P' S' V' B' U':=by
   have hlt:=(uh HB).lt
   have hs:=uh Hsz
   have hw1:=uh H1
   have hkS:Kept S w w1:=(Kept.of_below (uh B0)).trans hw1.kept
   have hs1:=hkS.size
   have new1: ∀ k,S1 k→S k∨w.heap.size≤k:=fun k hk=>by
     rcases hw1.new k hk with x | x
     · exact Or.inl x
     · exact Or.inr (by omega)
   have new2: ∀ k,S2 k→S k∨w.heap.size≤k:=fun k hk=>by
     rcases n2 k hk with x | x
     · exact new1 k x
     · exact Or.inr (by omega)
   have hk2:Kept S w w2:=by
     refine ⟨k2.os.trans hkS.os,k2.tape.trans hkS.tape,k2.output.trans hkS.output,Nat.le_trans hs1 k2.size,fun k hk hn=> ?_⟩
     rw [k2.block k (by omega) (fun hx=>by
       rcases new1 k hx with y | y
       · exact hn y
       · omega)]
     exact hkS.block k hk hn
   have hbk:BookAt w2 b V B U:=(uh HB).kept hk2 (fun k hu hsx=>hSU k hsx hu)
   refine ⟨{ P1 with Mv:=Mv2,ms:=P1.ms++[m2] },N1,E1,⟨(uh HS1).vol,(uh HS1).disk,(uh HS1).exact⟩,S2,V,B,U,h2,hbk,hw1.base,hw1.log,hw1.logp,?_,by omega,by omega,by omega,by omega,fun x hx=>Or.inl hx,fun x hx=>Or.inl hx,fun x hx=>Or.inl hx,hk2.mono fun k hk=>Or.inl hk,new2,fun k hk=>Or.inl hk,fun k hk hu=> ?_⟩
   · show (P1.ms++[m2]).length≤_
     rw [hw1.marks];simp
   · rcases new2 k hk with x | x
     · exact hSU k x hu
     · have:=hlt k hu;omega
 have Hfin:=hide hfin
 clear hfin h2 k2 n2
 go_wp2
 go_ret2
 exact ⟨rfl,uh Hfin⟩
theorem stepReadOf_any (w:World) (p b:Nat) (P:PairR) (S:Nat→Prop) (N0:Nat) (E:List EntR) (h:PairAt w p P S) (hst:Stands P N0 E) (o:OpR) (hk:o.kind=7) (hn:o.name.size≤maxLen):
   Calls Tryz.prog 34 (stepArgs p b o) w fun e w'=>e= .returned (.tuple #[.pointer (some ⟨p,0,none⟩),.bool true])∧Below w.heap.size w w':=by
 unfold stepArgs
 have hbx0:(w.alloc (.cells (opCells o).toArray 80)).heap[w.heap.size]? = some (.cells (opCells o).toArray 80 (0,0)):=heap_alloc_new _ _
 have hb0:Below w.heap.size w (w.alloc (.cells (opCells o).toArray 80)):=(Below.refl _ _).alloc (Nat.le_refl _) _
 have ck:(w.alloc (.cells (opCells o).toArray 80)).cell? ⟨w.heap.size,0,none⟩=some (.int .i64 o.kind):=by rw [cell_blk hbx0 0,List.getElem?_toArray];rfl
 have l1:HasAt (w.alloc (.cells (opCells o).toArray 80)) w.heap.size 0 6:=fun j hj=>by rw [Nat.zero_add,cell_blk hbx0,List.getElem?_toArray,List.getElem?_eq_getElem (by rw [opCells_length];exact hj)];rfl
 have l2:cellsAt (w.alloc (.cells (opCells o).toArray 80)) w.heap.size 0 6=opCells o:=cellsAt_of_range (fun j v hv=>by rw [Nat.zero_add,cell_blk hbx0,List.getElem?_toArray];exact hv) (opCells_length o)
 have b1:(o.kind == 1)=false:=by rw [hk];rfl
 have b2:(o.kind == 2)=false:=by rw [hk];rfl
 have b3:(o.kind == 3)=false:=by rw [hk];rfl
 have b4:(o.kind == 4)=false:=by rw [hk];rfl
 have b5:(o.kind == 5)=false:=by rw [hk];rfl
 have b6:(o.kind == 6)=false:=by rw [hk];rfl
 have b7:(o.kind == 7)=true:=by rw [hk];rfl
 have b9:(o.kind == 9)=false:=by rw [hk];rfl
 have b10:(o.kind == 10)=false:=by rw [hk];rfl
 have b11:(o.kind == 11)=false:=by rw [hk];rfl
 have b12:(o.kind == 12)=false:=by rw [hk];rfl
 have b13:(o.kind == 13)=false:=by rw [hk];rfl
 have b14:(o.kind == 14)=false:=by rw [hk];rfl
 have H:=hide (h.below hb0)
 have HS:=hide hst
 have B0:=hide hb0
 have Hk:=hide hk
 clear h hst hb0 hbx0 hk
 go_enter Tryz.func34,Tryz.ntmps34
 go_wp2_with fail
 refine (asksReadOf_any _ p b P S N0 E (uh H) (uh HS) o (uh Hk) hn).mono ?_
 rintro e w1 ⟨rfl,b1⟩
 have B1:=hide ((uh B0).trans (b1.mono (uh B0).size))
 clear b1
 go_wp2
 go_ret2
 exact ⟨rfl,uh B1⟩
theorem stepList_any (w:World) (p b:Nat) (P:PairR) (S U:Nat→Prop) (N0:Nat) (E:List EntR) (V:BookV) (B:BookR) (h:PairAt w p P S) (hst:Stands P N0 E) (hb:BookAt w b V B U) (hSU: ∀ k,S k→ ¬ U k) (hnx:B.next≤900000000) (hnl:B.names.length≤9000000000) (o:OpR) (hk:o.kind=6):
   Calls Tryz.prog 34 (stepArgs p b o) w fun e w'=>e= .returned (.tuple #[.pointer (some ⟨p,0,none⟩),.bool true])∧ ∃ V' B' U',Stepped w w' p b P S B U P S V' B' U':=by
 unfold stepArgs
 have hbx0:(w.alloc (.cells (opCells o).toArray 80)).heap[w.heap.size]? = some (.cells (opCells o).toArray 80 (0,0)):=heap_alloc_new _ _
 have hb0:Below w.heap.size w (w.alloc (.cells (opCells o).toArray 80)):=(Below.refl _ _).alloc (Nat.le_refl _) _
 have ck:(w.alloc (.cells (opCells o).toArray 80)).cell? ⟨w.heap.size,0,none⟩=some (.int .i64 o.kind):=by rw [cell_blk hbx0 0,List.getElem?_toArray];rfl
 have l1:HasAt (w.alloc (.cells (opCells o).toArray 80)) w.heap.size 0 6:=fun j hj=>by rw [Nat.zero_add,cell_blk hbx0,List.getElem?_toArray,List.getElem?_eq_getElem (by rw [opCells_length];exact hj)];rfl
 have l2:cellsAt (w.alloc (.cells (opCells o).toArray 80)) w.heap.size 0 6=opCells o:=cellsAt_of_range (fun j v hv=>by rw [Nat.zero_add,cell_blk hbx0,List.getElem?_toArray];exact hv) (opCells_length o)
 have b1:(o.kind == 1)=false:=by rw [hk];rfl
 have b2:(o.kind == 2)=false:=by rw [hk];rfl
 have b3:(o.kind == 3)=false:=by rw [hk];rfl
 have b4:(o.kind == 4)=false:=by rw [hk];rfl
 have b5:(o.kind == 5)=false:=by rw [hk];rfl
 have b6:(o.kind == 6)=true:=by rw [hk];rfl
 have b7:(o.kind == 7)=false:=by rw [hk];rfl
 have b9:(o.kind == 9)=false:=by rw [hk];rfl
 have b10:(o.kind == 10)=false:=by rw [hk];rfl
 have b11:(o.kind == 11)=false:=by rw [hk];rfl
 have b12:(o.kind == 12)=false:=by rw [hk];rfl
 have b13:(o.kind == 13)=false:=by rw [hk];rfl
 have b14:(o.kind == 14)=false:=by rw [hk];rfl
 have H:=hide h
 have HB:=hide hb
 have HS:=hide hst
 have B0:=hide hb0
 have Hk:=hide hk
 have hsz:(w.alloc (.cells (opCells o).toArray 80)).heap.size=w.heap.size+1:=by simp
 have Hsz:=hide hsz
 clear h hst hb0 hbx0 hk hb hsz
 go_enter Tryz.func34,Tryz.ntmps34
 go_wp2_with fail
 refine (asksList_any _ p b P S U N0 E V B ((uh H).below (uh B0)) (uh HS) ((uh HB).below (uh B0)) hnx hnl o (uh Hk)).mono ?_
 rintro e w1 ⟨rfl,V1,B1,U1,hk1⟩
 have hfin:Stepped w w1 p b P S B U P S V1 B1 U1:=by
   have hlt:=(uh H).lt
   have hs:=uh Hsz
   have hnew: ∀ k,U1 k→U k∨w.heap.size≤k:=fun k hk=>by
     rcases hk1.new k hk with x | x
     · exact Or.inl x
     · exact Or.inr (by omega)
   refine ⟨((uh H).below (uh B0)).kept hk1.kept hSU,hk1.at',rfl,by omega,id,by omega,hk1.next,hk1.files,hk1.writes,hk1.names,hk1.lowF,hk1.lowW,hk1.lowN,(Kept.of_below (uh B0)).trans (hk1.kept.mono fun k hk=>Or.inr hk),fun k hk=>Or.inl hk,hnew,fun k hk hu=> ?_⟩
   rcases hnew k hu with x | x
   · exact hSU k hk x
   · have:=hlt k hk;omega
 have Hfin:=hide hfin
 clear hfin hk1
 go_wp2
 go_ret2
 exact ⟨rfl,_,_,_,uh Hfin⟩
end Go.Proofs.YtknjjjenklfeoaaGreatDoor
namespace Go.Proofs.YtknjjjenklfeoaaGreatDoor
open Go.RowKit
theorem pictures_step:StepOK 9 true Holds:=by
 intro w p b P S V B U o h hG hb hSU hL hms hnx hfl hwl hnl hfit htx hpl h8
 obtain ⟨⟨N0,E,hst⟩,hpos,hB⟩:=hG
 have hcase:o.kind≤0∨o.kind=1∨o.kind=2∨o.kind=3∨o.kind=4∨o.kind=5∨o.kind=6∨o.kind=7∨o.kind=9:=by
   unfold playsB at hpl
   simp at hpl
   omega
 rcases hcase with hk | hk | hk | hk | hk | hk | hk | hk | hk
 · refine (stepNone_any w p b o hk).mono ?_
   rintro e w' ⟨rfl,hB'⟩
   exact ⟨p,rfl,P,⟨⟨N0,E,hst⟩,hpos,hB⟩,S,V,B,U,(Stepped.none h hb hSU hB').stepping⟩
 · refine (stepRead_any w p b P S N0 E h hst o hk).mono ?_
   rintro e w' ⟨rfl,hB'⟩
   exact ⟨p,rfl,P,⟨⟨N0,E,hst⟩,hpos,hB⟩,S,V,B,U,(Stepped.none h hb hSU hB').stepping⟩
 · refine (stepWrite_any w p b P S U N0 E V B h hst hb hSU hpos (by omega) hB (by omega) o htx.1 hk).mono ?_
   rintro e w' ⟨rfl,P',hst',S',V',B',U',hs⟩
   exact ⟨p,rfl,P',⟨⟨N0,E,hst'⟩,hs.logp hpos,by rw [hs.base];exact hB⟩,S',V',B',U',hs.stepping⟩
 · refine (stepTake_any w p b P S U N0 E V B h hst hb hSU hpos (by omega) hB (by omega) o htx.2 hk).mono ?_
   rintro e w' ⟨rfl,P',N1,E',hst',S',V',B',U',hs⟩
   exact ⟨p,rfl,P',⟨⟨N1,E',hst'⟩,hs.logp hpos,by rw [hs.base];exact hB⟩,S',V',B',U',hs.stepping⟩
 · refine (stepReturn_any w p b P S U N0 E V B h hst hb hSU hpos (by omega) hB (by omega) o htx.2 hk).mono ?_
   rintro e w' ⟨rfl,P',N1,E',hst',S',V',B',U',hs⟩
   exact ⟨p,rfl,P',⟨⟨N1,E',hst'⟩,hs.logp hpos,by rw [hs.base];exact hB⟩,S',V',B',U',hs.stepping⟩
 · refine (stepDrop_any w p b P S U N0 E V B h hst hb hSU hpos (by omega) hB (by omega) o htx.2 hk).mono ?_
   rintro e w' ⟨rfl,P',N1,E',hst',S',V',B',U',hs⟩
   exact ⟨p,rfl,P',⟨⟨N1,E',hst'⟩,hs.logp hpos,by rw [hs.base];exact hB⟩,S',V',B',U',hs.stepping⟩
 · refine (stepList_any w p b P S U N0 E V B h hst hb hSU (by omega) (by omega) o hk).mono ?_
   rintro e w' ⟨rfl,V',B',U',hs⟩
   exact ⟨p,rfl,P,⟨⟨N0,E,hst⟩,hpos,hB⟩,S,V',B',U',hs.stepping⟩
 · refine (stepReadOf_any w p b P S N0 E h hst o hk htx.2).mono ?_
   rintro e w' ⟨rfl,hB'⟩
   exact ⟨p,rfl,P,⟨⟨N0,E,hst⟩,hpos,hB⟩,S,V,B,U,(Stepped.none h hb hSU hB').stepping⟩
 · refine (stepFile_any w p b P S U N0 E V B h hst hb hSU hpos (by omega) (by omega) (by omega) (by omega) o hk).mono ?_
   rintro e w' ⟨rfl,V',B',U',hs⟩
   exact ⟨p,rfl,P,⟨⟨N0,E,hst⟩,hpos,hB⟩,S,V',B',U',hs.stepping⟩
theorem pictures_any (w:World) (a:Option Addr) (n cap:Nat) (ops:Nat→OpR) (hs:SRow w a n ops) (hn:n≤1048000):
   Calls Tryz.prog 4 #[.slice a n cap] w fun e w'=>e= .returned (.bool true)∧Below w.heap.size w w':=by
 have H:=hide (plays_any 9 true Holds holds_new holds_stands pictures_step w a n cap ops hs hn)
 clear hs
 go_enter Tryz.func4,Tryz.ntmps4
 go_wp2_with fail
 refine (uh H).mono ?_
 rintro e w' ⟨rfl,hb⟩
 have B:=hide hb
 clear hb
 go_wp2
 go_ret
 exact ⟨rfl,uh B⟩
end Go.Proofs.YtknjjjenklfeoaaGreatDoor
namespace Go.Proofs.YtknjjjenklfeoaaGreatDoor.Row1
open Go.ChangeShapes Go.WideShapes Go.RowKit
def shutB (P:Program) (t:TypeId):Bool:=
 match P.underlying t with
 | some (.slice e)=>decide (0<P.cellsOf e) && decide (e<P.types.size)
 | some (.pointer e)=>decide (e<P.types.size)
 | some (.struct fs)=>fs.toList.all fun f=>decide (f.type<P.types.size)
 | some (.array _ e)=>decide (e<P.types.size)
 | some (.map _ e)=>decide (e<P.types.size)
 | _=>true
def Shut (P:Program):Prop:= ∀ t,t<P.types.size→shutB P t=true
theorem shut_of {P:Program} (h:((List.range P.types.size).all (shutB P))=true):Shut P:=fun t ht=>List.all_eq_true.1 h t (List.mem_range.2 ht)
theorem shut:Shut Tryz.prog:=shut_of (by kernel_rfl)
section
variable {H:Type} {enc:TypeId × Value→H} {P:Program} {w:World} {base:Nat} {sp:Nat→Bool}
theorem step_spare (hz:Shut P) {r r':TypeId→List Value→Option (DataW H × List MemPlace)}
   (hr: ∀ t cs x,t<P.types.size→r t cs=some x→(∀ p ∈ x.2,sp p.block=true)→r' t cs=some x) {t:TypeId} {cs:List Value} {x:DataW H × List MemPlace} (hT:t<P.types.size)
   (h:DataW.trodStep enc P w base (fun _=>true) true r t cs=some x) (hs: ∀ p ∈ x.2,sp p.block=true):
   DataW.trodStep enc P w base sp true r' t cs=some x:=by
 have hz':=hz t hT
 unfold shutB at hz'
 unfold DataW.trodStep at h ⊢
 split at h
 case h_6 e a ht=>
   rw [ht] at hz'
   have hE:e<P.types.size:=by simpa using hz'
   simp only [Option.map_eq_some_iff,Option.bind_eq_some_iff] at h ⊢
   obtain ⟨y,⟨cs',hc,hy⟩,rfl⟩:=h
   exact ⟨y,⟨cs',hc,hr _ _ _ hE hy (fun p hp=>hs p (by simp [hp]))⟩,rfl⟩
 case h_8 e a len cap ht=>
   rw [ht] at hz'
   obtain ⟨he0,hE⟩:0<P.cellsOf e∧e<P.types.size:=by simpa using hz'
   simp only [if_true] at h ⊢
   split at h
   · rename_i hc
     rw [if_pos hc]
     simp only [Option.map_eq_some_iff,Option.bind_eq_some_iff] at h ⊢
     obtain ⟨elems,he,rest,hrest,rfl⟩:=h
     have hrl:rest.length=cap - len:=by simpa using mapM_some_length hrest
     have one: ∀ (i:Nat) (y:DataW H × List MemPlace),y ∈ elems++rest→
         (w.cells? base (a.add (i*P.cellsOf e)) (P.cellsOf e)).bind (r e)=some y→(w.cells? base (a.add (i*P.cellsOf e)) (P.cellsOf e)).bind (r' e)=some y:=by
       intro i y hy hv
       simp only [Option.bind_eq_some_iff] at hv ⊢
       obtain ⟨cs',hc',hy'⟩:=hv
       refine ⟨cs',hc',hr _ _ _ hE hy' (fun p hp=>hs p ?_)⟩
       simp only [List.mem_append,List.mem_flatMap]
       exact Or.inr ⟨y,by simpa using hy,hp⟩
     refine ⟨elems,mapM_carry he (fun i y _ hy=>one i y (by simp [hy])),rest,?_,rfl⟩
     by_cases hcap:cap - len=0
     · have hr0:rest=[]:=List.eq_nil_of_length_eq_zero (hrl.trans hcap)
       subst hr0
       simp [hcap]
     · have hb:sp a.block=true:=by
         refine hs (.cell a.block (a.off+0)) ?_
         refine List.mem_append.2 (Or.inl (MemPlace.mem_row.2 ⟨0,?_,rfl⟩))
         exact Nat.mul_pos (by omega) he0
       rw [if_pos hb]
       exact mapM_carry hrest (fun j y _ hy=>one (len+j) y (by simp [hy]))
   · cases h
 case h_9 _ fs ht=>
   rw [ht] at hz'
   have hE: ∀ f ∈ fs.toList,f.type<P.types.size:=fun f hf=>by simpa using List.all_eq_true.1 hz' f hf
   split at h
   · rename_i hc
     rw [if_pos hc]
     simp only [Option.map_eq_some_iff] at h ⊢
     obtain ⟨xs,hx,rfl⟩:=h
     exact ⟨xs,mapM_carry hx (fun f y hf hy hv=>hr _ _ _ (hE f hf) hv (fun p hp=>hs p (List.mem_flatMap.2 ⟨y,hy,hp⟩))),rfl⟩
   · cases h
 case h_10 _ _ e ht=>
   rw [ht] at hz'
   have hE:e<P.types.size:=by simpa using hz'
   split at h
   · rename_i hc
     rw [if_pos hc]
     simp only [Option.map_eq_some_iff] at h ⊢
     obtain ⟨xs,hx,rfl⟩:=h
     exact ⟨xs,mapM_carry hx (fun f y _ hy hv=>hr _ _ _ hE hv (fun p hp=>hs p (List.mem_flatMap.2 ⟨y,hy,hp⟩))),rfl⟩
   · cases h
 case h_14 k e b ht=>
   rw [ht] at hz'
   have hE:e<P.types.size:=by simpa using hz'
   split at h
   · rename_i es clock hb
     split at h
     · rename_i hc
       simp only [Option.bind_eq_some_iff] at h
       obtain ⟨entries,he,hd⟩:=h
       split at hd
       · rename_i hris
         have hx:=Option.some.inj hd
         subst hx
         simp only [if_pos hc,Option.bind_eq_some_iff]
         refine ⟨entries,mapM_carry he (fun x y _ hy hv=> ?_),by simp [hris]⟩
         simp only [Option.bind_eq_some_iff] at hv ⊢
         obtain ⟨key,hk,hz⟩:=hv
         refine ⟨key,hk,?_⟩
         split at hz
         · rename_i hf
           rw [if_pos hf]
           simp only [Option.map_eq_some_iff] at hz ⊢
           obtain ⟨q,hq,rfl⟩:=hz
           exact ⟨q,hr _ _ _ hE hq (fun p hp=>hs p (by simp only [List.mem_cons,List.mem_flatMap];exact Or.inr ⟨_,hy,hp⟩)),rfl⟩
         · cases hz
       · cases hd
     · cases h
   · cases h
 all_goals first | exact h | cases h
theorem trod_spare (hz:Shut P): ∀ (n:Nat) (t:TypeId) (cs:List Value) (x:DataW H × List MemPlace),t<P.types.size→
   DataW.trod enc P w base (fun _=>true) true n t cs=some x→(∀ p ∈ x.2,sp p.block=true)→DataW.trod enc P w base sp true n t cs=some x:=by
 intro n
 induction n with
 | zero=>intro t cs x _ h;simp [DataW.trod] at h
 | succ n ih=>
   intro t cs x hT h hs
   rw [DataW.trod_step] at h ⊢
   exact step_spare hz ih hT h hs
theorem trodAll_spare {w':World} (hz:Shut P) (hB:Below w.heap.size w w'):
   ∀ {ts:List TypeId} {vs:List Value} {ds:List (DataW H)} {ps:List MemPlace},(∀ t ∈ ts,t<P.types.size)→DataW.TrodAll enc P w base (fun _=>true) true ts vs ds ps→
     (∀ p ∈ ps,sp p.block=true)→DataW.TrodAll enc P w' base sp true ts vs ds ps
 | [],[],[],_,_,h,_=>h
 | _ :: _,_ :: _,_ :: _,_,hT,⟨a,b,⟨n,h1⟩,h2,e⟩,hs=>by
   subst e
   refine ⟨a,b,⟨n,?_⟩,trodAll_spare hz hB (fun t ht=>hT t (List.mem_cons_of_mem _ ht)) h2 (fun p hp=>hs p (List.mem_append_right _ hp)),rfl⟩
   have h3:=trod_spare (sp:=sp) hz n _ _ _ (hT _ List.mem_cons_self) h1 (fun p hp=>hs p (List.mem_append_left _ hp))
   exact DataW.trod_carry n _ _ _ h3 (fun p hp=>hB.same (DataW.trod_lt n _ _ _ h3 p hp))
end
end Go.Proofs.YtknjjjenklfeoaaGreatDoor.Row1
namespace Go.Proofs.YtknjjjenklfeoaaGreatDoor
open Go.RowKit Go.ChangeShapes Go.WideShapes Go.Deep
section
variable {H:Type} {enc:TypeId × Value→H} {w:World} {sp:Nat→Bool}
theorem one_slice {t e:TypeId} {n:Nat} {c:Value} {x:DataW H × List MemPlace} (ht:Tryz.prog.underlying t=some (.slice e))
   (h:DataW.trod enc Tryz.prog w 0 sp true n t [c]=some x):c.oneCell'=true:=by
 rcases open_slice ht h with ⟨hc,_⟩ | ⟨a,len,cap,_,_,_,_,hc,_⟩
 · obtain rfl:c= .slice none 0 0:=by simpa using hc
   rfl
 · obtain rfl:c= .slice (some a) len cap:=by simpa using hc
   rfl
theorem six {α:Type} {l:List α} (h:l.length=6): ∃ a b c d e f,l=[a,b,c,d,e,f]:=by
 match l,h with
 | [a,b,c,d,e,f],_=>exact ⟨a,b,c,d,e,f,rfl⟩
theorem one_int:Tryz.prog.cellsOf 3=1:=by kernel_rfl
theorem one_string:Tryz.prog.cellsOf 9=1:=by kernel_rfl
theorem one_raw:Tryz.prog.cellsOf 34=1:=by kernel_rfl
theorem one_gone:Tryz.prog.cellsOf 57=1:=by kernel_rfl
theorem open_op {n:Nat} {cs:List Value} {x:DataW H × List MemPlace} (h:DataW.trod enc Tryz.prog w 0 sp true n 80 cs=some x):
   ∃ o:OpR,cs=opCells o∧o.Fits∧(o.text.size≤maxLen∧o.name.size≤maxLen)∧ ∃ ys,x.1= .agg ys∧0<ys.length:=by
 obtain ⟨xs,m,_,rfl,hl,hlen,hf⟩:=DataW.trod_struct Tryz.underlying80 h
 have hl6:cs.length=6:=hl.trans (by kernel_rfl)
 have hx6:xs.length=6:=hlen
 obtain ⟨c0,c1,c2,c3,c4,c5,rfl⟩:=six hl6
 obtain ⟨x0,x1,x2,x3,x4,x5,rfl⟩:=six hx6
 have f0:DataW.trod enc Tryz.prog w 0 sp true m 3 (([c0,c1,c2,c3,c4,c5].drop 0).take (Tryz.prog.cellsOf 3))=some x0:=hf 0 _ rfl
 have f1:DataW.trod enc Tryz.prog w 0 sp true m 3 (([c0,c1,c2,c3,c4,c5].drop 1).take (Tryz.prog.cellsOf 3))=some x1:=hf 1 _ rfl
 have f2:DataW.trod enc Tryz.prog w 0 sp true m 9 (([c0,c1,c2,c3,c4,c5].drop 2).take (Tryz.prog.cellsOf 9))=some x2:=hf 2 _ rfl
 have f3:DataW.trod enc Tryz.prog w 0 sp true m 9 (([c0,c1,c2,c3,c4,c5].drop 3).take (Tryz.prog.cellsOf 9))=some x3:=hf 3 _ rfl
 have f4:DataW.trod enc Tryz.prog w 0 sp true m 34 (([c0,c1,c2,c3,c4,c5].drop 4).take (Tryz.prog.cellsOf 34))=some x4:=hf 4 _ rfl
 have f5:DataW.trod enc Tryz.prog w 0 sp true m 57 (([c0,c1,c2,c3,c4,c5].drop 5).take (Tryz.prog.cellsOf 57))=some x5:=hf 5 _ rfl
 rw [one_int] at f0
 rw [one_int] at f1
 rw [one_string] at f2
 rw [one_string] at f3
 rw [one_raw] at f4
 rw [one_gone] at f5
 change DataW.trod enc Tryz.prog w 0 sp true m _ [c0]=_ at f0
 change DataW.trod enc Tryz.prog w 0 sp true m _ [c1]=_ at f1
 change DataW.trod enc Tryz.prog w 0 sp true m _ [c2]=_ at f2
 change DataW.trod enc Tryz.prog w 0 sp true m _ [c3]=_ at f3
 change DataW.trod enc Tryz.prog w 0 sp true m _ [c4]=_ at f4
 change DataW.trod enc Tryz.prog w 0 sp true m _ [c5]=_ at f5
 obtain ⟨k,hk,_⟩:=DataW.trod_int (k:= .i64) (by kernel_rfl) f0
 obtain ⟨q,hq,_⟩:=DataW.trod_int (k:= .i64) (by kernel_rfl) f1
 obtain ⟨s,hs,_,hsl⟩:=DataW.trod_string (by kernel_rfl) f2
 obtain ⟨u,hu,_,hul⟩:=DataW.trod_string (by kernel_rfl) f3
 have g4:=one_slice Tryz.underlying34 f4
 have g5:=one_slice Tryz.underlying57 f5
 obtain rfl:c0= .int .i64 k:=by simpa using hk
 obtain rfl:c1= .int .i64 q:=by simpa using hq
 obtain rfl:c2= .string s:=by simpa using hs
 obtain rfl:c3= .string u:=by simpa using hu
 exact ⟨⟨k,q,s,u,c4,c5⟩,rfl,⟨g4,g5⟩,⟨hul,hsl⟩,_,rfl,by simp⟩
theorem bulk_pos: ∀ d:DataW H,1≤Rows.uptoBulk d:=by
 intro d
 cases d with
 | lit l=>cases l <;> simp [Rows.uptoBulk]
 | _=>simp [Rows.uptoBulk]
theorem bulk_len: ∀ ds:List (DataW H),ds.length≤Rows.uptoBulkAll ds
 | []=>Nat.le_refl 0
 | d :: r=>by
   have:=bulk_pos d
   have:=bulk_len r
   show r.length+1≤Rows.uptoBulk d+Rows.uptoBulkAll r
   omega
theorem bulk_two {D:Nat→DataW H}: ∀ {l:List Nat},(∀ i ∈ l,2≤Rows.uptoBulk (D i))→2*l.length≤Rows.uptoBulkAll (l.map D)
 | [],_=>Nat.le_refl 0
 | i :: r,h=>by
   have h1:=h i List.mem_cons_self
   have h2:=bulk_two (D:=D) (l:=r) (fun k hk=>h k (List.mem_cons_of_mem _ hk))
   show 2*(r.length+1)≤Rows.uptoBulk (D i)+Rows.uptoBulkAll (r.map D)
   omega
theorem range_of_cells {g o n:Nat} {spot:Option Nat} {cs:List Value} (hn:cs.length=n) (h0:0<n) (h:w.cells? 0 ⟨g,o,spot⟩ n=some cs):(spot=none→w.rangeAt g o cs)∧g<w.heap.size:=by
 refine ⟨fun hs=> ?_,World.cells?_block h h0⟩
 subst hs
 intro j v hj
 unfold World.cells? at h
 rw [if_pos (Nat.zero_le _)] at h
 have hj':j<n:=by
   rcases Nat.lt_or_ge j n with h' | h'
   · exact h'
   · rw [List.getElem?_eq_none (by omega)] at hj
     cases hj
 have:=mapM_some_get h j j (by rw [List.getElem?_range hj'])
 have e:(Addr.add ⟨g,o,none⟩ j)=⟨g,o+j,none⟩:=by
   unfold Addr.add
   split
   · simp
   · rfl
 rw [e] at this
 rw [this,hj]
theorem cells_op:Tryz.prog.cellsOf 80=6:=by kernel_rfl
theorem open_ops {fuel:Nat} {a:Option Addr} {len cap:Nat} {x:DataW H × List MemPlace} (h:DataW.trod enc Tryz.prog w 0 (fun _=>true) true fuel 22 [.slice a len cap]=some x):
   ∃ ops:Nat→OpR,SRow w a len ops∧2*len≤Rows.uptoBulk x.1:=by
 rcases open_slice Tryz.underlying22 h with ⟨hc,rfl⟩ | ⟨b,len',cap',m,n,D,Pl,hc,_,hl,hm,hmm,rfl,hel⟩
 · obtain ⟨rfl,rfl,rfl⟩:a=none∧len=0∧cap=0:=by simpa using hc
   exact ⟨fun _=>zo,⟨fun h0=>by omega,fun i hi=>by omega,fun i hi=>by omega⟩,by omega⟩
 · obtain ⟨rfl,rfl,rfl⟩:a=some b∧len=len'∧cap=cap':=by simpa using hc
   simp only [if_true] at hmm
   subst hmm
   rw [cells_op] at hel
   have each: ∀ i,i<m→ ∃ o:OpR,w.cells? 0 (b.add (i*6)) 6=some (opCells o)∧o.Fits∧(o.text.size≤maxLen∧o.name.size≤maxLen)∧2≤Rows.uptoBulk (D i):=by
     intro i hi
     obtain ⟨cs,h1,h2⟩:=hel i hi
     obtain ⟨o,rfl,ho,ht,ys,hy,hp⟩:=open_op h2
     refine ⟨o,h1,ho,ht,?_⟩
     have hy':D i= .agg ys:=hy
     rw [hy']
     have:=bulk_len ys
     show 2≤Rows.uptoBulkAll ys+1
     omega
   have:Inhabited OpR:=⟨zo⟩
   obtain ⟨ops,hops⟩:=choose_lt each
   obtain ⟨g,o,spot⟩:=b
   refine ⟨ops,⟨fun h0=> ?_,fun i hi=>(hops i (by omega)).2.1,fun i hi=>(hops i (by omega)).2.2.1⟩,?_⟩
   · have h1:=(hops 0 (by omega)).1
     have hspot:spot=none:=by
       have h2:=h1
       unfold World.cells? at h2
       rw [if_pos (Nat.zero_le _)] at h2
       have h3:=mapM_some_get h2 0 0 rfl
       simpa [Addr.add] using World.cell?_spot (h3.trans (rfl:(opCells (ops 0))[0]? = some _))
     subst hspot
     have hadd: ∀ i,Addr.add ⟨g,o,none⟩ (i*6)=⟨g,o+i*6,none⟩:=by
       intro i
       unfold Addr.add
       split
       · simp
       · rfl
     refine ⟨g,o,rfl,?_,fun i hi=> ?_⟩
     · rw [hadd] at h1
       exact (range_of_cells (n:=6) rfl (by decide) h1).2
     · have h4:=(hops i (by omega)).1
       rw [hadd] at h4
       exact (range_of_cells (n:=6) rfl (by decide) h4).1 rfl
   · have h5:=bulk_two (D:=D) (l:=List.range len) (fun i hi=>(hops i (by have:=List.mem_range.1 hi;omega)).2.2.2)
     rw [List.length_range] at h5
     show 2*len≤Rows.uptoBulkAll ((List.range len).map D)+Rows.uptoBulkAll _+1
     omega
end
end Go.Proofs.YtknjjjenklfeoaaGreatDoor
namespace Go.Proofs.YtknjjjenklfeoaaGreatDoor.Pictures
open Go.ChangeShapes Go.WideShapes Go.ChangeAt Go.RowKit
theorem typesB:((Tryz.f4.params.toList).all fun t=>decide (t<Tryz.prog.types.size))=true:=by kernel_rfl
theorem contract (H:Type) (enc:TypeId × Value→H) (W:World) (base:Nat) (args:Array Value) (ds gs:List (DataW H)) (before:List MemPlace)
   (hval: ∀ (j:Nat) t v,Tryz.f4.params[j]? = some t→args[j]? = some v→Value.okWide Tryz.prog W .any base t v)
   (hW:DataW.Whole enc Tryz.prog Tryz.f4.params.toList Rows.picturesSpec.vars false W args.toList ds gs before)
   (hsmall:Rows.uptoSmall H (ds++gs)=true):
   Calls Tryz.prog 4 args W fun e W'=> ∃ v,e= .returned v∧Rows.picturesSpec.post enc Tryz.prog Tryz.f4 false true false false W args v W':=by
 have hW':=hW
 obtain ⟨p,q,hA0,hV,rfl,hfz,hnd⟩:=hW
 have hA1:DataW.TrodAll enc Tryz.prog W 0 (fun _=>true) true Tryz.f4.params.toList args.toList ds p:=hA0
 have hA:=hA1
 rw [Tryz.params4] at hA hval
 obtain ⟨v0,d0,rfl,rfl,h0⟩:=trodAll_one hA
 obtain ⟨rfl,rfl⟩:=trodVars_none hV
 obtain ⟨a,len,cap,rfl⟩:=okWide_slice Tryz.underlying22 (hval 0 22 v0 rfl rfl)
 obtain ⟨fuel,hf⟩:=h0
 obtain ⟨ops,hs,hb⟩:=open_ops hf
 have hlen:len≤1048000:=by
   have h1:Rows.uptoBulkAll ([d0]++[])≤1048576:=by simpa [Rows.uptoSmall] using hsmall
   have h2:Rows.uptoBulk d0≤Rows.uptoBulkAll ([d0]++[]):=Nat.le_add_right _ _
   have hb':2*len≤Rows.uptoBulk d0:=hb
   omega
 simp only [List.append_nil] at hW'
 refine (pictures_any W a len cap ops hs hlen).mono fun e W' ⟨he,hB⟩=> ?_
 subst he
 have hT: ∀ t ∈ Tryz.f4.params.toList,t<Tryz.prog.types.size:=fun t ht=>of_decide_eq_true (List.all_eq_true.1 typesB t ht)
 have hold: ∀ x ∈ p,(fun b=>decide (b<W.heap.size)) x.block=true:=fun x hx=>by simpa using hW'.lt x (by simpa using hx)
 refine ⟨_,rfl,[d0],[],p,[],p,[],hW',?_,?_,rfl,World.keptBut_mono (fun x hx=>⟨hx,Or.inr (Or.inl hx)⟩) (hB.frame _),fun h=>by cases h⟩
 · exact trodAll_cons_mk (shut_bool (by kernel_rfl) _) trodAll_mk0
 · exact Row1.trodAll_spare Row1.shut hB hT hA1 hold
end Go.Proofs.YtknjjjenklfeoaaGreatDoor.Pictures
namespace Go.Proofs.YtknjjjenklfeoaaGreatDoor.Wit
open Go.RowKit
theorem own:ownKnob Tryz.prog.godebug=none:=by kernel_rfl
def low (P:Program):Nat:=(World.holding P default ⟨#[],#[],[]⟩).heap.size
def textOf:DataW Unit→List UInt8
 | .iface _ (.ptr (.agg [.lit (.string s)]))=>s
 | _=>[]
def cellOf (d:DataW Unit):Obj:= .cells #[.string ⟨(textOf d).toArray⟩] 287
def lay (h:Array Obj) (g:Nat) (v:Value):Array Obj:=h.modify g fun
 | .cells _ t frozen=> .cells #[v] t frozen
 | o=>o
def err (P:Program) (k:Nat):Value:= .iface 267 (.pointer (some ⟨low P+k,0,none⟩))
def laidWorld (P:Program) (os:Os):World:=
 let w0:=World.holding P os ⟨#[cellOf Rows.laid_vellum_volume_errLength,cellOf Rows.laid_vellum_volume_errHead,cellOf Rows.laid_vellum_volume_errList,cellOf Rows.laid_vellum_volume_errCount,cellOf Rows.laid_vellum_volume_errMark,cellOf Rows.laid_vellum_volume_errNowhere,cellOf Rows.laid_vellum_volume_errTwice,cellOf Rows.laid_vellum_volume_errBehind],#[],[]⟩
 let h0:=lay w0.heap 0 (err P 0)
 let h1:=lay h0 1 (err P 1)
 let h2:=lay h1 2 (err P 2)
 let h3:=lay h2 3 (err P 3)
 let h4:=lay h3 4 (err P 4)
 let h5:=lay h4 5 (.iface 246 (.agg #[.pointer (some ⟨10,98,none⟩)]))
 let h6:=lay h5 6 (err P 5)
 let h7:=lay h6 7 (err P 6)
 let h8:=lay h7 8 (err P 7)
 { w0 with heap:=h8 }
theorem laid_met (os:Os) (args:Array Value):laidMetH Tryz.prog Rows.blocksUptoRow.laid ((laidWorld Tryz.prog os).forCall (fun _ _=>0) ⟨#[],args,[]⟩).memory:=
 laidMetH_of_parts (laidMet_of_run' 8 (by kernel_rfl) (by kernel_rfl)) (by kernel_rfl)
theorem refs (os:Os) (args:Array Value):((laidWorld Tryz.prog os).forCall (fun _ _=>0) ⟨#[],args,[]⟩).variablesRefB Tryz.prog=true:=by kernel_rfl
theorem rows (os:Os) (args:Array Value):(((laidWorld Tryz.prog os).forCall (fun _ _=>0) ⟨#[],args,[]⟩).heap.toList.drop Tryz.prog.globals.size).take ((begin Tryz.prog (fun _ _=>0) default).world.heap.size - Tryz.prog.globals.size)=
     (begin Tryz.prog (fun _ _=>0) default).world.heap.toList.drop Tryz.prog.globals.size:=by kernel_rfl
end Go.Proofs.YtknjjjenklfeoaaGreatDoor.Wit
