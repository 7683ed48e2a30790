import Derived.Test.YtknjjjenklfeoaaGreatDoorC29
import Derived.Test.YtknjjjenklfeoaaGreatDoorC30
import Derived.Test.YtknjjjenklfeoaaGreatDoorC13
set_option maxHeartbeats 8000000
set_option maxRecDepth 100000
namespace Go.Proofs.YtknjjjenklfeoaaGreatDoor
open Go.RowKit
attribute [local go_sem ↓] loadVar_clus storeVar_clus zeroValue_clus loadVar_op equalIn_clus
attribute [local go_sem] run_loadClus run_storeClus run_zeroClus run_storeClus_new run_loadClus_new zc_length run_loadOp HasAt_drew cellsAt_drew
structure Stepped (w w':World) (p b:Nat) (P:PairR) (S:Nat→Prop) (B:BookR) (U:Nat→Prop) (P':PairR) (S':Nat→Prop) (V':BookV) (B':BookR) (U':Nat→Prop):Prop where
 at':PairAt w' p P' S'
 book:BookAt w' b V' B' U'
 base:P'.B=P.B
 log:P'.V.L.length≤P.V.L.length+100
 logp:0<P.V.L.length→0<P'.V.L.length
 marks:P'.ms.length≤P.ms.length+1
 next:B'.next≤B.next+2
 files:B'.files.length≤B.files.length+4
 writes:B'.writes.length≤B.writes.length+4
 names:B'.names.length≤B.names.length+4
 lowF: ∀ x ∈ B'.files,x ∈ B.files∨x.n≤258
 lowW: ∀ x ∈ B'.writes,x ∈ B.writes∨x.n≤P.V.L.length+2
 lowN: ∀ x ∈ B'.names,x ∈ B.names∨x.n≤8
 kept:Kept (fun k=>S k∨U k) w w'
 newS: ∀ k,S' k→S k∨w.heap.size≤k
 newU: ∀ k,U' k→U k∨w.heap.size≤k
 apart: ∀ k,S' k→ ¬ U' k
def stepArgs (p b:Nat) (o:OpR):Array Value:= #[.pointer (some ⟨p,0,none⟩),.pointer (some ⟨b,0,none⟩),.agg (opCells o).toArray]
theorem stepNone_any (w:World) (p b:Nat) (o:OpR) (hk:o.kind≤0):
   Calls Tryz.prog 34 (stepArgs p b o) w fun e w'=>e= .returned (.tuple #[.pointer (some ⟨p,0,none⟩),.bool true])∧Below w.heap.size w w':=by
 unfold stepArgs
 have hbx0:(w.alloc (.cells (opCells o).toArray 80)).heap[w.heap.size]? = some (.cells (opCells o).toArray 80 (0,0)):=heap_alloc_new _ _
 have ck:(w.alloc (.cells (opCells o).toArray 80)).cell? ⟨w.heap.size,0,none⟩=some (.int .i64 o.kind):=by rw [cell_blk hbx0 0,List.getElem?_toArray];rfl
 have b1:(o.kind == 2)=false:=by rw [beq_eq_false_iff_ne];omega
 have b3:(o.kind == 3)=false:=by rw [beq_eq_false_iff_ne];omega
 have b4:(o.kind == 4)=false:=by rw [beq_eq_false_iff_ne];omega
 have b5:(o.kind == 5)=false:=by rw [beq_eq_false_iff_ne];omega
 have b6:(o.kind == 11)=false:=by rw [beq_eq_false_iff_ne];omega
 have b7:(o.kind == 12)=false:=by rw [beq_eq_false_iff_ne];omega
 have b8:(o.kind == 13)=false:=by rw [beq_eq_false_iff_ne];omega
 have b9:(o.kind == 14)=false:=by rw [beq_eq_false_iff_ne];omega
 have b10:(o.kind == 1)=false:=by rw [beq_eq_false_iff_ne];omega
 have b11:(o.kind == 7)=false:=by rw [beq_eq_false_iff_ne];omega
 have b12:(o.kind == 6)=false:=by rw [beq_eq_false_iff_ne];omega
 have b13:(o.kind == 9)=false:=by rw [beq_eq_false_iff_ne];omega
 have b14:(o.kind == 10)=false:=by rw [beq_eq_false_iff_ne];omega
 go_enter Tryz.func34,Tryz.ntmps34
 go_wp2
 go_ret2
 exact ⟨rfl,(Below.refl _ _).alloc (Nat.le_refl _) _⟩
theorem Stepped.none {w w':World} {p b:Nat} {P:PairR} {S:Nat→Prop} {V:BookV} {B:BookR} {U:Nat→Prop} (h:PairAt w p P S) (hb:BookAt w b V B U) (hSU: ∀ k,S k→ ¬ U k) (hB:Below w.heap.size w w'):Stepped w w' p b P S B U P S V B U:=
 ⟨h.below hB,hb.below hB,rfl,by omega,id,by omega,by omega,by omega,by omega,by omega,fun x hx=>Or.inl hx,fun x hx=>Or.inl hx,fun x hx=>Or.inl hx,Kept.of_below hB,fun k hk=>Or.inl hk,fun k hk=>Or.inl hk,hSU⟩
theorem stepRead_any (w:World) (p b:Nat) (P:PairR) (S:Nat→Prop) (N0:Nat) (E:List EntR) (h:PairAt w p P S) (hst:Stands P N0 E) (o:OpR) (hk:o.kind=1):
   Calls Tryz.prog 34 (stepArgs p b o) w fun e w'=>e= .returned (.tuple #[.pointer (some ⟨p,0,none⟩),.bool true])∧Below w.heap.size w w':=by
 unfold stepArgs
 have hbx0:(w.alloc (.cells (opCells o).toArray 80)).heap[w.heap.size]? = some (.cells (opCells o).toArray 80 (0,0)):=heap_alloc_new _ _
 have hb0:Below w.heap.size w (w.alloc (.cells (opCells o).toArray 80)):=(Below.refl _ _).alloc (Nat.le_refl _) _
 have ck:(w.alloc (.cells (opCells o).toArray 80)).cell? ⟨w.heap.size,0,none⟩=some (.int .i64 o.kind):=by rw [cell_blk hbx0 0,List.getElem?_toArray];rfl
 have l1:HasAt (w.alloc (.cells (opCells o).toArray 80)) w.heap.size 0 6:=fun j hj=>by rw [Nat.zero_add,cell_blk hbx0,List.getElem?_toArray,List.getElem?_eq_getElem (by rw [opCells_length];exact hj)];rfl
 have l2:cellsAt (w.alloc (.cells (opCells o).toArray 80)) w.heap.size 0 6=opCells o:=cellsAt_of_range (fun j v hv=>by rw [Nat.zero_add,cell_blk hbx0,List.getElem?_toArray];exact hv) (opCells_length o)
 have b1:(o.kind == 1)=true:=by rw [hk];rfl
 have b2:(o.kind == 2)=false:=by rw [hk];rfl
 have b3:(o.kind == 3)=false:=by rw [hk];rfl
 have b4:(o.kind == 4)=false:=by rw [hk];rfl
 have b5:(o.kind == 5)=false:=by rw [hk];rfl
 have b6:(o.kind == 6)=false:=by rw [hk];rfl
 have b7:(o.kind == 7)=false:=by rw [hk];rfl
 have b9:(o.kind == 9)=false:=by rw [hk];rfl
 have b10:(o.kind == 10)=false:=by rw [hk];rfl
 have b11:(o.kind == 11)=false:=by rw [hk];rfl
 have b12:(o.kind == 12)=false:=by rw [hk];rfl
 have b13:(o.kind == 13)=false:=by rw [hk];rfl
 have b14:(o.kind == 14)=false:=by rw [hk];rfl
 have H:=hide (h.below hb0)
 have HS:=hide hst
 have B0:=hide hb0
 have Hk:=hide hk
 clear h hst hb0 hbx0 hk
 go_enter Tryz.func34,Tryz.ntmps34
 go_wp2_with fail
 refine (asksRead_any _ p b P S N0 E (uh H) (uh HS) o (uh Hk)).mono ?_
 rintro e w1 ⟨rfl,b1⟩
 have B1:=hide ((uh B0).trans (b1.mono (uh B0).size))
 clear b1
 go_wp2
 go_ret2
 exact ⟨rfl,uh B1⟩
theorem stepFile_any (w:World) (p b:Nat) (P:PairR) (S U:Nat→Prop) (N0:Nat) (E:List EntR) (V:BookV) (B:BookR) (h:PairAt w p P S) (hst:Stands P N0 E) (hb:BookAt w b V B U) (hSU: ∀ k,S k→ ¬ U k) (hpos:0<P.V.L.length) (hL:P.V.L.length≤900000000) (hnx:B.next≤900000000) (hfl:B.files.length≤9000000000) (hwl:B.writes.length≤9000000000) (o:OpR) (hk:o.kind=9):
   Calls Tryz.prog 34 (stepArgs p b o) w fun e w'=>e= .returned (.tuple #[.pointer (some ⟨p,0,none⟩),.bool true])∧ ∃ V' B' U',Stepped w w' p b P S B U P S V' B' U':=by
 unfold stepArgs
 have hbx0:(w.alloc (.cells (opCells o).toArray 80)).heap[w.heap.size]? = some (.cells (opCells o).toArray 80 (0,0)):=heap_alloc_new _ _
 have hb0:Below w.heap.size w (w.alloc (.cells (opCells o).toArray 80)):=(Below.refl _ _).alloc (Nat.le_refl _) _
 have ck:(w.alloc (.cells (opCells o).toArray 80)).cell? ⟨w.heap.size,0,none⟩=some (.int .i64 o.kind):=by rw [cell_blk hbx0 0,List.getElem?_toArray];rfl
 have l1:HasAt (w.alloc (.cells (opCells o).toArray 80)) w.heap.size 0 6:=fun j hj=>by rw [Nat.zero_add,cell_blk hbx0,List.getElem?_toArray,List.getElem?_eq_getElem (by rw [opCells_length];exact hj)];rfl
 have l2:cellsAt (w.alloc (.cells (opCells o).toArray 80)) w.heap.size 0 6=opCells o:=cellsAt_of_range (fun j v hv=>by rw [Nat.zero_add,cell_blk hbx0,List.getElem?_toArray];exact hv) (opCells_length o)
 have b1:(o.kind == 1)=false:=by rw [hk];rfl
 have b2:(o.kind == 2)=false:=by rw [hk];rfl
 have b3:(o.kind == 3)=false:=by rw [hk];rfl
 have b4:(o.kind == 4)=false:=by rw [hk];rfl
 have b5:(o.kind == 5)=false:=by rw [hk];rfl
 have b6:(o.kind == 6)=false:=by rw [hk];rfl
 have b7:(o.kind == 7)=false:=by rw [hk];rfl
 have b9:(o.kind == 9)=true:=by rw [hk];rfl
 have b10:(o.kind == 10)=false:=by rw [hk];rfl
 have b11:(o.kind == 11)=false:=by rw [hk];rfl
 have b12:(o.kind == 12)=false:=by rw [hk];rfl
 have b13:(o.kind == 13)=false:=by rw [hk];rfl
 have b14:(o.kind == 14)=false:=by rw [hk];rfl
 have H:=hide h
 have HB:=hide hb
 have HS:=hide hst
 have B0:=hide hb0
 have Hk:=hide hk
 have hsz:(w.alloc (.cells (opCells o).toArray 80)).heap.size=w.heap.size+1:=by simp
 have Hsz:=hide hsz
 clear h hst hb0 hbx0 hk hb hsz
 go_enter Tryz.func34,Tryz.ntmps34
 go_wp2_with fail
 refine (asksFile_any _ p b P S U N0 E V B ((uh H).below (uh B0)) (uh HS) ((uh HB).below (uh B0)) hSU hpos hL hnx hfl hwl o (uh Hk)).mono ?_
 rintro e w1 ⟨rfl,V1,B1,U1,hk1⟩
 have hfin:Stepped w w1 p b P S B U P S V1 B1 U1:=by
   have hlt:=(uh H).lt
   have hs:=uh Hsz
   have hnew: ∀ k,U1 k→U k∨w.heap.size≤k:=fun k hk=>by
     rcases hk1.new k hk with x | x
     · exact Or.inl x
     · exact Or.inr (by omega)
   refine ⟨((uh H).below (uh B0)).kept hk1.kept hSU,hk1.at',rfl,by omega,id,by omega,hk1.next,hk1.files,hk1.writes,hk1.names,hk1.lowF,hk1.lowW,hk1.lowN,(Kept.of_below (uh B0)).trans (hk1.kept.mono fun k hk=>Or.inr hk),fun k hk=>Or.inl hk,hnew,fun k hk hu=> ?_⟩
   rcases hnew k hu with x | x
   · exact hSU k hk x
   · have:=hlt k hk;omega
 have Hfin:=hide hfin
 clear hfin hk1
 go_wp2
 go_ret2
 exact ⟨rfl,_,_,_,uh Hfin⟩
theorem stepWrite_any (w:World) (p b:Nat) (P:PairR) (S U:Nat→Prop) (N0:Nat) (E:List EntR) (V:BookV) (B:BookR) (h:PairAt w p P S) (hst:Stands P N0 E) (hb:BookAt w b V B U) (hSU: ∀ k,S k→ ¬ U k) (hpos:0<P.V.L.length) (hL:P.V.L.length≤300000000) (hBl:P.B.length≤1000) (hms:P.ms.length≤1000000000) (o:OpR) (ht:o.text.size≤maxLen) (hk:o.kind=2):
   Calls Tryz.prog 34 (stepArgs p b o) w fun e w'=>e= .returned (.tuple #[.pointer (some ⟨p,0,none⟩),.bool true])∧ ∃ P',Stands P' N0 E∧ ∃ S' V' B' U',Stepped w w' p b P S B U P' S' V' B' U':=by
 unfold stepArgs
 have hbx0:(w.alloc (.cells (opCells o).toArray 80)).heap[w.heap.size]? = some (.cells (opCells o).toArray 80 (0,0)):=heap_alloc_new _ _
 have hb0:Below w.heap.size w (w.alloc (.cells (opCells o).toArray 80)):=(Below.refl _ _).alloc (Nat.le_refl _) _
 have ck:(w.alloc (.cells (opCells o).toArray 80)).cell? ⟨w.heap.size,0,none⟩=some (.int .i64 o.kind):=by rw [cell_blk hbx0 0,List.getElem?_toArray];rfl
 have l1:HasAt (w.alloc (.cells (opCells o).toArray 80)) w.heap.size 0 6:=fun j hj=>by rw [Nat.zero_add,cell_blk hbx0,List.getElem?_toArray,List.getElem?_eq_getElem (by rw [opCells_length];exact hj)];rfl
 have l2:cellsAt (w.alloc (.cells (opCells o).toArray 80)) w.heap.size 0 6=opCells o:=cellsAt_of_range (fun j v hv=>by rw [Nat.zero_add,cell_blk hbx0,List.getElem?_toArray];exact hv) (opCells_length o)
 have b1:(o.kind == 1)=false:=by rw [hk];rfl
 have b2:(o.kind == 2)=true:=by rw [hk];rfl
 have b3:(o.kind == 3)=false:=by rw [hk];rfl
 have b4:(o.kind == 4)=false:=by rw [hk];rfl
 have b5:(o.kind == 5)=false:=by rw [hk];rfl
 have b6:(o.kind == 6)=false:=by rw [hk];rfl
 have b7:(o.kind == 7)=false:=by rw [hk];rfl
 have b9:(o.kind == 9)=false:=by rw [hk];rfl
 have b10:(o.kind == 10)=false:=by rw [hk];rfl
 have b11:(o.kind == 11)=false:=by rw [hk];rfl
 have b12:(o.kind == 12)=false:=by rw [hk];rfl
 have b13:(o.kind == 13)=false:=by rw [hk];rfl
 have b14:(o.kind == 14)=false:=by rw [hk];rfl
 have H:=hide h
 have HB:=hide hb
 have HS:=hide hst
 have B0:=hide hb0
 have Hk:=hide hk
 have hsz:(w.alloc (.cells (opCells o).toArray 80)).heap.size=w.heap.size+1:=by simp
 have Hsz:=hide hsz
 clear h hst hb0 hbx0 hk hb hsz
 go_enter Tryz.func34,Tryz.ntmps34
 go_wp2_with fail
 refine (writes_any _ p P S N0 E ((uh H).below (uh B0)) (uh HS) (by omega) o ht).mono ?_
 rintro e w1 ⟨rfl,P1,hst1,S1,hw1⟩
 have H1:=hide hw1
 have HS1:=hide hst1
 have hl1:=hw1.log
 clear hw1 hst1
 go_wp2_with fail
 refine (stands_any w1 p P1 S1 N0 E (uh H1).at' (uh HS1) ((uh H1).logp hpos) (by omega) (by rw [(uh H1).base];exact hBl) (by rw [(uh H1).marks];exact hms)).mono ?_
 rintro e w2 ⟨rfl,Mv2,m2,hm2,hd2,S2,h2,k2,n2⟩
 have hfin: ∃ P',Stands P' N0 E∧ ∃ S' V' B' U',Stepped w w2 p b P S B U P' S' V' B' U':=by
   have hlt:=(uh HB).lt
   have hs:=uh Hsz
   have hw1:=uh H1
   have hkS:Kept S w w1:=(Kept.of_below (uh B0)).trans hw1.kept
   have hs1:=hkS.size
   have new1: ∀ k,S1 k→S k∨w.heap.size≤k:=fun k hk=>by
     rcases hw1.new k hk with x | x
     · exact Or.inl x
     · exact Or.inr (by omega)
   have new2: ∀ k,S2 k→S k∨w.heap.size≤k:=fun k hk=>by
     rcases n2 k hk with x | x
     · exact new1 k x
     · exact Or.inr (by omega)
   have hk2:Kept S w w2:=by
     refine ⟨k2.os.trans hkS.os,k2.tape.trans hkS.tape,k2.output.trans hkS.output,Nat.le_trans hs1 k2.size,fun k hk hn=> ?_⟩
     rw [k2.block k (by omega) (fun hx=>by
       rcases new1 k hx with y | y
       · exact hn y
       · omega)]
     exact hkS.block k hk hn
   have hbk:BookAt w2 b V B U:=(uh HB).kept hk2 (fun k hu hsx=>hSU k hsx hu)
   refine ⟨{ P1 with Mv:=Mv2,ms:=P1.ms++[m2] },⟨(uh HS1).vol,(uh HS1).disk,(uh HS1).exact⟩,S2,V,B,U,h2,hbk,hw1.base,hw1.log,hw1.logp,?_,by omega,by omega,by omega,by omega,fun x hx=>Or.inl hx,fun x hx=>Or.inl hx,fun x hx=>Or.inl hx,hk2.mono fun k hk=>Or.inl hk,new2,fun k hk=>Or.inl hk,fun k hk hu=> ?_⟩
   · show (P1.ms++[m2]).length≤_
     rw [hw1.marks];simp
   · rcases new2 k hk with x | x
     · exact hSU k x hu
     · have:=hlt k hu;omega
 have Hfin:=hide hfin
 clear hfin h2 k2 n2
 go_wp2
 go_ret2
 exact ⟨rfl,uh Hfin⟩
end Go.Proofs.YtknjjjenklfeoaaGreatDoor
namespace Go.Proofs.YtknjjjenklfeoaaGreatDoor
open Go.RowKit
attribute [local go_sem ↓] loadVar_op storeVar_op zeroValue_op build_disk
attribute [local go_sem] run_loadOp run_zeroOp run_storeOp_new
theorem run_bDisk0 {w:World}:(bDisk #[]).run Tryz.prog w= .ok (.agg (diskCells ⟨zD,[]⟩ (.slice none 0 0)).toArray) w:=by
 have hz:=(zero_of_info (P:=Tryz.prog) (t:=70) (v:= .agg (diskCells ⟨zD,[]⟩ (.slice none 0 0)).toArray) (n:=4097) (by kernel_rfl)).1
 exact run_build_struct w 70 _ (.agg (diskCells ⟨zD,[]⟩ (.slice none 0 0)).toArray) #[(0,4096),(4096,1)] #[] _ Tryz.underlying70 hz (fun w=>by kernel_rfl) rfl
attribute [local go_sem] run_bDisk0
structure SRow (w:World) (a:Option Addr) (n:Nat) (ops:Nat→OpR):Prop where
 some:0<n→ ∃ g o,a=some ⟨g,o,none⟩∧g<w.heap.size∧ ∀ i,i<n→w.rangeAt g (o+i*6) (opCells (ops i))
 fits: ∀ i,i<n→(ops i).Fits
 text: ∀ i,i<n→(ops i).text.size≤maxLen∧(ops i).name.size≤maxLen
def playsB (hi:Int) (file:Bool) (k:Int):Bool:=decide (k≤hi) || (file && decide (k=9))
structure Stepping (w w':World) (p' b:Nat) (P:PairR) (S:Nat→Prop) (B:BookR) (U:Nat→Prop) (P':PairR) (S':Nat→Prop) (V':BookV) (B':BookR) (U':Nat→Prop):Prop where
 at':PairAt w' p' P' S'
 book:BookAt w' b V' B' U'
 log:P'.V.L.length≤P.V.L.length+100
 marks:P'.ms.length≤P.ms.length+2
 next:B'.next≤B.next+2
 files:B'.files.length≤B.files.length+4
 writes:B'.writes.length≤B.writes.length+4
 names:B'.names.length≤B.names.length+4
 lowF: ∀ x ∈ B'.files,x ∈ B.files∨x.n≤258
 lowW: ∀ x ∈ B'.writes,x ∈ B.writes∨x.n≤P.V.L.length+2
 lowN: ∀ x ∈ B'.names,x ∈ B.names∨x.n≤8
 kept:Kept (fun k=>S k∨U k) w w'
 newS: ∀ k,S' k→S k∨w.heap.size≤k
 newU: ∀ k,U' k→U k∨w.heap.size≤k
 apart: ∀ k,S' k→ ¬ U' k
def StandsOK (G:PairR→Prop):Prop:= ∀ w p P S,PairAt w p P S→G P→P.V.L.length≤300000000→P.ms.length≤1000000000→
 Calls Tryz.prog 33 #[.pointer (some ⟨p,0,none⟩)] w fun e w'=>e= .returned (.bool true)∧ ∃ P',G P'∧P'.V.L.length=P.V.L.length∧P'.ms.length=P.ms.length+1∧ ∃ S',PairAt w' p P' S'∧Kept S w w'∧ ∀ k,S' k→S k∨w.heap.size≤k
def StepOK (hi:Int) (file:Bool) (G:PairR→Prop):Prop:= ∀ w p b P S V B U o,PairAt w p P S→G P→BookAt w b V B U→(∀ k,S k→ ¬ U k)→P.V.L.length≤300000000→P.ms.length≤900000000→B.next≤900000000→B.files.length≤900000000→B.writes.length≤900000000→B.names.length≤900000000→o.Fits→o.text.size≤maxLen∧o.name.size≤maxLen→playsB hi file o.kind=true→o.kind≠8→
 Calls Tryz.prog 34 (stepArgs p b o) w fun e w'=> ∃ p',e= .returned (.tuple #[.pointer (some ⟨p',0,none⟩),.bool true])∧ ∃ P',G P'∧ ∃ S' V' B' U',Stepping w w' p' b P S B U P' S' V' B' U'
structure Playing (w w':World) (i p q b:Nat) (P Q:PairR) (S R:Nat→Prop) (V:BookV) (B:BookR) (U:Nat→Prop):Prop where
 one:PairAt w' p P S
 two:PairAt w' q Q R
 book:BookAt w' b V B U
 sr: ∀ k,S k→ ¬ R k
 su: ∀ k,S k→ ¬ U k
 ru: ∀ k,R k→ ¬ U k
 s0: ∀ k,S k→w.heap.size≤k
 r0: ∀ k,R k→w.heap.size≤k
 u0: ∀ k,U k→w.heap.size≤k
 below:Below w.heap.size w w'
 logP:P.V.L.length≤20+100*i
 logQ:Q.V.L.length≤20+100*i
 msP:P.ms.length≤4+2*i
 msQ:Q.ms.length≤4+2*i
 next:B.next≤2*i
 lf:B.files.length≤4*i
 lw:B.writes.length≤4*i
 ln:B.names.length≤4*i
 ef: ∀ x ∈ B.files,x.n≤258
 ew: ∀ x ∈ B.writes,x.n≤100+100*i
 en: ∀ x ∈ B.names,x.n≤8
section
variable {w w1 w2:World} {i p q b:Nat} {P Q:PairR} {S R:Nat→Prop} {V:BookV} {B:BookR} {U:Nat→Prop}
theorem Playing.low (h:Playing w w1 i p q b P Q S R V B U) (hi:i≤1048576):BookLow B:=
 ⟨by have:=h.ln;omega,by have:=h.lf;omega,by have:=h.lw;omega,fun x hx=>by have:=h.en x hx;omega,fun x hx=>by have:=h.ef x hx;omega,fun x hx=>by have:=h.ew x hx;omega⟩
theorem Playing.later (h:Playing w w1 i p q b P Q S R V B U) (hb:Below w1.heap.size w1 w2):Playing w w2 i p q b P Q S R V B U:=
 { h with one:=h.one.below hb,two:=h.two.below hb,book:=h.book.below hb,below:=h.below.trans (hb.mono h.below.size) }
theorem Playing.on (h:Playing w w1 i p q b P Q S R V B U):Playing w w1 (i+1) p q b P Q S R V B U:=
 { h with
   logP:=by have:=h.logP;omega
   logQ:=by have:=h.logQ;omega
   msP:=by have:=h.msP;omega
   msQ:=by have:=h.msQ;omega
   next:=by have:=h.next;omega
   lf:=by have:=h.lf;omega
   lw:=by have:=h.lw;omega
   ln:=by have:=h.ln;omega
   ew:=fun x hx=>by have:=h.ew x hx;omega }
theorem Playing.swap (h:Playing w w1 i p q b P Q S R V B U):Playing w w1 i q p b Q P R S V B U:=
 { h with one:=h.two,two:=h.one,sr:=fun k hk hs=>h.sr k hs hk,su:=h.ru,ru:=h.su,s0:=h.r0,r0:=h.s0,logP:=h.logQ,logQ:=h.logP,msP:=h.msQ,msQ:=h.msP }
theorem Playing.step {p':Nat} {P':PairR} {S':Nat→Prop} {V':BookV} {B':BookR} {U':Nat→Prop} (h:Playing w w1 i p q b P Q S R V B U) (hs:Stepping w1 w2 p' b P S B U P' S' V' B' U'):Playing w w2 (i+1) p' q b P' Q S' R V' B' U':=by
 have hR: ∀ k,R k→ ¬ (S k∨U k):=fun k hk hx=>by
   rcases hx with x | x
   · exact h.sr k x hk
   · exact h.ru k hk x
 refine ⟨hs.at',h.two.kept hs.kept hR,hs.book,fun k hk hr=> ?_,hs.apart,fun k hr hu=> ?_,fun k hk=> ?_,h.r0,fun k hk=> ?_,?_,?_,?_,?_,?_,?_,?_,?_,?_,fun x hx=> ?_,fun x hx=> ?_,fun x hx=> ?_⟩
 · rcases hs.newS k hk with x | x
   · exact h.sr k x hr
   · have:=h.two.lt k hr;omega
 · rcases hs.newU k hu with x | x
   · exact h.ru k hr x
   · have:=h.two.lt k hr;omega
 · rcases hs.newS k hk with x | x
   · exact h.s0 k x
   · have:=h.below.size;omega
 · rcases hs.newU k hk with x | x
   · exact h.u0 k x
   · have:=h.below.size;omega
 · exact h.below.trans ⟨hs.kept.os,hs.kept.tape,hs.kept.output,hs.kept.size,fun k hk=>hs.kept.block k (Nat.lt_of_lt_of_le hk h.below.size) (fun hx=>by
     rcases hx with x | x
     · have:=h.s0 k x;omega
     · have:=h.u0 k x;omega)⟩
 · have:=hs.log;have:=h.logP;omega
 · have:=h.logQ;omega
 · have:=hs.marks;have:=h.msP;omega
 · have:=h.msQ;omega
 · have:=hs.next;have:=h.next;omega
 · have:=hs.files;have:=h.lf;omega
 · have:=hs.writes;have:=h.lw;omega
 · have:=hs.names;have:=h.ln;omega
 · rcases hs.lowF x hx with y | y
   · exact h.ef x y
   · exact y
 · rcases hs.lowW x hx with y | y
   · have:=h.ew x y;omega
   · have:=h.logP;omega
 · rcases hs.lowN x hx with y | y
   · exact h.en x y
   · exact y
theorem Playing.stood {P':PairR} {S':Nat→Prop} (h:Playing w w1 i p q b P Q S R V B U) (h1:P'.V.L.length=P.V.L.length) (h2:P'.ms.length=P.ms.length+1) (ha:PairAt w2 p P' S') (hk:Kept S w1 w2) (hn: ∀ k,S' k→S k∨w1.heap.size≤k):Playing w w2 (i+1) p q b P' Q S' R V B U:=by
 refine h.step ⟨ha,h.book.kept hk (fun k hu hs=>h.su k hs hu),by omega,by omega,by omega,by omega,by omega,by omega,fun x hx=>Or.inl hx,fun x hx=>Or.inl hx,fun x hx=>Or.inl hx,hk.mono fun k hk=>Or.inl hk,hn,fun k hk=>Or.inl hk,fun k hk hu=> ?_⟩
 rcases hn k hk with x | x
 · exact h.su k x hu
 · have:=h.book.lt k hu;omega
end
theorem zDisk_at (w:World):DiskAt (w.alloc (.cells (diskCells ⟨zD,[]⟩ (.slice none 0 0)).toArray 70)) w.heap.size (.slice none 0 0) ⟨zD,[]⟩:=⟨heap_alloc_new _ _,World.ownsRow_nil _ _ _ _,⟨zD_all,zD_length⟩,fun p hp=>(by cases hp)⟩
theorem nil_row (w:World):FRow w (.slice none 0 0) []:=⟨World.ownsRow_nil _ _ _ _,fun c hc=>(by cases hc)⟩
def newPair (d v y:Nat) (Cv Lv Mv:Value) (m:MarkR):PairR:=⟨d,v,y,Cv,Lv,.slice none 0 0,Mv,.slice none 0 0,true,newV,⟨zD,[]⟩,[],[m]⟩
theorem plays_any (hi:Int) (file:Bool) (G:PairR→Prop) (hG: ∀ d v y Cv Lv Mv m,G (newPair d v y Cv Lv Mv m)) (hstands:StandsOK G) (hstep:StepOK hi file G) (w:World) (a:Option Addr) (n cap:Nat) (ops:Nat→OpR) (hs:SRow w a n ops) (hn:n≤1048000):
   Calls Tryz.prog 10 #[.slice a n cap,.int .i64 hi,.bool file] w fun e w'=>e= .returned (.bool true)∧Below w.heap.size w w':=by
 have HG:=hide hG
 have Hst:=hide hstands
 have Hsp:=hide hstep
 have HS:=hide hs
 have hnl:0<newV.L.length:=by
   have:newV.L.length=9:=by kernel_rfl
   omega
 have hnl2:newV.L.length≤20:=new_logL
 clear hG hstands hstep hs
 go_enter Tryz.func10,Tryz.ntmps10
 go_wp2_with fail
 refine (diskNew_any _).mono ?_
 rintro e w1 ⟨d1,v1,C1,L1,rfl,hd1,b1,n1⟩
 have D1:=hide hd1
 have B1:=hide b1
 have N1:=hide n1
 clear hd1 b1 n1
 go_wp2_with fail
 refine (diskNew_any _).mono ?_
 rintro e w2 ⟨d2,v2,C2,L2,rfl,hd2,b2,n2⟩
 have D2:=hide hd2
 have B2:=hide b2
 have N2:=hide n2
 clear hd2 b2 n2
 go_wp2_with fail
 have Y2:=hide (zDisk_at w2)
 have A2:Hid (Below w2.heap.size w2 (w2.alloc (.cells (diskCells ⟨zD,[]⟩ (.slice none 0 0)).toArray 70))):=(Below.refl _ _).alloc (Nat.le_refl _) _
 have hsz2:(w2.alloc (.cells (diskCells ⟨zD,[]⟩ (.slice none 0 0)).toArray 70)).heap.size=w2.heap.size+1:=by simp
 have Hsz2:=hide hsz2
 clear hsz2
 refine (begun_any _ d1 v1 C1 L1 newV w2.heap.size (.slice none 0 0) (.slice none 0 0) ⟨zD,[]⟩ [] ((uh D1).below ((uh B2).trans ((uh A2).mono (uh B2).size))) (uh Y2) (nil_row _) (fun g hg=>(by cases hg)) (by simp) hnl (by omega) true).mono ?_
 rintro e w3 ⟨p,rfl,Mv1,m1,hm1,hd1,S1,h3,b3,n3⟩
 have H3:=hide h3
 have B3:=hide b3
 have N3:=hide n3
 clear h3 b3 n3 Y2 hm1 hd1
 have hP1:=uh HG d1 v1 w2.heap.size C1 L1 Mv1 m1
 go_wp2_with fail
 have Y3:=hide (zDisk_at w3)
 have A3:Hid (Below w3.heap.size w3 (w3.alloc (.cells (diskCells ⟨zD,[]⟩ (.slice none 0 0)).toArray 70))):=(Below.refl _ _).alloc (Nat.le_refl _) _
 have hsz3:(w3.alloc (.cells (diskCells ⟨zD,[]⟩ (.slice none 0 0)).toArray 70)).heap.size=w3.heap.size+1:=by simp
 have Hsz3:=hide hsz3
 clear hsz3
 have B23:Hid (Below w2.heap.size w2 w3):=(uh A2).trans ((uh B3).mono (by rw [uh Hsz2];omega))
 refine (begun_any _ d2 v2 C2 L2 newV w3.heap.size (.slice none 0 0) (.slice none 0 0) ⟨zD,[]⟩ [] ((uh D2).below ((uh B23).trans ((uh A3).mono (uh B23).size))) (uh Y3) (nil_row _) (fun g hg=>(by cases hg)) (by simp) hnl (by omega) true).mono ?_
 rintro e w4 ⟨q,rfl,Mv2,m2,hm2,hd2,S2,h4,b4,n4⟩
 have hP2:=uh HG d2 v2 w3.heap.size C2 L2 Mv2 m2
 have B34:Hid (Below w3.heap.size w3 w4):=(uh A3).trans (b4.mono (by rw [uh Hsz3];omega))
 have hPl: ∃ P Q:PairR,G P∧G Q∧ ∃ S R U,Playing w (w4.alloc (.cells (bookCells ⟨.slice none 0 0,.slice none 0 0,.slice none 0 0,.slice none 0 0,.slice none 0 0,.slice none 0 0⟩ 0).toArray 77)) 0 p q w4.heap.size P Q S R ⟨.slice none 0 0,.slice none 0 0,.slice none 0 0,.slice none 0 0,.slice none 0 0,.slice none 0 0⟩ ⟨[],[],[],0⟩ U:=by
   have hb5:Below w4.heap.size w4 (w4.alloc (.cells (bookCells ⟨.slice none 0 0,.slice none 0 0,.slice none 0 0,.slice none 0 0,.slice none 0 0,.slice none 0 0⟩ 0).toArray 77)):=(Below.refl _ _).alloc (Nat.le_refl _) _
   have e1:=(uh B1).size
   have e2:=(uh B2).size
   have e3:=(uh B23).size
   have e4:=(uh B34).size
   have hs2:=uh Hsz2
   have hs3:=uh Hsz3
   have f1: ∀ k,S1 k→(w.heap.size≤k∧k<w1.heap.size)∨(w2.heap.size≤k∧k<w3.heap.size):=fun k hk=>by
     have hlt:=(uh H3).lt k hk
     rcases uh N3 k hk with (x | x | x | x) | x
     · exact Or.inl ⟨uh N1 k x,(uh D1).foot_lt k x⟩
     · exact Or.inr ⟨by omega,hlt⟩
     · cases x
     · cases x
     · exact Or.inr ⟨by omega,hlt⟩
   have f2: ∀ k,S2 k→(w1.heap.size≤k∧k<w2.heap.size)∨(w3.heap.size≤k∧k<w4.heap.size):=fun k hk=>by
     have hlt:=h4.lt k hk
     rcases n4 k hk with (x | x | x | x) | x
     · exact Or.inl ⟨uh N2 k x,(uh D2).foot_lt k x⟩
     · exact Or.inr ⟨by omega,hlt⟩
     · cases x
     · cases x
     · exact Or.inr ⟨by omega,hlt⟩
   have nil0: ∀ (W:World) (t:TypeId) (sz:Nat),W.ownsRow 0 t sz (.slice none 0 0) 0 []:=fun W t sz=>World.ownsRow_nil _ _ _ _
   have hbk:BookAt (w4.alloc (.cells (bookCells ⟨.slice none 0 0,.slice none 0 0,.slice none 0 0,.slice none 0 0,.slice none 0 0,.slice none 0 0⟩ 0).toArray 77)) w4.heap.size ⟨.slice none 0 0,.slice none 0 0,.slice none 0 0,.slice none 0 0,.slice none 0 0,.slice none 0 0⟩ ⟨[],[],[],0⟩ (fun k=>k=w4.heap.size):=by
     refine ⟨heap_alloc_new _ _,nil0 _ _ _,nil0 _ _ _,nil0 _ _ _,nil0 _ _ _,nil0 _ _ _,nil0 _ _ _,fun x hx=>(by cases hx),fun x hx=>(by cases hx),fun x hx=>(by cases hx),fun x hx=>(by cases hx),rfl,fun g hg=> ?_,fun x hx=>(by cases hx),fun x hx=>(by cases hx),fun x hx=>(by cases hx),fun k hk=> ?_⟩
     · rcases hg with x | x | x | x | x | x <;> cases x
     · rw [hk];simp
   refine ⟨_,_,hP1,hP2,S1,S2,fun k=>k=w4.heap.size,⟨((uh H3).below (uh B34)).below hb5,h4.below hb5,hbk,?_,?_,?_,?_,?_,?_,?_,?_,?_,?_,?_,Nat.le_refl _,Nat.le_refl _,Nat.le_refl _,Nat.le_refl _,fun x hx=>(by cases hx),fun x hx=>(by cases hx),fun x hx=>(by cases hx)⟩⟩
   · intro k hk hr
     have x1:=f1 k hk
     have x2:=f2 k hr
     omega
   · intro k hk hu
     have x1:=f1 k hk
     omega
   · intro k hk hu
     have x1:=f2 k hk
     omega
   · intro k hk
     have x1:=f1 k hk
     omega
   · intro k hk
     have x1:=f2 k hk
     omega
   · intro k hk
     omega
   · exact (uh B1).trans (((uh B2).trans (((uh B23).trans (((uh B34).trans (hb5.mono (uh B34).size)).mono (uh B23).size)).mono (uh B2).size)).mono (uh B1).size)
   · show newV.L.length≤_;omega
   · show newV.L.length≤_;omega
   · show 1≤_;omega
   · show 1≤_;omega
 obtain ⟨P0,Q0,hG0,hG0',S0,R0',U0,hPl0⟩:=hPl
 have HPl:=hide hPl0
 clear hPl0 b4 h4 n4 hm2 hd2 D1 B1 N1 D2 B2 N2 A2 Hsz2 H3 B3 N3 A3 Hsz3 B23 Y3 B34 hP1 hP2
 go_wp2_with fail
 refine (uh Hst _ p P0 S0 (uh HPl).one hG0 (by have:=(uh HPl).logP;omega) (by have:=(uh HPl).msP;omega)).mono ?_
 rintro e w6 ⟨rfl,P1,hG1,hl1,hm1,S1',ha1,hk1,hn1⟩
 have HPl1:=hide ((uh HPl).stood hl1 hm1 ha1 hk1 hn1)
 clear HPl hl1 hm1 ha1 hk1 hn1
 go_wp2_with fail
 refine (uh Hst _ q Q0 R0' (uh HPl1).two hG0' (by have:=(uh HPl1).logQ;omega) (by have:=(uh HPl1).msQ;omega)).mono ?_
 rintro e w7 ⟨rfl,Q1,hG1',hl2,hm2,R1',ha2,hk2,hn2⟩
 have HPl2:=hide ((uh HPl1).swap.stood hl2 hm2 ha2 hk2 hn2).swap
 clear HPl1 hl2 hm2 ha2 hk2 hn2
 generalize w4.heap.size=bk at*
 go_wp2
 go_loopw [9,10,14] (fun sp sq si w'=> ∃ (k p q:Nat) (P Q:PairR),k≤n∧sp= .pointer (some ⟨p,0,none⟩)∧sq= .pointer (some ⟨q,0,none⟩)∧si= .int .i64 k∧G P∧G Q∧ ∃ S R V B U,Playing w w' (2+k) p q bk P Q S R V B U) (fun _ _ si _=>n - (intOf si).toNat)
 case atStart=>exact ⟨0,p,q,P1,Q1,by omega,rfl,rfl,rfl,hG1,hG1',_,_,_,_,_,uh HPl2⟩
 case round=>
   obtain ⟨k,p,q,P,Q,hk,rfl,rfl,rfl,hGP,hGQ,S,R,V,B,U,hPl⟩:=hrel
   have HPl:=hide hPl
   clear hPl HPl2
   by_cases hlt:k<n
   · have hki:(k:Int)<(n:Int):=by omega
     obtain ⟨g,oo,ha,hgl,hrg⟩:=(uh HS).some (by omega)
     subst ha
     have hfit:=(uh HS).fits k hlt
     have htx:=(uh HS).text k hlt
     have hrk:=hrg k hlt
     have hbl:=(uh HPl).below
     have hrw:wr.rangeAt g (oo+k*6) (opCells (ops k)):=fun j v hv=>(World.cell?_of_block (hbl.block g hgl)).trans (hrk j v hv)
     have l1:HasAt wr g (oo+k*6) 6:=hasAt_of_range hrw (opCells_length _)
     have l2:cellsAt wr g (oo+k*6) 6=opCells (ops k):=cellsAt_of_range hrw (opCells_length _)
     have hA:Below wr.heap.size wr (wr.alloc (.cells (opCells (ops k)).toArray 80)):=(Below.refl _ _).alloc (Nat.le_refl _) _
     have HPa:=hide ((uh HPl).later hA)
     have hbx:(wr.alloc (.cells (opCells (ops k)).toArray 80)).heap[wr.heap.size]? = some (.cells (opCells (ops k)).toArray 80 (0,0)):=heap_alloc_new _ _
     have ck:(wr.alloc (.cells (opCells (ops k)).toArray 80)).cell? ⟨wr.heap.size,0,none⟩=some (.int .i64 (ops k).kind):=by rw [cell_blk hbx 0,List.getElem?_toArray];rfl
     have l3:HasAt (wr.alloc (.cells (opCells (ops k)).toArray 80)) wr.heap.size 0 6:=fun j hj=>by rw [Nat.zero_add,cell_blk hbx,List.getElem?_toArray,List.getElem?_eq_getElem (by rw [opCells_length];exact hj)];rfl
     have l4:cellsAt (wr.alloc (.cells (opCells (ops k)).toArray 80)) wr.heap.size 0 6=opCells (ops k):=cellsAt_of_range (fun j v hv=>by rw [Nat.zero_add,cell_blk hbx,List.getElem?_toArray];exact hv) (opCells_length _)
     clear hbl hrk hrw hA hbx hrg HPl
     by_cases h8:(ops k).kind=8
     · have b8:((ops k).kind == 8)=true:=by rw [h8];rfl
       have HPb:=hide (uh HPa).swap.on
       clear h8 HPa
       go_wp2_with fail
       refine (looks_any _ bk V B U (uh HPb).book ((uh HPb).low (by omega))).mono ?_
       rintro e w9 ⟨rfl,b9⟩
       have HPn:=hide ((uh HPb).later b9)
       clear b9 HPb
       go_wp2
       go_roundw
       case rel=>exact ⟨k+1,q,p,Q,P,by omega,rfl,rfl,by go_num,hGQ,hGP,_,_,_,_,_,uh HPn⟩
       case measure=>simp [intOf];omega
     · have b8:((ops k).kind == 8)=false:=by rw [beq_eq_false_iff_ne];exact h8
       have Hk8:=hide h8
       clear h8
       by_cases hle:(ops k).kind≤hi
       · have d1:decide ((ops k).kind≤hi)=true:=decide_eq_true hle
         have Hpl:Hid (playsB hi file (ops k).kind=true):=by show playsB hi file (ops k).kind=true;unfold playsB;rw [d1];rfl
         clear hle
         go_wp2_with fail
         refine (uh Hsp _ p bk P S V B U (ops k) (uh HPa).one hGP (uh HPa).book (uh HPa).su (by have:=(uh HPa).logP;omega) (by have:=(uh HPa).msP;omega) (by have:=(uh HPa).next;omega) (by have:=(uh HPa).lf;omega) (by have:=(uh HPa).lw;omega) (by have:=(uh HPa).ln;omega) hfit htx (uh Hpl) (uh Hk8)).mono ?_
         rintro e w8 ⟨p',rfl,P',hGP',S',V',B',U',hstp⟩
         have HPb:=hide ((uh HPa).step hstp)
         clear hstp HPa
         go_wp2_with fail
         refine (looks_any _ bk V' B' U' (uh HPb).book ((uh HPb).low (by omega))).mono ?_
         rintro e w9 ⟨rfl,b9⟩
         have HPn:=hide ((uh HPb).later b9)
         clear b9 HPb
         go_wp2
         go_roundw
         case rel=>exact ⟨k+1,p',q,P',Q,by omega,rfl,rfl,by go_num,hGP',hGQ,_,_,_,_,_,uh HPn⟩
         case measure=>simp [intOf];omega
       · have d1:decide ((ops k).kind≤hi)=false:=decide_eq_false hle
         clear hle
         cases file with
         | false=>
           have HPb:=hide (uh HPa).on
           clear HPa
           go_wp2_with fail
           refine (looks_any _ bk V B U (uh HPb).book ((uh HPb).low (by omega))).mono ?_
           rintro e w9 ⟨rfl,b9⟩
           have HPn:=hide ((uh HPb).later b9)
           clear b9 HPb
           go_wp2
           go_roundw
           case rel=>exact ⟨k+1,p,q,P,Q,by omega,rfl,rfl,by go_num,hGP,hGQ,_,_,_,_,_,uh HPn⟩
           case measure=>simp [intOf];omega
         | true=>
           by_cases h9:(ops k).kind=9
           · have b9:((ops k).kind == 9)=true:=by rw [h9];rfl
             have Hpl:Hid (playsB hi true (ops k).kind=true):=by show playsB hi true (ops k).kind=true;unfold playsB;rw [d1,decide_eq_true h9];rfl
             clear h9
             go_wp2_with fail
             refine (uh Hsp _ p bk P S V B U (ops k) (uh HPa).one hGP (uh HPa).book (uh HPa).su (by have:=(uh HPa).logP;omega) (by have:=(uh HPa).msP;omega) (by have:=(uh HPa).next;omega) (by have:=(uh HPa).lf;omega) (by have:=(uh HPa).lw;omega) (by have:=(uh HPa).ln;omega) hfit htx (uh Hpl) (uh Hk8)).mono ?_
             rintro e w8 ⟨p',rfl,P',hGP',S',V',B',U',hstp⟩
             have HPb:=hide ((uh HPa).step hstp)
             clear hstp HPa
             go_wp2_with fail
             refine (looks_any _ bk V' B' U' (uh HPb).book ((uh HPb).low (by omega))).mono ?_
             rintro e w9 ⟨rfl,b9⟩
             have HPn:=hide ((uh HPb).later b9)
             clear b9 HPb
             go_wp2
             go_roundw
             case rel=>exact ⟨k+1,p',q,P',Q,by omega,rfl,rfl,by go_num,hGP',hGQ,_,_,_,_,_,uh HPn⟩
             case measure=>simp [intOf];omega
           · have b9:((ops k).kind == 9)=false:=by rw [beq_eq_false_iff_ne];exact h9
             clear h9
             have HPb:=hide (uh HPa).on
             clear HPa
             go_wp2_with fail
             refine (looks_any _ bk V B U (uh HPb).book ((uh HPb).low (by omega))).mono ?_
             rintro e w9 ⟨rfl,b9⟩
             have HPn:=hide ((uh HPb).later b9)
             clear b9 HPb
             go_wp2
             go_roundw
             case rel=>exact ⟨k+1,p,q,P,Q,by omega,rfl,rfl,by go_num,hGP,hGQ,_,_,_,_,_,uh HPn⟩
             case measure=>simp [intOf];omega
   · have hki: ¬ (k:Int)<(n:Int):=by omega
     go_wp2_with fail
     refine (uh Hst _ p P S (uh HPl).one hGP (by have:=(uh HPl).logP;omega) (by have:=(uh HPl).msP;omega)).mono ?_
     rintro e w6 ⟨rfl,P2,hG2,hl1,hm1,S2',ha1,hk1,hn1⟩
     have HPl1:=hide ((uh HPl).stood hl1 hm1 ha1 hk1 hn1)
     clear HPl hl1 hm1 ha1 hk1 hn1
     go_wp2_with fail
     refine (uh Hst _ q Q R (uh HPl1).two hGQ (by have:=(uh HPl1).logQ;omega) (by have:=(uh HPl1).msQ;omega)).mono ?_
     rintro e w7 ⟨rfl,Q2,hG2',hl2,hm2,R2',ha2,hk2,hn2⟩
     have HPl2:=hide ((uh HPl1).swap.stood hl2 hm2 ha2 hk2 hn2)
     clear HPl1 hl2 hm2 ha2 hk2 hn2
     go_wp2
     go_ret
     exact ⟨rfl,(uh HPl2).below⟩
end Go.Proofs.YtknjjjenklfeoaaGreatDoor
namespace Go.Proofs.YtknjjjenklfeoaaGreatDoor
open Go.RowKit
def Holds (P:PairR):Prop:=(∃ N0 E,Stands P N0 E)∧0<P.V.L.length∧P.B.length≤1000
theorem holds_new (d v y:Nat) (Cv Lv Mv:Value) (m:MarkR):Holds (newPair d v y Cv Lv Mv m):=by
 refine ⟨⟨6,[],new_vol,new_disk,fun _=>new_exactV⟩,?_,by show 0≤1000;omega⟩
 show 0<newV.L.length
 have:newV.L.length=9:=by kernel_rfl
 omega
theorem holds_stands:StandsOK Holds:=by
 intro w p P S h hG hL hms
 obtain ⟨⟨N0,E,hst⟩,hpos,hB⟩:=hG
 refine (stands_any w p P S N0 E h hst hpos (by omega) hB hms).mono ?_
 rintro e w' ⟨rfl,Mv,m,_,_,S',h',hk,hn⟩
 exact ⟨rfl,{ P with Mv:=Mv,ms:=P.ms++[m] },⟨⟨N0,E,hst.vol,hst.disk,hst.exact⟩,hpos,hB⟩,rfl,by simp,S',h',hk,hn⟩
theorem Stepped.stepping {w w':World} {p b:Nat} {P:PairR} {S:Nat→Prop} {B:BookR} {U:Nat→Prop} {P':PairR} {S':Nat→Prop} {V':BookV} {B':BookR} {U':Nat→Prop} (h:Stepped w w' p b P S B U P' S' V' B' U'):Stepping w w' p b P S B U P' S' V' B' U':=
 ⟨h.at',h.book,h.log,by have:=h.marks;omega,h.next,h.files,h.writes,h.names,h.lowF,h.lowW,h.lowN,h.kept,h.newS,h.newU,h.apart⟩
end Go.Proofs.YtknjjjenklfeoaaGreatDoor
namespace Go.Proofs.YtknjjjenklfeoaaGreatDoor
open Go.RowKit Go.Shelf
def SeqAny {α:Type} (n gf:Nat) (lb:Array Value) (encs:α→Array Value) (Kp:World→World→Prop) (S Sp:List α→Prop) (N B:Nat) (w:World):Prop:=
 ∀ (l:Nat) (J Jx:List α→World→Prop) (W:World),Below w.heap.size w W→B≤W.heap.size→OwnFrom W.heap.size J→OwnFrom W.heap.size Jx→
   (∀ pre x W1,J pre W1→pre.length<N→YieldAt Fence.wide (n - 1) Tryz.prog l (encs x) W1 fun e W'=>Kp W1 W'∧((e= .returned (.bool true)∧J (pre++[x]) W')∨(e= .returned (.bool false)∧Jx (pre++[x]) W')))→
   J [] W→CallsIn Fence.wide n Tryz.prog gf (#[.func (.yield l) #[] #[]]++lb) W fun e W'=>(∃ v,e= .returned v)∧((∃ xs,S xs∧J xs W')∨ ∃ pre,Sp pre∧Jx pre W')
theorem SeqAny.all {α:Type} {n gf:Nat} {lb:Array Value} {encs:α→Array Value} {Kp:World→World→Prop} {S Sp:List α→Prop} {N B:Nat} {w:World} (h:SeqAny n gf lb encs Kp S Sp N B w):SeqAll n gf lb encs Kp S N B w:=
 fun l J W hW hB hJ hY h0=>(h l J (fun _ _=>False) W hW hB hJ (fun _ _ _ _ hs _ _=>hs)
   (fun pre x W1 hJ1 hl=>yield_mono (hY pre x W1 hJ1 hl) (fun e W' hx=>⟨hx.2.2,Or.inl ⟨hx.1,hx.2.1⟩⟩)) h0).mono (by
   rintro e W' ⟨h1,h2 | ⟨pre,_,h3⟩⟩
   · exact ⟨h1,h2⟩
   · exact h3.elim)
def anyPost {α:Type} (B:Nat) (Kp:World→World→Prop) (I Ix:List α→World→Prop) (xs:List α) (W:World):Exit→Act→World→Prop
 | .normal,_,W'=>KeepsFrom B W W'∧Kp W W'∧I xs W'
 | .ret,_,W'=>KeepsFrom B W W'∧Kp W W'∧Ix xs W'
 | .exit _,_,_=>False
 | .goto _,_,_=>False
 | .panic _,_,_=>False
 | .outgrown,_,_=>False
section
variable {α:Type} {g:Operand} {ps:Array Tmp} {assign body:Code} {Q:Exit→Act→World→Prop} {a:Act} {w:World} {n:Nat}
def recX (fn:FuncId) (a:Act) (ps:Array Tmp) (assign body:Code) (d:Nat):Loop:={ state:= .done,pending:=some .ret,fn:=fn,tmps:=a.tmps,params:=ps,assign:=assign,body:=body,defers:=d }
structure Ended (fn:FuncId) (a:Act) (ps:Array Tmp) (assign body:Code) (d:Nat) (W:World):Prop where
 rcd:W.heap[d+1]? = some (.loop (recX fn a ps assign body d))
 def':W.heap[d]? = some (.deferred (some []))
theorem range_any (h1:1≤n) {gf:Nat} {lb:Array Value} (hg:a.eval g= .func (.func gf) #[] lb) (eg: ∀ args w,(callFunc gf args).run Tryz.prog w= .ok (.enter gf args) w)
   {encs:α→Array Value} {Kp:World→World→Prop} {S Sp:List α→Prop} {N:Nat} {w0:World} (hseq:SeqAny (n - 1) gf lb encs Kp S Sp N (w.heap.size+2) w0)
   (hKt: ∀ A B C:World,Kp A B→Kp B C→Kp A C) (hKb: ∀ (W:World) (o o':Obj),W.heap[w.heap.size+1]? = some o→o.isCells=false→Kp W (W.putObj (w.heap.size+1) o')) (hb0:Below w0.heap.size w0 w) (hps: ∀ x,(encs x).size=ps.size)
   (I Ix:List α→World→Prop) (hI:OwnFrom w.heap.size I) (hIx:OwnFrom w.heap.size Ix) (h0:I [] w) (Ax:α→Act→World→Prop) (hAx: ∀ x a',OwnFrom w.heap.size (fun (_:Unit) W=>Ax x a' W))
   (hassign: ∀ (l:Nat) (pre:List α) (x:α) (W:World) (K:Act→World→Prop),I pre W→(∀ a' W',KeepsFrom w.heap.size W W'→Kp W W'→I pre W'→Ax x a' W'→K a' W')→
     assign.wpIn (Fence.wide.inRound l) (n - 1 - 1) Tryz.prog (Exit.then K (fun _ _ _=>False)) { tmps:=(ps.zip (encs x)).foldl (fun t (p,v)=>t.setIfInBounds p v) a.tmps,defers:=[] } W)
   (hbody: ∀ (l:Nat) (pre:List α) (x:α) (a':Act) (W:World),w.heap.size≤l→(∃ r,W.heap[l]? = some (.loop r))→I pre W→Ax x a' W→pre.length<N→body.wpIn (Fence.wide.inRound l) (n - 1 - 1) Tryz.prog (anyPost w.heap.size Kp I Ix (pre++[x]) W) a' W)
   (hdone: ∀ (D:Nat) (xs:List α) (W:World),w.heap.size≤D→S xs→I xs W→W.heap[D]? = some (.deferred (some []))→Q .normal { a with defers:={ target:= .collected D,args:= #[] } :: a.defers } W)
   (hstop: ∀ (D:Nat) (pre:List α) (W:World),w.heap.size≤D→Sp pre→Ix pre W→W.heap[D]? = some (.deferred (some []))→Code.ret.wpIn Fence.wide n Tryz.prog Q { a with defers:={ target:= .collected D,args:= #[] } :: a.defers } W):
   (Code.rangeFunc g ps assign body).wpIn Fence.wide n Tryz.prog Q a w:=by
 refine wpIn_rangeFunc fun fn hfn=> ?_
 let d:=w.heap.size
 let W1:=(w.alloc (.deferred (some []))).alloc (.loop (recOf fn a ps assign body d .ready))
 have hB1:Booked fn a ps assign body d .ready W1:=
   ⟨by have:=heap_alloc_new (w.alloc (.deferred (some []))) (.loop (recOf fn a ps assign body d .ready));rwa [World.size_alloc] at this,(Below.heap_alloc _ _ _ (by simp [d])).trans (heap_alloc_new w _)⟩
 have hI1:I [] W1:=hI.alloc _ (hI.alloc _ h0)
 have hsz:W1.heap.size=d+2:=by simp [W1,d]
 have hw1:Below w0.heap.size w0 W1:=hb0.trans ((((Below.refl _ w).alloc (Nat.le_refl _) _).alloc (by simp) _).mono hb0.size)
 refine ⟨d+1,[{ target:= .collected d,args:= #[] }],W1,{ target:= .fn (.func gf) lb,args:= #[.func (.yield (d+1)) #[] #[]] },W1,gf,#[.func (.yield (d+1)) #[] #[]]++lb,W1,
   run_enterLoop_outer _ _ _ _ _,?_,fun _ _=>trivial,?_,fun _=>h1,?_⟩
 · simp only [resolve,hg];simp [go_sem]
 · simp [invoke,go_sem,eg]
 have hJ:OwnFrom W1.heap.size (fun (pre:List α) W=>I pre W∧Booked fn a ps assign body d .ready W):=fun s A B row hs hg' hr=>
   ⟨hI s A B row hs.1 hg' (fun r e=>⟨by have:=(hr r e).1;omega,(hr r e).2⟩),blk_turn hg' hr hs.2.rcd (by omega),blk_turn hg' hr hs.2.def' (by omega)⟩
 have hJx:OwnFrom W1.heap.size (fun (pre:List α) W=>Ix pre W∧Ended fn a ps assign body d W):=fun s A B row hs hg' hr=>
   ⟨hIx s A B row hs.1 hg' (fun r e=>⟨by have:=(hr r e).1;omega,(hr r e).2⟩),blk_turn hg' hr hs.2.rcd (by omega),blk_turn hg' hr hs.2.def' (by omega)⟩
 refine (hseq (d+1) (fun pre W=>I pre W∧Booked fn a ps assign body d .ready W) (fun pre W=>Ix pre W∧Ended fn a ps assign body d W) W1 hw1 (by omega) hJ hJx ?_ ⟨hI1,hB1⟩).mono ?_
 · rintro pre x W ⟨hi,hb⟩ hlen
   refine ⟨fn,_,assign,body,run_yield hb.rcd (hps x),roundIn_of_wpIn hfn (hassign (d+1) pre x W _ hi fun a' Wa hkf hkp hia hax=> ?_)⟩
   have hba:=hb.keep hkf
   refine ⟨_,run_beginRound hba.rcd rfl,?_⟩
   have hbb:Booked fn a ps assign body d .busy (Wa.putObj (d+1) (.loop (recOf fn a ps assign body d .busy))):=hba.turn
   have hkb:Kp Wa (Wa.putObj (d+1) (.loop (recOf fn a ps assign body d .busy))):=hKb _ _ _ hba.rcd rfl
   refine wpIn_mono (hbody (d+1) pre x a' _ (by omega) ⟨_,hbb.rcd⟩ (hI.putObj _ hia (by omega) hba.rcd rfl) ((hAx x a').putObj (s:=()) _ hax (by omega) hba.rcd rfl) hlen) ?_
   rintro e a3 W3 hp
   cases e with
   | normal=>
     obtain ⟨hkf3,hkp3,hi3⟩:=hp
     have hb3:=hbb.keep hkf3
     have hb4:Booked fn a ps assign body d .ready (W3.putObj (d+1) (.loop (recOf fn a ps assign body d .ready))):=hb3.turn
     exact ⟨_,_,run_endRound none hb3.rcd,hKt _ _ _ hkp (hKt _ _ _ hkb (hKt _ _ _ hkp3 (hKb _ _ _ hb3.rcd rfl))),.inl ⟨rfl,hI.putObj _ hi3 (by omega) hb3.rcd rfl,hb4⟩⟩
   | ret=>
     obtain ⟨hkf3,hkp3,hi3⟩:=hp
     have hb3:=hbb.keep hkf3
     have hb4:Ended fn a ps assign body d (W3.putObj (d+1) (.loop (recX fn a ps assign body d))):=⟨World.putObj_heap_same (blk_lt hb3.rcd),(World.putObj_heap_other (by omega)).trans hb3.def'⟩
     exact ⟨_,_,run_endRound (some .ret) hb3.rcd,hKt _ _ _ hkp (hKt _ _ _ hkb (hKt _ _ _ hkp3 (hKb _ _ _ hb3.rcd rfl))),.inr ⟨rfl,hIx.putObj _ hi3 (by omega) hb3.rcd rfl,hb4⟩⟩
   | exit id=>exact hp.elim
   | goto t=>exact hp.elim
   | panic ch=>exact hp.elim
   | outgrown=>exact hp.elim
 · rintro e W2 ⟨⟨v,rfl⟩,(⟨xs,hS,hi,hb⟩ | ⟨pre,hSp,hi,hb⟩)⟩
   · exact ⟨none,_,run_endLoop hb.rcd (by simp [recOf]),hdone d xs _ (Nat.le_refl _) hS (hI.putObj _ hi (by omega) hb.rcd rfl) ((World.putObj_heap_other (by omega)).trans hb.def')⟩
   · exact ⟨some .ret,_,run_endLoop hb.rcd (by simp [recX]),hstop d pre _ (Nat.le_refl _) hSp (hIx.putObj _ hi (by omega) hb.rcd rfl) ((World.putObj_heap_other (by omega)).trans hb.def')⟩
end
end Go.Proofs.YtknjjjenklfeoaaGreatDoor
