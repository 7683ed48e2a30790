import Derived.Test.YtknjjjenklfeoaaGreatDoorA00
set_option maxHeartbeats 8000000
set_option maxRecDepth 100000
namespace Go.Proofs.YtknjjjenklfeoaaGreatDoor
open Go.RowKit
attribute [local go_sem ↓] loadVar_clus
attribute [local go_sem] run_loadClus
theorem row_has {w:World} {base:Nat} {g cap:Nat} {L:List Clus} (h:w.ownsRow base 38 64 (.slice (some ⟨g,0,none⟩) L.length cap) L.length (flatC L)) (hl: ∀ c ∈ L,c.length=64)
   (k:Nat) (hk:k<L.length):HasAt w g (k*64) 64:=hasAt_of_range (row_range h hl k hk) (by rw [cv_length,cl_length hl hk])
theorem row_cells {w:World} {base:Nat} {g cap:Nat} {L:List Clus} (h:w.ownsRow base 38 64 (.slice (some ⟨g,0,none⟩) L.length cap) L.length (flatC L)) (hl: ∀ c ∈ L,c.length=64)
   (k:Nat) (hk:k<L.length):cellsAt w g (k*64) 64=cv (cl L k):=cellsAt_of_range (row_range h hl k hk) (by rw [cv_length,cl_length hl hk])
def rootOf (R:FileR) (i:Nat):RootR:=R.roots.getD i ⟨0,0,[]⟩
def needs (R:FileR) (b:Nat):Nat:=
 if num (cl R.L (rootOf R 0).N) (2*(b / 32))<32768 then 2
 else if num (cl R.L (num (cl R.L (rootOf R 0).N) (2*(b / 32))%32768)) (2*(b%32))<32768 then 1 else 0
theorem treeIn_zero (t m k:Nat) (R:FileR) (h:num (cl R.L t) (2*k)=0):treeIn t (m+1) k R=treeIn t m (k+1) R:=by simp [treeIn,h]
theorem treeIn_yes (t m k:Nat) (R:FileR) (h:num (cl R.L t) (2*k)≠0) (ht:(tell R (num (cl R.L t) (2*k)%32768) 3 t).1=true):
   treeIn t (m+1) k R=treeIn t m (k+1) (tell R (num (cl R.L t) (2*k)%32768) 3 t).2:=by simp [treeIn,h,ht]
structure Going (w0 w':World) (f:Nat) (Lv Rv:Value) (R R':FileR) (b:Nat):Prop where
 at':FileAt w' f Lv Rv R'
 kept:Kept (fun k=>k=f) w0 w'
 hL:R'.L=R.L
 hR:R'.roots=R.roots
 low:Low b R'
theorem Going.below {w0 w' w2:World} {f:Nat} {Lv Rv:Value} {R R':FileR} {b:Nat} (h:Going w0 w' f Lv Rv R R' b) (hb:Below w'.heap.size w' w2):Going w0 w2 f Lv Rv R R' b:=
 ⟨h.at'.below hb,h.kept.trans (Kept.of_below hb),h.hL,h.hR,h.low⟩
theorem Low.mono {a b:Nat} {R:FileR} (h:Low a R) (hab:a≤b):Low b R:=fun n=>Nat.le_trans (h n) hab
theorem Going.told {w0 w' w2:World} {f:Nat} {Lv Rv:Value} {R R':FileR} {b n kind at':Nat} (h:Going w0 w' f Lv Rv R R' b) (hF:FileAt w2 f Lv Rv (tell R' n kind at').2) (hK:Kept (fun k=>k=f) w' w2):
   Going w0 w2 f Lv Rv R (tell R' n kind at').2 (b+1):=
 ⟨hF,h.kept.trans hK,by rw [tell_L,h.hL],by rw [tell_roots,h.hR],tell_low h.low _ _ _⟩
theorem Going.mono {w0 w':World} {f:Nat} {Lv Rv:Value} {R R':FileR} {a b:Nat} (h:Going w0 w' f Lv Rv R R' a) (hab:a≤b):Going w0 w' f Lv Rv R R' b:=
 ⟨h.at',h.kept,h.hL,h.hR,h.low.mono hab⟩
end Go.Proofs.YtknjjjenklfeoaaGreatDoor
namespace Go.Proofs.YtknjjjenklfeoaaGreatDoor
open Go.RowKit
end Go.Proofs.YtknjjjenklfeoaaGreatDoor
namespace Go.Proofs.YtknjjjenklfeoaaGreatDoor
open Go.RowKit
attribute [local go_sem ↓] loadVar_clus
attribute [local go_sem] run_loadClus
def markedIn (R:FileR) (t:Nat):Nat→Nat→Nat→Option Nat
 | 0,_,acc=>some acc
 | m+1,k,acc=>
   if num (cl R.L t) (2*k)=0 then markedIn R t m (k+1) acc
   else if markBad R (num (cl R.L t) (2*k)) then none
   else markedIn R t m (k+1) (acc+markNone R (num (cl R.L t) (2*k)))
def markedOut (R:FileR) (t:Nat):Nat→Nat→Nat→Int × Nat
 | 0,_,acc=>(-1,acc)
 | m+1,i,acc=>
   if num (cl R.L t) (2*i)=0 then markedOut R t m (i+1) acc
   else if markBad R (num (cl R.L t) (2*i)) then (t,0)
   else match markedIn R (num (cl R.L t) (2*i)%32768) 32 0 (acc+markNone R (num (cl R.L t) (2*i))) with
     | none=>(((num (cl R.L t) (2*i)%32768:Nat):Int),0)
     | some a=>markedOut R t m (i+1) a
def marked (R:FileR) (r:RootR):Int × Nat:=markedOut R r.N 2 0 0
structure InFile (L:List Clus) (t:Nat):Prop where
 at':t<L.length
 second: ∀ i,i<2→num (cl L t) (2*i)≠0→num (cl L t) (2*i)%32768<L.length
 block: ∀ i,i<2→num (cl L t) (2*i)≠0→ ∀ k,k<32→num (cl L (num (cl L t) (2*i)%32768)) (2*k)%32768<L.length
end Go.Proofs.YtknjjjenklfeoaaGreatDoor
namespace Go.Proofs.YtknjjjenklfeoaaGreatDoor
open Go.RowKit
def lostB (R:FileR) (n:Nat):Bool:=R.used.getD n 0 == 0 && decide (0<countOf R.L n)
def usedB (R:FileR) (n:Nat):Bool:=decide (0<R.used.getD n 0)
def overB (R:FileR) (n:Nat):Bool:=decide (0<R.used.getD n 0) && decide (R.used.getD n 0<countOf R.L n)
def unmTo (R:FileR):Nat→Nat
 | 0=>0
 | k+1=>unmTo R k+(marked R (rootOf R k)).2
structure StateR where
 clusters:Nat
 used:Nat
 lost:Nat
 over:Nat
 unmarked:Nat
def stateOf (R:FileR):StateR:=⟨R.L.length,cntTo (usedB R) R.L.length,cntTo (lostB R) R.L.length,cntTo (overB R) R.L.length,unmTo R R.roots.length⟩
def stateCells (s:StateR):List Value:=[.int .i64 s.clusters,.int .i64 s.used,.int .i64 s.lost,.int .i64 s.over,.int .i64 s.unmarked]
structure TwoSt (w w':World) (z s:List Value):Prop where
 below:Below w.heap.size w w'
 one:w'.heap[w.heap.size]? = some (.cells z.toArray 51 (0,0))
 two:w'.heap[w.heap.size+1]? = some (.cells s.toArray 51 (0,0))
theorem TwoSt.set {w w':World} {z s:List Value} (h:TwoSt w w' z s) (i:Nat) (v:Value):TwoSt w (w'.setCell ⟨w.heap.size+1,i,none⟩ v) z (s.set i v):=
 ⟨h.below.setCell (by simp) _,by rw [Below.heap_setCell _ _ _ _ (by simp)];exact h.one,by rw [heap_setCell_same _ _ _ _ _ _ _ h.two,List.setIfInBounds_toArray]⟩
theorem TwoSt.later {w w' w2:World} {z s:List Value} (h:TwoSt w w' z s) (hb:Below w'.heap.size w' w2):TwoSt w w2 z s:=
 ⟨h.below.trans (hb.mono h.below.size),by rw [hb.block _ (blk_lt h.one)];exact h.one,by rw [hb.block _ (blk_lt h.two)];exact h.two⟩
def zs5:List Value:=[.int .i64 0,.int .i64 0,.int .i64 0,.int .i64 0,.int .i64 0]
def exactB (R:FileR):Bool:=(stateOf R).lost == 0 && ((stateOf R).over == 0 && (stateOf R).unmarked == 0)
end Go.Proofs.YtknjjjenklfeoaaGreatDoor
namespace Go.Proofs.YtknjjjenklfeoaaGreatDoor
open Go.RowKit
attribute [local go_sem ↓] loadVar_clus storeVar_clus loadVar_cont storeVar_cont zeroValue_cont
attribute [local go_sem] run_loadClus run_storeClus run_loadCont run_storeCont run_zeroCont
def blkOf (L:List Clus) (t b:Nat):Clus:=
 if num (cl L t) (2*(b / 32))=0 then zc
 else if num (cl L (num (cl L t) (2*(b / 32))%32768)) (2*(b%32))=0 then zc
 else cl L (num (cl L (num (cl L t) (2*(b / 32))%32768)) (2*(b%32))%32768)
def contentOf (L:List Clus) (t:Nat):List Clus:=(List.range 64).map fun b=>blkOf L t b
theorem blkOf_length {L:List Clus} {t:Nat} (hl: ∀ c ∈ L,c.length=64) (hin:InFile L t) (b:Nat) (hb:b<64):(blkOf L t b).length=64:=by
 unfold blkOf
 split
 · exact zc_length
 · split
   · exact zc_length
   · rename_i h1 h2
     exact cl_length hl (hin.block (b / 32) (by omega) h1 (b%32) (by omega))
structure TwoC (w w':World) (D:List Clus):Prop where
 below:Below w.heap.size w w'
 one:w'.heap[w.heap.size+1]? = some (.cells (flatC zD).toArray 67 (0,0))
 two:w'.heap[w.heap.size+1+1]? = some (.cells (flatC D).toArray 67 (0,0))
theorem TwoC.later {w w' w2:World} {D:List Clus} (h:TwoC w w' D) (hb:Below w'.heap.size w' w2):TwoC w w2 D:=
 ⟨h.below.trans (hb.mono h.below.size),by rw [hb.block _ (blk_lt h.one)];exact h.one,by rw [hb.block _ (blk_lt h.two)];exact h.two⟩
theorem TwoC.set {w w':World} {D:List Clus} (h:TwoC w w' D) (hD: ∀ c ∈ D,c.length=64) (k:Nat) (hk:k<D.length) (c:Clus) (hc:c.length=64):TwoC w (w'.setCells (w.heap.size+1+1) (k*64) (cv c)) (D.set k c):=
 ⟨below_setCells h.below (by omega) _ _,by rw [heap_setCells_other _ _ _ _ _ (by omega)];exact h.one,by rw [heap_setCells_same _ _ _ _ _ _ _ h.two,setList_flatC D hD k hk c hc]⟩
theorem there_blk {w:World} {b:Nat} {cs:Array Value} {t:TypeId} (h:w.heap[b]? = some (.cells cs t (0,0))) (o n:Nat) (hn:o+n≤cs.size):w.there b o n:=fun j hj=>
 ⟨by rw [cell_blk h,Array.getElem?_eq_getElem (by omega)];rfl,frozen_blk h _⟩
theorem range_blk {w:World} {b:Nat} {cs:List Value} {t:TypeId} {fr:Nat × Nat} (h:w.heap[b]? = some (.cells cs.toArray t fr)):w.rangeAt b 0 cs:=fun j v hv=>by
 rw [Nat.zero_add,cell_blk h,List.getElem?_toArray];exact hv
end Go.Proofs.YtknjjjenklfeoaaGreatDoor
