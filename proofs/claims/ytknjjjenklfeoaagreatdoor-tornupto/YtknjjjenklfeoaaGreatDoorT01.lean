import Derived.Test.YtknjjjenklfeoaaGreatDoorT00
set_option maxHeartbeats 8000000
set_option maxRecDepth 100000
namespace Go.Proofs.YtknjjjenklfeoaaGreatDoor
open Go.RowKit
attribute [local go_sem ↓] loadVar_clus
attribute [local go_sem] run_loadClus
def markedIn (R:FileR) (t:Nat):Nat→Nat→Nat→Option Nat
 | 0,_,acc=>some acc
 | m+1,k,acc=>
   if num (cl R.L t) (2*k)=0 then markedIn R t m (k+1) acc
   else if markBad R (num (cl R.L t) (2*k)) then none
   else markedIn R t m (k+1) (acc+markNone R (num (cl R.L t) (2*k)))
def markedOut (R:FileR) (t:Nat):Nat→Nat→Nat→Int × Nat
 | 0,_,acc=>(-1,acc)
 | m+1,i,acc=>
   if num (cl R.L t) (2*i)=0 then markedOut R t m (i+1) acc
   else if markBad R (num (cl R.L t) (2*i)) then (t,0)
   else match markedIn R (num (cl R.L t) (2*i)%32768) 32 0 (acc+markNone R (num (cl R.L t) (2*i))) with
     | none=>(((num (cl R.L t) (2*i)%32768:Nat):Int),0)
     | some a=>markedOut R t m (i+1) a
def marked (R:FileR) (r:RootR):Int × Nat:=markedOut R r.N 2 0 0
structure InFile (L:List Clus) (t:Nat):Prop where
 at':t<L.length
 second: ∀ i,i<2→num (cl L t) (2*i)≠0→num (cl L t) (2*i)%32768<L.length
 block: ∀ i,i<2→num (cl L t) (2*i)≠0→ ∀ k,k<32→num (cl L (num (cl L t) (2*i)%32768)) (2*k)%32768<L.length
end Go.Proofs.YtknjjjenklfeoaaGreatDoor
namespace Go.Proofs.YtknjjjenklfeoaaGreatDoor
open Go.RowKit
def lostB (R:FileR) (n:Nat):Bool:=R.used.getD n 0 == 0 && decide (0<countOf R.L n)
def usedB (R:FileR) (n:Nat):Bool:=decide (0<R.used.getD n 0)
def overB (R:FileR) (n:Nat):Bool:=decide (0<R.used.getD n 0) && decide (R.used.getD n 0<countOf R.L n)
def unmTo (R:FileR):Nat→Nat
 | 0=>0
 | k+1=>unmTo R k+(marked R (rootOf R k)).2
structure StateR where
 clusters:Nat
 used:Nat
 lost:Nat
 over:Nat
 unmarked:Nat
def stateOf (R:FileR):StateR:=⟨R.L.length,cntTo (usedB R) R.L.length,cntTo (lostB R) R.L.length,cntTo (overB R) R.L.length,unmTo R R.roots.length⟩
def stateCells (s:StateR):List Value:=[.int .i64 s.clusters,.int .i64 s.used,.int .i64 s.lost,.int .i64 s.over,.int .i64 s.unmarked]
def zs5:List Value:=[.int .i64 0,.int .i64 0,.int .i64 0,.int .i64 0,.int .i64 0]
def exactB (R:FileR):Bool:=(stateOf R).lost == 0 && ((stateOf R).over == 0 && (stateOf R).unmarked == 0)
end Go.Proofs.YtknjjjenklfeoaaGreatDoor
namespace Go.Proofs.YtknjjjenklfeoaaGreatDoor
open Go.RowKit
attribute [local go_sem ↓] loadVar_clus storeVar_clus loadVar_cont storeVar_cont zeroValue_cont
attribute [local go_sem] run_loadClus run_storeClus run_loadCont run_storeCont run_zeroCont
def blkOf (L:List Clus) (t b:Nat):Clus:=
 if num (cl L t) (2*(b / 32))=0 then zc
 else if num (cl L (num (cl L t) (2*(b / 32))%32768)) (2*(b%32))=0 then zc
 else cl L (num (cl L (num (cl L t) (2*(b / 32))%32768)) (2*(b%32))%32768)
def contentOf (L:List Clus) (t:Nat):List Clus:=(List.range 64).map fun b=>blkOf L t b
theorem blkOf_length {L:List Clus} {t:Nat} (hl: ∀ c ∈ L,c.length=64) (hin:InFile L t) (b:Nat) (hb:b<64):(blkOf L t b).length=64:=by
 unfold blkOf
 split
 · exact zc_length
 · split
   · exact zc_length
   · rename_i h1 h2
     exact cl_length hl (hin.block (b / 32) (by omega) h1 (b%32) (by omega))
theorem there_blk {w:World} {b:Nat} {cs:Array Value} {t:TypeId} (h:w.heap[b]? = some (.cells cs t (0,0))) (o n:Nat) (hn:o+n≤cs.size):w.there b o n:=fun j hj=>
 ⟨by rw [cell_blk h,Array.getElem?_eq_getElem (by omega)];rfl,frozen_blk h _⟩
theorem range_blk {w:World} {b:Nat} {cs:List Value} {t:TypeId} {fr:Nat × Nat} (h:w.heap[b]? = some (.cells cs.toArray t fr)):w.rangeAt b 0 cs:=fun j v hv=>by
 rw [Nat.zero_add,cell_blk h,List.getElem?_toArray];exact hv
end Go.Proofs.YtknjjjenklfeoaaGreatDoor
