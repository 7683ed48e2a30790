import Derived.Test.YtknjjjenklfeoaaGreatDoorA27
import Derived.Test.YtknjjjenklfeoaaGreatDoorA05
import Derived.Test.YtknjjjenklfeoaaGreatDoorA25
import Derived.Test.YtknjjjenklfeoaaGreatDoorA08
import Derived.Test.YtknjjjenklfeoaaGreatDoorA09
import Derived.Test.YtknjjjenklfeoaaGreatDoorA22
import Derived.Test.YtknjjjenklfeoaaGreatDoorA04
set_option maxHeartbeats 8000000
set_option maxRecDepth 100000
namespace Go.Proofs.YtknjjjenklfeoaaGreatDoor
open Go.RowKit
def eqWr (x y:Value):Sem Bool:=Op.equalIn 10000 104 x y
theorem equalIn_wr (x y:Value):Op.equalIn 10000 104 x y=eqWr x y:=rfl

end Go.Proofs.YtknjjjenklfeoaaGreatDoor
namespace Go.Proofs.YtknjjjenklfeoaaGreatDoor
open Go.RowKit
attribute [local go_sem ↓] loadVar_clus loadVar_wr equalIn_clus equalIn_wr build_wr
attribute [local go_sem] run_loadClus run_loadWr run_bWr0 zc_length
structure BookLow (B:BookR):Prop where
 ln:B.names.length≤1000000000
 lf:B.files.length≤1000000000
 lw:B.writes.length≤1000000000
 en: ∀ x ∈ B.names,x.n≤1000000000
 ef: ∀ x ∈ B.files,x.n≤1000000000
 ew: ∀ x ∈ B.writes,x.n≤1000000000
end Go.Proofs.YtknjjjenklfeoaaGreatDoor
namespace Go.Proofs.YtknjjjenklfeoaaGreatDoor
open Go.RowKit
structure MarkR where
 log:Nat
 d:Nat
 Pv:Value
 D:DiskR
def markCells (m:MarkR):List Value:=[.int .i64 m.log,.pointer (some ⟨m.d,0,none⟩)]
structure PairR where
 d:Nat
 v:Nat
 y:Nat
 Cv:Value
 Lv:Value
 Pv:Value
 Mv:Value
 bv:Value
 ex:Bool
 V:VolR
 D:DiskR
 B:List Clus
 ms:List MarkR
def pairCells (P:PairR):List Value:=[.pointer (some ⟨P.d,0,none⟩),.pointer (some ⟨P.y,0,none⟩),P.bv,.bool P.ex,P.Mv]
structure PairAt (w:World) (p:Nat) (P:PairR) (S:Nat→Prop):Prop where
 blk:w.heap[p]? = some (.cells (pairCells P).toArray 107 (0,0))
 dsk:DskAt w P.d P.v P.Cv P.Lv P.V
 ref:DiskAt w P.y P.Pv P.D
 rowB:FRow w P.bv P.B
 rowM:w.ownsRow 0 109 2 P.Mv P.ms.length (P.ms.flatMap markCells)
 eM: ∀ m ∈ P.ms,DiskAt w m.d m.Pv m.D
 neY: ∀ m ∈ P.ms,m.d≠P.y
 apB: ∀ g,P.bv.ownBlock=some g→ ¬ foot P.v P.Cv P.Lv g
 inP:S p
 inD: ∀ k,dfoot P.d P.v P.Cv P.Lv k→S k
 inY:S P.y
 inV: ∀ g,(P.Pv.ownBlock=some g∨P.Mv.ownBlock=some g∨P.bv.ownBlock=some g)→S g
 inM: ∀ m ∈ P.ms,S m.d∧ ∀ g,m.Pv.ownBlock=some g→S g
 lt: ∀ k,S k→k<w.heap.size
section
variable {w w':World} {p:Nat} {P:PairR} {S T:Nat→Prop}
theorem PairAt.kept (h:PairAt w p P S) (hk:Kept T w w') (hd: ∀ k,S k→ ¬ T k):PairAt w' p P S where
 blk:=hk.blk (hd p h.inP) h.blk
 dsk:=h.dsk.kept hk fun k hf=>hd k (h.inD k hf)
 ref:=h.ref.kept hk (hd _ h.inY) fun g hg=>hd g (h.inV g (Or.inl hg))
 rowB:=h.rowB.kept hk fun g hg=>hd g (h.inV g (Or.inr (Or.inr hg)))
 rowM:=ownsRow_kept hk h.rowM fun g hg=>hd g (h.inV g (Or.inr (Or.inl hg)))
 eM:=fun m hm=>(h.eM m hm).kept hk (hd _ (h.inM m hm).1) fun g hg=>hd g ((h.inM m hm).2 g hg)
 neY:=h.neY
 apB:=h.apB
 inP:=h.inP
 inD:=h.inD
 inY:=h.inY
 inV:=h.inV
 inM:=h.inM
 lt:=fun k hk'=>Nat.lt_of_lt_of_le (h.lt k hk') hk.size
theorem PairAt.below (h:PairAt w p P S) (hb:Below w.heap.size w w'):PairAt w' p P S:=h.kept (T:=fun _=>False) (Kept.of_below hb) (fun _ _=>id)
theorem PairAt.cell (h:PairAt w p P S) (i:Nat):w.cell? ⟨p,i,none⟩=(pairCells P)[i]? := by rw [cell_blk h.blk,List.getElem?_toArray]
theorem PairAt.fz (h:PairAt w p P S) (i:Nat):w.frozen? ⟨p,i,none⟩=false:=frozen_blk h.blk i
theorem PairAt.c0 (h:PairAt w p P S):w.cell? ⟨p,0,none⟩=some (.pointer (some ⟨P.d,0,none⟩)):=h.cell 0
theorem PairAt.c1 (h:PairAt w p P S):w.cell? ⟨p,1,none⟩=some (.pointer (some ⟨P.y,0,none⟩)):=h.cell 1
theorem PairAt.c2 (h:PairAt w p P S):w.cell? ⟨p,2,none⟩=some P.bv:=h.cell 2
theorem PairAt.c3 (h:PairAt w p P S):w.cell? ⟨p,3,none⟩=some (.bool P.ex):=h.cell 3
theorem PairAt.c4 (h:PairAt w p P S):w.cell? ⟨p,4,none⟩=some P.Mv:=h.cell 4
theorem row_blk {w:World} {base:Nat} {e:TypeId} {size:Nat} {v:Value} {n:Nat} {xs:List Value} (hr:w.ownsRow base e size v n xs) {g:Nat} (hg:v.ownBlock=some g): ∃ cs fr,w.heap[g]? = some (.cells cs e fr):=by
 rcases hr.2 with ⟨rfl,_⟩ | ⟨g',cap,cur,rfl,_,hh,_⟩
 · cases hg
 · simp only [Value.ownBlock,Option.some.injEq] at hg
   subst hg
   exact ⟨_,_,hh⟩
theorem blk_type {w:World} {k:Nat} {cs cs':Array Value} {t t':TypeId} {fr fr':Nat × Nat} (h:w.heap[k]? = some (.cells cs t fr)) (h':w.heap[k]? = some (.cells cs' t' fr')):t=t':=by
 rw [h] at h'
 injection h' with h'
 injection h' with _ h'
theorem PairAt.footKey (h:PairAt w p P S) {k:Nat} {cs:Array Value} {t:TypeId} {fr:Nat × Nat} (hb:w.heap[k]? = some (.cells cs t fr)) (h1:t≠121) (h2:t≠38) (h3:t≠104): ¬ foot P.v P.Cv P.Lv k:=by
 have hv:=h.dsk.vol
 rintro (e | e | e)
 · subst e;exact h1 (blk_type hb hv.blk)
 · exact row_ne hv.rowC hb (fun x=>h2 x.symm) k e rfl
 · exact row_ne hv.rowL hb (fun x=>h3 x.symm) k e rfl
theorem PairAt.diskFoot (h:PairAt w p P S) {y:Nat} {Qv:Value} {D:DiskR} (hd:DiskAt w y Qv D): ¬ foot P.v P.Cv P.Lv y∧ ∀ g,Qv.ownBlock=some g→ ¬ foot P.v P.Cv P.Lv g:=by
 refine ⟨h.footKey hd.blk (by decide) (by decide) (by decide),fun g hg=> ?_⟩
 obtain ⟨cs,fr,hb⟩:=row_blk hd.row hg
 exact h.footKey hb (by decide) (by decide) (by decide)
theorem PairAt.step {C1 L1:Value} {V1:VolR} (h:PairAt w p P S) (hs:VStep w w' P.v P.Cv P.Lv C1 L1 V1):
   PairAt w' p { P with Cv:=C1,Lv:=L1,V:=V1 } (fun k=>S k∨foot P.v C1 L1 k) where
 blk:=hs.kept.blk (h.footKey h.blk (by decide) (by decide) (by decide)) h.blk
 dsk:=h.dsk.step hs
 ref:=h.ref.kept hs.kept (h.diskFoot h.ref).1 (h.diskFoot h.ref).2
 rowB:=h.rowB.kept hs.kept h.apB
 rowM:=ownsRow_kept hs.kept h.rowM fun g hg=>by
   obtain ⟨cs,fr,hb⟩:=row_blk h.rowM hg
   exact h.footKey hb (by decide) (by decide) (by decide)
 eM:=fun m hm=>(h.eM m hm).kept hs.kept (h.diskFoot (h.eM m hm)).1 (h.diskFoot (h.eM m hm)).2
 neY:=h.neY
 apB:=fun g hg hf=>by
   rcases hs.new g hf with x | x
   · exact h.apB g hg x
   · have:=h.lt g (h.inV g (Or.inr (Or.inr hg)));omega
 inP:=Or.inl h.inP
 inD:=by
   rintro k (e | e)
   · exact Or.inl (h.inD k (Or.inl e))
   · exact Or.inr e
 inY:=Or.inl h.inY
 inV:=fun g hg=>Or.inl (h.inV g hg)
 inM:=fun m hm=>⟨Or.inl (h.inM m hm).1,fun g hg=>Or.inl ((h.inM m hm).2 g hg)⟩
 lt:=by
   rintro k (e | e)
   · exact Nat.lt_of_lt_of_le (h.lt k e) hs.kept.size
   · exact hs.at'.foot_lt k e
theorem PairAt.step_new {C1 L1:Value} {V1:VolR} (h:PairAt w p P S) (hs:VStep w w' P.v P.Cv P.Lv C1 L1 V1): ∀ k,(S k∨foot P.v C1 L1 k)→S k∨w.heap.size≤k:=by
 rintro k (e | e)
 · exact Or.inl e
 · rcases hs.new k e with x | x
   · exact Or.inl (h.inD k (Or.inr x))
   · exact Or.inr x
theorem PairAt.step_kept {C1 L1:Value} {V1:VolR} (h:PairAt w p P S) (hs:VStep w w' P.v P.Cv P.Lv C1 L1 V1):Kept S w w':=hs.kept.mono fun k hk=>h.inD k (Or.inr hk)
theorem PairAt.refStep {D1:DiskR} {Qv:Value} (h:PairAt w p P S) (hk:Kept (fun k=>k=P.y) w w') (hr:DiskAt w' P.y Qv D1):PairAt w' p { P with D:=D1,Pv:=Qv } (fun k=>S k∨Qv.ownBlock=some k):=by
 have key: ∀ {k:Nat} {cs:Array Value} {t:TypeId} {fr:Nat × Nat},w.heap[k]? = some (.cells cs t fr)→t≠70→k≠P.y:=by
   intro k cs t fr hb h1 e
   subst e
   exact h1 (blk_type hb h.ref.blk)
 have keyR: ∀ {base:Nat} {e:TypeId} {size:Nat} {v:Value} {n:Nat} {xs:List Value},w.ownsRow base e size v n xs→e≠70→ ∀ g,v.ownBlock=some g→g≠P.y:=by
   intro base e size v n xs hr' h1 g hg
   obtain ⟨cs,fr,hb⟩:=row_blk hr' hg
   exact key hb h1
 refine ⟨hk.blk (key h.blk (by decide)) h.blk,h.dsk.kept hk ?_,hr,h.rowB.kept hk (keyR h.rowB.row (by decide)),ownsRow_kept hk h.rowM (keyR h.rowM (by decide)),fun m hm=>(h.eM m hm).kept hk (h.neY m hm) (keyR (h.eM m hm).row (by decide)),h.neY,h.apB,Or.inl h.inP,fun k hk'=>Or.inl (h.inD k hk'),Or.inl h.inY,?_,fun m hm=>⟨Or.inl (h.inM m hm).1,fun g hg=>Or.inl ((h.inM m hm).2 g hg)⟩,?_⟩
 · rintro k (e | e | e | e)
   · rw [e];exact key h.dsk.blk (by decide)
   · rw [e];exact key h.dsk.vol.blk (by decide)
   · exact keyR h.dsk.vol.rowC (by decide) k e
   · exact keyR h.dsk.vol.rowL (by decide) k e
 · rintro g (e | e | e)
   · exact Or.inr e
   · exact Or.inl (h.inV g (Or.inr (Or.inl e)))
   · exact Or.inl (h.inV g (Or.inr (Or.inr e)))
 · rintro k (e | e)
   · exact Nat.lt_of_lt_of_le (h.lt k e) hk.size
   · exact (hr.row.lt k e).2
end
structure OpR where
 kind:Int
 n:Int
 name:ByteArray
 text:ByteArray
 raw:Value
 gone:Value
def opCells (o:OpR):List Value:=[.int .i64 o.kind,.int .i64 o.n,.string o.name,.string o.text,o.raw,o.gone]
theorem opCells_length (o:OpR):(opCells o).length=6:=rfl
def zo:OpR:=⟨0,0,.empty,.empty,.slice none 0 0,.slice none 0 0⟩
def loadOp (a:Addr):Sem Value:=loadVar 80 a
theorem loadVar_op (a:Addr):loadVar 80 a=loadOp a:=rfl
theorem run_loadOp {w:World} {b o:Nat} (h:HasAt w b o 6):(loadOp ⟨b,o,none⟩).run Tryz.prog w= .ok (.agg (cellsAt w b o 6).toArray) w:=
 run_loadVar_has h 80 _ Tryz.underlying80 rfl (by kernel_rfl)
def storeOp (a:Addr) (v:Value):Sem Unit:=storeVar 80 a v
theorem storeVar_op (a:Addr) (v:Value):storeVar 80 a v=storeOp a v:=rfl
def zeroOp:Sem Value:=zeroValue 80
theorem zeroValue_op:zeroValue 80=zeroOp:=rfl
theorem run_zeroOp (w:World):zeroOp.run Tryz.prog w= .ok (.agg (opCells zo).toArray) w:=
 (zero_of_info (P:=Tryz.prog) (t:=80) (v:= .agg (opCells zo).toArray) (n:=6) (by kernel_rfl)).1 w
structure OpR.Fits (o:OpR):Prop where
 raw:o.raw.oneCell'=true
 gone:o.gone.oneCell'=true
theorem opCells_one {o:OpR} (h:o.Fits): ∀ v ∈ opCells o,v.oneCell'=true:=by
 intro v hv
 simp only [opCells,List.mem_cons,List.not_mem_nil,or_false] at hv
 rcases hv with rfl | rfl | rfl | rfl | rfl | rfl
 · rfl
 · rfl
 · rfl
 · rfl
 · exact h.raw
 · exact h.gone
theorem run_storeOp_new {w:World} {z x:OpR} (hx:x.Fits):
   (storeOp ⟨w.heap.size,0,none⟩ (.agg (opCells x).toArray)).run Tryz.prog (w.alloc (.cells (opCells z).toArray 80))= .ok () (w.alloc (.cells (opCells x).toArray 80)):=
 run_storeVar_new w 80 (opCells z).toArray (opCells x).toArray (by simp only [List.size_toArray,opCells_length];kernel_rfl) (by simp [opCells_length]) (all_oneCell_toArray (opCells_one hx))
end Go.Proofs.YtknjjjenklfeoaaGreatDoor
