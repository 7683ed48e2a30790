import Derived.Test.YtknjjjenklfeoaaGreatDoorP23
import Derived.Test.YtknjjjenklfeoaaGreatDoorP22
import Derived.Test.YtknjjjenklfeoaaGreatDoorP07
/-
  Two writes of the log compared.
-/
namespace Go.Proofs.YtknjjjenklfeoaaGreatDoor
open Go.RowKit

def eqWr (x y : Value) : Sem Bool := Op.equalIn 10000 104 x y
theorem equalIn_wr (x y : Value) : Op.equalIn 10000 104 x y = eqWr x y := rfl
end Go.Proofs.YtknjjjenklfeoaaGreatDoor

/-
  looks: all lists that came out hold what their owner wrote.
-/
namespace Go.Proofs.YtknjjjenklfeoaaGreatDoor
open Go.RowKit
attribute [local go_sem ↓] loadVar_clus loadVar_wr equalIn_clus equalIn_wr build_wr
attribute [local go_sem] run_loadClus run_loadWr run_bWr0 zc_length
structure BookLow (B : BookR) : Prop where
  ln : B.names.length ≤ 1000000000
  lf : B.files.length ≤ 1000000000
  lw : B.writes.length ≤ 1000000000
  en : ∀ x ∈ B.names, x.n ≤ 1000000000
  ef : ∀ x ∈ B.files, x.n ≤ 1000000000
  ew : ∀ x ∈ B.writes, x.n ≤ 1000000000

end Go.Proofs.YtknjjjenklfeoaaGreatDoor

/-
  A pair of the script's: a disk of the program's and what it holds, its base and its marks, as they lie in memory.
-/
namespace Go.Proofs.YtknjjjenklfeoaaGreatDoor
open Go.RowKit

structure MarkR where
  log : Nat
  d : Nat
  Pv : Value
  D : DiskR
def markCells (m : MarkR) : List Value := [.int .i64 m.log, .pointer (some ⟨m.d, 0, none⟩)]
structure PairR where
  d : Nat
  v : Nat
  y : Nat
  Cv : Value
  Lv : Value
  Pv : Value
  Mv : Value
  bv : Value
  ex : Bool
  V : VolR
  D : DiskR
  B : List Clus
  ms : List MarkR
def pairCells (P : PairR) : List Value := [.pointer (some ⟨P.d, 0, none⟩), .pointer (some ⟨P.y, 0, none⟩), P.bv, .bool P.ex, P.Mv]

/-- The pair lies in block p, and uses blocks of S alone. -/
structure PairAt (w : World) (p : Nat) (P : PairR) (S : Nat → Prop) : Prop where
  blk : w.heap[p]? = some (.cells (pairCells P).toArray 107 (0, 0))
  dsk : DskAt w P.d P.v P.Cv P.Lv P.V
  ref : DiskAt w P.y P.Pv P.D
  rowB : FRow w P.bv P.B
  rowM : w.ownsRow 0 109 2 P.Mv P.ms.length (P.ms.flatMap markCells)
  eM : ∀ m ∈ P.ms, DiskAt w m.d m.Pv m.D
  neY : ∀ m ∈ P.ms, m.d ≠ P.y
  apB : ∀ g, P.bv.ownBlock = some g → ¬ foot P.v P.Cv P.Lv g
  inP : S p
  inD : ∀ k, dfoot P.d P.v P.Cv P.Lv k → S k
  inY : S P.y
  inV : ∀ g, (P.Pv.ownBlock = some g ∨ P.Mv.ownBlock = some g ∨ P.bv.ownBlock = some g) → S g
  inM : ∀ m ∈ P.ms, S m.d ∧ ∀ g, m.Pv.ownBlock = some g → S g
  lt : ∀ k, S k → k < w.heap.size
section
variable {w w' : World} {p : Nat} {P : PairR} {S T : Nat → Prop}
theorem PairAt.kept (h : PairAt w p P S) (hk : Kept T w w') (hd : ∀ k, S k → ¬ T k) : PairAt w' p P S where
  blk := hk.blk (hd p h.inP) h.blk
  dsk := h.dsk.kept hk fun k hf => hd k (h.inD k hf)
  ref := h.ref.kept hk (hd _ h.inY) fun g hg => hd g (h.inV g (Or.inl hg))
  rowB := h.rowB.kept hk fun g hg => hd g (h.inV g (Or.inr (Or.inr hg)))
  rowM := ownsRow_kept hk h.rowM fun g hg => hd g (h.inV g (Or.inr (Or.inl hg)))
  eM := fun m hm => (h.eM m hm).kept hk (hd _ (h.inM m hm).1) fun g hg => hd g ((h.inM m hm).2 g hg)
  neY := h.neY
  apB := h.apB
  inP := h.inP
  inD := h.inD
  inY := h.inY
  inV := h.inV
  inM := h.inM
  lt := fun k hk' => Nat.lt_of_lt_of_le (h.lt k hk') hk.size
theorem PairAt.below (h : PairAt w p P S) (hb : Below w.heap.size w w') : PairAt w' p P S := h.kept (T := fun _ => False) (Kept.of_below hb) (fun _ _ => id)
theorem PairAt.cell (h : PairAt w p P S) (i : Nat) : w.cell? ⟨p, i, none⟩ = (pairCells P)[i]? := by rw [cell_blk h.blk, List.getElem?_toArray]
theorem PairAt.fz (h : PairAt w p P S) (i : Nat) : w.frozen? ⟨p, i, none⟩ = false := frozen_blk h.blk i
theorem PairAt.c0 (h : PairAt w p P S) : w.cell? ⟨p, 0, none⟩ = some (.pointer (some ⟨P.d, 0, none⟩)) := h.cell 0
theorem PairAt.c1 (h : PairAt w p P S) : w.cell? ⟨p, 1, none⟩ = some (.pointer (some ⟨P.y, 0, none⟩)) := h.cell 1
theorem PairAt.c2 (h : PairAt w p P S) : w.cell? ⟨p, 2, none⟩ = some P.bv := h.cell 2
theorem PairAt.c3 (h : PairAt w p P S) : w.cell? ⟨p, 3, none⟩ = some (.bool P.ex) := h.cell 3
theorem PairAt.c4 (h : PairAt w p P S) : w.cell? ⟨p, 4, none⟩ = some P.Mv := h.cell 4
theorem PairAt.neM (h : PairAt w p P S) : ∀ g, P.Mv.ownBlock = some g → g ≠ p := row_ne h.rowM h.blk (by decide)
theorem row_blk {w : World} {base : Nat} {e : TypeId} {size : Nat} {v : Value} {n : Nat} {xs : List Value} (hr : w.ownsRow base e size v n xs) {g : Nat} (hg : v.ownBlock = some g) : ∃ cs fr, w.heap[g]? = some (.cells cs e fr) := by
  rcases hr.2 with ⟨rfl, _⟩ | ⟨g', cap, cur, rfl, _, hh, _⟩
  · cases hg
  · simp only [Value.ownBlock, Option.some.injEq] at hg
    subst hg
    exact ⟨_, _, hh⟩
theorem blk_type {w : World} {k : Nat} {cs cs' : Array Value} {t t' : TypeId} {fr fr' : Nat × Nat} (h : w.heap[k]? = some (.cells cs t fr)) (h' : w.heap[k]? = some (.cells cs' t' fr')) : t = t' := by
  rw [h] at h'
  injection h' with h'
  injection h' with _ h'
/-- Blocks of other types are not the volume's. -/
theorem PairAt.footKey (h : PairAt w p P S) {k : Nat} {cs : Array Value} {t : TypeId} {fr : Nat × Nat} (hb : w.heap[k]? = some (.cells cs t fr)) (h1 : t ≠ 121) (h2 : t ≠ 38) (h3 : t ≠ 104) : ¬ foot P.v P.Cv P.Lv k := by
  have hv := h.dsk.vol
  rintro (e | e | e)
  · subst e; exact h1 (blk_type hb hv.blk)
  · exact row_ne hv.rowC hb (fun x => h2 x.symm) k e rfl
  · exact row_ne hv.rowL hb (fun x => h3 x.symm) k e rfl
theorem PairAt.diskFoot (h : PairAt w p P S) {y : Nat} {Qv : Value} {D : DiskR} (hd : DiskAt w y Qv D) : ¬ foot P.v P.Cv P.Lv y ∧ ∀ g, Qv.ownBlock = some g → ¬ foot P.v P.Cv P.Lv g := by
  refine ⟨h.footKey hd.blk (by decide) (by decide) (by decide), fun g hg => ?_⟩
  obtain ⟨cs, fr, hb⟩ := row_blk hd.row hg
  exact h.footKey hb (by decide) (by decide) (by decide)
/-- What a call has done to the program's disk. -/
theorem PairAt.step {C1 L1 : Value} {V1 : VolR} (h : PairAt w p P S) (hs : VStep w w' P.v P.Cv P.Lv C1 L1 V1) :
    PairAt w' p { P with Cv := C1, Lv := L1, V := V1 } (fun k => S k ∨ foot P.v C1 L1 k) where
  blk := hs.kept.blk (h.footKey h.blk (by decide) (by decide) (by decide)) h.blk
  dsk := h.dsk.step hs
  ref := h.ref.kept hs.kept (h.diskFoot h.ref).1 (h.diskFoot h.ref).2
  rowB := h.rowB.kept hs.kept h.apB
  rowM := ownsRow_kept hs.kept h.rowM fun g hg => by
    obtain ⟨cs, fr, hb⟩ := row_blk h.rowM hg
    exact h.footKey hb (by decide) (by decide) (by decide)
  eM := fun m hm => (h.eM m hm).kept hs.kept (h.diskFoot (h.eM m hm)).1 (h.diskFoot (h.eM m hm)).2
  neY := h.neY
  apB := fun g hg hf => by
    rcases hs.new g hf with x | x
    · exact h.apB g hg x
    · have := h.lt g (h.inV g (Or.inr (Or.inr hg))); omega
  inP := Or.inl h.inP
  inD := by
    rintro k (e | e)
    · exact Or.inl (h.inD k (Or.inl e))
    · exact Or.inr e
  inY := Or.inl h.inY
  inV := fun g hg => Or.inl (h.inV g hg)
  inM := fun m hm => ⟨Or.inl (h.inM m hm).1, fun g hg => Or.inl ((h.inM m hm).2 g hg)⟩
  lt := by
    rintro k (e | e)
    · exact Nat.lt_of_lt_of_le (h.lt k e) hs.kept.size
    · exact hs.at'.foot_lt k e
/-- One mark more: a copy of what the disk holds. -/
theorem PairAt.growM {w5 : World} {g5 cap5 : Nat} {m : MarkR} (h : PairAt w p P S) (hg : w.grownBy w5 P.Mv.ownBlock) (hrow : w5.ownsRow 0 109 2 (.slice (some ⟨g5, 0, none⟩) (P.ms.length + 1) cap5) (P.ms.length + 1) (P.ms.flatMap markCells ++ markCells m)) (hat : P.Mv.ownBlock = some g5 ∨ w.heap.size ≤ g5) (hlt : g5 < w5.heap.size)
    (hm : DiskAt w m.d m.Pv m.D) (hmy : m.d ≠ P.y) (w0 : World) (hw0 : w0.heap.size ≤ w.heap.size) (hmn : w0.heap.size ≤ m.d ∧ ∀ g, m.Pv.ownBlock = some g → w0.heap.size ≤ g) :
    PairAt (w5.setCell ⟨p, 4, none⟩ (.slice (some ⟨g5, 0, none⟩) (P.ms.length + 1) cap5)) p { P with Mv := .slice (some ⟨g5, 0, none⟩) (P.ms.length + 1) cap5, ms := P.ms ++ [m] } (fun k => S k ∨ k = g5 ∨ k = m.d ∨ m.Pv.ownBlock = some k) ∧
      Kept S w (w5.setCell ⟨p, 4, none⟩ (.slice (some ⟨g5, 0, none⟩) (P.ms.length + 1) cap5)) ∧ ∀ k, (S k ∨ k = g5 ∨ k = m.d ∨ m.Pv.ownBlock = some k) → S k ∨ w0.heap.size ≤ k := by
  have hk5 : Kept (fun k => P.Mv.ownBlock = some k) w w5 := ⟨hg.os, hg.tape, hg.output, hg.size, fun k hk hs => hg.block k hk (fun e => hs e.symm)⟩
  have b5 : w5.heap[p]? = some (.cells (pairCells P).toArray 107 (0, 0)) := grown_blk hg h.blk h.neM
  have b6 := heap_setCell_same w5 p 4 (.slice (some ⟨g5, 0, none⟩) (P.ms.length + 1) cap5) _ _ _ b5
  have hkS := Kept.only w5 p 4 (.slice (some ⟨g5, 0, none⟩) (P.ms.length + 1) cap5)
  have hk6 : Kept (fun k => P.Mv.ownBlock = some k ∨ k = p) w (w5.setCell ⟨p, 4, none⟩ (.slice (some ⟨g5, 0, none⟩) (P.ms.length + 1) cap5)) := (hk5.mono fun k hk => Or.inl hk).trans (hkS.mono fun k hk => Or.inr hk)
  have key : ∀ {k : Nat} {cs : Array Value} {t : TypeId} {fr : Nat × Nat}, w.heap[k]? = some (.cells cs t fr) → t ≠ 109 → t ≠ 107 → ¬ (P.Mv.ownBlock = some k ∨ k = p) := by
    intro k cs t fr hb h1 h2
    rintro (e | e)
    · exact row_ne h.rowM hb (fun x => h1 x.symm) k e rfl
    · subst e; exact h2 (blk_type hb h.blk)
  have keyR : ∀ {base : Nat} {e : TypeId} {size : Nat} {v : Value} {n : Nat} {xs : List Value}, w.ownsRow base e size v n xs → e ≠ 109 → e ≠ 107 → ∀ g, v.ownBlock = some g → ¬ (P.Mv.ownBlock = some g ∨ g = p) := by
    intro base e size v n xs hr' h1 h2 g hg'
    obtain ⟨cs, fr, hb⟩ := row_blk hr' hg'
    exact key hb h1 h2
  have hgp : g5 ≠ p := fun e => by
    rcases hat with x | x
    · exact h.neM g5 x e
    · have := h.lt _ h.inP; omega
  have hdk : ∀ {y : Nat} {Qv : Value} {D : DiskR}, DiskAt w y Qv D → DiskAt (w5.setCell ⟨p, 4, none⟩ (.slice (some ⟨g5, 0, none⟩) (P.ms.length + 1) cap5)) y Qv D := fun hd => hd.kept hk6 (key hd.blk (by decide) (by decide)) (keyR hd.row (by decide) (by decide))
  refine ⟨⟨?_, h.dsk.kept hk6 ?_, hdk h.ref, h.rowB.kept hk6 (keyR h.rowB.row (by decide) (by decide)), ?_, fun x hx => ?_, fun x hx => ?_, h.apB, Or.inl h.inP, fun k hk => Or.inl (h.inD k hk), Or.inl h.inY, ?_, fun x hx => ?_, ?_⟩, ?_, ?_⟩
  · rw [b6]; rfl
  · rintro k (e | e | e | e)
    · rw [e]; exact key h.dsk.blk (by decide) (by decide)
    · rw [e]; exact key h.dsk.vol.blk (by decide) (by decide)
    · exact keyR h.dsk.vol.rowC (by decide) (by decide) k e
    · exact keyR h.dsk.vol.rowL (by decide) (by decide) k e
  · have := ownsRow_kept hkS hrow (fun g hg' e => by simp only [Value.ownBlock, Option.some.injEq] at hg'; omega)
    simpa using this
  · rcases List.mem_append.1 hx with y | y
    · exact hdk (h.eM x y)
    · rw [List.mem_singleton.1 y]; exact hdk hm
  · rcases List.mem_append.1 hx with y | y
    · exact h.neY x y
    · rw [List.mem_singleton.1 y]; exact hmy
  · rintro g (e | e | e)
    · exact Or.inl (h.inV g (Or.inl e))
    · simp only [Value.ownBlock, Option.some.injEq] at e
      exact Or.inr (Or.inl e.symm)
    · exact Or.inl (h.inV g (Or.inr (Or.inr e)))
  · rcases List.mem_append.1 hx with y | y
    · exact ⟨Or.inl (h.inM x y).1, fun g hg' => Or.inl ((h.inM x y).2 g hg')⟩
    · rw [List.mem_singleton.1 y]
      exact ⟨Or.inr (Or.inr (Or.inl rfl)), fun g hg' => Or.inr (Or.inr (Or.inr hg'))⟩
  · rintro k (e | e | e | e)
    · exact Nat.lt_of_lt_of_le (h.lt k e) hk6.size
    · rw [e]; exact Nat.lt_of_lt_of_le hlt hkS.size
    · rw [e]; exact Nat.lt_of_lt_of_le hm.lt hk6.size
    · exact Nat.lt_of_lt_of_le (hm.row.lt k e).2 hk6.size
  · exact hk6.mono fun k hk => by
      rcases hk with x | x
      · exact h.inV k (Or.inr (Or.inl x))
      · rw [x]; exact h.inP
  · rintro k (e | e | e | e)
    · exact Or.inl e
    · rcases hat with x | x
      · exact Or.inl (by rw [e]; exact h.inV g5 (Or.inr (Or.inl x)))
      · exact Or.inr (by omega)
    · exact Or.inr (by rw [e]; exact hmn.1)
    · exact Or.inr (hmn.2 k e)
end
end Go.Proofs.YtknjjjenklfeoaaGreatDoor

/-
  Plain: a new disk's file is exact and holds noughts. How much the log grows by.
-/
namespace Go.Proofs.YtknjjjenklfeoaaGreatDoor
open Go.RowKit

def cnt7 : Clus := List.replicate 7 1 ++ List.replicate 57 0
def newC : List Clus := [headBytes 7 6, cnt7, zc, zc, zc, zc, zc]
theorem newV_C : newV.C = newC := by kernel_rfl
theorem new_counts : ∀ n : Fin 256, countOf newC n.val = (if n.val < 6 then 1 else 0) + (if n.val = 6 then 1 else 0) := by decide +kernel
theorem new_zero : ∀ i : Fin 32, num (cl newC 6) (2 * i.val) = 0 := by decide +kernel
theorem new_list : cl newC 5 = listBytes [] := by kernel_rfl
theorem new_lens : ∀ c ∈ newC, c.length = 64 := by decide +kernel
theorem ents_nil : EntsOK [] := ⟨by decide, fun e he => (by cases he), List.nodup_nil⟩
theorem new_root {r : RootR} (h : r ∈ rsOf 6 []) : r.N = 6 := by
  rcases rsOf_mem.1 h with x | ⟨e, he, _⟩
  · rw [x]
  · cases he
theorem new_nosec (s : Nat) : ¬ IsSec newC (rsOf 6 []) s := by
  rintro ⟨r, hr, j, hj, h0, _⟩
  rw [new_root hr] at h0
  exact h0 (new_zero ⟨j, by omega⟩)
theorem new_noblk (s : Nat) : ¬ IsBlk newC (rsOf 6 []) s := fun ⟨x, hx, _⟩ => new_nosec x hx
theorem new_use (n : Nat) : useOf newC (rsOf 6 []) n = if n = 6 then 1 else 0 := by
  have h0 : nm newC 6 0 = 0 := new_zero ⟨0, by omega⟩
  have h1 : nm newC 6 1 = 0 := new_zero ⟨1, by omega⟩
  show treeOcc newC 6 n + 0 = _
  unfold treeOcc secOcc
  rw [if_pos h0, if_pos h1]
  by_cases e : n = 6
  · rw [if_pos e.symm, if_pos e]
  · rw [if_neg (fun z => e z.symm), if_neg e]
theorem new_sound : SoundL newC (rsOf 6 []) := by
  refine ⟨by decide, by decide, fun r hr => by rw [new_root hr]; decide, by decide, fun r hr i _ h2 => by rw [new_root hr]; exact new_zero ⟨i, h2⟩, fun s hs => absurd hs (new_nosec s), fun n hn => absurd hn (new_noblk n), fun t _ hs => new_nosec t hs, fun t _ hs => new_noblk t hs, fun t hs => absurd hs (new_nosec t), fun n hn => ?_, fun n hn => ?_, fun n hn hl => ?_, fun r hr j hj hm => ?_, fun s hs => absurd hs (new_nosec s)⟩
  · rw [base6_eq, new_use, new_counts ⟨n, hn⟩]
    exact Nat.le_refl _
  · rw [new_counts ⟨n, hn⟩]; split <;> split <;> omega
  · have : newC.length = 7 := rfl
    rw [new_counts ⟨n, hn⟩, if_neg (by simp only; omega), if_neg (by simp only; omega)]
  · rw [new_root hr] at hm
    have h0 : nm newC 6 j = 0 := new_zero ⟨j, by omega⟩
    omega
theorem new_vol : Vol [] newV 6 [] := by
  refine ⟨?_, by rw [newV_C]; exact new_sound, new_loose, logged_new⟩
  rw [newV_C]
  exact ⟨new_lens, by decide, Nat.le_refl _, by decide, by decide, by decide, rfl, new_list, ents_nil⟩
section
variable {base : List Clus} {V : VolR} {N0 : Nat} {E : List EntR} {n : Int} {data : Clus}
end
end Go.Proofs.YtknjjjenklfeoaaGreatDoor
