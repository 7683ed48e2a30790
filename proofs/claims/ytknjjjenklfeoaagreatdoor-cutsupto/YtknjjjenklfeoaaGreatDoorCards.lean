/-
  DERIVED. GIVEN WITH THE SEED: THE CARDS: each row of YtknjjjenklfeoaaGreatDoorRows.lean that lists a variable, with what it lists TIED to the program's text (the seventh form; the later family's looks); each row that meets fmt, with fmt's text TOLD by the authors' own Lean function (tested against real Go, not proved from fmt's source: count such statements apart). THE CARD IS WHAT COUNTS. Prove the row's statement (the work); the ties are given (YtknjjjenklfeoaaGreatDoorTie.lean); close each card by the builder's one call (the guide's Derived/Test/ToyasCard.lean, 'card_holds'). Laid BY PROGRAM, IN A SANDBOX (cutbox-door.mjs). By AI agents, Wed Nov 11 2026. No macro, syntax, notation, axiom, sorry.
-/
import Derived.Test.YtknjjjenklfeoaaGreatDoorRows
import GoSem.ClaimSeven
namespace Go.Proofs.YtknjjjenklfeoaaGreatDoor
namespace Rows

/-- THE TIED CARD OF 'vellumlaw.Blocks'. -/
def blocksCard : Claim7 := { stood := { row := blocksRow, standIns := [], harness := (true, "b4a2c94af93636aa475b4938703dfec5738ecf2805a453562ac5e34399decb2a"), looks := true }, kinds := [], alts := [], laidByText := true, laidKinds := [.handle, .sentinel, .sentinel, .sentinel, .sentinel, .sentinel, .sentinel, .sentinel, .sentinel], laidTests := true, laidLooks := .later }
def BlocksCardSaid : Prop := Claim7.holds Tryz.pinned (.plain (OpenSpec.ofChange blocksSpec)) blocksCard

/-- THE TIED CARD OF 'vellumlaw.Pictures'. -/
def picturesCard : Claim7 := { stood := { row := picturesRow, standIns := [], harness := (true, "b4a2c94af93636aa475b4938703dfec5738ecf2805a453562ac5e34399decb2a"), looks := true }, kinds := [], alts := [], laidByText := true, laidKinds := [.handle, .sentinel, .sentinel, .sentinel, .sentinel, .sentinel, .sentinel, .sentinel, .sentinel], laidTests := true, laidLooks := .later }
def PicturesCardSaid : Prop := Claim7.holds Tryz.pinned (.plain (OpenSpec.ofChange picturesSpec)) picturesCard

/-- THE TIED CARD OF 'vellumlaw.Opens'. -/
def opensCard : Claim7 := { stood := { row := opensRow, standIns := [], harness := (true, "b4a2c94af93636aa475b4938703dfec5738ecf2805a453562ac5e34399decb2a"), looks := true }, kinds := [], alts := [], laidByText := true, laidKinds := [.handle, .sentinel, .sentinel, .sentinel, .sentinel, .sentinel, .sentinel, .sentinel, .sentinel], laidTests := true, laidLooks := .later }
def OpensCardSaid : Prop := Claim7.holds Tryz.pinned (.plain (OpenSpec.ofChange opensSpec)) opensCard

/-- THE TIED CARD OF 'vellumlaw.Any'. -/
def anyCard : Claim7 := { stood := { row := anyRow, standIns := [], harness := (true, "b4a2c94af93636aa475b4938703dfec5738ecf2805a453562ac5e34399decb2a"), looks := true }, kinds := [], alts := [], laidByText := true, laidKinds := [.handle, .sentinel, .sentinel, .sentinel, .sentinel, .sentinel, .sentinel, .sentinel, .sentinel], laidTests := true, laidLooks := .later }
def AnyCardSaid : Prop := Claim7.holds Tryz.pinned (.plain (OpenSpec.ofChange anySpec)) anyCard

/-- THE TIED CARD OF 'vellumkeep.Again'. -/
def againCard : Claim7 := { stood := { row := againRow, standIns := [], harness := (true, "b4a2c94af93636aa475b4938703dfec5738ecf2805a453562ac5e34399decb2a"), looks := true }, kinds := [], alts := [], laidByText := true, laidKinds := [.handle, .sentinel, .sentinel, .sentinel, .sentinel, .sentinel, .sentinel, .sentinel, .sentinel], laidTests := true, laidLooks := .later }
def AgainCardSaid : Prop := Claim7.holds Tryz.pinned (.plain (OpenSpec.ofChange againSpec)) againCard

/-- THE TIED CARD OF 'vellumlaw.Cuts'. -/
def cutsCard : Claim7 := { stood := { row := cutsRow, standIns := [], harness := (true, "b4a2c94af93636aa475b4938703dfec5738ecf2805a453562ac5e34399decb2a"), looks := true }, kinds := [], alts := [], laidByText := true, laidKinds := [.handle, .sentinel, .sentinel, .sentinel, .sentinel, .sentinel, .sentinel, .sentinel, .sentinel], laidTests := true, laidLooks := .later }
def CutsCardSaid : Prop := Claim7.holds Tryz.pinned (.plain (OpenSpec.ofChange cutsSpec)) cutsCard

/-- THE TIED CARD OF 'vellumkeep.Torn'. -/
def tornCard : Claim7 := { stood := { row := tornRow, standIns := [], harness := (true, "b4a2c94af93636aa475b4938703dfec5738ecf2805a453562ac5e34399decb2a"), looks := true }, kinds := [], alts := [], laidByText := true, laidKinds := [.handle, .sentinel, .sentinel, .sentinel, .sentinel, .sentinel, .sentinel, .sentinel, .sentinel], laidTests := true, laidLooks := .later }
def TornCardSaid : Prop := Claim7.holds Tryz.pinned (.plain (OpenSpec.ofChange tornSpec)) tornCard

/-- THE SECOND FORM's CARD OF 'vellumlaw.Blocks'. -/
def blocksUptoCard : Claim7 := { stood := { row := blocksUptoRow, standIns := [], harness := (true, "b4a2c94af93636aa475b4938703dfec5738ecf2805a453562ac5e34399decb2a"), looks := true }, kinds := [], alts := [], laidByText := true, laidKinds := [.handle, .sentinel, .sentinel, .sentinel, .sentinel, .sentinel, .sentinel, .sentinel, .sentinel], laidTests := true, laidLooks := .later }
def BlocksUptoCardSaid : Prop := Claim7.holds Tryz.pinned (.plain (OpenSpec.upto blocksSpec)) blocksUptoCard

/-- THE SECOND FORM's CARD OF 'vellumlaw.Pictures'. -/
def picturesUptoCard : Claim7 := { stood := { row := picturesUptoRow, standIns := [], harness := (true, "b4a2c94af93636aa475b4938703dfec5738ecf2805a453562ac5e34399decb2a"), looks := true }, kinds := [], alts := [], laidByText := true, laidKinds := [.handle, .sentinel, .sentinel, .sentinel, .sentinel, .sentinel, .sentinel, .sentinel, .sentinel], laidTests := true, laidLooks := .later }
def PicturesUptoCardSaid : Prop := Claim7.holds Tryz.pinned (.plain (OpenSpec.upto picturesSpec)) picturesUptoCard

/-- THE SECOND FORM's CARD OF 'vellumlaw.Opens'. -/
def opensUptoCard : Claim7 := { stood := { row := opensUptoRow, standIns := [], harness := (true, "b4a2c94af93636aa475b4938703dfec5738ecf2805a453562ac5e34399decb2a"), looks := true }, kinds := [], alts := [], laidByText := true, laidKinds := [.handle, .sentinel, .sentinel, .sentinel, .sentinel, .sentinel, .sentinel, .sentinel, .sentinel], laidTests := true, laidLooks := .later }
def OpensUptoCardSaid : Prop := Claim7.holds Tryz.pinned (.plain (OpenSpec.upto opensSpec)) opensUptoCard

/-- THE SECOND FORM's CARD OF 'vellumlaw.Any'. -/
def anyUptoCard : Claim7 := { stood := { row := anyUptoRow, standIns := [], harness := (true, "b4a2c94af93636aa475b4938703dfec5738ecf2805a453562ac5e34399decb2a"), looks := true }, kinds := [], alts := [], laidByText := true, laidKinds := [.handle, .sentinel, .sentinel, .sentinel, .sentinel, .sentinel, .sentinel, .sentinel, .sentinel], laidTests := true, laidLooks := .later }
def AnyUptoCardSaid : Prop := Claim7.holds Tryz.pinned (.plain (OpenSpec.upto anySpec)) anyUptoCard

/-- THE SECOND FORM's CARD OF 'vellumkeep.Again'. -/
def againUptoCard : Claim7 := { stood := { row := againUptoRow, standIns := [], harness := (true, "b4a2c94af93636aa475b4938703dfec5738ecf2805a453562ac5e34399decb2a"), looks := true }, kinds := [], alts := [], laidByText := true, laidKinds := [.handle, .sentinel, .sentinel, .sentinel, .sentinel, .sentinel, .sentinel, .sentinel, .sentinel], laidTests := true, laidLooks := .later }
def AgainUptoCardSaid : Prop := Claim7.holds Tryz.pinned (.plain (OpenSpec.upto againSpec)) againUptoCard

/-- THE SECOND FORM's CARD OF 'vellumlaw.Cuts'. -/
def cutsUptoCard : Claim7 := { stood := { row := cutsUptoRow, standIns := [], harness := (true, "b4a2c94af93636aa475b4938703dfec5738ecf2805a453562ac5e34399decb2a"), looks := true }, kinds := [], alts := [], laidByText := true, laidKinds := [.handle, .sentinel, .sentinel, .sentinel, .sentinel, .sentinel, .sentinel, .sentinel, .sentinel], laidTests := true, laidLooks := .later }
def CutsUptoCardSaid : Prop := Claim7.holds Tryz.pinned (.plain (OpenSpec.upto cutsSpec)) cutsUptoCard

/-- THE SECOND FORM's CARD OF 'vellumkeep.Torn'. -/
def tornUptoCard : Claim7 := { stood := { row := tornUptoRow, standIns := [], harness := (true, "b4a2c94af93636aa475b4938703dfec5738ecf2805a453562ac5e34399decb2a"), looks := true }, kinds := [], alts := [], laidByText := true, laidKinds := [.handle, .sentinel, .sentinel, .sentinel, .sentinel, .sentinel, .sentinel, .sentinel, .sentinel], laidTests := true, laidLooks := .later }
def TornUptoCardSaid : Prop := Claim7.holds Tryz.pinned (.plain (OpenSpec.upto tornSpec)) tornUptoCard
end Rows
end Go.Proofs.YtknjjjenklfeoaaGreatDoor
