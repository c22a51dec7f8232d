/-
  DERIVED. GIVEN WITH THE SEED: THE CARDS: each row of YtadmglkpjpfehaaDoorRows.lean that lists a variable, with what it lists TIED to the program's text (the seventh form; the later family's looks); each row that meets fmt, with fmt's text TOLD by the authors' own Lean function (tested against real Go, not proved from fmt's source: count such statements apart). THE CARD IS WHAT COUNTS. Prove the row's statement (the work); the ties are given (YtadmglkpjpfehaaDoorTie.lean); close each card by the builder's one call (the guide's Derived/Test/ToyasCard.lean, 'card_holds'). Laid BY PROGRAM, IN A SANDBOX (cutbox-door.mjs). By AI agents, Wed Nov 11 2026. No macro, syntax, notation, axiom, sorry.
-/
import Derived.Test.YtadmglkpjpfehaaDoorRows
import GoSem.ClaimSeven
namespace Go.Proofs.YtadmglkpjpfehaaDoor
namespace Rows

/-- THE TIED CARD OF 'ctrielaw02.BitmapExact'. -/
def bitmapExactCard : Claim7 := { stood := { row := bitmapExactRow, standIns := [], harness := (true, "d6c18442722b9e0bcac6a5c710f6658e12f3f878727569e51022cab100d678c2"), looks := false }, kinds := [], alts := [], laidByText := true, laidKinds := [.data], laidTests := true, laidLooks := .later }
def BitmapExactCardSaid : Prop := Claim7.holds Tryd.pinned (.plain (OpenSpec.ofChange bitmapExactSpec)) bitmapExactCard

/-- THE TIED CARD OF 'ctrielaw02.BitmapPositions'. -/
def bitmapPositionsCard : Claim7 := { stood := { row := bitmapPositionsRow, standIns := [], harness := (true, "d6c18442722b9e0bcac6a5c710f6658e12f3f878727569e51022cab100d678c2"), looks := false }, kinds := [], alts := [], laidByText := true, laidKinds := [.data], laidTests := true, laidLooks := .later }
def BitmapPositionsCardSaid : Prop := Claim7.holds Tryd.pinned (.plain (OpenSpec.ofChange bitmapPositionsSpec)) bitmapPositionsCard

/-- THE TIED CARD OF 'ctrielaw02.BitmapChanges'. -/
def bitmapChangesCard : Claim7 := { stood := { row := bitmapChangesRow, standIns := [], harness := (true, "d6c18442722b9e0bcac6a5c710f6658e12f3f878727569e51022cab100d678c2"), looks := false }, kinds := [], alts := [], laidByText := true, laidKinds := [.data], laidTests := true, laidLooks := .later }
def BitmapChangesCardSaid : Prop := Claim7.holds Tryd.pinned (.plain (OpenSpec.ofChange bitmapChangesSpec)) bitmapChangesCard

/-- THE TIED CARD OF 'ctrielaw02.BitmapCounts'. -/
def bitmapCountsCard : Claim7 := { stood := { row := bitmapCountsRow, standIns := [], harness := (true, "d6c18442722b9e0bcac6a5c710f6658e12f3f878727569e51022cab100d678c2"), looks := false }, kinds := [], alts := [], laidByText := true, laidKinds := [.data], laidTests := true, laidLooks := .later }
def BitmapCountsCardSaid : Prop := Claim7.holds Tryd.pinned (.plain (OpenSpec.ofChange bitmapCountsSpec)) bitmapCountsCard

/-- THE TIED CARD OF 'ctrielaw02.BitmapSplits'. -/
def bitmapSplitsCard : Claim7 := { stood := { row := bitmapSplitsRow, standIns := [], harness := (true, "d6c18442722b9e0bcac6a5c710f6658e12f3f878727569e51022cab100d678c2"), looks := false }, kinds := [], alts := [], laidByText := true, laidKinds := [.data], laidTests := true, laidLooks := .later }
def BitmapSplitsCardSaid : Prop := Claim7.holds Tryd.pinned (.plain (OpenSpec.ofChange bitmapSplitsSpec)) bitmapSplitsCard

/-- THE SECOND FORM's CARD OF 'ctrielaw02.BitmapExact'. -/
def bitmapExactUptoCard : Claim7 := { stood := { row := bitmapExactUptoRow, standIns := [], harness := (true, "d6c18442722b9e0bcac6a5c710f6658e12f3f878727569e51022cab100d678c2"), looks := false }, kinds := [], alts := [], laidByText := true, laidKinds := [.data], laidTests := true, laidLooks := .later }
def BitmapExactUptoCardSaid : Prop := Claim7.holds Tryd.pinned (.plain (OpenSpec.upto bitmapExactSpec)) bitmapExactUptoCard

/-- THE SECOND FORM's CARD OF 'ctrielaw02.BitmapPositions'. -/
def bitmapPositionsUptoCard : Claim7 := { stood := { row := bitmapPositionsUptoRow, standIns := [], harness := (true, "d6c18442722b9e0bcac6a5c710f6658e12f3f878727569e51022cab100d678c2"), looks := false }, kinds := [], alts := [], laidByText := true, laidKinds := [.data], laidTests := true, laidLooks := .later }
def BitmapPositionsUptoCardSaid : Prop := Claim7.holds Tryd.pinned (.plain (OpenSpec.upto bitmapPositionsSpec)) bitmapPositionsUptoCard

/-- THE SECOND FORM's CARD OF 'ctrielaw02.BitmapChanges'. -/
def bitmapChangesUptoCard : Claim7 := { stood := { row := bitmapChangesUptoRow, standIns := [], harness := (true, "d6c18442722b9e0bcac6a5c710f6658e12f3f878727569e51022cab100d678c2"), looks := false }, kinds := [], alts := [], laidByText := true, laidKinds := [.data], laidTests := true, laidLooks := .later }
def BitmapChangesUptoCardSaid : Prop := Claim7.holds Tryd.pinned (.plain (OpenSpec.upto bitmapChangesSpec)) bitmapChangesUptoCard

/-- THE SECOND FORM's CARD OF 'ctrielaw02.BitmapCounts'. -/
def bitmapCountsUptoCard : Claim7 := { stood := { row := bitmapCountsUptoRow, standIns := [], harness := (true, "d6c18442722b9e0bcac6a5c710f6658e12f3f878727569e51022cab100d678c2"), looks := false }, kinds := [], alts := [], laidByText := true, laidKinds := [.data], laidTests := true, laidLooks := .later }
def BitmapCountsUptoCardSaid : Prop := Claim7.holds Tryd.pinned (.plain (OpenSpec.upto bitmapCountsSpec)) bitmapCountsUptoCard

/-- THE SECOND FORM's CARD OF 'ctrielaw02.BitmapSplits'. -/
def bitmapSplitsUptoCard : Claim7 := { stood := { row := bitmapSplitsUptoRow, standIns := [], harness := (true, "d6c18442722b9e0bcac6a5c710f6658e12f3f878727569e51022cab100d678c2"), looks := false }, kinds := [], alts := [], laidByText := true, laidKinds := [.data], laidTests := true, laidLooks := .later }
def BitmapSplitsUptoCardSaid : Prop := Claim7.holds Tryd.pinned (.plain (OpenSpec.upto bitmapSplitsSpec)) bitmapSplitsUptoCard
end Rows
end Go.Proofs.YtadmglkpjpfehaaDoor
