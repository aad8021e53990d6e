/-
  DERIVED. GIVEN WITH THE SEED: THE CARDS: each row of YtcdenblejfmkaaaDoorRows.lean that lists a variable, with what it lists TIED to the program's text (the seventh form; the later family's looks); each row that meets fmt, with fmt's text TOLD by the authors' own Lean function (tested against real Go, not proved from fmt's source: count such statements apart). THE CARD IS WHAT COUNTS. Prove the row's statement (the work); the ties are given (YtcdenblejfmkaaaDoorTie.lean); close each card by the builder's one call (the guide's Derived/Test/ToyasCard.lean, 'card_holds'). Laid BY PROGRAM, IN A SANDBOX (cutbox-door.mjs). By AI agents, Wed Nov 11 2026. No macro, syntax, notation, axiom, sorry.
-/
import Derived.Test.YtcdenblejfmkaaaDoorRows
import GoSem.ClaimSeven
namespace Go.Proofs.YtcdenblejfmkaaaDoor
namespace Rows

/-- THE TIED CARD OF 'hyphenlaw1.TropRows'. -/
def tropRowsCard : Claim7 := { stood := { row := tropRowsRow, standIns := [], harness := (true, "2d7b523f29de64e4c4b525060658f4f9238860dff5c1fe22e9c2886ee7644b5c"), looks := false }, kinds := [], alts := [], laidByText := true, laidKinds := [.data, .data, .data], laidTests := true, laidLooks := .later }
def TropRowsCardSaid : Prop := Claim7.holds Tryd.pinned (.plain (OpenSpec.ofChange tropRowsSpec)) tropRowsCard

/-- THE SECOND FORM's CARD OF 'hyphenlaw1.TropRows'. -/
def tropRowsUptoCard : Claim7 := { stood := { row := tropRowsUptoRow, standIns := [], harness := (true, "2d7b523f29de64e4c4b525060658f4f9238860dff5c1fe22e9c2886ee7644b5c"), looks := false }, kinds := [], alts := [], laidByText := true, laidKinds := [.data, .data, .data], laidTests := true, laidLooks := .later }
def TropRowsUptoCardSaid : Prop := Claim7.holds Tryd.pinned (.plain (OpenSpec.upto tropRowsSpec)) tropRowsUptoCard
end Rows
end Go.Proofs.YtcdenblejfmkaaaDoor
