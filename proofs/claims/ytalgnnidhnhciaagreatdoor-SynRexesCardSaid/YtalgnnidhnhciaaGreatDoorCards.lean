/-
  DERIVED. GIVEN WITH THE SEED: THE CARDS: each row of YtalgnnidhnhciaaGreatDoorRows.lean that lists a variable, with what it lists TIED to the program's text (the seventh form; the later family's looks); each row that meets fmt, with fmt's text TOLD by the authors' own Lean function (tested against real Go, not proved from fmt's source: count such statements apart). THE CARD IS WHAT COUNTS. Prove the row's statement (the work); the ties are given (YtalgnnidhnhciaaGreatDoorTie.lean); close each card by the builder's one call (the guide's Derived/Test/ToyasCard.lean, 'card_holds'). Laid BY PROGRAM, IN A SANDBOX (cutbox-door.mjs). By AI agents, Wed Nov 11 2026. No macro, syntax, notation, axiom, sorry.
-/
import Derived.Test.YtalgnnidhnhciaaGreatDoorRows
import GoSem.ClaimSeven
namespace Go.Proofs.YtalgnnidhnhciaaGreatDoor
namespace Rows

/-- THE TIED CARD OF 'hyphenlaw5.SynSets'. -/
def synSetsCard : Claim7 := { stood := { row := synSetsRow, standIns := [], harness := (true, "723cf8bfeba502c62197d6aeb8a6b52d626d4f96f06229f3519a9265ae0ec542"), looks := true }, kinds := [], alts := [], laidByText := true, laidKinds := [.data, .data, .data, .data, .sentinel, .sentinel, .pinned, .pinned], laidTests := true, laidLooks := .later }
def SynSetsCardSaid : Prop := Claim7.holds Tryz.pinned (.plain (OpenSpec.ofChange synSetsSpec)) synSetsCard

/-- THE TIED CARD OF 'hyphenlaw5.SynRexes'. -/
def synRexesCard : Claim7 := { stood := { row := synRexesRow, standIns := [], harness := (true, "723cf8bfeba502c62197d6aeb8a6b52d626d4f96f06229f3519a9265ae0ec542"), looks := true }, kinds := [], alts := [], laidByText := true, laidKinds := [.data, .data, .data, .data, .sentinel, .sentinel, .pinned, .pinned], laidTests := true, laidLooks := .later }
def SynRexesCardSaid : Prop := Claim7.holds Tryz.pinned (.plain (OpenSpec.ofChange synRexesSpec)) synRexesCard

/-- THE TIED CARD OF 'hyphenlaw5.SynMany'. -/
def synManyCard : Claim7 := { stood := { row := synManyRow, standIns := [], harness := (true, "723cf8bfeba502c62197d6aeb8a6b52d626d4f96f06229f3519a9265ae0ec542"), looks := true }, kinds := [], alts := [], laidByText := true, laidKinds := [.data, .data, .data, .data, .sentinel, .sentinel, .pinned, .pinned], laidTests := true, laidLooks := .later }
def SynManyCardSaid : Prop := Claim7.holds Tryz.pinned (.plain (OpenSpec.ofChange synManySpec)) synManyCard

/-- THE TIED CARD OF 'hyphenlaw5.SynBlanks'. -/
def synBlanksCard : Claim7 := { stood := { row := synBlanksRow, standIns := [], harness := (true, "723cf8bfeba502c62197d6aeb8a6b52d626d4f96f06229f3519a9265ae0ec542"), looks := true }, kinds := [], alts := [], laidByText := true, laidKinds := [.data, .data, .data, .data, .sentinel, .sentinel, .pinned, .pinned], laidTests := true, laidLooks := .later }
def SynBlanksCardSaid : Prop := Claim7.holds Tryz.pinned (.plain (OpenSpec.ofChange synBlanksSpec)) synBlanksCard

/-- THE TIED CARD OF 'hyphenlaw5.SynDeep'. -/
def synDeepCard : Claim7 := { stood := { row := synDeepRow, standIns := [], harness := (true, "723cf8bfeba502c62197d6aeb8a6b52d626d4f96f06229f3519a9265ae0ec542"), looks := true }, kinds := [], alts := [], laidByText := true, laidKinds := [.data, .data, .data, .data, .sentinel, .sentinel, .pinned, .pinned], laidTests := true, laidLooks := .later }
def SynDeepCardSaid : Prop := Claim7.holds Tryz.pinned (.plain (OpenSpec.ofChange synDeepSpec)) synDeepCard

/-- THE TIED CARD OF 'hyphenlaw5.SynNames'. -/
def synNamesCard : Claim7 := { stood := { row := synNamesRow, standIns := [], harness := (true, "723cf8bfeba502c62197d6aeb8a6b52d626d4f96f06229f3519a9265ae0ec542"), looks := true }, kinds := [], alts := [], laidByText := true, laidKinds := [.data, .data, .data, .data, .sentinel, .sentinel, .pinned, .pinned], laidTests := true, laidLooks := .later }
def SynNamesCardSaid : Prop := Claim7.holds Tryz.pinned (.plain (OpenSpec.ofChange synNamesSpec)) synNamesCard

/-- THE TIED CARD OF 'hyphenlaw5.SynOwn'. -/
def synOwnCard : Claim7 := { stood := { row := synOwnRow, standIns := [], harness := (true, "723cf8bfeba502c62197d6aeb8a6b52d626d4f96f06229f3519a9265ae0ec542"), looks := true }, kinds := [], alts := [], laidByText := true, laidKinds := [.data, .data, .data, .data, .sentinel, .sentinel, .pinned, .pinned], laidTests := true, laidLooks := .later }
def SynOwnCardSaid : Prop := Claim7.holds Tryz.pinned (.plain (OpenSpec.ofChange synOwnSpec)) synOwnCard

/-- THE SECOND FORM's CARD OF 'hyphenlaw5.SynSets'. -/
def synSetsUptoCard : Claim7 := { stood := { row := synSetsUptoRow, standIns := [], harness := (true, "723cf8bfeba502c62197d6aeb8a6b52d626d4f96f06229f3519a9265ae0ec542"), looks := true }, kinds := [], alts := [], laidByText := true, laidKinds := [.data, .data, .data, .data, .sentinel, .sentinel, .pinned, .pinned], laidTests := true, laidLooks := .later }
def SynSetsUptoCardSaid : Prop := Claim7.holds Tryz.pinned (.plain (OpenSpec.upto synSetsSpec)) synSetsUptoCard

/-- THE SECOND FORM's CARD OF 'hyphenlaw5.SynRexes'. -/
def synRexesUptoCard : Claim7 := { stood := { row := synRexesUptoRow, standIns := [], harness := (true, "723cf8bfeba502c62197d6aeb8a6b52d626d4f96f06229f3519a9265ae0ec542"), looks := true }, kinds := [], alts := [], laidByText := true, laidKinds := [.data, .data, .data, .data, .sentinel, .sentinel, .pinned, .pinned], laidTests := true, laidLooks := .later }
def SynRexesUptoCardSaid : Prop := Claim7.holds Tryz.pinned (.plain (OpenSpec.upto synRexesSpec)) synRexesUptoCard

/-- THE SECOND FORM's CARD OF 'hyphenlaw5.SynMany'. -/
def synManyUptoCard : Claim7 := { stood := { row := synManyUptoRow, standIns := [], harness := (true, "723cf8bfeba502c62197d6aeb8a6b52d626d4f96f06229f3519a9265ae0ec542"), looks := true }, kinds := [], alts := [], laidByText := true, laidKinds := [.data, .data, .data, .data, .sentinel, .sentinel, .pinned, .pinned], laidTests := true, laidLooks := .later }
def SynManyUptoCardSaid : Prop := Claim7.holds Tryz.pinned (.plain (OpenSpec.upto synManySpec)) synManyUptoCard

/-- THE SECOND FORM's CARD OF 'hyphenlaw5.SynBlanks'. -/
def synBlanksUptoCard : Claim7 := { stood := { row := synBlanksUptoRow, standIns := [], harness := (true, "723cf8bfeba502c62197d6aeb8a6b52d626d4f96f06229f3519a9265ae0ec542"), looks := true }, kinds := [], alts := [], laidByText := true, laidKinds := [.data, .data, .data, .data, .sentinel, .sentinel, .pinned, .pinned], laidTests := true, laidLooks := .later }
def SynBlanksUptoCardSaid : Prop := Claim7.holds Tryz.pinned (.plain (OpenSpec.upto synBlanksSpec)) synBlanksUptoCard

/-- THE SECOND FORM's CARD OF 'hyphenlaw5.SynDeep'. -/
def synDeepUptoCard : Claim7 := { stood := { row := synDeepUptoRow, standIns := [], harness := (true, "723cf8bfeba502c62197d6aeb8a6b52d626d4f96f06229f3519a9265ae0ec542"), looks := true }, kinds := [], alts := [], laidByText := true, laidKinds := [.data, .data, .data, .data, .sentinel, .sentinel, .pinned, .pinned], laidTests := true, laidLooks := .later }
def SynDeepUptoCardSaid : Prop := Claim7.holds Tryz.pinned (.plain (OpenSpec.upto synDeepSpec)) synDeepUptoCard

/-- THE SECOND FORM's CARD OF 'hyphenlaw5.SynNames'. -/
def synNamesUptoCard : Claim7 := { stood := { row := synNamesUptoRow, standIns := [], harness := (true, "723cf8bfeba502c62197d6aeb8a6b52d626d4f96f06229f3519a9265ae0ec542"), looks := true }, kinds := [], alts := [], laidByText := true, laidKinds := [.data, .data, .data, .data, .sentinel, .sentinel, .pinned, .pinned], laidTests := true, laidLooks := .later }
def SynNamesUptoCardSaid : Prop := Claim7.holds Tryz.pinned (.plain (OpenSpec.upto synNamesSpec)) synNamesUptoCard

/-- THE SECOND FORM's CARD OF 'hyphenlaw5.SynOwn'. -/
def synOwnUptoCard : Claim7 := { stood := { row := synOwnUptoRow, standIns := [], harness := (true, "723cf8bfeba502c62197d6aeb8a6b52d626d4f96f06229f3519a9265ae0ec542"), looks := true }, kinds := [], alts := [], laidByText := true, laidKinds := [.data, .data, .data, .data, .sentinel, .sentinel, .pinned, .pinned], laidTests := true, laidLooks := .later }
def SynOwnUptoCardSaid : Prop := Claim7.holds Tryz.pinned (.plain (OpenSpec.upto synOwnSpec)) synOwnUptoCard
end Rows
end Go.Proofs.YtalgnnidhnhciaaGreatDoor
