/-
  No cell of these rows narrows 'for every input' (looked for: loops, veiled, ifaces, maps, wideKeys, modest, calm, conditions, laid).
  DERIVED. THE GIVEN ROWS OF THIS SEAT. 10 by the template 'for every input the law returns true; each argument reads behind the call as it read before'; 0 by the template 'total and deterministic' (their statements: YtdcokkgdahbinaaTotals.lean).
  GIVEN WITH THE SEED: the statements are not yours to turn. If you find one false, say at which input.
  Laid BY PROGRAM, IN A SANDBOX (cutbox-rows.mjs): the forced cells as the released guide's own fill.sh prints them over the translation 50a10931bc22f799… (all of the seat's roots in one cut). By AI agents, Wed Nov 11 2026. No macro, syntax, notation, axiom, sorry.
-/
import Derived.Test.YtdcokkgdahbinaaChecked
import GoSem.Claim
import GoSem.ClaimJoined
import GoSem.ClaimMapViews
import Derived.JoinedTies
import Derived.KernelRfl
namespace Go.Proofs.Ytdcokkgdahbinaa
/- THE CELL 'sum', in the pinned program and in every row, IS THE sha256 OF THE DUMP (.gsa) THAT YtdcokkgdahbinaaProg.lean LOADS. Nothing in Lean hashes anything: it is a label: what it is worth is what the hold of that sum in a sandbox is worth. -/
noncomputable def Try.pinned : Pinned := { name := "ytdcokkgdahbinaa", sum := "50a10931bc22f7994ed4517fb1b19ae6bf4a789a10c7ec0bcc70ced75028e7f9", checked := Try.checked }
namespace Rows
def none {H : Type} : Left H := { results := [], args := [] }

/-- 'hyphenlaw11.MiniAll': WHATEVER THE INPUT: true; the input reads as it did. -/
def miniAllSpec : ChangeSpec := { name := "miniAll", fn := fun _ => fun
  | [d1, d2, d3] => { results := [.lit (.bool true)], args := [d1, d2, d3] }
  | _ => none }
def miniAllRow : OpenClaim := { program := "ytdcokkgdahbinaa", sum := "50a10931bc22f7994ed4517fb1b19ae6bf4a789a10c7ec0bcc70ced75028e7f9", func := "hyphen/hyphenlaw11.MiniAll", spec := "miniAll", unfollowed := true, recurses := true, apart := false }
def MiniAllSaid : Prop := miniAllRow.holds Try.pinned (OpenSpec.ofChange miniAllSpec)

/-- ITS FALSE NEIGHBOUR: 'it returns false'. Refute it at one input. -/
def miniAllWrong : ChangeSpec := { name := "miniAll", fn := fun _ => fun
  | [d1, d2, d3] => { results := [.lit (.bool false)], args := [d1, d2, d3] }
  | _ => none }
def MiniAllWrongFalsely : Prop := miniAllRow.holds Try.pinned (OpenSpec.ofChange miniAllWrong)

/-- 'hyphenlaw11.MiniSays': WHATEVER THE INPUT: true; the input reads as it did. -/
def miniSaysSpec : ChangeSpec := { name := "miniSays", fn := fun _ => fun
  | [d1, d2, d3, d4, d5] => { results := [.lit (.bool true)], args := [d1, d2, d3, d4, d5] }
  | _ => none }
def miniSaysRow : OpenClaim := { program := "ytdcokkgdahbinaa", sum := "50a10931bc22f7994ed4517fb1b19ae6bf4a789a10c7ec0bcc70ced75028e7f9", func := "hyphen/hyphenlaw11.MiniSays", spec := "miniSays", unfollowed := true, recurses := true, apart := false }
def MiniSaysSaid : Prop := miniSaysRow.holds Try.pinned (OpenSpec.ofChange miniSaysSpec)

/-- ITS FALSE NEIGHBOUR: 'it returns false'. Refute it at one input. -/
def miniSaysWrong : ChangeSpec := { name := "miniSays", fn := fun _ => fun
  | [d1, d2, d3, d4, d5] => { results := [.lit (.bool false)], args := [d1, d2, d3, d4, d5] }
  | _ => none }
def MiniSaysWrongFalsely : Prop := miniSaysRow.holds Try.pinned (OpenSpec.ofChange miniSaysWrong)

/-- 'hyphenlaw11.MiniFewest': WHATEVER THE INPUT: true; the input reads as it did. -/
def miniFewestSpec : ChangeSpec := { name := "miniFewest", fn := fun _ => fun
  | [d1, d2, d3] => { results := [.lit (.bool true)], args := [d1, d2, d3] }
  | _ => none }
def miniFewestRow : OpenClaim := { program := "ytdcokkgdahbinaa", sum := "50a10931bc22f7994ed4517fb1b19ae6bf4a789a10c7ec0bcc70ced75028e7f9", func := "hyphen/hyphenlaw11.MiniFewest", spec := "miniFewest", unfollowed := true, recurses := true, apart := false }
def MiniFewestSaid : Prop := miniFewestRow.holds Try.pinned (OpenSpec.ofChange miniFewestSpec)

/-- ITS FALSE NEIGHBOUR: 'it returns false'. Refute it at one input. -/
def miniFewestWrong : ChangeSpec := { name := "miniFewest", fn := fun _ => fun
  | [d1, d2, d3] => { results := [.lit (.bool false)], args := [d1, d2, d3] }
  | _ => none }
def MiniFewestWrongFalsely : Prop := miniFewestRow.holds Try.pinned (OpenSpec.ofChange miniFewestWrong)

/-- 'hyphenlaw11.MiniSame': WHATEVER THE INPUT: true; the input reads as it did. -/
def miniSameSpec : ChangeSpec := { name := "miniSame", fn := fun _ => fun
  | [d1, d2, d3, d4, d5] => { results := [.lit (.bool true)], args := [d1, d2, d3, d4, d5] }
  | _ => none }
def miniSameRow : OpenClaim := { program := "ytdcokkgdahbinaa", sum := "50a10931bc22f7994ed4517fb1b19ae6bf4a789a10c7ec0bcc70ced75028e7f9", func := "hyphen/hyphenlaw11.MiniSame", spec := "miniSame", unfollowed := true, recurses := true, apart := false }
def MiniSameSaid : Prop := miniSameRow.holds Try.pinned (OpenSpec.ofChange miniSameSpec)

/-- ITS FALSE NEIGHBOUR: 'it returns false'. Refute it at one input. -/
def miniSameWrong : ChangeSpec := { name := "miniSame", fn := fun _ => fun
  | [d1, d2, d3, d4, d5] => { results := [.lit (.bool false)], args := [d1, d2, d3, d4, d5] }
  | _ => none }
def MiniSameWrongFalsely : Prop := miniSameRow.holds Try.pinned (OpenSpec.ofChange miniSameWrong)

/-- 'hyphenlaw11.MiniPicks': WHATEVER THE INPUT: true; the input reads as it did. -/
def miniPicksSpec : ChangeSpec := { name := "miniPicks", fn := fun _ => fun
  | [d1, d2, d3, d4] => { results := [.lit (.bool true)], args := [d1, d2, d3, d4] }
  | _ => none }
def miniPicksRow : OpenClaim := { program := "ytdcokkgdahbinaa", sum := "50a10931bc22f7994ed4517fb1b19ae6bf4a789a10c7ec0bcc70ced75028e7f9", func := "hyphen/hyphenlaw11.MiniPicks", spec := "miniPicks", unfollowed := true, recurses := true, apart := false }
def MiniPicksSaid : Prop := miniPicksRow.holds Try.pinned (OpenSpec.ofChange miniPicksSpec)

/-- ITS FALSE NEIGHBOUR: 'it returns false'. Refute it at one input. -/
def miniPicksWrong : ChangeSpec := { name := "miniPicks", fn := fun _ => fun
  | [d1, d2, d3, d4] => { results := [.lit (.bool false)], args := [d1, d2, d3, d4] }
  | _ => none }
def MiniPicksWrongFalsely : Prop := miniPicksRow.holds Try.pinned (OpenSpec.ofChange miniPicksWrong)

/-- 'hyphenlaw11.MiniAgain': WHATEVER THE INPUT: true; the input reads as it did. -/
def miniAgainSpec : ChangeSpec := { name := "miniAgain", fn := fun _ => fun
  | [d1, d2, d3] => { results := [.lit (.bool true)], args := [d1, d2, d3] }
  | _ => none }
def miniAgainRow : OpenClaim := { program := "ytdcokkgdahbinaa", sum := "50a10931bc22f7994ed4517fb1b19ae6bf4a789a10c7ec0bcc70ced75028e7f9", func := "hyphen/hyphenlaw11.MiniAgain", spec := "miniAgain", unfollowed := true, recurses := true, apart := false }
def MiniAgainSaid : Prop := miniAgainRow.holds Try.pinned (OpenSpec.ofChange miniAgainSpec)

/-- ITS FALSE NEIGHBOUR: 'it returns false'. Refute it at one input. -/
def miniAgainWrong : ChangeSpec := { name := "miniAgain", fn := fun _ => fun
  | [d1, d2, d3] => { results := [.lit (.bool false)], args := [d1, d2, d3] }
  | _ => none }
def MiniAgainWrongFalsely : Prop := miniAgainRow.holds Try.pinned (OpenSpec.ofChange miniAgainWrong)

/-- 'hyphenlaw11.MiniNames': WHATEVER THE INPUT: true; the input reads as it did. -/
def miniNamesSpec : ChangeSpec := { name := "miniNames", fn := fun _ => fun
  | [d1, d2, d3] => { results := [.lit (.bool true)], args := [d1, d2, d3] }
  | _ => none }
def miniNamesRow : OpenClaim := { program := "ytdcokkgdahbinaa", sum := "50a10931bc22f7994ed4517fb1b19ae6bf4a789a10c7ec0bcc70ced75028e7f9", func := "hyphen/hyphenlaw11.MiniNames", spec := "miniNames", unfollowed := true, recurses := true, apart := false }
def MiniNamesSaid : Prop := miniNamesRow.holds Try.pinned (OpenSpec.ofChange miniNamesSpec)

/-- ITS FALSE NEIGHBOUR: 'it returns false'. Refute it at one input. -/
def miniNamesWrong : ChangeSpec := { name := "miniNames", fn := fun _ => fun
  | [d1, d2, d3] => { results := [.lit (.bool false)], args := [d1, d2, d3] }
  | _ => none }
def MiniNamesWrongFalsely : Prop := miniNamesRow.holds Try.pinned (OpenSpec.ofChange miniNamesWrong)

/-- 'hyphenlaw11.MiniOne': WHATEVER THE INPUT: true; the input reads as it did. -/
def miniOneSpec : ChangeSpec := { name := "miniOne", fn := fun _ => fun
  | [d1, d2, d3, d4] => { results := [.lit (.bool true)], args := [d1, d2, d3, d4] }
  | _ => none }
def miniOneRow : OpenClaim := { program := "ytdcokkgdahbinaa", sum := "50a10931bc22f7994ed4517fb1b19ae6bf4a789a10c7ec0bcc70ced75028e7f9", func := "hyphen/hyphenlaw11.MiniOne", spec := "miniOne", unfollowed := true, recurses := true, apart := false }
def MiniOneSaid : Prop := miniOneRow.holds Try.pinned (OpenSpec.ofChange miniOneSpec)

/-- ITS FALSE NEIGHBOUR: 'it returns false'. Refute it at one input. -/
def miniOneWrong : ChangeSpec := { name := "miniOne", fn := fun _ => fun
  | [d1, d2, d3, d4] => { results := [.lit (.bool false)], args := [d1, d2, d3, d4] }
  | _ => none }
def MiniOneWrongFalsely : Prop := miniOneRow.holds Try.pinned (OpenSpec.ofChange miniOneWrong)

/-- 'hyphenlaw11.MiniCounts': WHATEVER THE INPUT: true; the input reads as it did. -/
def miniCountsSpec : ChangeSpec := { name := "miniCounts", fn := fun _ => fun
  | [d1, d2, d3] => { results := [.lit (.bool true)], args := [d1, d2, d3] }
  | _ => none }
def miniCountsRow : OpenClaim := { program := "ytdcokkgdahbinaa", sum := "50a10931bc22f7994ed4517fb1b19ae6bf4a789a10c7ec0bcc70ced75028e7f9", func := "hyphen/hyphenlaw11.MiniCounts", spec := "miniCounts", unfollowed := true, recurses := true, apart := false }
def MiniCountsSaid : Prop := miniCountsRow.holds Try.pinned (OpenSpec.ofChange miniCountsSpec)

/-- ITS FALSE NEIGHBOUR: 'it returns false'. Refute it at one input. -/
def miniCountsWrong : ChangeSpec := { name := "miniCounts", fn := fun _ => fun
  | [d1, d2, d3] => { results := [.lit (.bool false)], args := [d1, d2, d3] }
  | _ => none }
def MiniCountsWrongFalsely : Prop := miniCountsRow.holds Try.pinned (OpenSpec.ofChange miniCountsWrong)

/-- 'hyphenlaw11.MiniOwn': WHATEVER THE INPUT: true; the input reads as it did. -/
def miniOwnSpec : ChangeSpec := { name := "miniOwn", fn := fun _ => fun
  | [d1, d2, d3, d4] => { results := [.lit (.bool true)], args := [d1, d2, d3, d4] }
  | _ => none }
def miniOwnRow : OpenClaim := { program := "ytdcokkgdahbinaa", sum := "50a10931bc22f7994ed4517fb1b19ae6bf4a789a10c7ec0bcc70ced75028e7f9", func := "hyphen/hyphenlaw11.MiniOwn", spec := "miniOwn", unfollowed := true, recurses := true, apart := false }
def MiniOwnSaid : Prop := miniOwnRow.holds Try.pinned (OpenSpec.ofChange miniOwnSpec)

/-- ITS FALSE NEIGHBOUR: 'it returns false'. Refute it at one input. -/
def miniOwnWrong : ChangeSpec := { name := "miniOwn", fn := fun _ => fun
  | [d1, d2, d3, d4] => { results := [.lit (.bool false)], args := [d1, d2, d3, d4] }
  | _ => none }
def MiniOwnWrongFalsely : Prop := miniOwnRow.holds Try.pinned (OpenSpec.ofChange miniOwnWrong)

/- THE SECOND FORM. 'bulk': how many values and letters a reading holds, each counted each time it is reached (what is shared counts as often as it is met; a slice's spare places count too). A statement '..UptoSaid' is the law's where the arguments, and the package variables that the reading takes, are together of bulk at most 1048576: NARROWER than '..Said'. Prove '..Said' where nothing that the law and all that it calls make is longer than what came in: it says more and counts as full. Else prove '..UptoSaid'. A law counts once. -/
mutual
def uptoBulk {H : Type} : DataW H → Nat
  | .lit (.string bytes) => bytes.length + 1
  | .lit _ => 1
  | .nil => 1
  | .ptr d => uptoBulk d + 1
  | .slice elems spare => uptoBulkAll elems + uptoBulkAll spare + 1
  | .agg parts => uptoBulkAll parts + 1
  | .iface _ d => uptoBulk d + 1
  | .map entries => uptoBulkEntries entries + 1
  | .held _ => 1
def uptoBulkAll {H : Type} : List (DataW H) → Nat
  | [] => 0
  | d :: r => uptoBulk d + uptoBulkAll r
def uptoBulkEntries {H : Type} : List (Lit × DataW H) → Nat
  | [] => 0
  | x :: r => uptoBulkEntry x + uptoBulkEntries r
def uptoBulkEntry {H : Type} : Lit × DataW H → Nat
  | (.string bytes, d) => bytes.length + uptoBulk d + 1
  | (_, d) => uptoBulk d + 1
 end
def uptoSmall : (H : Type) → List (DataW H) → Bool := fun _ ds => decide (uptoBulkAll ds ≤ 1048576)
def OpenSpec.upto (s : _root_.Go.ChangeSpec) : _root_.Go.OpenSpec := { _root_.Go.OpenSpec.ofChange s with cond := some uptoSmall }

/-- 'hyphenlaw11.MiniAll', WHERE WHAT IT READS IS OF BULK AT MOST 1048576: true; the input reads as it did. -/
def miniAllUptoRow : OpenClaim := { program := "ytdcokkgdahbinaa", sum := "50a10931bc22f7994ed4517fb1b19ae6bf4a789a10c7ec0bcc70ced75028e7f9", func := "hyphen/hyphenlaw11.MiniAll", spec := "miniAll", unfollowed := true, recurses := true, apart := false, narrowed := true }
def MiniAllUptoSaid : Prop := miniAllUptoRow.holds Try.pinned (OpenSpec.upto miniAllSpec)

/-- 'hyphenlaw11.MiniSays', WHERE WHAT IT READS IS OF BULK AT MOST 1048576: true; the input reads as it did. -/
def miniSaysUptoRow : OpenClaim := { program := "ytdcokkgdahbinaa", sum := "50a10931bc22f7994ed4517fb1b19ae6bf4a789a10c7ec0bcc70ced75028e7f9", func := "hyphen/hyphenlaw11.MiniSays", spec := "miniSays", unfollowed := true, recurses := true, apart := false, narrowed := true }
def MiniSaysUptoSaid : Prop := miniSaysUptoRow.holds Try.pinned (OpenSpec.upto miniSaysSpec)

/-- 'hyphenlaw11.MiniFewest', WHERE WHAT IT READS IS OF BULK AT MOST 1048576: true; the input reads as it did. -/
def miniFewestUptoRow : OpenClaim := { program := "ytdcokkgdahbinaa", sum := "50a10931bc22f7994ed4517fb1b19ae6bf4a789a10c7ec0bcc70ced75028e7f9", func := "hyphen/hyphenlaw11.MiniFewest", spec := "miniFewest", unfollowed := true, recurses := true, apart := false, narrowed := true }
def MiniFewestUptoSaid : Prop := miniFewestUptoRow.holds Try.pinned (OpenSpec.upto miniFewestSpec)

/-- 'hyphenlaw11.MiniSame', WHERE WHAT IT READS IS OF BULK AT MOST 1048576: true; the input reads as it did. -/
def miniSameUptoRow : OpenClaim := { program := "ytdcokkgdahbinaa", sum := "50a10931bc22f7994ed4517fb1b19ae6bf4a789a10c7ec0bcc70ced75028e7f9", func := "hyphen/hyphenlaw11.MiniSame", spec := "miniSame", unfollowed := true, recurses := true, apart := false, narrowed := true }
def MiniSameUptoSaid : Prop := miniSameUptoRow.holds Try.pinned (OpenSpec.upto miniSameSpec)

/-- 'hyphenlaw11.MiniPicks', WHERE WHAT IT READS IS OF BULK AT MOST 1048576: true; the input reads as it did. -/
def miniPicksUptoRow : OpenClaim := { program := "ytdcokkgdahbinaa", sum := "50a10931bc22f7994ed4517fb1b19ae6bf4a789a10c7ec0bcc70ced75028e7f9", func := "hyphen/hyphenlaw11.MiniPicks", spec := "miniPicks", unfollowed := true, recurses := true, apart := false, narrowed := true }
def MiniPicksUptoSaid : Prop := miniPicksUptoRow.holds Try.pinned (OpenSpec.upto miniPicksSpec)

/-- 'hyphenlaw11.MiniAgain', WHERE WHAT IT READS IS OF BULK AT MOST 1048576: true; the input reads as it did. -/
def miniAgainUptoRow : OpenClaim := { program := "ytdcokkgdahbinaa", sum := "50a10931bc22f7994ed4517fb1b19ae6bf4a789a10c7ec0bcc70ced75028e7f9", func := "hyphen/hyphenlaw11.MiniAgain", spec := "miniAgain", unfollowed := true, recurses := true, apart := false, narrowed := true }
def MiniAgainUptoSaid : Prop := miniAgainUptoRow.holds Try.pinned (OpenSpec.upto miniAgainSpec)

/-- 'hyphenlaw11.MiniNames', WHERE WHAT IT READS IS OF BULK AT MOST 1048576: true; the input reads as it did. -/
def miniNamesUptoRow : OpenClaim := { program := "ytdcokkgdahbinaa", sum := "50a10931bc22f7994ed4517fb1b19ae6bf4a789a10c7ec0bcc70ced75028e7f9", func := "hyphen/hyphenlaw11.MiniNames", spec := "miniNames", unfollowed := true, recurses := true, apart := false, narrowed := true }
def MiniNamesUptoSaid : Prop := miniNamesUptoRow.holds Try.pinned (OpenSpec.upto miniNamesSpec)

/-- 'hyphenlaw11.MiniOne', WHERE WHAT IT READS IS OF BULK AT MOST 1048576: true; the input reads as it did. -/
def miniOneUptoRow : OpenClaim := { program := "ytdcokkgdahbinaa", sum := "50a10931bc22f7994ed4517fb1b19ae6bf4a789a10c7ec0bcc70ced75028e7f9", func := "hyphen/hyphenlaw11.MiniOne", spec := "miniOne", unfollowed := true, recurses := true, apart := false, narrowed := true }
def MiniOneUptoSaid : Prop := miniOneUptoRow.holds Try.pinned (OpenSpec.upto miniOneSpec)

/-- 'hyphenlaw11.MiniCounts', WHERE WHAT IT READS IS OF BULK AT MOST 1048576: true; the input reads as it did. -/
def miniCountsUptoRow : OpenClaim := { program := "ytdcokkgdahbinaa", sum := "50a10931bc22f7994ed4517fb1b19ae6bf4a789a10c7ec0bcc70ced75028e7f9", func := "hyphen/hyphenlaw11.MiniCounts", spec := "miniCounts", unfollowed := true, recurses := true, apart := false, narrowed := true }
def MiniCountsUptoSaid : Prop := miniCountsUptoRow.holds Try.pinned (OpenSpec.upto miniCountsSpec)

/-- 'hyphenlaw11.MiniOwn', WHERE WHAT IT READS IS OF BULK AT MOST 1048576: true; the input reads as it did. -/
def miniOwnUptoRow : OpenClaim := { program := "ytdcokkgdahbinaa", sum := "50a10931bc22f7994ed4517fb1b19ae6bf4a789a10c7ec0bcc70ced75028e7f9", func := "hyphen/hyphenlaw11.MiniOwn", spec := "miniOwn", unfollowed := true, recurses := true, apart := false, narrowed := true }
def MiniOwnUptoSaid : Prop := miniOwnUptoRow.holds Try.pinned (OpenSpec.upto miniOwnSpec)

end Rows
end Go.Proofs.Ytdcokkgdahbinaa
