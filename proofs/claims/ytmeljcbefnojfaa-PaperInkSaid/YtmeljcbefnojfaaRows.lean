/-
  No cell of these rows narrows 'for every input' (looked for: loops, veiled, ifaces, maps, wideKeys, modest, calm, conditions, laid).
  DERIVED. THE GIVEN ROWS OF THIS SEAT. 15 by the template 'for every input the law returns true; each argument reads behind the call as it read before'; 0 by the template 'total and deterministic' (their statements: YtmeljcbefnojfaaTotals.lean).
  GIVEN WITH THE SEED: the statements are not yours to turn. If you find one false, say at which input.
  Laid BY PROGRAM, IN A SANDBOX (cutbox-rows.mjs): the forced cells as the released guide's own fill.sh prints them over the translation 44b65d9ea319f3dc… (all of the seat's roots in one cut). By AI agents, Wed Nov 11 2026. No macro, syntax, notation, axiom, sorry.
-/
import Derived.Test.YtmeljcbefnojfaaChecked
import GoSem.Claim
import GoSem.ClaimJoined
import GoSem.ClaimMapViews
import Derived.JoinedTies
import Derived.KernelRfl
namespace Go.Proofs.Ytmeljcbefnojfaa
/- THE CELL 'sum', in the pinned program and in every row, IS THE sha256 OF THE DUMP (.gsa) THAT YtmeljcbefnojfaaProg.lean LOADS. Nothing in Lean hashes anything: it is a label: what it is worth is what the hold of that sum in a sandbox is worth. -/
noncomputable def Try.pinned : Pinned := { name := "ytmeljcbefnojfaa", sum := "44b65d9ea319f3dcbc25c4ce2e24e4b9e5d76807c8d62f921677cfa9ca54e59b", checked := Try.checked }
namespace Rows
def none {H : Type} : Left H := { results := [], args := [] }

/-- 'aneroidlaw01.PaperChecks': WHATEVER THE INPUT: true; the input reads as it did. -/
def paperChecksSpec : ChangeSpec := { name := "paperChecks", fn := fun _ => fun
  | [d1, d2, d3] => { results := [.lit (.bool true)], args := [d1, d2, d3] }
  | _ => none }
def paperChecksRow : OpenClaim := { program := "ytmeljcbefnojfaa", sum := "44b65d9ea319f3dcbc25c4ce2e24e4b9e5d76807c8d62f921677cfa9ca54e59b", func := "aneroid/aneroidlaw01.PaperChecks", spec := "paperChecks", inPlace := ["slices.overlaps[aneroid/api.Span]"], unfollowed := true, recurses := true, apart := false }
def PaperChecksSaid : Prop := paperChecksRow.holds Try.pinned (OpenSpec.ofChange paperChecksSpec)

/-- ITS FALSE NEIGHBOUR: 'it returns false'. Refute it at one input. -/
def paperChecksWrong : ChangeSpec := { name := "paperChecks", fn := fun _ => fun
  | [d1, d2, d3] => { results := [.lit (.bool false)], args := [d1, d2, d3] }
  | _ => none }
def PaperChecksWrongFalsely : Prop := paperChecksRow.holds Try.pinned (OpenSpec.ofChange paperChecksWrong)

/-- 'aneroidlaw01.PaperPlaces': WHATEVER THE INPUT: true; the input reads as it did. -/
def paperPlacesSpec : ChangeSpec := { name := "paperPlaces", fn := fun _ => fun
  | [d1, d2] => { results := [.lit (.bool true)], args := [d1, d2] }
  | _ => none }
def paperPlacesRow : OpenClaim := { program := "ytmeljcbefnojfaa", sum := "44b65d9ea319f3dcbc25c4ce2e24e4b9e5d76807c8d62f921677cfa9ca54e59b", func := "aneroid/aneroidlaw01.PaperPlaces", spec := "paperPlaces", inPlace := ["slices.overlaps[aneroid/api.Span]"], unfollowed := true, recurses := true, apart := false }
def PaperPlacesSaid : Prop := paperPlacesRow.holds Try.pinned (OpenSpec.ofChange paperPlacesSpec)

/-- ITS FALSE NEIGHBOUR: 'it returns false'. Refute it at one input. -/
def paperPlacesWrong : ChangeSpec := { name := "paperPlaces", fn := fun _ => fun
  | [d1, d2] => { results := [.lit (.bool false)], args := [d1, d2] }
  | _ => none }
def PaperPlacesWrongFalsely : Prop := paperPlacesRow.holds Try.pinned (OpenSpec.ofChange paperPlacesWrong)

/-- 'aneroidlaw01.PaperHeights': WHATEVER THE INPUT: true; the input reads as it did. -/
def paperHeightsSpec : ChangeSpec := { name := "paperHeights", fn := fun _ => fun
  | [d1, d2, d3] => { results := [.lit (.bool true)], args := [d1, d2, d3] }
  | _ => none }
def paperHeightsRow : OpenClaim := { program := "ytmeljcbefnojfaa", sum := "44b65d9ea319f3dcbc25c4ce2e24e4b9e5d76807c8d62f921677cfa9ca54e59b", func := "aneroid/aneroidlaw01.PaperHeights", spec := "paperHeights", inPlace := ["slices.overlaps[aneroid/api.Span]"], unfollowed := true, recurses := true, apart := false }
def PaperHeightsSaid : Prop := paperHeightsRow.holds Try.pinned (OpenSpec.ofChange paperHeightsSpec)

/-- ITS FALSE NEIGHBOUR: 'it returns false'. Refute it at one input. -/
def paperHeightsWrong : ChangeSpec := { name := "paperHeights", fn := fun _ => fun
  | [d1, d2, d3] => { results := [.lit (.bool false)], args := [d1, d2, d3] }
  | _ => none }
def PaperHeightsWrongFalsely : Prop := paperHeightsRow.holds Try.pinned (OpenSpec.ofChange paperHeightsWrong)

/-- 'aneroidlaw01.PaperMeans': WHATEVER THE INPUT: true; the input reads as it did. -/
def paperMeansSpec : ChangeSpec := { name := "paperMeans", fn := fun _ => fun
  | [d1, d2, d3, d4, d5] => { results := [.lit (.bool true)], args := [d1, d2, d3, d4, d5] }
  | _ => none }
def paperMeansRow : OpenClaim := { program := "ytmeljcbefnojfaa", sum := "44b65d9ea319f3dcbc25c4ce2e24e4b9e5d76807c8d62f921677cfa9ca54e59b", func := "aneroid/aneroidlaw01.PaperMeans", spec := "paperMeans", inPlace := ["slices.overlaps[aneroid/api.Span]"], unfollowed := true, recurses := true, apart := false }
def PaperMeansSaid : Prop := paperMeansRow.holds Try.pinned (OpenSpec.ofChange paperMeansSpec)

/-- ITS FALSE NEIGHBOUR: 'it returns false'. Refute it at one input. -/
def paperMeansWrong : ChangeSpec := { name := "paperMeans", fn := fun _ => fun
  | [d1, d2, d3, d4, d5] => { results := [.lit (.bool false)], args := [d1, d2, d3, d4, d5] }
  | _ => none }
def PaperMeansWrongFalsely : Prop := paperMeansRow.holds Try.pinned (OpenSpec.ofChange paperMeansWrong)

/-- 'aneroidlaw01.PaperInk': WHATEVER THE INPUT: true; the input reads as it did. -/
def paperInkSpec : ChangeSpec := { name := "paperInk", fn := fun _ => fun
  | [d1, d2, d3] => { results := [.lit (.bool true)], args := [d1, d2, d3] }
  | _ => none }
def paperInkRow : OpenClaim := { program := "ytmeljcbefnojfaa", sum := "44b65d9ea319f3dcbc25c4ce2e24e4b9e5d76807c8d62f921677cfa9ca54e59b", func := "aneroid/aneroidlaw01.PaperInk", spec := "paperInk", inPlace := ["slices.overlaps[aneroid/api.Span]"], unfollowed := true, recurses := true, apart := false }
def PaperInkSaid : Prop := paperInkRow.holds Try.pinned (OpenSpec.ofChange paperInkSpec)

/-- ITS FALSE NEIGHBOUR: 'it returns false'. Refute it at one input. -/
def paperInkWrong : ChangeSpec := { name := "paperInk", fn := fun _ => fun
  | [d1, d2, d3] => { results := [.lit (.bool false)], args := [d1, d2, d3] }
  | _ => none }
def PaperInkWrongFalsely : Prop := paperInkRow.holds Try.pinned (OpenSpec.ofChange paperInkWrong)

/-- 'aneroidlaw01.PaperCopies': WHATEVER THE INPUT: true; the input reads as it did. -/
def paperCopiesSpec : ChangeSpec := { name := "paperCopies", fn := fun _ => fun
  | [d1, d2] => { results := [.lit (.bool true)], args := [d1, d2] }
  | _ => none }
def paperCopiesRow : OpenClaim := { program := "ytmeljcbefnojfaa", sum := "44b65d9ea319f3dcbc25c4ce2e24e4b9e5d76807c8d62f921677cfa9ca54e59b", func := "aneroid/aneroidlaw01.PaperCopies", spec := "paperCopies", inPlace := ["slices.overlaps[aneroid/api.Span]"], unfollowed := true, recurses := true, apart := false }
def PaperCopiesSaid : Prop := paperCopiesRow.holds Try.pinned (OpenSpec.ofChange paperCopiesSpec)

/-- ITS FALSE NEIGHBOUR: 'it returns false'. Refute it at one input. -/
def paperCopiesWrong : ChangeSpec := { name := "paperCopies", fn := fun _ => fun
  | [d1, d2] => { results := [.lit (.bool false)], args := [d1, d2] }
  | _ => none }
def PaperCopiesWrongFalsely : Prop := paperCopiesRow.holds Try.pinned (OpenSpec.ofChange paperCopiesWrong)

/-- 'aneroidlaw01.PaperLevels': WHATEVER THE INPUT: true; the input reads as it did. -/
def paperLevelsSpec : ChangeSpec := { name := "paperLevels", fn := fun _ => fun
  | [d1, d2, d3] => { results := [.lit (.bool true)], args := [d1, d2, d3] }
  | _ => none }
def paperLevelsRow : OpenClaim := { program := "ytmeljcbefnojfaa", sum := "44b65d9ea319f3dcbc25c4ce2e24e4b9e5d76807c8d62f921677cfa9ca54e59b", func := "aneroid/aneroidlaw01.PaperLevels", spec := "paperLevels", inPlace := ["slices.overlaps[aneroid/api.Span]"], unfollowed := true, recurses := true, apart := false }
def PaperLevelsSaid : Prop := paperLevelsRow.holds Try.pinned (OpenSpec.ofChange paperLevelsSpec)

/-- ITS FALSE NEIGHBOUR: 'it returns false'. Refute it at one input. -/
def paperLevelsWrong : ChangeSpec := { name := "paperLevels", fn := fun _ => fun
  | [d1, d2, d3] => { results := [.lit (.bool false)], args := [d1, d2, d3] }
  | _ => none }
def PaperLevelsWrongFalsely : Prop := paperLevelsRow.holds Try.pinned (OpenSpec.ofChange paperLevelsWrong)

/-- 'aneroidlaw01.PaperArcs': WHATEVER THE INPUT: true; the input reads as it did. -/
def paperArcsSpec : ChangeSpec := { name := "paperArcs", fn := fun _ => fun
  | [d1, d2] => { results := [.lit (.bool true)], args := [d1, d2] }
  | _ => none }
def paperArcsRow : OpenClaim := { program := "ytmeljcbefnojfaa", sum := "44b65d9ea319f3dcbc25c4ce2e24e4b9e5d76807c8d62f921677cfa9ca54e59b", func := "aneroid/aneroidlaw01.PaperArcs", spec := "paperArcs", inPlace := ["slices.overlaps[aneroid/api.Span]"], unfollowed := true, recurses := true, apart := false }
def PaperArcsSaid : Prop := paperArcsRow.holds Try.pinned (OpenSpec.ofChange paperArcsSpec)

/-- ITS FALSE NEIGHBOUR: 'it returns false'. Refute it at one input. -/
def paperArcsWrong : ChangeSpec := { name := "paperArcs", fn := fun _ => fun
  | [d1, d2] => { results := [.lit (.bool false)], args := [d1, d2] }
  | _ => none }
def PaperArcsWrongFalsely : Prop := paperArcsRow.holds Try.pinned (OpenSpec.ofChange paperArcsWrong)

/-- 'aneroidlaw01.PaperExact': WHATEVER THE INPUT: true; the input reads as it did. -/
def paperExactSpec : ChangeSpec := { name := "paperExact", fn := fun _ => fun
  | [d1, d2, d3, d4, d5] => { results := [.lit (.bool true)], args := [d1, d2, d3, d4, d5] }
  | _ => none }
def paperExactRow : OpenClaim := { program := "ytmeljcbefnojfaa", sum := "44b65d9ea319f3dcbc25c4ce2e24e4b9e5d76807c8d62f921677cfa9ca54e59b", func := "aneroid/aneroidlaw01.PaperExact", spec := "paperExact", inPlace := ["slices.overlaps[aneroid/api.Span]"], unfollowed := true, recurses := true, apart := false }
def PaperExactSaid : Prop := paperExactRow.holds Try.pinned (OpenSpec.ofChange paperExactSpec)

/-- ITS FALSE NEIGHBOUR: 'it returns false'. Refute it at one input. -/
def paperExactWrong : ChangeSpec := { name := "paperExact", fn := fun _ => fun
  | [d1, d2, d3, d4, d5] => { results := [.lit (.bool false)], args := [d1, d2, d3, d4, d5] }
  | _ => none }
def PaperExactWrongFalsely : Prop := paperExactRow.holds Try.pinned (OpenSpec.ofChange paperExactWrong)

/-- 'aneroidlaw01.PaperBack': WHATEVER THE INPUT: true; the input reads as it did. -/
def paperBackSpec : ChangeSpec := { name := "paperBack", fn := fun _ => fun
  | [d1, d2, d3, d4] => { results := [.lit (.bool true)], args := [d1, d2, d3, d4] }
  | _ => none }
def paperBackRow : OpenClaim := { program := "ytmeljcbefnojfaa", sum := "44b65d9ea319f3dcbc25c4ce2e24e4b9e5d76807c8d62f921677cfa9ca54e59b", func := "aneroid/aneroidlaw01.PaperBack", spec := "paperBack", inPlace := ["slices.overlaps[aneroid/api.Span]"], unfollowed := true, recurses := true, apart := false }
def PaperBackSaid : Prop := paperBackRow.holds Try.pinned (OpenSpec.ofChange paperBackSpec)

/-- ITS FALSE NEIGHBOUR: 'it returns false'. Refute it at one input. -/
def paperBackWrong : ChangeSpec := { name := "paperBack", fn := fun _ => fun
  | [d1, d2, d3, d4] => { results := [.lit (.bool false)], args := [d1, d2, d3, d4] }
  | _ => none }
def PaperBackWrongFalsely : Prop := paperBackRow.holds Try.pinned (OpenSpec.ofChange paperBackWrong)

/-- 'aneroidlaw01.PaperNarrower': WHATEVER THE INPUT: true; the input reads as it did. -/
def paperNarrowerSpec : ChangeSpec := { name := "paperNarrower", fn := fun _ => fun
  | [d1, d2, d3, d4, d5, d6] => { results := [.lit (.bool true)], args := [d1, d2, d3, d4, d5, d6] }
  | _ => none }
def paperNarrowerRow : OpenClaim := { program := "ytmeljcbefnojfaa", sum := "44b65d9ea319f3dcbc25c4ce2e24e4b9e5d76807c8d62f921677cfa9ca54e59b", func := "aneroid/aneroidlaw01.PaperNarrower", spec := "paperNarrower", inPlace := ["slices.overlaps[aneroid/api.Span]"], unfollowed := true, recurses := true, apart := false }
def PaperNarrowerSaid : Prop := paperNarrowerRow.holds Try.pinned (OpenSpec.ofChange paperNarrowerSpec)

/-- ITS FALSE NEIGHBOUR: 'it returns false'. Refute it at one input. -/
def paperNarrowerWrong : ChangeSpec := { name := "paperNarrower", fn := fun _ => fun
  | [d1, d2, d3, d4, d5, d6] => { results := [.lit (.bool false)], args := [d1, d2, d3, d4, d5, d6] }
  | _ => none }
def PaperNarrowerWrongFalsely : Prop := paperNarrowerRow.holds Try.pinned (OpenSpec.ofChange paperNarrowerWrong)

/-- 'aneroidlaw01.PaperTraces': WHATEVER THE INPUT: true; the input reads as it did. -/
def paperTracesSpec : ChangeSpec := { name := "paperTraces", fn := fun _ => fun
  | [d1, d2, d3, d4] => { results := [.lit (.bool true)], args := [d1, d2, d3, d4] }
  | _ => none }
def paperTracesRow : OpenClaim := { program := "ytmeljcbefnojfaa", sum := "44b65d9ea319f3dcbc25c4ce2e24e4b9e5d76807c8d62f921677cfa9ca54e59b", func := "aneroid/aneroidlaw01.PaperTraces", spec := "paperTraces", inPlace := ["slices.overlaps[aneroid/api.Span]"], unfollowed := true, recurses := true, apart := false }
def PaperTracesSaid : Prop := paperTracesRow.holds Try.pinned (OpenSpec.ofChange paperTracesSpec)

/-- ITS FALSE NEIGHBOUR: 'it returns false'. Refute it at one input. -/
def paperTracesWrong : ChangeSpec := { name := "paperTraces", fn := fun _ => fun
  | [d1, d2, d3, d4] => { results := [.lit (.bool false)], args := [d1, d2, d3, d4] }
  | _ => none }
def PaperTracesWrongFalsely : Prop := paperTracesRow.holds Try.pinned (OpenSpec.ofChange paperTracesWrong)

/-- 'aneroidlaw01.PaperLattice': WHATEVER THE INPUT: true; the input reads as it did. -/
def paperLatticeSpec : ChangeSpec := { name := "paperLattice", fn := fun _ => fun
  | [d1, d2] => { results := [.lit (.bool true)], args := [d1, d2] }
  | _ => none }
def paperLatticeRow : OpenClaim := { program := "ytmeljcbefnojfaa", sum := "44b65d9ea319f3dcbc25c4ce2e24e4b9e5d76807c8d62f921677cfa9ca54e59b", func := "aneroid/aneroidlaw01.PaperLattice", spec := "paperLattice", inPlace := ["slices.overlaps[aneroid/api.Span]"], unfollowed := true, recurses := true, apart := false }
def PaperLatticeSaid : Prop := paperLatticeRow.holds Try.pinned (OpenSpec.ofChange paperLatticeSpec)

/-- ITS FALSE NEIGHBOUR: 'it returns false'. Refute it at one input. -/
def paperLatticeWrong : ChangeSpec := { name := "paperLattice", fn := fun _ => fun
  | [d1, d2] => { results := [.lit (.bool false)], args := [d1, d2] }
  | _ => none }
def PaperLatticeWrongFalsely : Prop := paperLatticeRow.holds Try.pinned (OpenSpec.ofChange paperLatticeWrong)

/-- 'aneroidlaw01.PaperThree': WHATEVER THE INPUT: true; the input reads as it did. -/
def paperThreeSpec : ChangeSpec := { name := "paperThree", fn := fun _ => fun
  | [d1, d2, d3] => { results := [.lit (.bool true)], args := [d1, d2, d3] }
  | _ => none }
def paperThreeRow : OpenClaim := { program := "ytmeljcbefnojfaa", sum := "44b65d9ea319f3dcbc25c4ce2e24e4b9e5d76807c8d62f921677cfa9ca54e59b", func := "aneroid/aneroidlaw01.PaperThree", spec := "paperThree", inPlace := ["slices.overlaps[aneroid/api.Span]"], unfollowed := true, recurses := true, apart := false }
def PaperThreeSaid : Prop := paperThreeRow.holds Try.pinned (OpenSpec.ofChange paperThreeSpec)

/-- ITS FALSE NEIGHBOUR: 'it returns false'. Refute it at one input. -/
def paperThreeWrong : ChangeSpec := { name := "paperThree", fn := fun _ => fun
  | [d1, d2, d3] => { results := [.lit (.bool false)], args := [d1, d2, d3] }
  | _ => none }
def PaperThreeWrongFalsely : Prop := paperThreeRow.holds Try.pinned (OpenSpec.ofChange paperThreeWrong)

/-- 'aneroidlaw01.PaperBlots': WHATEVER THE INPUT: true; the input reads as it did. -/
def paperBlotsSpec : ChangeSpec := { name := "paperBlots", fn := fun _ => fun
  | [d1, d2, d3, d4] => { results := [.lit (.bool true)], args := [d1, d2, d3, d4] }
  | _ => none }
def paperBlotsRow : OpenClaim := { program := "ytmeljcbefnojfaa", sum := "44b65d9ea319f3dcbc25c4ce2e24e4b9e5d76807c8d62f921677cfa9ca54e59b", func := "aneroid/aneroidlaw01.PaperBlots", spec := "paperBlots", inPlace := ["slices.overlaps[aneroid/api.Span]"], unfollowed := true, recurses := true, apart := false }
def PaperBlotsSaid : Prop := paperBlotsRow.holds Try.pinned (OpenSpec.ofChange paperBlotsSpec)

/-- ITS FALSE NEIGHBOUR: 'it returns false'. Refute it at one input. -/
def paperBlotsWrong : ChangeSpec := { name := "paperBlots", fn := fun _ => fun
  | [d1, d2, d3, d4] => { results := [.lit (.bool false)], args := [d1, d2, d3, d4] }
  | _ => none }
def PaperBlotsWrongFalsely : Prop := paperBlotsRow.holds Try.pinned (OpenSpec.ofChange paperBlotsWrong)

/- THE SECOND FORM. 'bulk': how many values and letters a reading holds, each counted each time it is reached (what is shared counts as often as it is met; a slice's spare places count too). A statement '..UptoSaid' is the law's where the arguments, and the package variables that the reading takes, are together of bulk at most 1048576: NARROWER than '..Said'. Prove '..Said' where nothing that the law and all that it calls make is longer than what came in: it says more and counts as full. Else prove '..UptoSaid'. A law counts once. -/
mutual
def uptoBulk {H : Type} : DataW H → Nat
  | .lit (.string bytes) => bytes.length + 1
  | .lit _ => 1
  | .nil => 1
  | .ptr d => uptoBulk d + 1
  | .slice elems spare => uptoBulkAll elems + uptoBulkAll spare + 1
  | .agg parts => uptoBulkAll parts + 1
  | .iface _ d => uptoBulk d + 1
  | .map entries => uptoBulkEntries entries + 1
  | .held _ => 1
def uptoBulkAll {H : Type} : List (DataW H) → Nat
  | [] => 0
  | d :: r => uptoBulk d + uptoBulkAll r
def uptoBulkEntries {H : Type} : List (Lit × DataW H) → Nat
  | [] => 0
  | x :: r => uptoBulkEntry x + uptoBulkEntries r
def uptoBulkEntry {H : Type} : Lit × DataW H → Nat
  | (.string bytes, d) => bytes.length + uptoBulk d + 1
  | (_, d) => uptoBulk d + 1
 end
def uptoSmall : (H : Type) → List (DataW H) → Bool := fun _ ds => decide (uptoBulkAll ds ≤ 1048576)
def OpenSpec.upto (s : _root_.Go.ChangeSpec) : _root_.Go.OpenSpec := { _root_.Go.OpenSpec.ofChange s with cond := some uptoSmall }

/-- 'aneroidlaw01.PaperChecks', WHERE WHAT IT READS IS OF BULK AT MOST 1048576: true; the input reads as it did. -/
def paperChecksUptoRow : OpenClaim := { program := "ytmeljcbefnojfaa", sum := "44b65d9ea319f3dcbc25c4ce2e24e4b9e5d76807c8d62f921677cfa9ca54e59b", func := "aneroid/aneroidlaw01.PaperChecks", spec := "paperChecks", inPlace := ["slices.overlaps[aneroid/api.Span]"], unfollowed := true, recurses := true, apart := false, narrowed := true }
def PaperChecksUptoSaid : Prop := paperChecksUptoRow.holds Try.pinned (OpenSpec.upto paperChecksSpec)

/-- 'aneroidlaw01.PaperPlaces', WHERE WHAT IT READS IS OF BULK AT MOST 1048576: true; the input reads as it did. -/
def paperPlacesUptoRow : OpenClaim := { program := "ytmeljcbefnojfaa", sum := "44b65d9ea319f3dcbc25c4ce2e24e4b9e5d76807c8d62f921677cfa9ca54e59b", func := "aneroid/aneroidlaw01.PaperPlaces", spec := "paperPlaces", inPlace := ["slices.overlaps[aneroid/api.Span]"], unfollowed := true, recurses := true, apart := false, narrowed := true }
def PaperPlacesUptoSaid : Prop := paperPlacesUptoRow.holds Try.pinned (OpenSpec.upto paperPlacesSpec)

/-- 'aneroidlaw01.PaperHeights', WHERE WHAT IT READS IS OF BULK AT MOST 1048576: true; the input reads as it did. -/
def paperHeightsUptoRow : OpenClaim := { program := "ytmeljcbefnojfaa", sum := "44b65d9ea319f3dcbc25c4ce2e24e4b9e5d76807c8d62f921677cfa9ca54e59b", func := "aneroid/aneroidlaw01.PaperHeights", spec := "paperHeights", inPlace := ["slices.overlaps[aneroid/api.Span]"], unfollowed := true, recurses := true, apart := false, narrowed := true }
def PaperHeightsUptoSaid : Prop := paperHeightsUptoRow.holds Try.pinned (OpenSpec.upto paperHeightsSpec)

/-- 'aneroidlaw01.PaperMeans', WHERE WHAT IT READS IS OF BULK AT MOST 1048576: true; the input reads as it did. -/
def paperMeansUptoRow : OpenClaim := { program := "ytmeljcbefnojfaa", sum := "44b65d9ea319f3dcbc25c4ce2e24e4b9e5d76807c8d62f921677cfa9ca54e59b", func := "aneroid/aneroidlaw01.PaperMeans", spec := "paperMeans", inPlace := ["slices.overlaps[aneroid/api.Span]"], unfollowed := true, recurses := true, apart := false, narrowed := true }
def PaperMeansUptoSaid : Prop := paperMeansUptoRow.holds Try.pinned (OpenSpec.upto paperMeansSpec)

/-- 'aneroidlaw01.PaperInk', WHERE WHAT IT READS IS OF BULK AT MOST 1048576: true; the input reads as it did. -/
def paperInkUptoRow : OpenClaim := { program := "ytmeljcbefnojfaa", sum := "44b65d9ea319f3dcbc25c4ce2e24e4b9e5d76807c8d62f921677cfa9ca54e59b", func := "aneroid/aneroidlaw01.PaperInk", spec := "paperInk", inPlace := ["slices.overlaps[aneroid/api.Span]"], unfollowed := true, recurses := true, apart := false, narrowed := true }
def PaperInkUptoSaid : Prop := paperInkUptoRow.holds Try.pinned (OpenSpec.upto paperInkSpec)

/-- 'aneroidlaw01.PaperCopies', WHERE WHAT IT READS IS OF BULK AT MOST 1048576: true; the input reads as it did. -/
def paperCopiesUptoRow : OpenClaim := { program := "ytmeljcbefnojfaa", sum := "44b65d9ea319f3dcbc25c4ce2e24e4b9e5d76807c8d62f921677cfa9ca54e59b", func := "aneroid/aneroidlaw01.PaperCopies", spec := "paperCopies", inPlace := ["slices.overlaps[aneroid/api.Span]"], unfollowed := true, recurses := true, apart := false, narrowed := true }
def PaperCopiesUptoSaid : Prop := paperCopiesUptoRow.holds Try.pinned (OpenSpec.upto paperCopiesSpec)

/-- 'aneroidlaw01.PaperLevels', WHERE WHAT IT READS IS OF BULK AT MOST 1048576: true; the input reads as it did. -/
def paperLevelsUptoRow : OpenClaim := { program := "ytmeljcbefnojfaa", sum := "44b65d9ea319f3dcbc25c4ce2e24e4b9e5d76807c8d62f921677cfa9ca54e59b", func := "aneroid/aneroidlaw01.PaperLevels", spec := "paperLevels", inPlace := ["slices.overlaps[aneroid/api.Span]"], unfollowed := true, recurses := true, apart := false, narrowed := true }
def PaperLevelsUptoSaid : Prop := paperLevelsUptoRow.holds Try.pinned (OpenSpec.upto paperLevelsSpec)

/-- 'aneroidlaw01.PaperArcs', WHERE WHAT IT READS IS OF BULK AT MOST 1048576: true; the input reads as it did. -/
def paperArcsUptoRow : OpenClaim := { program := "ytmeljcbefnojfaa", sum := "44b65d9ea319f3dcbc25c4ce2e24e4b9e5d76807c8d62f921677cfa9ca54e59b", func := "aneroid/aneroidlaw01.PaperArcs", spec := "paperArcs", inPlace := ["slices.overlaps[aneroid/api.Span]"], unfollowed := true, recurses := true, apart := false, narrowed := true }
def PaperArcsUptoSaid : Prop := paperArcsUptoRow.holds Try.pinned (OpenSpec.upto paperArcsSpec)

/-- 'aneroidlaw01.PaperExact', WHERE WHAT IT READS IS OF BULK AT MOST 1048576: true; the input reads as it did. -/
def paperExactUptoRow : OpenClaim := { program := "ytmeljcbefnojfaa", sum := "44b65d9ea319f3dcbc25c4ce2e24e4b9e5d76807c8d62f921677cfa9ca54e59b", func := "aneroid/aneroidlaw01.PaperExact", spec := "paperExact", inPlace := ["slices.overlaps[aneroid/api.Span]"], unfollowed := true, recurses := true, apart := false, narrowed := true }
def PaperExactUptoSaid : Prop := paperExactUptoRow.holds Try.pinned (OpenSpec.upto paperExactSpec)

/-- 'aneroidlaw01.PaperBack', WHERE WHAT IT READS IS OF BULK AT MOST 1048576: true; the input reads as it did. -/
def paperBackUptoRow : OpenClaim := { program := "ytmeljcbefnojfaa", sum := "44b65d9ea319f3dcbc25c4ce2e24e4b9e5d76807c8d62f921677cfa9ca54e59b", func := "aneroid/aneroidlaw01.PaperBack", spec := "paperBack", inPlace := ["slices.overlaps[aneroid/api.Span]"], unfollowed := true, recurses := true, apart := false, narrowed := true }
def PaperBackUptoSaid : Prop := paperBackUptoRow.holds Try.pinned (OpenSpec.upto paperBackSpec)

/-- 'aneroidlaw01.PaperNarrower', WHERE WHAT IT READS IS OF BULK AT MOST 1048576: true; the input reads as it did. -/
def paperNarrowerUptoRow : OpenClaim := { program := "ytmeljcbefnojfaa", sum := "44b65d9ea319f3dcbc25c4ce2e24e4b9e5d76807c8d62f921677cfa9ca54e59b", func := "aneroid/aneroidlaw01.PaperNarrower", spec := "paperNarrower", inPlace := ["slices.overlaps[aneroid/api.Span]"], unfollowed := true, recurses := true, apart := false, narrowed := true }
def PaperNarrowerUptoSaid : Prop := paperNarrowerUptoRow.holds Try.pinned (OpenSpec.upto paperNarrowerSpec)

/-- 'aneroidlaw01.PaperTraces', WHERE WHAT IT READS IS OF BULK AT MOST 1048576: true; the input reads as it did. -/
def paperTracesUptoRow : OpenClaim := { program := "ytmeljcbefnojfaa", sum := "44b65d9ea319f3dcbc25c4ce2e24e4b9e5d76807c8d62f921677cfa9ca54e59b", func := "aneroid/aneroidlaw01.PaperTraces", spec := "paperTraces", inPlace := ["slices.overlaps[aneroid/api.Span]"], unfollowed := true, recurses := true, apart := false, narrowed := true }
def PaperTracesUptoSaid : Prop := paperTracesUptoRow.holds Try.pinned (OpenSpec.upto paperTracesSpec)

/-- 'aneroidlaw01.PaperLattice', WHERE WHAT IT READS IS OF BULK AT MOST 1048576: true; the input reads as it did. -/
def paperLatticeUptoRow : OpenClaim := { program := "ytmeljcbefnojfaa", sum := "44b65d9ea319f3dcbc25c4ce2e24e4b9e5d76807c8d62f921677cfa9ca54e59b", func := "aneroid/aneroidlaw01.PaperLattice", spec := "paperLattice", inPlace := ["slices.overlaps[aneroid/api.Span]"], unfollowed := true, recurses := true, apart := false, narrowed := true }
def PaperLatticeUptoSaid : Prop := paperLatticeUptoRow.holds Try.pinned (OpenSpec.upto paperLatticeSpec)

/-- 'aneroidlaw01.PaperThree', WHERE WHAT IT READS IS OF BULK AT MOST 1048576: true; the input reads as it did. -/
def paperThreeUptoRow : OpenClaim := { program := "ytmeljcbefnojfaa", sum := "44b65d9ea319f3dcbc25c4ce2e24e4b9e5d76807c8d62f921677cfa9ca54e59b", func := "aneroid/aneroidlaw01.PaperThree", spec := "paperThree", inPlace := ["slices.overlaps[aneroid/api.Span]"], unfollowed := true, recurses := true, apart := false, narrowed := true }
def PaperThreeUptoSaid : Prop := paperThreeUptoRow.holds Try.pinned (OpenSpec.upto paperThreeSpec)

/-- 'aneroidlaw01.PaperBlots', WHERE WHAT IT READS IS OF BULK AT MOST 1048576: true; the input reads as it did. -/
def paperBlotsUptoRow : OpenClaim := { program := "ytmeljcbefnojfaa", sum := "44b65d9ea319f3dcbc25c4ce2e24e4b9e5d76807c8d62f921677cfa9ca54e59b", func := "aneroid/aneroidlaw01.PaperBlots", spec := "paperBlots", inPlace := ["slices.overlaps[aneroid/api.Span]"], unfollowed := true, recurses := true, apart := false, narrowed := true }
def PaperBlotsUptoSaid : Prop := paperBlotsUptoRow.holds Try.pinned (OpenSpec.upto paperBlotsSpec)

end Rows
end Go.Proofs.Ytmeljcbefnojfaa
