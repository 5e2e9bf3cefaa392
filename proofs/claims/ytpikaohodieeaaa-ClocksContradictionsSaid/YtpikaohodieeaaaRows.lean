/-
  No cell of these rows narrows 'for every input' (looked for: loops, veiled, ifaces, maps, wideKeys, modest, calm, conditions, laid).
  DERIVED. THE GIVEN ROWS OF THIS SEAT. 16 by the template 'for every input the law returns true; each argument reads behind the call as it read before'; 0 by the template 'total and deterministic' (their statements: YtpikaohodieeaaaTotals.lean).
  GIVEN WITH THE SEED: the statements are not yours to turn. If you find one false, say at which input.
  Laid BY PROGRAM, IN A SANDBOX (cutbox-rows.mjs): the forced cells as the released guide's own fill.sh prints them over the translation 2d07ff6a3d74145a… (all of the seat's roots in one cut). By AI agents, Wed Nov 11 2026. No macro, syntax, notation, axiom, sorry.
-/
import Derived.Test.YtpikaohodieeaaaChecked
import GoSem.Claim
import GoSem.ClaimJoined
import GoSem.ClaimMapViews
import Derived.JoinedTies
import Derived.KernelRfl
namespace Go.Proofs.Ytpikaohodieeaaa
/- THE CELL 'sum', in the pinned program and in every row, IS THE sha256 OF THE DUMP (.gsa) THAT YtpikaohodieeaaaProg.lean LOADS. Nothing in Lean hashes anything: it is a label: what it is worth is what the hold of that sum in a sandbox is worth. -/
noncomputable def Try.pinned : Pinned := { name := "ytpikaohodieeaaa", sum := "2d07ff6a3d74145aff740c09c6b72db6101459bab7256b99e9e918119c8419bd", checked := Try.checked }
namespace Rows
def none {H : Type} : Left H := { results := [], args := [] }

/-- 'aneroidlaw02.ClocksChecks': WHATEVER THE INPUT: true; the input reads as it did. -/
def clocksChecksSpec : ChangeSpec := { name := "clocksChecks", fn := fun _ => fun
  | [d1, d2] => { results := [.lit (.bool true)], args := [d1, d2] }
  | _ => none }
def clocksChecksRow : OpenClaim := { program := "ytpikaohodieeaaa", sum := "2d07ff6a3d74145aff740c09c6b72db6101459bab7256b99e9e918119c8419bd", func := "aneroid/aneroidlaw02.ClocksChecks", spec := "clocksChecks", unfollowed := true, recurses := true, apart := false }
def ClocksChecksSaid : Prop := clocksChecksRow.holds Try.pinned (OpenSpec.ofChange clocksChecksSpec)

/-- ITS FALSE NEIGHBOUR: 'it returns false'. Refute it at one input. -/
def clocksChecksWrong : ChangeSpec := { name := "clocksChecks", fn := fun _ => fun
  | [d1, d2] => { results := [.lit (.bool false)], args := [d1, d2] }
  | _ => none }
def ClocksChecksWrongFalsely : Prop := clocksChecksRow.holds Try.pinned (OpenSpec.ofChange clocksChecksWrong)

/-- 'aneroidlaw02.ClocksReadings': WHATEVER THE INPUT: true; the input reads as it did. -/
def clocksReadingsSpec : ChangeSpec := { name := "clocksReadings", fn := fun _ => fun
  | [d1, d2] => { results := [.lit (.bool true)], args := [d1, d2] }
  | _ => none }
def clocksReadingsRow : OpenClaim := { program := "ytpikaohodieeaaa", sum := "2d07ff6a3d74145aff740c09c6b72db6101459bab7256b99e9e918119c8419bd", func := "aneroid/aneroidlaw02.ClocksReadings", spec := "clocksReadings", unfollowed := true, recurses := true, apart := false }
def ClocksReadingsSaid : Prop := clocksReadingsRow.holds Try.pinned (OpenSpec.ofChange clocksReadingsSpec)

/-- ITS FALSE NEIGHBOUR: 'it returns false'. Refute it at one input. -/
def clocksReadingsWrong : ChangeSpec := { name := "clocksReadings", fn := fun _ => fun
  | [d1, d2] => { results := [.lit (.bool false)], args := [d1, d2] }
  | _ => none }
def ClocksReadingsWrongFalsely : Prop := clocksReadingsRow.holds Try.pinned (OpenSpec.ofChange clocksReadingsWrong)

/-- 'aneroidlaw02.ClocksDifferences': WHATEVER THE INPUT: true; the input reads as it did. -/
def clocksDifferencesSpec : ChangeSpec := { name := "clocksDifferences", fn := fun _ => fun
  | [d1, d2] => { results := [.lit (.bool true)], args := [d1, d2] }
  | _ => none }
def clocksDifferencesRow : OpenClaim := { program := "ytpikaohodieeaaa", sum := "2d07ff6a3d74145aff740c09c6b72db6101459bab7256b99e9e918119c8419bd", func := "aneroid/aneroidlaw02.ClocksDifferences", spec := "clocksDifferences", unfollowed := true, recurses := true, apart := false }
def ClocksDifferencesSaid : Prop := clocksDifferencesRow.holds Try.pinned (OpenSpec.ofChange clocksDifferencesSpec)

/-- ITS FALSE NEIGHBOUR: 'it returns false'. Refute it at one input. -/
def clocksDifferencesWrong : ChangeSpec := { name := "clocksDifferences", fn := fun _ => fun
  | [d1, d2] => { results := [.lit (.bool false)], args := [d1, d2] }
  | _ => none }
def ClocksDifferencesWrongFalsely : Prop := clocksDifferencesRow.holds Try.pinned (OpenSpec.ofChange clocksDifferencesWrong)

/-- 'aneroidlaw02.ClocksContradictions': WHATEVER THE INPUT: true; the input reads as it did. -/
def clocksContradictionsSpec : ChangeSpec := { name := "clocksContradictions", fn := fun _ => fun
  | [d1, d2] => { results := [.lit (.bool true)], args := [d1, d2] }
  | _ => none }
def clocksContradictionsRow : OpenClaim := { program := "ytpikaohodieeaaa", sum := "2d07ff6a3d74145aff740c09c6b72db6101459bab7256b99e9e918119c8419bd", func := "aneroid/aneroidlaw02.ClocksContradictions", spec := "clocksContradictions", unfollowed := true, recurses := true, apart := false }
def ClocksContradictionsSaid : Prop := clocksContradictionsRow.holds Try.pinned (OpenSpec.ofChange clocksContradictionsSpec)

/-- ITS FALSE NEIGHBOUR: 'it returns false'. Refute it at one input. -/
def clocksContradictionsWrong : ChangeSpec := { name := "clocksContradictions", fn := fun _ => fun
  | [d1, d2] => { results := [.lit (.bool false)], args := [d1, d2] }
  | _ => none }
def ClocksContradictionsWrongFalsely : Prop := clocksContradictionsRow.holds Try.pinned (OpenSpec.ofChange clocksContradictionsWrong)

/-- 'aneroidlaw02.ClocksLattice': WHATEVER THE INPUT: true; the input reads as it did. -/
def clocksLatticeSpec : ChangeSpec := { name := "clocksLattice", fn := fun _ => fun
  | [d1, d2] => { results := [.lit (.bool true)], args := [d1, d2] }
  | _ => none }
def clocksLatticeRow : OpenClaim := { program := "ytpikaohodieeaaa", sum := "2d07ff6a3d74145aff740c09c6b72db6101459bab7256b99e9e918119c8419bd", func := "aneroid/aneroidlaw02.ClocksLattice", spec := "clocksLattice", unfollowed := true, recurses := true, apart := false }
def ClocksLatticeSaid : Prop := clocksLatticeRow.holds Try.pinned (OpenSpec.ofChange clocksLatticeSpec)

/-- ITS FALSE NEIGHBOUR: 'it returns false'. Refute it at one input. -/
def clocksLatticeWrong : ChangeSpec := { name := "clocksLattice", fn := fun _ => fun
  | [d1, d2] => { results := [.lit (.bool false)], args := [d1, d2] }
  | _ => none }
def ClocksLatticeWrongFalsely : Prop := clocksLatticeRow.holds Try.pinned (OpenSpec.ofChange clocksLatticeWrong)

/-- 'aneroidlaw02.ClocksMedian': WHATEVER THE INPUT: true; the input reads as it did. -/
def clocksMedianSpec : ChangeSpec := { name := "clocksMedian", fn := fun _ => fun
  | [d1, d2] => { results := [.lit (.bool true)], args := [d1, d2] }
  | _ => none }
def clocksMedianRow : OpenClaim := { program := "ytpikaohodieeaaa", sum := "2d07ff6a3d74145aff740c09c6b72db6101459bab7256b99e9e918119c8419bd", func := "aneroid/aneroidlaw02.ClocksMedian", spec := "clocksMedian", unfollowed := true, recurses := true, apart := false }
def ClocksMedianSaid : Prop := clocksMedianRow.holds Try.pinned (OpenSpec.ofChange clocksMedianSpec)

/-- ITS FALSE NEIGHBOUR: 'it returns false'. Refute it at one input. -/
def clocksMedianWrong : ChangeSpec := { name := "clocksMedian", fn := fun _ => fun
  | [d1, d2] => { results := [.lit (.bool false)], args := [d1, d2] }
  | _ => none }
def ClocksMedianWrongFalsely : Prop := clocksMedianRow.holds Try.pinned (OpenSpec.ofChange clocksMedianWrong)

/-- 'aneroidlaw02.ClocksTwo': WHATEVER THE INPUT: true; the input reads as it did. -/
def clocksTwoSpec : ChangeSpec := { name := "clocksTwo", fn := fun _ => fun
  | [d] => { results := [.lit (.bool true)], args := [d] }
  | _ => none }
def clocksTwoRow : OpenClaim := { program := "ytpikaohodieeaaa", sum := "2d07ff6a3d74145aff740c09c6b72db6101459bab7256b99e9e918119c8419bd", func := "aneroid/aneroidlaw02.ClocksTwo", spec := "clocksTwo", unfollowed := true, recurses := true, apart := false }
def ClocksTwoSaid : Prop := clocksTwoRow.holds Try.pinned (OpenSpec.ofChange clocksTwoSpec)

/-- ITS FALSE NEIGHBOUR: 'it returns false'. Refute it at one input. -/
def clocksTwoWrong : ChangeSpec := { name := "clocksTwo", fn := fun _ => fun
  | [d] => { results := [.lit (.bool false)], args := [d] }
  | _ => none }
def ClocksTwoWrongFalsely : Prop := clocksTwoRow.holds Try.pinned (OpenSpec.ofChange clocksTwoWrong)

/-- 'aneroidlaw02.ClocksExact': WHATEVER THE INPUT: true; the input reads as it did. -/
def clocksExactSpec : ChangeSpec := { name := "clocksExact", fn := fun _ => fun
  | [d1, d2, d3, d4] => { results := [.lit (.bool true)], args := [d1, d2, d3, d4] }
  | _ => none }
def clocksExactRow : OpenClaim := { program := "ytpikaohodieeaaa", sum := "2d07ff6a3d74145aff740c09c6b72db6101459bab7256b99e9e918119c8419bd", func := "aneroid/aneroidlaw02.ClocksExact", spec := "clocksExact", unfollowed := true, recurses := true, apart := false }
def ClocksExactSaid : Prop := clocksExactRow.holds Try.pinned (OpenSpec.ofChange clocksExactSpec)

/-- ITS FALSE NEIGHBOUR: 'it returns false'. Refute it at one input. -/
def clocksExactWrong : ChangeSpec := { name := "clocksExact", fn := fun _ => fun
  | [d1, d2, d3, d4] => { results := [.lit (.bool false)], args := [d1, d2, d3, d4] }
  | _ => none }
def ClocksExactWrongFalsely : Prop := clocksExactRow.holds Try.pinned (OpenSpec.ofChange clocksExactWrong)

/-- 'aneroidlaw02.ClocksTicks': WHATEVER THE INPUT: true; the input reads as it did. -/
def clocksTicksSpec : ChangeSpec := { name := "clocksTicks", fn := fun _ => fun
  | [d1, d2] => { results := [.lit (.bool true)], args := [d1, d2] }
  | _ => none }
def clocksTicksRow : OpenClaim := { program := "ytpikaohodieeaaa", sum := "2d07ff6a3d74145aff740c09c6b72db6101459bab7256b99e9e918119c8419bd", func := "aneroid/aneroidlaw02.ClocksTicks", spec := "clocksTicks", unfollowed := true, recurses := true, apart := false }
def ClocksTicksSaid : Prop := clocksTicksRow.holds Try.pinned (OpenSpec.ofChange clocksTicksSpec)

/-- ITS FALSE NEIGHBOUR: 'it returns false'. Refute it at one input. -/
def clocksTicksWrong : ChangeSpec := { name := "clocksTicks", fn := fun _ => fun
  | [d1, d2] => { results := [.lit (.bool false)], args := [d1, d2] }
  | _ => none }
def ClocksTicksWrongFalsely : Prop := clocksTicksRow.holds Try.pinned (OpenSpec.ofChange clocksTicksWrong)

/-- 'aneroidlaw02.ClocksColumns': WHATEVER THE INPUT: true; the input reads as it did. -/
def clocksColumnsSpec : ChangeSpec := { name := "clocksColumns", fn := fun _ => fun
  | [d1, d2] => { results := [.lit (.bool true)], args := [d1, d2] }
  | _ => none }
def clocksColumnsRow : OpenClaim := { program := "ytpikaohodieeaaa", sum := "2d07ff6a3d74145aff740c09c6b72db6101459bab7256b99e9e918119c8419bd", func := "aneroid/aneroidlaw02.ClocksColumns", spec := "clocksColumns", unfollowed := true, recurses := true, apart := false }
def ClocksColumnsSaid : Prop := clocksColumnsRow.holds Try.pinned (OpenSpec.ofChange clocksColumnsSpec)

/-- ITS FALSE NEIGHBOUR: 'it returns false'. Refute it at one input. -/
def clocksColumnsWrong : ChangeSpec := { name := "clocksColumns", fn := fun _ => fun
  | [d1, d2] => { results := [.lit (.bool false)], args := [d1, d2] }
  | _ => none }
def ClocksColumnsWrongFalsely : Prop := clocksColumnsRow.holds Try.pinned (OpenSpec.ofChange clocksColumnsWrong)

/-- 'aneroidlaw02.ClocksMinimal': WHATEVER THE INPUT: true; the input reads as it did. -/
def clocksMinimalSpec : ChangeSpec := { name := "clocksMinimal", fn := fun _ => fun
  | [d1, d2] => { results := [.lit (.bool true)], args := [d1, d2] }
  | _ => none }
def clocksMinimalRow : OpenClaim := { program := "ytpikaohodieeaaa", sum := "2d07ff6a3d74145aff740c09c6b72db6101459bab7256b99e9e918119c8419bd", func := "aneroid/aneroidlaw02.ClocksMinimal", spec := "clocksMinimal", unfollowed := true, recurses := true, apart := false }
def ClocksMinimalSaid : Prop := clocksMinimalRow.holds Try.pinned (OpenSpec.ofChange clocksMinimalSpec)

/-- ITS FALSE NEIGHBOUR: 'it returns false'. Refute it at one input. -/
def clocksMinimalWrong : ChangeSpec := { name := "clocksMinimal", fn := fun _ => fun
  | [d1, d2] => { results := [.lit (.bool false)], args := [d1, d2] }
  | _ => none }
def ClocksMinimalWrongFalsely : Prop := clocksMinimalRow.holds Try.pinned (OpenSpec.ofChange clocksMinimalWrong)

/-- 'aneroidlaw02.ClocksDrops': WHATEVER THE INPUT: true; the input reads as it did. -/
def clocksDropsSpec : ChangeSpec := { name := "clocksDrops", fn := fun _ => fun
  | [d1, d2] => { results := [.lit (.bool true)], args := [d1, d2] }
  | _ => none }
def clocksDropsRow : OpenClaim := { program := "ytpikaohodieeaaa", sum := "2d07ff6a3d74145aff740c09c6b72db6101459bab7256b99e9e918119c8419bd", func := "aneroid/aneroidlaw02.ClocksDrops", spec := "clocksDrops", unfollowed := true, recurses := true, apart := false }
def ClocksDropsSaid : Prop := clocksDropsRow.holds Try.pinned (OpenSpec.ofChange clocksDropsSpec)

/-- ITS FALSE NEIGHBOUR: 'it returns false'. Refute it at one input. -/
def clocksDropsWrong : ChangeSpec := { name := "clocksDrops", fn := fun _ => fun
  | [d1, d2] => { results := [.lit (.bool false)], args := [d1, d2] }
  | _ => none }
def ClocksDropsWrongFalsely : Prop := clocksDropsRow.holds Try.pinned (OpenSpec.ofChange clocksDropsWrong)

/-- 'aneroidlaw02.ClocksRuns': WHATEVER THE INPUT: true; the input reads as it did. -/
def clocksRunsSpec : ChangeSpec := { name := "clocksRuns", fn := fun _ => fun
  | [d1, d2] => { results := [.lit (.bool true)], args := [d1, d2] }
  | _ => none }
def clocksRunsRow : OpenClaim := { program := "ytpikaohodieeaaa", sum := "2d07ff6a3d74145aff740c09c6b72db6101459bab7256b99e9e918119c8419bd", func := "aneroid/aneroidlaw02.ClocksRuns", spec := "clocksRuns", unfollowed := true, recurses := true, apart := false }
def ClocksRunsSaid : Prop := clocksRunsRow.holds Try.pinned (OpenSpec.ofChange clocksRunsSpec)

/-- ITS FALSE NEIGHBOUR: 'it returns false'. Refute it at one input. -/
def clocksRunsWrong : ChangeSpec := { name := "clocksRuns", fn := fun _ => fun
  | [d1, d2] => { results := [.lit (.bool false)], args := [d1, d2] }
  | _ => none }
def ClocksRunsWrongFalsely : Prop := clocksRunsRow.holds Try.pinned (OpenSpec.ofChange clocksRunsWrong)

/-- 'aneroidlaw02.ClocksRates': WHATEVER THE INPUT: true; the input reads as it did. -/
def clocksRatesSpec : ChangeSpec := { name := "clocksRates", fn := fun _ => fun
  | [d1, d2] => { results := [.lit (.bool true)], args := [d1, d2] }
  | _ => none }
def clocksRatesRow : OpenClaim := { program := "ytpikaohodieeaaa", sum := "2d07ff6a3d74145aff740c09c6b72db6101459bab7256b99e9e918119c8419bd", func := "aneroid/aneroidlaw02.ClocksRates", spec := "clocksRates", unfollowed := true, recurses := true, apart := false }
def ClocksRatesSaid : Prop := clocksRatesRow.holds Try.pinned (OpenSpec.ofChange clocksRatesSpec)

/-- ITS FALSE NEIGHBOUR: 'it returns false'. Refute it at one input. -/
def clocksRatesWrong : ChangeSpec := { name := "clocksRates", fn := fun _ => fun
  | [d1, d2] => { results := [.lit (.bool false)], args := [d1, d2] }
  | _ => none }
def ClocksRatesWrongFalsely : Prop := clocksRatesRow.holds Try.pinned (OpenSpec.ofChange clocksRatesWrong)

/-- 'aneroidlaw02.ClocksStops': WHATEVER THE INPUT: true; the input reads as it did. -/
def clocksStopsSpec : ChangeSpec := { name := "clocksStops", fn := fun _ => fun
  | [d1, d2, d3, d4] => { results := [.lit (.bool true)], args := [d1, d2, d3, d4] }
  | _ => none }
def clocksStopsRow : OpenClaim := { program := "ytpikaohodieeaaa", sum := "2d07ff6a3d74145aff740c09c6b72db6101459bab7256b99e9e918119c8419bd", func := "aneroid/aneroidlaw02.ClocksStops", spec := "clocksStops", unfollowed := true, recurses := true, apart := false }
def ClocksStopsSaid : Prop := clocksStopsRow.holds Try.pinned (OpenSpec.ofChange clocksStopsSpec)

/-- ITS FALSE NEIGHBOUR: 'it returns false'. Refute it at one input. -/
def clocksStopsWrong : ChangeSpec := { name := "clocksStops", fn := fun _ => fun
  | [d1, d2, d3, d4] => { results := [.lit (.bool false)], args := [d1, d2, d3, d4] }
  | _ => none }
def ClocksStopsWrongFalsely : Prop := clocksStopsRow.holds Try.pinned (OpenSpec.ofChange clocksStopsWrong)

/-- 'aneroidlaw02.ClocksTurned': WHATEVER THE INPUT: true; the input reads as it did. -/
def clocksTurnedSpec : ChangeSpec := { name := "clocksTurned", fn := fun _ => fun
  | [d1, d2] => { results := [.lit (.bool true)], args := [d1, d2] }
  | _ => none }
def clocksTurnedRow : OpenClaim := { program := "ytpikaohodieeaaa", sum := "2d07ff6a3d74145aff740c09c6b72db6101459bab7256b99e9e918119c8419bd", func := "aneroid/aneroidlaw02.ClocksTurned", spec := "clocksTurned", unfollowed := true, recurses := true, apart := false }
def ClocksTurnedSaid : Prop := clocksTurnedRow.holds Try.pinned (OpenSpec.ofChange clocksTurnedSpec)

/-- ITS FALSE NEIGHBOUR: 'it returns false'. Refute it at one input. -/
def clocksTurnedWrong : ChangeSpec := { name := "clocksTurned", fn := fun _ => fun
  | [d1, d2] => { results := [.lit (.bool false)], args := [d1, d2] }
  | _ => none }
def ClocksTurnedWrongFalsely : Prop := clocksTurnedRow.holds Try.pinned (OpenSpec.ofChange clocksTurnedWrong)

/- THE SECOND FORM. 'bulk': how many values and letters a reading holds, each counted each time it is reached (what is shared counts as often as it is met; a slice's spare places count too). A statement '..UptoSaid' is the law's where the arguments, and the package variables that the reading takes, are together of bulk at most 1048576: NARROWER than '..Said'. Prove '..Said' where nothing that the law and all that it calls make is longer than what came in: it says more and counts as full. Else prove '..UptoSaid'. A law counts once. -/
mutual
def uptoBulk {H : Type} : DataW H → Nat
  | .lit (.string bytes) => bytes.length + 1
  | .lit _ => 1
  | .nil => 1
  | .ptr d => uptoBulk d + 1
  | .slice elems spare => uptoBulkAll elems + uptoBulkAll spare + 1
  | .agg parts => uptoBulkAll parts + 1
  | .iface _ d => uptoBulk d + 1
  | .map entries => uptoBulkEntries entries + 1
  | .held _ => 1
def uptoBulkAll {H : Type} : List (DataW H) → Nat
  | [] => 0
  | d :: r => uptoBulk d + uptoBulkAll r
def uptoBulkEntries {H : Type} : List (Lit × DataW H) → Nat
  | [] => 0
  | x :: r => uptoBulkEntry x + uptoBulkEntries r
def uptoBulkEntry {H : Type} : Lit × DataW H → Nat
  | (.string bytes, d) => bytes.length + uptoBulk d + 1
  | (_, d) => uptoBulk d + 1
 end
def uptoSmall : (H : Type) → List (DataW H) → Bool := fun _ ds => decide (uptoBulkAll ds ≤ 1048576)
def OpenSpec.upto (s : _root_.Go.ChangeSpec) : _root_.Go.OpenSpec := { _root_.Go.OpenSpec.ofChange s with cond := some uptoSmall }

/-- 'aneroidlaw02.ClocksChecks', WHERE WHAT IT READS IS OF BULK AT MOST 1048576: true; the input reads as it did. -/
def clocksChecksUptoRow : OpenClaim := { program := "ytpikaohodieeaaa", sum := "2d07ff6a3d74145aff740c09c6b72db6101459bab7256b99e9e918119c8419bd", func := "aneroid/aneroidlaw02.ClocksChecks", spec := "clocksChecks", unfollowed := true, recurses := true, apart := false, narrowed := true }
def ClocksChecksUptoSaid : Prop := clocksChecksUptoRow.holds Try.pinned (OpenSpec.upto clocksChecksSpec)

/-- 'aneroidlaw02.ClocksReadings', WHERE WHAT IT READS IS OF BULK AT MOST 1048576: true; the input reads as it did. -/
def clocksReadingsUptoRow : OpenClaim := { program := "ytpikaohodieeaaa", sum := "2d07ff6a3d74145aff740c09c6b72db6101459bab7256b99e9e918119c8419bd", func := "aneroid/aneroidlaw02.ClocksReadings", spec := "clocksReadings", unfollowed := true, recurses := true, apart := false, narrowed := true }
def ClocksReadingsUptoSaid : Prop := clocksReadingsUptoRow.holds Try.pinned (OpenSpec.upto clocksReadingsSpec)

/-- 'aneroidlaw02.ClocksDifferences', WHERE WHAT IT READS IS OF BULK AT MOST 1048576: true; the input reads as it did. -/
def clocksDifferencesUptoRow : OpenClaim := { program := "ytpikaohodieeaaa", sum := "2d07ff6a3d74145aff740c09c6b72db6101459bab7256b99e9e918119c8419bd", func := "aneroid/aneroidlaw02.ClocksDifferences", spec := "clocksDifferences", unfollowed := true, recurses := true, apart := false, narrowed := true }
def ClocksDifferencesUptoSaid : Prop := clocksDifferencesUptoRow.holds Try.pinned (OpenSpec.upto clocksDifferencesSpec)

/-- 'aneroidlaw02.ClocksContradictions', WHERE WHAT IT READS IS OF BULK AT MOST 1048576: true; the input reads as it did. -/
def clocksContradictionsUptoRow : OpenClaim := { program := "ytpikaohodieeaaa", sum := "2d07ff6a3d74145aff740c09c6b72db6101459bab7256b99e9e918119c8419bd", func := "aneroid/aneroidlaw02.ClocksContradictions", spec := "clocksContradictions", unfollowed := true, recurses := true, apart := false, narrowed := true }
def ClocksContradictionsUptoSaid : Prop := clocksContradictionsUptoRow.holds Try.pinned (OpenSpec.upto clocksContradictionsSpec)

/-- 'aneroidlaw02.ClocksLattice', WHERE WHAT IT READS IS OF BULK AT MOST 1048576: true; the input reads as it did. -/
def clocksLatticeUptoRow : OpenClaim := { program := "ytpikaohodieeaaa", sum := "2d07ff6a3d74145aff740c09c6b72db6101459bab7256b99e9e918119c8419bd", func := "aneroid/aneroidlaw02.ClocksLattice", spec := "clocksLattice", unfollowed := true, recurses := true, apart := false, narrowed := true }
def ClocksLatticeUptoSaid : Prop := clocksLatticeUptoRow.holds Try.pinned (OpenSpec.upto clocksLatticeSpec)

/-- 'aneroidlaw02.ClocksMedian', WHERE WHAT IT READS IS OF BULK AT MOST 1048576: true; the input reads as it did. -/
def clocksMedianUptoRow : OpenClaim := { program := "ytpikaohodieeaaa", sum := "2d07ff6a3d74145aff740c09c6b72db6101459bab7256b99e9e918119c8419bd", func := "aneroid/aneroidlaw02.ClocksMedian", spec := "clocksMedian", unfollowed := true, recurses := true, apart := false, narrowed := true }
def ClocksMedianUptoSaid : Prop := clocksMedianUptoRow.holds Try.pinned (OpenSpec.upto clocksMedianSpec)

/-- 'aneroidlaw02.ClocksTwo', WHERE WHAT IT READS IS OF BULK AT MOST 1048576: true; the input reads as it did. -/
def clocksTwoUptoRow : OpenClaim := { program := "ytpikaohodieeaaa", sum := "2d07ff6a3d74145aff740c09c6b72db6101459bab7256b99e9e918119c8419bd", func := "aneroid/aneroidlaw02.ClocksTwo", spec := "clocksTwo", unfollowed := true, recurses := true, apart := false, narrowed := true }
def ClocksTwoUptoSaid : Prop := clocksTwoUptoRow.holds Try.pinned (OpenSpec.upto clocksTwoSpec)

/-- 'aneroidlaw02.ClocksExact', WHERE WHAT IT READS IS OF BULK AT MOST 1048576: true; the input reads as it did. -/
def clocksExactUptoRow : OpenClaim := { program := "ytpikaohodieeaaa", sum := "2d07ff6a3d74145aff740c09c6b72db6101459bab7256b99e9e918119c8419bd", func := "aneroid/aneroidlaw02.ClocksExact", spec := "clocksExact", unfollowed := true, recurses := true, apart := false, narrowed := true }
def ClocksExactUptoSaid : Prop := clocksExactUptoRow.holds Try.pinned (OpenSpec.upto clocksExactSpec)

/-- 'aneroidlaw02.ClocksTicks', WHERE WHAT IT READS IS OF BULK AT MOST 1048576: true; the input reads as it did. -/
def clocksTicksUptoRow : OpenClaim := { program := "ytpikaohodieeaaa", sum := "2d07ff6a3d74145aff740c09c6b72db6101459bab7256b99e9e918119c8419bd", func := "aneroid/aneroidlaw02.ClocksTicks", spec := "clocksTicks", unfollowed := true, recurses := true, apart := false, narrowed := true }
def ClocksTicksUptoSaid : Prop := clocksTicksUptoRow.holds Try.pinned (OpenSpec.upto clocksTicksSpec)

/-- 'aneroidlaw02.ClocksColumns', WHERE WHAT IT READS IS OF BULK AT MOST 1048576: true; the input reads as it did. -/
def clocksColumnsUptoRow : OpenClaim := { program := "ytpikaohodieeaaa", sum := "2d07ff6a3d74145aff740c09c6b72db6101459bab7256b99e9e918119c8419bd", func := "aneroid/aneroidlaw02.ClocksColumns", spec := "clocksColumns", unfollowed := true, recurses := true, apart := false, narrowed := true }
def ClocksColumnsUptoSaid : Prop := clocksColumnsUptoRow.holds Try.pinned (OpenSpec.upto clocksColumnsSpec)

/-- 'aneroidlaw02.ClocksMinimal', WHERE WHAT IT READS IS OF BULK AT MOST 1048576: true; the input reads as it did. -/
def clocksMinimalUptoRow : OpenClaim := { program := "ytpikaohodieeaaa", sum := "2d07ff6a3d74145aff740c09c6b72db6101459bab7256b99e9e918119c8419bd", func := "aneroid/aneroidlaw02.ClocksMinimal", spec := "clocksMinimal", unfollowed := true, recurses := true, apart := false, narrowed := true }
def ClocksMinimalUptoSaid : Prop := clocksMinimalUptoRow.holds Try.pinned (OpenSpec.upto clocksMinimalSpec)

/-- 'aneroidlaw02.ClocksDrops', WHERE WHAT IT READS IS OF BULK AT MOST 1048576: true; the input reads as it did. -/
def clocksDropsUptoRow : OpenClaim := { program := "ytpikaohodieeaaa", sum := "2d07ff6a3d74145aff740c09c6b72db6101459bab7256b99e9e918119c8419bd", func := "aneroid/aneroidlaw02.ClocksDrops", spec := "clocksDrops", unfollowed := true, recurses := true, apart := false, narrowed := true }
def ClocksDropsUptoSaid : Prop := clocksDropsUptoRow.holds Try.pinned (OpenSpec.upto clocksDropsSpec)

/-- 'aneroidlaw02.ClocksRuns', WHERE WHAT IT READS IS OF BULK AT MOST 1048576: true; the input reads as it did. -/
def clocksRunsUptoRow : OpenClaim := { program := "ytpikaohodieeaaa", sum := "2d07ff6a3d74145aff740c09c6b72db6101459bab7256b99e9e918119c8419bd", func := "aneroid/aneroidlaw02.ClocksRuns", spec := "clocksRuns", unfollowed := true, recurses := true, apart := false, narrowed := true }
def ClocksRunsUptoSaid : Prop := clocksRunsUptoRow.holds Try.pinned (OpenSpec.upto clocksRunsSpec)

/-- 'aneroidlaw02.ClocksRates', WHERE WHAT IT READS IS OF BULK AT MOST 1048576: true; the input reads as it did. -/
def clocksRatesUptoRow : OpenClaim := { program := "ytpikaohodieeaaa", sum := "2d07ff6a3d74145aff740c09c6b72db6101459bab7256b99e9e918119c8419bd", func := "aneroid/aneroidlaw02.ClocksRates", spec := "clocksRates", unfollowed := true, recurses := true, apart := false, narrowed := true }
def ClocksRatesUptoSaid : Prop := clocksRatesUptoRow.holds Try.pinned (OpenSpec.upto clocksRatesSpec)

/-- 'aneroidlaw02.ClocksStops', WHERE WHAT IT READS IS OF BULK AT MOST 1048576: true; the input reads as it did. -/
def clocksStopsUptoRow : OpenClaim := { program := "ytpikaohodieeaaa", sum := "2d07ff6a3d74145aff740c09c6b72db6101459bab7256b99e9e918119c8419bd", func := "aneroid/aneroidlaw02.ClocksStops", spec := "clocksStops", unfollowed := true, recurses := true, apart := false, narrowed := true }
def ClocksStopsUptoSaid : Prop := clocksStopsUptoRow.holds Try.pinned (OpenSpec.upto clocksStopsSpec)

/-- 'aneroidlaw02.ClocksTurned', WHERE WHAT IT READS IS OF BULK AT MOST 1048576: true; the input reads as it did. -/
def clocksTurnedUptoRow : OpenClaim := { program := "ytpikaohodieeaaa", sum := "2d07ff6a3d74145aff740c09c6b72db6101459bab7256b99e9e918119c8419bd", func := "aneroid/aneroidlaw02.ClocksTurned", spec := "clocksTurned", unfollowed := true, recurses := true, apart := false, narrowed := true }
def ClocksTurnedUptoSaid : Prop := clocksTurnedUptoRow.holds Try.pinned (OpenSpec.upto clocksTurnedSpec)

end Rows
end Go.Proofs.Ytpikaohodieeaaa
