/-
  No cell of these rows narrows 'for every input' (looked for: loops, veiled, ifaces, maps, wideKeys, modest, calm, conditions, laid).
  DERIVED. THE GIVEN ROWS OF THIS SEAT. 16 by the template 'for every input the law returns true; each argument reads behind the call as it read before'; 0 by the template 'total and deterministic' (their statements: YtkidhmajlpceeaaTotals.lean).
  GIVEN WITH THE SEED: the statements are not yours to turn. If you find one false, say at which input.
  Laid BY PROGRAM, IN A SANDBOX (cutbox-rows.mjs): the forced cells as the released guide's own fill.sh prints them over the translation c70b4f634fd2c5d8… (all of the seat's roots in one cut). By AI agents, Wed Nov 11 2026. No macro, syntax, notation, axiom, sorry.
-/
import Derived.Test.YtkidhmajlpceeaaChecked
import GoSem.Claim
import GoSem.ClaimJoined
import GoSem.ClaimMapViews
import Derived.JoinedTies
import Derived.KernelRfl
namespace Go.Proofs.Ytkidhmajlpceeaa
/- THE CELL 'sum', in the pinned program and in every row, IS THE sha256 OF THE DUMP (.gsa) THAT YtkidhmajlpceeaaProg.lean LOADS. Nothing in Lean hashes anything: it is a label: what it is worth is what the hold of that sum in a sandbox is worth. -/
noncomputable def Try.pinned : Pinned := { name := "ytkidhmajlpceeaa", sum := "c70b4f634fd2c5d8130dd005fdbae60bed75b087a3611ef7c9fd27b0381cca87", checked := Try.checked }
namespace Rows
def none {H : Type} : Left H := { results := [], args := [] }

/-- 'aneroidlaw03.PensFollows': WHATEVER THE INPUT: true; the input reads as it did. -/
def pensFollowsSpec : ChangeSpec := { name := "pensFollows", fn := fun _ => fun
  | [d1, d2, d3, d4, d5] => { results := [.lit (.bool true)], args := [d1, d2, d3, d4, d5] }
  | _ => none }
def pensFollowsRow : OpenClaim := { program := "ytkidhmajlpceeaa", sum := "c70b4f634fd2c5d8130dd005fdbae60bed75b087a3611ef7c9fd27b0381cca87", func := "aneroid/aneroidlaw03.PensFollows", spec := "pensFollows", unfollowed := true, recurses := true, apart := false }
def PensFollowsSaid : Prop := pensFollowsRow.holds Try.pinned (OpenSpec.ofChange pensFollowsSpec)

/-- ITS FALSE NEIGHBOUR: 'it returns false'. Refute it at one input. -/
def pensFollowsWrong : ChangeSpec := { name := "pensFollows", fn := fun _ => fun
  | [d1, d2, d3, d4, d5] => { results := [.lit (.bool false)], args := [d1, d2, d3, d4, d5] }
  | _ => none }
def PensFollowsWrongFalsely : Prop := pensFollowsRow.holds Try.pinned (OpenSpec.ofChange pensFollowsWrong)

/-- 'aneroidlaw03.PensMoves': WHATEVER THE INPUT: true; the input reads as it did. -/
def pensMovesSpec : ChangeSpec := { name := "pensMoves", fn := fun _ => fun
  | [d1, d2, d3] => { results := [.lit (.bool true)], args := [d1, d2, d3] }
  | _ => none }
def pensMovesRow : OpenClaim := { program := "ytkidhmajlpceeaa", sum := "c70b4f634fd2c5d8130dd005fdbae60bed75b087a3611ef7c9fd27b0381cca87", func := "aneroid/aneroidlaw03.PensMoves", spec := "pensMoves", unfollowed := true, recurses := true, apart := false }
def PensMovesSaid : Prop := pensMovesRow.holds Try.pinned (OpenSpec.ofChange pensMovesSpec)

/-- ITS FALSE NEIGHBOUR: 'it returns false'. Refute it at one input. -/
def pensMovesWrong : ChangeSpec := { name := "pensMoves", fn := fun _ => fun
  | [d1, d2, d3] => { results := [.lit (.bool false)], args := [d1, d2, d3] }
  | _ => none }
def PensMovesWrongFalsely : Prop := pensMovesRow.holds Try.pinned (OpenSpec.ofChange pensMovesWrong)

/-- 'aneroidlaw03.PensReals': WHATEVER THE INPUT: true; the input reads as it did. -/
def pensRealsSpec : ChangeSpec := { name := "pensReals", fn := fun _ => fun
  | [d1, d2] => { results := [.lit (.bool true)], args := [d1, d2] }
  | _ => none }
def pensRealsRow : OpenClaim := { program := "ytkidhmajlpceeaa", sum := "c70b4f634fd2c5d8130dd005fdbae60bed75b087a3611ef7c9fd27b0381cca87", func := "aneroid/aneroidlaw03.PensReals", spec := "pensReals", unfollowed := true, recurses := true, apart := false }
def PensRealsSaid : Prop := pensRealsRow.holds Try.pinned (OpenSpec.ofChange pensRealsSpec)

/-- ITS FALSE NEIGHBOUR: 'it returns false'. Refute it at one input. -/
def pensRealsWrong : ChangeSpec := { name := "pensReals", fn := fun _ => fun
  | [d1, d2] => { results := [.lit (.bool false)], args := [d1, d2] }
  | _ => none }
def PensRealsWrongFalsely : Prop := pensRealsRow.holds Try.pinned (OpenSpec.ofChange pensRealsWrong)

/-- 'aneroidlaw03.PensTurns': WHATEVER THE INPUT: true; the input reads as it did. -/
def pensTurnsSpec : ChangeSpec := { name := "pensTurns", fn := fun _ => fun
  | [d1, d2, d3, d4] => { results := [.lit (.bool true)], args := [d1, d2, d3, d4] }
  | _ => none }
def pensTurnsRow : OpenClaim := { program := "ytkidhmajlpceeaa", sum := "c70b4f634fd2c5d8130dd005fdbae60bed75b087a3611ef7c9fd27b0381cca87", func := "aneroid/aneroidlaw03.PensTurns", spec := "pensTurns", unfollowed := true, recurses := true, apart := false }
def PensTurnsSaid : Prop := pensTurnsRow.holds Try.pinned (OpenSpec.ofChange pensTurnsSpec)

/-- ITS FALSE NEIGHBOUR: 'it returns false'. Refute it at one input. -/
def pensTurnsWrong : ChangeSpec := { name := "pensTurns", fn := fun _ => fun
  | [d1, d2, d3, d4] => { results := [.lit (.bool false)], args := [d1, d2, d3, d4] }
  | _ => none }
def PensTurnsWrongFalsely : Prop := pensTurnsRow.holds Try.pinned (OpenSpec.ofChange pensTurnsWrong)

/-- 'aneroidlaw03.PensForgets': WHATEVER THE INPUT: true; the input reads as it did. -/
def pensForgetsSpec : ChangeSpec := { name := "pensForgets", fn := fun _ => fun
  | [d1, d2, d3] => { results := [.lit (.bool true)], args := [d1, d2, d3] }
  | _ => none }
def pensForgetsRow : OpenClaim := { program := "ytkidhmajlpceeaa", sum := "c70b4f634fd2c5d8130dd005fdbae60bed75b087a3611ef7c9fd27b0381cca87", func := "aneroid/aneroidlaw03.PensForgets", spec := "pensForgets", unfollowed := true, recurses := true, apart := false }
def PensForgetsSaid : Prop := pensForgetsRow.holds Try.pinned (OpenSpec.ofChange pensForgetsSpec)

/-- ITS FALSE NEIGHBOUR: 'it returns false'. Refute it at one input. -/
def pensForgetsWrong : ChangeSpec := { name := "pensForgets", fn := fun _ => fun
  | [d1, d2, d3] => { results := [.lit (.bool false)], args := [d1, d2, d3] }
  | _ => none }
def PensForgetsWrongFalsely : Prop := pensForgetsRow.holds Try.pinned (OpenSpec.ofChange pensForgetsWrong)

/-- 'aneroidlaw03.PensOne': WHATEVER THE INPUT: true; the input reads as it did. -/
def pensOneSpec : ChangeSpec := { name := "pensOne", fn := fun _ => fun
  | [d1, d2, d3, d4] => { results := [.lit (.bool true)], args := [d1, d2, d3, d4] }
  | _ => none }
def pensOneRow : OpenClaim := { program := "ytkidhmajlpceeaa", sum := "c70b4f634fd2c5d8130dd005fdbae60bed75b087a3611ef7c9fd27b0381cca87", func := "aneroid/aneroidlaw03.PensOne", spec := "pensOne", unfollowed := true, recurses := true, apart := false }
def PensOneSaid : Prop := pensOneRow.holds Try.pinned (OpenSpec.ofChange pensOneSpec)

/-- ITS FALSE NEIGHBOUR: 'it returns false'. Refute it at one input. -/
def pensOneWrong : ChangeSpec := { name := "pensOne", fn := fun _ => fun
  | [d1, d2, d3, d4] => { results := [.lit (.bool false)], args := [d1, d2, d3, d4] }
  | _ => none }
def PensOneWrongFalsely : Prop := pensOneRow.holds Try.pinned (OpenSpec.ofChange pensOneWrong)

/-- 'aneroidlaw03.PensEdges': WHATEVER THE INPUT: true; the input reads as it did. -/
def pensEdgesSpec : ChangeSpec := { name := "pensEdges", fn := fun _ => fun
  | [d1, d2, d3] => { results := [.lit (.bool true)], args := [d1, d2, d3] }
  | _ => none }
def pensEdgesRow : OpenClaim := { program := "ytkidhmajlpceeaa", sum := "c70b4f634fd2c5d8130dd005fdbae60bed75b087a3611ef7c9fd27b0381cca87", func := "aneroid/aneroidlaw03.PensEdges", spec := "pensEdges", unfollowed := true, recurses := true, apart := false }
def PensEdgesSaid : Prop := pensEdgesRow.holds Try.pinned (OpenSpec.ofChange pensEdgesSpec)

/-- ITS FALSE NEIGHBOUR: 'it returns false'. Refute it at one input. -/
def pensEdgesWrong : ChangeSpec := { name := "pensEdges", fn := fun _ => fun
  | [d1, d2, d3] => { results := [.lit (.bool false)], args := [d1, d2, d3] }
  | _ => none }
def PensEdgesWrongFalsely : Prop := pensEdgesRow.holds Try.pinned (OpenSpec.ofChange pensEdgesWrong)

/-- 'aneroidlaw03.PensLazy': WHATEVER THE INPUT: true; the input reads as it did. -/
def pensLazySpec : ChangeSpec := { name := "pensLazy", fn := fun _ => fun
  | [d1, d2, d3, d4] => { results := [.lit (.bool true)], args := [d1, d2, d3, d4] }
  | _ => none }
def pensLazyRow : OpenClaim := { program := "ytkidhmajlpceeaa", sum := "c70b4f634fd2c5d8130dd005fdbae60bed75b087a3611ef7c9fd27b0381cca87", func := "aneroid/aneroidlaw03.PensLazy", spec := "pensLazy", unfollowed := true, recurses := true, apart := false }
def PensLazySaid : Prop := pensLazyRow.holds Try.pinned (OpenSpec.ofChange pensLazySpec)

/-- ITS FALSE NEIGHBOUR: 'it returns false'. Refute it at one input. -/
def pensLazyWrong : ChangeSpec := { name := "pensLazy", fn := fun _ => fun
  | [d1, d2, d3, d4] => { results := [.lit (.bool false)], args := [d1, d2, d3, d4] }
  | _ => none }
def PensLazyWrongFalsely : Prop := pensLazyRow.holds Try.pinned (OpenSpec.ofChange pensLazyWrong)

/-- 'aneroidlaw03.PensLattice': WHATEVER THE INPUT: true; the input reads as it did. -/
def pensLatticeSpec : ChangeSpec := { name := "pensLattice", fn := fun _ => fun
  | [d1, d2, d3, d4, d5] => { results := [.lit (.bool true)], args := [d1, d2, d3, d4, d5] }
  | _ => none }
def pensLatticeRow : OpenClaim := { program := "ytkidhmajlpceeaa", sum := "c70b4f634fd2c5d8130dd005fdbae60bed75b087a3611ef7c9fd27b0381cca87", func := "aneroid/aneroidlaw03.PensLattice", spec := "pensLattice", unfollowed := true, recurses := true, apart := false }
def PensLatticeSaid : Prop := pensLatticeRow.holds Try.pinned (OpenSpec.ofChange pensLatticeSpec)

/-- ITS FALSE NEIGHBOUR: 'it returns false'. Refute it at one input. -/
def pensLatticeWrong : ChangeSpec := { name := "pensLattice", fn := fun _ => fun
  | [d1, d2, d3, d4, d5] => { results := [.lit (.bool false)], args := [d1, d2, d3, d4, d5] }
  | _ => none }
def PensLatticeWrongFalsely : Prop := pensLatticeRow.holds Try.pinned (OpenSpec.ofChange pensLatticeWrong)

/-- 'aneroidlaw03.PensApart': WHATEVER THE INPUT: true; the input reads as it did. -/
def pensApartSpec : ChangeSpec := { name := "pensApart", fn := fun _ => fun
  | [d1, d2, d3] => { results := [.lit (.bool true)], args := [d1, d2, d3] }
  | _ => none }
def pensApartRow : OpenClaim := { program := "ytkidhmajlpceeaa", sum := "c70b4f634fd2c5d8130dd005fdbae60bed75b087a3611ef7c9fd27b0381cca87", func := "aneroid/aneroidlaw03.PensApart", spec := "pensApart", unfollowed := true, recurses := true, apart := false }
def PensApartSaid : Prop := pensApartRow.holds Try.pinned (OpenSpec.ofChange pensApartSpec)

/-- ITS FALSE NEIGHBOUR: 'it returns false'. Refute it at one input. -/
def pensApartWrong : ChangeSpec := { name := "pensApart", fn := fun _ => fun
  | [d1, d2, d3] => { results := [.lit (.bool false)], args := [d1, d2, d3] }
  | _ => none }
def PensApartWrongFalsely : Prop := pensApartRow.holds Try.pinned (OpenSpec.ofChange pensApartWrong)

/-- 'aneroidlaw03.PensEven': WHATEVER THE INPUT: true; the input reads as it did. -/
def pensEvenSpec : ChangeSpec := { name := "pensEven", fn := fun _ => fun
  | [d1, d2, d3, d4, d5] => { results := [.lit (.bool true)], args := [d1, d2, d3, d4, d5] }
  | _ => none }
def pensEvenRow : OpenClaim := { program := "ytkidhmajlpceeaa", sum := "c70b4f634fd2c5d8130dd005fdbae60bed75b087a3611ef7c9fd27b0381cca87", func := "aneroid/aneroidlaw03.PensEven", spec := "pensEven", unfollowed := true, recurses := true, apart := false }
def PensEvenSaid : Prop := pensEvenRow.holds Try.pinned (OpenSpec.ofChange pensEvenSpec)

/-- ITS FALSE NEIGHBOUR: 'it returns false'. Refute it at one input. -/
def pensEvenWrong : ChangeSpec := { name := "pensEven", fn := fun _ => fun
  | [d1, d2, d3, d4, d5] => { results := [.lit (.bool false)], args := [d1, d2, d3, d4, d5] }
  | _ => none }
def PensEvenWrongFalsely : Prop := pensEvenRow.holds Try.pinned (OpenSpec.ofChange pensEvenWrong)

/-- 'aneroidlaw03.PensMemory': WHATEVER THE INPUT: true; the input reads as it did. -/
def pensMemorySpec : ChangeSpec := { name := "pensMemory", fn := fun _ => fun
  | [d1, d2, d3, d4] => { results := [.lit (.bool true)], args := [d1, d2, d3, d4] }
  | _ => none }
def pensMemoryRow : OpenClaim := { program := "ytkidhmajlpceeaa", sum := "c70b4f634fd2c5d8130dd005fdbae60bed75b087a3611ef7c9fd27b0381cca87", func := "aneroid/aneroidlaw03.PensMemory", spec := "pensMemory", unfollowed := true, recurses := true, apart := false }
def PensMemorySaid : Prop := pensMemoryRow.holds Try.pinned (OpenSpec.ofChange pensMemorySpec)

/-- ITS FALSE NEIGHBOUR: 'it returns false'. Refute it at one input. -/
def pensMemoryWrong : ChangeSpec := { name := "pensMemory", fn := fun _ => fun
  | [d1, d2, d3, d4] => { results := [.lit (.bool false)], args := [d1, d2, d3, d4] }
  | _ => none }
def PensMemoryWrongFalsely : Prop := pensMemoryRow.holds Try.pinned (OpenSpec.ofChange pensMemoryWrong)

/-- 'aneroidlaw03.PensAdd': WHATEVER THE INPUT: true; the input reads as it did. -/
def pensAddSpec : ChangeSpec := { name := "pensAdd", fn := fun _ => fun
  | [d1, d2, d3, d4, d5, d6] => { results := [.lit (.bool true)], args := [d1, d2, d3, d4, d5, d6] }
  | _ => none }
def pensAddRow : OpenClaim := { program := "ytkidhmajlpceeaa", sum := "c70b4f634fd2c5d8130dd005fdbae60bed75b087a3611ef7c9fd27b0381cca87", func := "aneroid/aneroidlaw03.PensAdd", spec := "pensAdd", unfollowed := true, recurses := true, apart := false }
def PensAddSaid : Prop := pensAddRow.holds Try.pinned (OpenSpec.ofChange pensAddSpec)

/-- ITS FALSE NEIGHBOUR: 'it returns false'. Refute it at one input. -/
def pensAddWrong : ChangeSpec := { name := "pensAdd", fn := fun _ => fun
  | [d1, d2, d3, d4, d5, d6] => { results := [.lit (.bool false)], args := [d1, d2, d3, d4, d5, d6] }
  | _ => none }
def PensAddWrongFalsely : Prop := pensAddRow.holds Try.pinned (OpenSpec.ofChange pensAddWrong)

/-- 'aneroidlaw03.PensRuns': WHATEVER THE INPUT: true; the input reads as it did. -/
def pensRunsSpec : ChangeSpec := { name := "pensRuns", fn := fun _ => fun
  | [d1, d2, d3] => { results := [.lit (.bool true)], args := [d1, d2, d3] }
  | _ => none }
def pensRunsRow : OpenClaim := { program := "ytkidhmajlpceeaa", sum := "c70b4f634fd2c5d8130dd005fdbae60bed75b087a3611ef7c9fd27b0381cca87", func := "aneroid/aneroidlaw03.PensRuns", spec := "pensRuns", unfollowed := true, recurses := true, apart := false }
def PensRunsSaid : Prop := pensRunsRow.holds Try.pinned (OpenSpec.ofChange pensRunsSpec)

/-- ITS FALSE NEIGHBOUR: 'it returns false'. Refute it at one input. -/
def pensRunsWrong : ChangeSpec := { name := "pensRuns", fn := fun _ => fun
  | [d1, d2, d3] => { results := [.lit (.bool false)], args := [d1, d2, d3] }
  | _ => none }
def PensRunsWrongFalsely : Prop := pensRunsRow.holds Try.pinned (OpenSpec.ofChange pensRunsWrong)

/-- 'aneroidlaw03.PensUpside': WHATEVER THE INPUT: true; the input reads as it did. -/
def pensUpsideSpec : ChangeSpec := { name := "pensUpside", fn := fun _ => fun
  | [d1, d2, d3] => { results := [.lit (.bool true)], args := [d1, d2, d3] }
  | _ => none }
def pensUpsideRow : OpenClaim := { program := "ytkidhmajlpceeaa", sum := "c70b4f634fd2c5d8130dd005fdbae60bed75b087a3611ef7c9fd27b0381cca87", func := "aneroid/aneroidlaw03.PensUpside", spec := "pensUpside", unfollowed := true, recurses := true, apart := false }
def PensUpsideSaid : Prop := pensUpsideRow.holds Try.pinned (OpenSpec.ofChange pensUpsideSpec)

/-- ITS FALSE NEIGHBOUR: 'it returns false'. Refute it at one input. -/
def pensUpsideWrong : ChangeSpec := { name := "pensUpside", fn := fun _ => fun
  | [d1, d2, d3] => { results := [.lit (.bool false)], args := [d1, d2, d3] }
  | _ => none }
def PensUpsideWrongFalsely : Prop := pensUpsideRow.holds Try.pinned (OpenSpec.ofChange pensUpsideWrong)

/-- 'aneroidlaw03.PensDrift': WHATEVER THE INPUT: true; the input reads as it did. -/
def pensDriftSpec : ChangeSpec := { name := "pensDrift", fn := fun _ => fun
  | [d1, d2] => { results := [.lit (.bool true)], args := [d1, d2] }
  | _ => none }
def pensDriftRow : OpenClaim := { program := "ytkidhmajlpceeaa", sum := "c70b4f634fd2c5d8130dd005fdbae60bed75b087a3611ef7c9fd27b0381cca87", func := "aneroid/aneroidlaw03.PensDrift", spec := "pensDrift", unfollowed := true, recurses := true, apart := false }
def PensDriftSaid : Prop := pensDriftRow.holds Try.pinned (OpenSpec.ofChange pensDriftSpec)

/-- ITS FALSE NEIGHBOUR: 'it returns false'. Refute it at one input. -/
def pensDriftWrong : ChangeSpec := { name := "pensDrift", fn := fun _ => fun
  | [d1, d2] => { results := [.lit (.bool false)], args := [d1, d2] }
  | _ => none }
def PensDriftWrongFalsely : Prop := pensDriftRow.holds Try.pinned (OpenSpec.ofChange pensDriftWrong)

/- THE SECOND FORM. 'bulk': how many values and letters a reading holds, each counted each time it is reached (what is shared counts as often as it is met; a slice's spare places count too). A statement '..UptoSaid' is the law's where the arguments, and the package variables that the reading takes, are together of bulk at most 1048576: NARROWER than '..Said'. Prove '..Said' where nothing that the law and all that it calls make is longer than what came in: it says more and counts as full. Else prove '..UptoSaid'. A law counts once. -/
mutual
def uptoBulk {H : Type} : DataW H → Nat
  | .lit (.string bytes) => bytes.length + 1
  | .lit _ => 1
  | .nil => 1
  | .ptr d => uptoBulk d + 1
  | .slice elems spare => uptoBulkAll elems + uptoBulkAll spare + 1
  | .agg parts => uptoBulkAll parts + 1
  | .iface _ d => uptoBulk d + 1
  | .map entries => uptoBulkEntries entries + 1
  | .held _ => 1
def uptoBulkAll {H : Type} : List (DataW H) → Nat
  | [] => 0
  | d :: r => uptoBulk d + uptoBulkAll r
def uptoBulkEntries {H : Type} : List (Lit × DataW H) → Nat
  | [] => 0
  | x :: r => uptoBulkEntry x + uptoBulkEntries r
def uptoBulkEntry {H : Type} : Lit × DataW H → Nat
  | (.string bytes, d) => bytes.length + uptoBulk d + 1
  | (_, d) => uptoBulk d + 1
 end
def uptoSmall : (H : Type) → List (DataW H) → Bool := fun _ ds => decide (uptoBulkAll ds ≤ 1048576)
def OpenSpec.upto (s : _root_.Go.ChangeSpec) : _root_.Go.OpenSpec := { _root_.Go.OpenSpec.ofChange s with cond := some uptoSmall }

/-- 'aneroidlaw03.PensFollows', WHERE WHAT IT READS IS OF BULK AT MOST 1048576: true; the input reads as it did. -/
def pensFollowsUptoRow : OpenClaim := { program := "ytkidhmajlpceeaa", sum := "c70b4f634fd2c5d8130dd005fdbae60bed75b087a3611ef7c9fd27b0381cca87", func := "aneroid/aneroidlaw03.PensFollows", spec := "pensFollows", unfollowed := true, recurses := true, apart := false, narrowed := true }
def PensFollowsUptoSaid : Prop := pensFollowsUptoRow.holds Try.pinned (OpenSpec.upto pensFollowsSpec)

/-- 'aneroidlaw03.PensMoves', WHERE WHAT IT READS IS OF BULK AT MOST 1048576: true; the input reads as it did. -/
def pensMovesUptoRow : OpenClaim := { program := "ytkidhmajlpceeaa", sum := "c70b4f634fd2c5d8130dd005fdbae60bed75b087a3611ef7c9fd27b0381cca87", func := "aneroid/aneroidlaw03.PensMoves", spec := "pensMoves", unfollowed := true, recurses := true, apart := false, narrowed := true }
def PensMovesUptoSaid : Prop := pensMovesUptoRow.holds Try.pinned (OpenSpec.upto pensMovesSpec)

/-- 'aneroidlaw03.PensReals', WHERE WHAT IT READS IS OF BULK AT MOST 1048576: true; the input reads as it did. -/
def pensRealsUptoRow : OpenClaim := { program := "ytkidhmajlpceeaa", sum := "c70b4f634fd2c5d8130dd005fdbae60bed75b087a3611ef7c9fd27b0381cca87", func := "aneroid/aneroidlaw03.PensReals", spec := "pensReals", unfollowed := true, recurses := true, apart := false, narrowed := true }
def PensRealsUptoSaid : Prop := pensRealsUptoRow.holds Try.pinned (OpenSpec.upto pensRealsSpec)

/-- 'aneroidlaw03.PensTurns', WHERE WHAT IT READS IS OF BULK AT MOST 1048576: true; the input reads as it did. -/
def pensTurnsUptoRow : OpenClaim := { program := "ytkidhmajlpceeaa", sum := "c70b4f634fd2c5d8130dd005fdbae60bed75b087a3611ef7c9fd27b0381cca87", func := "aneroid/aneroidlaw03.PensTurns", spec := "pensTurns", unfollowed := true, recurses := true, apart := false, narrowed := true }
def PensTurnsUptoSaid : Prop := pensTurnsUptoRow.holds Try.pinned (OpenSpec.upto pensTurnsSpec)

/-- 'aneroidlaw03.PensForgets', WHERE WHAT IT READS IS OF BULK AT MOST 1048576: true; the input reads as it did. -/
def pensForgetsUptoRow : OpenClaim := { program := "ytkidhmajlpceeaa", sum := "c70b4f634fd2c5d8130dd005fdbae60bed75b087a3611ef7c9fd27b0381cca87", func := "aneroid/aneroidlaw03.PensForgets", spec := "pensForgets", unfollowed := true, recurses := true, apart := false, narrowed := true }
def PensForgetsUptoSaid : Prop := pensForgetsUptoRow.holds Try.pinned (OpenSpec.upto pensForgetsSpec)

/-- 'aneroidlaw03.PensOne', WHERE WHAT IT READS IS OF BULK AT MOST 1048576: true; the input reads as it did. -/
def pensOneUptoRow : OpenClaim := { program := "ytkidhmajlpceeaa", sum := "c70b4f634fd2c5d8130dd005fdbae60bed75b087a3611ef7c9fd27b0381cca87", func := "aneroid/aneroidlaw03.PensOne", spec := "pensOne", unfollowed := true, recurses := true, apart := false, narrowed := true }
def PensOneUptoSaid : Prop := pensOneUptoRow.holds Try.pinned (OpenSpec.upto pensOneSpec)

/-- 'aneroidlaw03.PensEdges', WHERE WHAT IT READS IS OF BULK AT MOST 1048576: true; the input reads as it did. -/
def pensEdgesUptoRow : OpenClaim := { program := "ytkidhmajlpceeaa", sum := "c70b4f634fd2c5d8130dd005fdbae60bed75b087a3611ef7c9fd27b0381cca87", func := "aneroid/aneroidlaw03.PensEdges", spec := "pensEdges", unfollowed := true, recurses := true, apart := false, narrowed := true }
def PensEdgesUptoSaid : Prop := pensEdgesUptoRow.holds Try.pinned (OpenSpec.upto pensEdgesSpec)

/-- 'aneroidlaw03.PensLazy', WHERE WHAT IT READS IS OF BULK AT MOST 1048576: true; the input reads as it did. -/
def pensLazyUptoRow : OpenClaim := { program := "ytkidhmajlpceeaa", sum := "c70b4f634fd2c5d8130dd005fdbae60bed75b087a3611ef7c9fd27b0381cca87", func := "aneroid/aneroidlaw03.PensLazy", spec := "pensLazy", unfollowed := true, recurses := true, apart := false, narrowed := true }
def PensLazyUptoSaid : Prop := pensLazyUptoRow.holds Try.pinned (OpenSpec.upto pensLazySpec)

/-- 'aneroidlaw03.PensLattice', WHERE WHAT IT READS IS OF BULK AT MOST 1048576: true; the input reads as it did. -/
def pensLatticeUptoRow : OpenClaim := { program := "ytkidhmajlpceeaa", sum := "c70b4f634fd2c5d8130dd005fdbae60bed75b087a3611ef7c9fd27b0381cca87", func := "aneroid/aneroidlaw03.PensLattice", spec := "pensLattice", unfollowed := true, recurses := true, apart := false, narrowed := true }
def PensLatticeUptoSaid : Prop := pensLatticeUptoRow.holds Try.pinned (OpenSpec.upto pensLatticeSpec)

/-- 'aneroidlaw03.PensApart', WHERE WHAT IT READS IS OF BULK AT MOST 1048576: true; the input reads as it did. -/
def pensApartUptoRow : OpenClaim := { program := "ytkidhmajlpceeaa", sum := "c70b4f634fd2c5d8130dd005fdbae60bed75b087a3611ef7c9fd27b0381cca87", func := "aneroid/aneroidlaw03.PensApart", spec := "pensApart", unfollowed := true, recurses := true, apart := false, narrowed := true }
def PensApartUptoSaid : Prop := pensApartUptoRow.holds Try.pinned (OpenSpec.upto pensApartSpec)

/-- 'aneroidlaw03.PensEven', WHERE WHAT IT READS IS OF BULK AT MOST 1048576: true; the input reads as it did. -/
def pensEvenUptoRow : OpenClaim := { program := "ytkidhmajlpceeaa", sum := "c70b4f634fd2c5d8130dd005fdbae60bed75b087a3611ef7c9fd27b0381cca87", func := "aneroid/aneroidlaw03.PensEven", spec := "pensEven", unfollowed := true, recurses := true, apart := false, narrowed := true }
def PensEvenUptoSaid : Prop := pensEvenUptoRow.holds Try.pinned (OpenSpec.upto pensEvenSpec)

/-- 'aneroidlaw03.PensMemory', WHERE WHAT IT READS IS OF BULK AT MOST 1048576: true; the input reads as it did. -/
def pensMemoryUptoRow : OpenClaim := { program := "ytkidhmajlpceeaa", sum := "c70b4f634fd2c5d8130dd005fdbae60bed75b087a3611ef7c9fd27b0381cca87", func := "aneroid/aneroidlaw03.PensMemory", spec := "pensMemory", unfollowed := true, recurses := true, apart := false, narrowed := true }
def PensMemoryUptoSaid : Prop := pensMemoryUptoRow.holds Try.pinned (OpenSpec.upto pensMemorySpec)

/-- 'aneroidlaw03.PensAdd', WHERE WHAT IT READS IS OF BULK AT MOST 1048576: true; the input reads as it did. -/
def pensAddUptoRow : OpenClaim := { program := "ytkidhmajlpceeaa", sum := "c70b4f634fd2c5d8130dd005fdbae60bed75b087a3611ef7c9fd27b0381cca87", func := "aneroid/aneroidlaw03.PensAdd", spec := "pensAdd", unfollowed := true, recurses := true, apart := false, narrowed := true }
def PensAddUptoSaid : Prop := pensAddUptoRow.holds Try.pinned (OpenSpec.upto pensAddSpec)

/-- 'aneroidlaw03.PensRuns', WHERE WHAT IT READS IS OF BULK AT MOST 1048576: true; the input reads as it did. -/
def pensRunsUptoRow : OpenClaim := { program := "ytkidhmajlpceeaa", sum := "c70b4f634fd2c5d8130dd005fdbae60bed75b087a3611ef7c9fd27b0381cca87", func := "aneroid/aneroidlaw03.PensRuns", spec := "pensRuns", unfollowed := true, recurses := true, apart := false, narrowed := true }
def PensRunsUptoSaid : Prop := pensRunsUptoRow.holds Try.pinned (OpenSpec.upto pensRunsSpec)

/-- 'aneroidlaw03.PensUpside', WHERE WHAT IT READS IS OF BULK AT MOST 1048576: true; the input reads as it did. -/
def pensUpsideUptoRow : OpenClaim := { program := "ytkidhmajlpceeaa", sum := "c70b4f634fd2c5d8130dd005fdbae60bed75b087a3611ef7c9fd27b0381cca87", func := "aneroid/aneroidlaw03.PensUpside", spec := "pensUpside", unfollowed := true, recurses := true, apart := false, narrowed := true }
def PensUpsideUptoSaid : Prop := pensUpsideUptoRow.holds Try.pinned (OpenSpec.upto pensUpsideSpec)

/-- 'aneroidlaw03.PensDrift', WHERE WHAT IT READS IS OF BULK AT MOST 1048576: true; the input reads as it did. -/
def pensDriftUptoRow : OpenClaim := { program := "ytkidhmajlpceeaa", sum := "c70b4f634fd2c5d8130dd005fdbae60bed75b087a3611ef7c9fd27b0381cca87", func := "aneroid/aneroidlaw03.PensDrift", spec := "pensDrift", unfollowed := true, recurses := true, apart := false, narrowed := true }
def PensDriftUptoSaid : Prop := pensDriftUptoRow.holds Try.pinned (OpenSpec.upto pensDriftSpec)

end Rows
end Go.Proofs.Ytkidhmajlpceeaa
