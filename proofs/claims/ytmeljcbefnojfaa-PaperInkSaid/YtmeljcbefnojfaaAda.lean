import Derived.Test.YtmeljcbefnojfaaIns
import Derived.Test.YtmeljcbefnojfaaStr
namespace Go.Proofs.Ytmeljcbefnojfaa
open Go.RowKit
/-- what add leaves behind -/
def AddPost (bm base : Nat) (row : Option Nat) (w : World) (n : Nat) (xs : List Value) (w' : World) : Prop :=
  ∃ g cap, w'.cell? ⟨bm, 0, none⟩ = some (.slice (some ⟨g, 0, none⟩) n cap) ∧ w'.frozen? ⟨bm, 0, none⟩ = false ∧ w'.ownsRow base 23 2 (.slice (some ⟨g, 0, none⟩) n cap) n xs ∧ (row = some g ∨ w.heap.size ≤ g) ∧
    w'.os = w.os ∧ w'.tape = w.tape ∧ w'.output = w.output ∧ w.heap.size ≤ w'.heap.size ∧ ∀ k, k < w.heap.size → k ≠ bm → some k ≠ row → w'.heap[k]? = w.heap[k]?
theorem addPost_of {bm base n g cap : Nat} {row : Option Nat} {xs : List Value} {w W0 w1 : World} {u : Value} (hA : Below w.heap.size w W0) (hg : W0.grownBy w1 row) (hown : w1.ownsRow base 23 2 (.slice (some ⟨g, 0, none⟩) n cap) n xs)
    (hat : row = some g ∨ g = W0.heap.size) (hm1 : w1.cell? ⟨bm, 0, none⟩ = some u) (hf1 : w1.frozen? ⟨bm, 0, none⟩ = false) (hb : bm < base) :
    AddPost bm base row w n xs (w1.setCell ⟨bm, 0, none⟩ (.slice (some ⟨g, 0, none⟩) n cap)) := by
  refine ⟨g, cap, World.cell?_setCell_same' _ _ _ (by rw [hm1]; rfl), by rw [World.frozen?_setCell]; exact hf1, ownsRow_setCell_below hown (a := ⟨bm, 0, none⟩) hb _, ?_, ?_, ?_, ?_, ?_, ?_⟩
  · rcases hat with h | h
    · exact .inl h
    · exact .inr (by rw [h]; exact hA.size)
  · exact hg.os.trans hA.os
  · exact hg.tape.trans hA.tape
  · exact hg.output.trans hA.output
  · rw [World.size_setCell]; exact Nat.le_trans hA.size hg.size
  · intro k hk h1 h2
    rw [Below.heap_setCell _ ⟨bm, 0, none⟩ _ k h1, hg.block k (Nat.lt_of_lt_of_le hk hA.size) h2]
    exact hA.block k hk
theorem ownsRow_keep {w W : World} {base e size n g cap : Nat} {xs : List Value} (h : w.ownsRow base e size (.slice (some ⟨g, 0, none⟩) n cap) n xs) (hb : Below w.heap.size w W) : W.ownsRow base e size (.slice (some ⟨g, 0, none⟩) n cap) n xs :=
  h.kept (row := none) ⟨hb.os, hb.tape, hb.output, hb.size, fun k hk _ => hb.block k hk⟩ (.inr (by intro h; cases h))
theorem cell_row {W w1 : World} {row : Option Nat} {b o : Nat} {v : Value} (hg : W.grownBy w1 row) (hl : b < W.heap.size) (hr : some b ≠ row) (h : W.cell? ⟨b, o, none⟩ = some v) : w1.cell? ⟨b, o, none⟩ = some v := (World.cell?_of_block (a := ⟨b, o, none⟩) (hg.block b hl hr)).trans h
theorem frozen_row {W w1 : World} {row : Option Nat} {b o : Nat} {v : Bool} (hg : W.grownBy w1 row) (hl : b < W.heap.size) (hr : some b ≠ row) (h : W.frozen? ⟨b, o, none⟩ = v) : w1.frozen? ⟨b, o, none⟩ = v := (World.frozen?_of_block (a := ⟨b, o, none⟩) (hg.block b hl hr)).trans h
set_option maxHeartbeats 1000000 in
theorem add1_any (t2 t3 bm g cap : Nat) (a y : Int) (W : World) (c0 : W.cell? ⟨t2, 0, none⟩ = some (.pointer (some ⟨bm, 0, none⟩))) (c1 : W.cell? ⟨bm, 0, none⟩ = some (.slice (some ⟨g, 0, none⟩) 1 cap)) (c2 : W.cell? ⟨g, 1, none⟩ = some (.int .i64 y))
    (c3 : W.cell? ⟨t3, 0, none⟩ = some (.int .i64 a)) (h0 : -1000000000 ≤ a) (h1 : a ≤ 1000000000) :
    Calls Try.prog 131 #[.int .i64 0, .pointer (some ⟨t2, 0, none⟩), .pointer (some ⟨t3, 0, none⟩)] W fun e w' => e = .returned (.bool (decide (a - 1 ≤ y))) ∧ ∃ q, w' = W.drewN q := by
  have g1 : IntKind.i64.wrap (a - 1) = a - 1 := IntWalk.i64_in _ (by omega)
  go_enter Try.func131, Try.ntmps131
  go_wp2_with fail
  go_quiet (fail)
  go_wp2_with fail
  go_ret
  exact ⟨rfl, nq, rfl⟩
theorem eg_a1 : ∀ args w, (callFunc 131 args).run Try.prog w = .ok (.enter 131 args) w := enters_of Try.func131 (by kernel_rfl) rfl
set_option maxHeartbeats 1000000 in
theorem add2_any (t2 t3 bm g cap : Nat) (b x : Int) (W : World) (c0 : W.cell? ⟨t2, 0, none⟩ = some (.pointer (some ⟨bm, 0, none⟩))) (c1 : W.cell? ⟨bm, 0, none⟩ = some (.slice (some ⟨g, 0, none⟩) 1 cap)) (c2 : W.cell? ⟨g, 0, none⟩ = some (.int .i64 x))
    (c3 : W.cell? ⟨t3, 1, none⟩ = some (.int .i64 b)) (h0 : -1000000000 ≤ b) (h1 : b ≤ 1000000000) :
    Calls Try.prog 132 #[.int .i64 0, .pointer (some ⟨t2, 0, none⟩), .pointer (some ⟨t3, 0, none⟩)] W fun e w' => e = .returned (.bool (decide (b + 1 < x))) ∧ ∃ q, w' = W.drewN q := by
  have g1 : IntKind.i64.wrap (b + 1) = b + 1 := IntWalk.i64_in _ (by omega)
  go_enter Try.func132, Try.ntmps132
  go_wp2_with fail
  go_quiet (fail)
  go_wp2_with fail
  go_ret
  exact ⟨rfl, nq, rfl⟩
theorem eg_a2 : ∀ args w, (callFunc 132 args).run Try.prog w = .ok (.enter 132 args) w := enters_of Try.func132 (by kernel_rfl) rfl
end Go.Proofs.Ytmeljcbefnojfaa
