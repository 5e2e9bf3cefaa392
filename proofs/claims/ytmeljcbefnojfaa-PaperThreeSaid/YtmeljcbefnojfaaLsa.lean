import Derived.Test.YtmeljcbefnojfaaLhv
namespace Go.Proofs.Ytmeljcbefnojfaa
open Go.RowKit
theorem shq_same2 {n m k k' c c' : Nat} {L L' : Nat → List (Int × Int)} {E : Int} {A A' : Option Addr} {w : World} (h : ShQ n L E A k w) (h' : ShQ m L' E A' k' w) (e : E = 0 → n = m ∧ ∀ c, c < n → L c = L' c) :
    Calls Try.prog 55 #[.slice A k c, .slice A' k' c'] w fun e w' => e = .returned (.bool true) ∧ Below w.heap.size w w' := by
  refine SameSets_sh A A' k k' c c' L L' true w h.1 h'.1 ⟨fun _ => ?_, fun _ => rfl⟩
  by_cases h0 : E = 0
  · obtain ⟨rfl, e'⟩ := e h0
    obtain rfl := h.2.1 h0
    obtain rfl := h'.2.1 h0
    exact ⟨rfl, e'⟩
  · obtain rfl := h.2.2 h0
    obtain rfl := h'.2.2 h0
    exact ⟨rfl, fun c hc => absurd hc (by omega)⟩
set_option maxHeartbeats 1000000 in
theorem same_sh {A A' : Option Addr} {n k k' c c' : Nat} {L L' : Nat → List (Int × Int)} {w : World} (h : ShQ n L 0 A k w) (h' : Sheet A' k' L' w) (e : n = k' ∧ ∀ c, c < n → L c = L' c) :
    Calls Try.prog 67 #[.agg #[.slice A k c], .int .i64 0, .agg #[.slice A' k' c']] w fun e w' => e = .returned (.bool true) ∧ Below w.heap.size w w' := by
  have K : Hid (∀ W, Below w.heap.size w W → Calls Try.prog 55 #[.slice A k c, .slice A' k' c'] W fun e w' => e = .returned (.bool true) ∧ Below W.heap.size W w') := Lib.hid fun W hW =>
    SameSets_sh A A' k k' c c' L L' true W (h.1.up hW) (h'.up hW) ⟨fun _ => by obtain rfl := h.2.1 rfl; exact e, fun _ => rfl⟩
  clear h h' e
  go_enter Try.func67, Try.ntmps67
  go_wp2_with fail
  refine (K.out _ (by first | exact box2 _ _ _ | exact (box2 _ _ _).drew)).mono ?_
  rintro e w1 ⟨rfl, hb⟩
  have hB := Lib.hid ((box2 w _ _).trans (hb.mono (by simp only [World.size_alloc]; omega)))
  clear hb
  go_wp2_with fail
  go_ret
  exact ⟨rfl, hB.out⟩
/-- a sheet against an argument -/
theorem shq_arg {n k m c c' : Nat} {L M : Nat → List (Int × Int)} {A B : Option Addr} {w : World} (h : ShQ n L 0 A k w) (h' : Sheet B m M w) (G : Bool) (e : G = true ↔ n = m ∧ ∀ c, c < n → L c = M c) :
    Calls Try.prog 55 #[.slice A k c, .slice B m c'] w fun e w' => e = .returned (.bool G) ∧ Below w.heap.size w w' := by
  obtain rfl := h.2.1 rfl
  exact SameSets_sh A B k m c c' L M G w h.1 h' e
end Go.Proofs.Ytmeljcbefnojfaa
