/- sameEdges of equal edges. -/
import Derived.Test.YtkidhmajlpceeaaTnd
namespace Go.Proofs.Ytkidhmajlpceeaa
open Go.RowKit
set_option maxHeartbeats 1000000 in
theorem sameEdges_t (n : Nat) (A B : Option Addr) (c d : Nat) (F : Nat → Int × Int × Int) (w : World) (h1 : EdsIn A n F w.heap.size w) (h2 : EdsIn B n F w.heap.size w) :
    Calls Try.prog 34 #[.slice A n c, .slice B n d] w fun e w' => e = .returned (.bool true) ∧ Below w.heap.size w w' := by
  have H1 := Lib.hid h1
  have H2 := Lib.hid h2
  have hn := h1.1
  have nf : ((n : Int) != (n : Int)) = false := by simp
  clear h1 h2
  go_enter Try.func34, Try.ntmps34
  go_wp2_with fail
  go_loopw [5] (fun i wr => ∃ k : Nat, k ≤ n ∧ i = .int .i64 k ∧ ∃ q, wr = w.drewN q) (fun i _ => n - (intOf i).toNat)
  case atStart => exact ⟨0, Nat.zero_le _, rfl, 0, rfl⟩
  case round =>
    obtain ⟨k, hk, rfl, q, rfl⟩ := hrel
    have hk0 : (0 : Int) ≤ (k : Int) := by omega
    by_cases hlt : k < n
    · obtain ⟨a, rfl, _, a0, a1, a2⟩ := H1.out.2 k hlt
      obtain ⟨b, rfl, _, b0, b1, b2⟩ := H2.out.2 k hlt
      have hki : (k : Int) < (n : Int) := by omega
      generalize (F k).1 = x at a0 b0
      generalize (F k).2.1 = y at a1 b1
      generalize (F k).2.2 = z at a2 b2
      go_wp2_with fail
      go_quiet (fail)
      go_wp2_with fail
      go_roundw
      case rel => exact ⟨k + 1, by omega, by go_num, _, rfl⟩
      case measure => simp [intOf]; omega
    · have hki : (n : Int) ≤ (k : Int) := by omega
      go_wp2_with fail
      go_ret
      exact ⟨rfl, below_drewN (Below.refl _ _) q⟩
end Go.Proofs.Ytkidhmajlpceeaa
