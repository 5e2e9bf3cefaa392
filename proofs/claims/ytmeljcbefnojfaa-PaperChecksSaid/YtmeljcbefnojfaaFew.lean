import Derived.Test.YtmeljcbefnojfaaCin
namespace Go.Proofs.Ytmeljcbefnojfaa
open Go.RowKit
def AnyBool (w : World) (e : Ending) (w' : World) : Prop := (∃ b : Bool, e = .returned (.bool b)) ∧ Below w.heap.size w w'
set_option maxHeartbeats 400000 in
theorem few_any (A B : Option Addr) (n c m d : Nat) (w : World) (hn : (n : Int) ≤ 9223372036854775807) (_hm : (m : Int) ≤ 9223372036854775807) :
    Calls Try.prog 19 #[.slice A n c, .slice B m d] w (AnyBool w) := by
  go_enter Try.func19, Try.ntmps19
  go_wp2_with fail
  all_goals (go_ret; exact ⟨⟨_, rfl⟩, Below.refl _ _⟩)
set_option maxHeartbeats 400000 in
theorem small_any (A : Option Addr) (n c : Nat) (x : Cls) (w : World) (hin : ClsIn A n x w.heap.size w) :
    Calls Try.prog 20 #[.agg #[.slice A n c]] w (AnyBool w) := by
  have HIN := Lib.hid hin
  obtain ⟨hn, _⟩ := hin
  go_enter Try.func20, Try.ntmps20
  go_wp2_with fail
  go_loopw [3, 4] (fun v i wr => ∃ (k : Nat) (z : Int), k ≤ n ∧ v = .int .i64 z ∧ i = .int .i64 k ∧ Below w.heap.size w wr ∧ wr.cell? ⟨w.heap.size, 0, none⟩ = some (.slice A n c)) (fun _ i _ => n - (intOf i).toNat)
  case atStart => exact ⟨0, n, Nat.zero_le _, rfl, rfl, box1 _ _, by go_simp⟩
  case round =>
    obtain ⟨k, z, hk, rfl, rfl, hB, hcx⟩ := hrel
    obtain ⟨wo, rfl⟩ : ∃ wo : World, wo = wr := ⟨_, rfl⟩
    have hk0 : (0 : Int) ≤ (k : Int) := by omega
    by_cases hlt : k < n
    · obtain ⟨a, rfl, ab, c0, hs⟩ := (HIN.out.up hB (Nat.le_refl _)).2 k hlt
      have hki : (k : Int) < (n : Int) := by omega
      clear hs
      go_wp2_with fail
      go_roundw
      case rel => exact ⟨k + 1, _, by omega, rfl, by go_num, hB, hcx⟩
      case measure => simp [intOf]; omega
    · have hki : (n : Int) ≤ (k : Int) := by omega
      go_wp2_with fail
      go_ret
      exact ⟨⟨_, rfl⟩, hB⟩
end Go.Proofs.Ytmeljcbefnojfaa
