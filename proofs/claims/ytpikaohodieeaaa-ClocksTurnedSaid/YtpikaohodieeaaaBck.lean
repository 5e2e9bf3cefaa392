/- back: ticks counted from the end. -/
import Derived.Test.YtpikaohodieeaaaTrn
namespace Go.Proofs.Ytpikaohodieeaaa
open Go.RowKit
set_option linter.unusedSimpArgs false
set_option linter.unusedVariables false
def bkF (n : Nat) (Z : Nat → Int) (i : Nat) : Int := 400 - Z (n - 1 - i)
set_option maxRecDepth 100000 in
set_option maxHeartbeats 2000000 in
theorem back_any (A : Option Addr) (n c : Nat) (Z : Nat → Int) (w : World) (hin : IntsIn A n Z w.heap.size w) (hn5 : n ≤ 1000) (hb : ∀ i, i < n → -1000000 ≤ Z i ∧ Z i ≤ 1000000) :
    Calls Try.prog 73 #[.slice A n c] w fun e w' => ∃ B k, e = .returned (.slice B n k) ∧ LiR B n (bkF n Z) w' ∧ Below w.heap.size w w' := by
  have HIN := Lib.hid hin
  have HB := Lib.hid hb
  have hn := hin.1
  clear hin hb
  have wn : IntKind.i64.wrap ((n : Int) - 1) = (n : Int) - 1 := IntWalk.i64_in _ (by omega)
  obtain ⟨i0, hi0, hz0, hz1, hz2⟩ := info_parts Try.infoInt
  go_enter Try.func73, Try.ntmps73
  go_wp2_with fail
  go_loopw [3, 4] (fun v i wr => ∃ (j : Nat) (z : Int), z = (n : Int) - 1 - j ∧ j ≤ n ∧ i = .int .i64 z ∧ RowZ w (upTo (bkF n Z) j) v wr) (fun _ i _ => (intOf i + 1).toNat)
  case atStart => exact ⟨0, (n : Int) - 1, by simp, by omega, rfl, Below.refl _ _, World.ownsRow_nil _ _ _ _⟩
  case round =>
    obtain ⟨j, z, hz, hj, rfl, hR⟩ := hrel
    obtain ⟨wo, rfl⟩ : ∃ wo : World, wo = wr := ⟨_, rfl⟩
    have HR := Lib.hid hR
    have sz := hR.below.size
    clear hR
    by_cases hz0' : 0 ≤ z
    · obtain ⟨q, rfl⟩ : ∃ q : Nat, z = (q : Int) := ⟨z.toNat, by omega⟩
      have hqn : q < n := by omega
      have hqi : (q : Int) < (n : Int) := by omega
      have hq0 : (0 : Int) ≤ (q : Int) := by omega
      have hjq : q = n - 1 - j := by omega
      obtain ⟨a, ea, la, p0⟩ := (HIN.out.up HR.out.below (Nat.le_refl _)).2 q hqn
      subst ea
      have hbd := HB.out q hqn
      have e0 : bkF n Z j = 400 - Z q := by unfold bkF; rw [← hjq]
      have wq : IntKind.i64.wrap ((q : Int) - 1) = (q : Int) - 1 := IntWalk.i64_in _ (by omega)
      have HZ := Lib.hid (And.intro hz hjq)
      generalize Z q = x at *
      obtain ⟨y, hy⟩ : ∃ y, y = 400 - x := ⟨_, rfl⟩
      have wx : IntKind.i64.wrap (400 - x) = y := by rw [hy]; exact IntWalk.i64_in _ (by omega)
      rw [← hy] at e0
      have E0 := Lib.hid e0
      have WQ := Lib.hid wq
      have hown := HR.out.own
      rw [upTo_len] at hown
      clear hz hjq la hbd e0 hy hz0' wq
      go_wp2_with (at_builtin; refine wpList_append_own _ rfl _ _ 29 rfl w.heap.size 3 i0 (.int .i64 0) 1 8 Try.underlying29 hi0 hz0 hz1 hz2 rfl (by decide) _ j _ rfl (hown.alloc _) ⟨wo.heap.size, 0, none⟩ 1 1 [.int .i64 y] rfl rfl (new1 _ _) (by simp [Value.oneCell']) (by unfold maxLen; omega) (by omega) (by rw [World.size_alloc]; omega) ?_; intro v5 w5 hown2 hg2 _; have HN := Lib.hid (HR.out.app (z := y) hg2 (by rw [upTo_len]; exact hown2)); clear hown hown2 hg2)
      have wq := WQ.out
      try go_wp2_with fail
      go_roundw
      case rel => exact ⟨j + 1, (q : Int) - 1, by have := HZ.out.1; omega, by have := HZ.out.1; omega, rfl, by rw [upTo_succ, E0.out]; exact HN.out⟩
      case measure => (simp [intOf] <;> omega)
    · obtain rfl : j = n := by omega
      have dz : decide (0 ≤ z) = false := decide_eq_false hz0'
      have hz1' : z = -1 := by omega
      clear hz
      subst hz1'
      obtain ⟨A5, k5, rfl, hi5⟩ := row_upTo (by have := HR.out.own; rwa [upTo_len] at this) hn5
      have H5 : Hid (LiR A5 j (bkF j Z) wo) := Lib.hid hi5
      clear hi5
      go_wp2_with fail
      have HBL := Lib.hid HR.out.below
      go_ret
      first | exact ⟨_, _, rfl, H5.out, HBL.out⟩ | exact ⟨_, _, H5.out, HBL.out⟩ | exact ⟨_, H5.out, HBL.out⟩ | exact ⟨A5, ⟨k5, rfl⟩, H5.out, HBL.out⟩
end Go.Proofs.Ytpikaohodieeaaa
