/- What the laws make themselves: lists turned over, lists of moments; equal lists in general. -/
import Derived.Test.YtkidhmajlpceeaaKep
namespace Go.Proofs.Ytkidhmajlpceeaa
open Go.RowKit
/-- SameInts, whatever the lists are -/
def eqF (n m : Nat) (Z Y : Nat → Int) : Prop := n = m ∧ ∀ i, i < n → Z i = Y i
set_option maxHeartbeats 1000000 in
theorem SameInts_any (n m : Nat) (A B : Option Addr) (c d : Nat) (Z Y : Nat → Int) (G : Bool) (w : World) (h1 : IntsIn A n Z w.heap.size w) (h2 : IntsIn B m Y w.heap.size w) (hG : G = true ↔ eqF n m Z Y) :
    Calls Try.prog 29 #[.slice A n c, .slice B m d] w fun e w' => e = .returned (.bool G) ∧ Below w.heap.size w w' := by
  have H1 := Lib.hid h1
  have H2 := Lib.hid h2
  have HG := Lib.hid hG
  have hn := h1.1
  have hm := h2.1
  clear h1 h2 hG
  by_cases hnm : n = m
  · subst hnm
    obtain ⟨j, j1, j2, j3⟩ : ∃ j, j ≤ n ∧ (∀ i, i < j → Z i = Y i) ∧ (j < n → ¬ Z j = Y j) := by
      clear H1 H2 HG hn hm
      induction n with
      | zero => exact ⟨0, Nat.le_refl _, fun i hi => absurd hi (by omega), fun h => absurd h (by omega)⟩
      | succ n ih =>
        obtain ⟨j, h1, h2, h3⟩ := ih
        by_cases hj : j < n
        · exact ⟨j, by omega, h2, fun _ => h3 hj⟩
        · obtain rfl : j = n := by omega
          by_cases hx : Z j = Y j
          · exact ⟨j + 1, Nat.le_refl _, fun i hi => by
              by_cases e : i = j
              · rw [e]; exact hx
              · exact h2 i (by omega), fun h => absurd h (by omega)⟩
          · exact ⟨j, by omega, h2, fun _ => hx⟩
    have J2 := Lib.hid j2
    have J3 := Lib.hid j3
    clear j2 j3
    go_enter Try.func29, Try.ntmps29
    go_wp2_with fail
    go_loopw [5] (fun i wr => ∃ k : Nat, k ≤ j ∧ i = .int .i64 k ∧ ∃ q, wr = w.drewN q) (fun i _ => n - (intOf i).toNat)
    case atStart => exact ⟨0, Nat.zero_le _, rfl, 0, rfl⟩
    case round =>
      obtain ⟨k, hk, rfl, q, rfl⟩ := hrel
      have hk0 : (0 : Int) ≤ (k : Int) := by omega
      by_cases hlt : k < n
      · obtain ⟨g, rfl, g1, c1⟩ := H1.out.2 k hlt
        obtain ⟨g', rfl, g1', c1'⟩ := H2.out.2 k hlt
        have hki : (k : Int) < (n : Int) := by omega
        by_cases hkj : k < j
        · rw [← J2.out k hkj] at c1'
          generalize Z k = z at c1 c1'
          go_wp2_with fail
          go_quiet (fail)
          go_wp2_with fail
          go_roundw
          case rel => exact ⟨k + 1, by omega, by go_num, _, rfl⟩
          case measure => simp [intOf]; omega
        · obtain rfl : k = j := by omega
          have hne := J3.out hlt
          obtain rfl : G = false := by
            cases G with
            | false => rfl
            | true => exact absurd ((HG.out.1 rfl).2 k hlt) hne
          have ne : (Z k == Y k) = false := by simpa using hne
          clear hne
          go_wp2_with fail
          go_quiet (fail)
          go_wp2_with fail
          go_ret
          exact ⟨rfl, below_drewN (below_drewN (Below.refl _ _) _) _⟩
      · have hki : (n : Int) ≤ (k : Int) := by omega
        obtain rfl : G = true := HG.out.2 ⟨rfl, fun i hi => J2.out i (by omega)⟩
        go_wp2_with fail
        go_ret
        exact ⟨rfl, below_drewN (Below.refl _ _) q⟩
  · obtain rfl : G = false := by
      cases G with
      | false => rfl
      | true => exact absurd (HG.out.1 rfl).1 hnm
    have ne : (n == m) = false := by simpa using hnm
    have ne2 : ((n : Int) == (m : Int)) = false := by simpa using (by omega : ¬ (n : Int) = m)
    go_enter Try.func29, Try.ntmps29
    go_wp2_with fail
    go_ret
    exact ⟨rfl, Below.refl _ _⟩
def ngF (Z : Nat → Int) (i : Nat) : Int := -Z i
set_option maxRecDepth 100000 in
set_option maxHeartbeats 2000000 in
theorem turned_any (A : Option Addr) (n c : Nat) (Z : Nat → Int) (w : World) (hin : IntsIn A n Z w.heap.size w) (hn5 : n ≤ 1000) (hb : ∀ i, i < n → -1000000 ≤ Z i ∧ Z i ≤ 1000000) :
    Calls Try.prog 63 #[.slice A n c] w fun e w' => ∃ v, e = .returned v ∧ RowZ w (upTo (ngF Z) n) v w' := by
  have HIN := Lib.hid hin
  have HB := Lib.hid hb
  clear hin hb
  obtain ⟨i0, hi0, hz0, hz1, hz2⟩ := info_parts Try.infoInt
  go_enter Try.func63, Try.ntmps63
  go_wp2_with fail
  go_loopw [3, 4] (fun v i wr => ∃ k : Nat, k ≤ n ∧ i = .int .i64 k ∧ RowZ w (upTo (ngF Z) k) v wr) (fun _ i _ => n - (intOf i).toNat)
  case atStart => exact ⟨0, Nat.zero_le _, rfl, Below.refl _ _, World.ownsRow_nil _ _ _ _⟩
  case round =>
    obtain ⟨k, hk, rfl, hR⟩ := hrel
    obtain ⟨wo, rfl⟩ : ∃ wo : World, wo = wr := ⟨_, rfl⟩
    have HR := Lib.hid hR
    have hk0 : (0 : Int) ≤ (k : Int) := by omega
    have hsz := hR.below.size
    by_cases hlt : k < n
    · obtain ⟨a, rfl, _, c0⟩ := (HIN.out.up hR.below (Nat.le_refl _)).2 k hlt
      have hki : (k : Int) < (n : Int) := by omega
      have v1 := HB.out k hlt
      have w1' : IntKind.i64.wrap (-Z k) = -Z k := IntWalk.i64_in _ (by omega)
      have hown := hR.own
      rw [upTo_len] at hown
      clear hR v1
      go_wp2_with (at_builtin; refine wpList_append_own _ rfl _ _ 28 rfl w.heap.size 3 i0 (.int .i64 0) 1 8 Try.underlying28 hi0 hz0 hz1 hz2 rfl (by decide) _ k _ rfl (hown.alloc _) ⟨wo.heap.size, 0, none⟩ 1 1 [.int .i64 (-Z k)] rfl rfl (new1 _ _) (by simp [Value.oneCell']) (by unfold maxLen; omega) (by omega) (by rw [World.size_alloc]; omega) ?_; intro v2 w2 hown2 hg2 _; have HN := Lib.hid (HR.out.app (z := -Z k) hg2 (by rw [upTo_len]; exact hown2)); clear hown hown2 hg2 w1')
      go_roundw
      case rel => exact ⟨k + 1, by omega, by go_num, by rw [upTo_succ]; exact HN.out⟩
      case measure => simp [intOf]; omega
    · have hki : (n : Int) ≤ (k : Int) := by omega
      obtain rfl : k = n := by omega
      clear hR
      go_wp2_with fail
      go_ret
      exact ⟨_, rfl, HR.out⟩
end Go.Proofs.Ytkidhmajlpceeaa
