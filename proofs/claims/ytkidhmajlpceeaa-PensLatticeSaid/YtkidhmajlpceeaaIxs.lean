import Derived.Test.YtkidhmajlpceeaaNav
namespace Go.Proofs.Ytkidhmajlpceeaa
open Go.RowKit
theorem emp_any (x y : Int) (w : World) :
    Calls Try.prog 100 #[.agg #[.int .i64 x, .int .i64 y]] w fun e w' => e = .returned (.bool (decide (y < x))) ∧ Below w.heap.size w w' := by
  go_enter Try.func100, Try.ntmps100
  go_wp2
  go_ret
  exact ⟨rfl, box1 _ _⟩
/-- no span is empty -/
def Ful (S : Nat → Int × Int) (n : Nat) : Prop := ∀ i, i < n → (S i).1 ≤ (S i).2
theorem ful_or (S : Nat → Int × Int) (n : Nat) : Ful S n ∨ ∃ k, k < n ∧ Ful S k ∧ (S k).2 < (S k).1 := by
  induction n with
  | zero => exact .inl fun i hi => absurd hi (by omega)
  | succ n ih =>
    rcases ih with h | ⟨k, hk, h1, h2⟩
    · by_cases hx : (S n).1 ≤ (S n).2
      · exact .inl fun i hi => (Nat.lt_succ_iff_lt_or_eq.1 hi).elim (h i) (fun e => e ▸ hx)
      · exact .inr ⟨n, by omega, h, by omega⟩
    · exact .inr ⟨k, by omega, h1, h2⟩
set_option maxHeartbeats 1000000 in
theorem ixs_any (g n cap j : Nat) (S : Nat → Int × Int) (w : World) (hn : n ≤ 401) (hS : SpR g n S w) (hj : j ≤ n) (h1 : Ful S j) (h2 : j < n → (S j).2 < (S j).1) :
    Calls Try.prog 110 #[.slice (some ⟨g, 0, none⟩) n cap, .func (.func 100) #[] #[]] w fun e w' => e = .returned (.int .i64 (if j < n then (j : Int) else -1)) ∧ Below w.heap.size w w' := by
  have HS := Lib.hid hS
  have H1 := Lib.hid h1
  have H2 := Lib.hid h2
  clear hS h1 h2
  go_enter Try.func110, Try.ntmps110
  go_wp2_with fail
  go_loopw [5, 8] (fun _ i wr => ∃ k : Nat, k ≤ j ∧ i = .int .i64 k ∧ Below w.heap.size w wr) (fun _ i _ => n - (intOf i).toNat)
  case atStart => exact ⟨0, Nat.zero_le _, rfl, Below.refl _ _⟩
  case round =>
    obtain ⟨k, hk, rfl, hB⟩ := hrel
    obtain ⟨wo, rfl⟩ : ∃ wo : World, wo = wr := ⟨_, rfl⟩
    have hk0 : (0 : Int) ≤ (k : Int) := by omega
    have HB := Lib.hid hB
    have hS2 := HS.out.up hB
    have hsz := hB.size
    clear hB
    by_cases hlt : k < n
    · have c0 := hS2.c0 k hlt
      have c1 := hS2.c1 k hlt
      have hki : (k : Int) < (n : Int) := by omega
      clear hS2
      by_cases hkj : k < j
      · have hd : decide ((S k).2 < (S k).1) = false := by have := H1.out k hkj; simp; omega
        have K := Lib.hid (emp_any (S k).1 (S k).2 wo)
        rw [hd] at K
        clear hd
        go_wp2_with fail
        refine K.out.mono ?_
        rintro e w1 ⟨rfl, hb⟩
        have HB2 := Lib.hid (HB.out.trans (hb.mono hsz))
        clear hb
        go_wp2_with fail
        go_roundw
        case rel => exact ⟨k + 1, by omega, by go_num, HB2.out⟩
        case measure => simp [intOf]; omega
      · obtain rfl : k = j := by omega
        have hd : decide ((S k).2 < (S k).1) = true := by have := H2.out hlt; simpa using this
        have K := Lib.hid (emp_any (S k).1 (S k).2 wo)
        rw [hd] at K
        clear hd
        go_wp2_with fail
        refine K.out.mono ?_
        rintro e w1 ⟨rfl, hb⟩
        have HB2 := Lib.hid (HB.out.trans (hb.mono hsz))
        clear hb
        go_wp2_with fail
        go_ret
        exact ⟨rfl, HB2.out⟩
    · have hki : (n : Int) ≤ (k : Int) := by omega
      go_wp2_with fail
      go_ret
      exact ⟨rfl, HB.out⟩
set_option maxHeartbeats 400000 in
theorem cfs_any (g n cap : Nat) (S : Nat → Int × Int) (G : Bool) (w : World) (hn : n ≤ 401) (hS : SpR g n S w) (hG : G = true ↔ Ful S n) :
    Calls Try.prog 101 #[.slice (some ⟨g, 0, none⟩) n cap, .func (.func 100) #[] #[]] w fun e w' => e = .returned (.bool (!G)) ∧ Below w.heap.size w w' := by
  rcases ful_or S n with h | ⟨k, hk, h1, h2⟩
  · obtain rfl : G = true := hG.2 h
    have K := ixs_any g n cap n S w hn hS (Nat.le_refl _) h (fun e => absurd e (by omega))
    rw [if_neg (by omega)] at K
    have K2 := Lib.hid K
    clear hS h hG K
    go_enter Try.func101, Try.ntmps101
    go_wp2_with fail
    refine K2.out.mono ?_
    rintro e w1 ⟨rfl, hb⟩
    go_wp2_with fail
    go_ret
    exact ⟨rfl, hb⟩
  · obtain rfl : G = false := by
      cases G with
      | false => rfl
      | true => have := hG.1 rfl k hk; omega
    have K := ixs_any g n cap k S w hn hS (by omega) h1 (fun _ => h2)
    rw [if_pos hk] at K
    have K2 := Lib.hid K
    have hk0 : (0 : Int) ≤ (k : Int) := by omega
    clear hS h1 h2 hG K
    go_enter Try.func101, Try.ntmps101
    go_wp2_with fail
    refine K2.out.mono ?_
    rintro e w1 ⟨rfl, hb⟩
    go_wp2_with fail
    go_ret
    exact ⟨rfl, hb⟩
end Go.Proofs.Ytkidhmajlpceeaa
