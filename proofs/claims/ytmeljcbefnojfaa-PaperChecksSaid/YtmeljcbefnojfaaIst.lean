import Derived.Test.YtmeljcbefnojfaaCtr
namespace Go.Proofs.Ytmeljcbefnojfaa
open Go.RowKit
/-- the least number that a span of a set may begin with -/
def lst (S : Nat → Int × Int) : Nat → Int
  | 0 => 0
  | k + 1 => (S k).2 + 2
def SetOk (S : Nat → Int × Int) (n : Nat) : Prop := ∀ i, i < n → lst S i ≤ (S i).1 ∧ (S i).1 ≤ (S i).2 ∧ (S i).2 ≤ 12000
theorem SetOk.lst_bd {S : Nat → Int × Int} {k : Nat} (h : SetOk S k) : 0 ≤ lst S k ∧ lst S k ≤ 12002 := by
  have key : ∀ j, j ≤ k → 0 ≤ lst S j ∧ lst S j ≤ 12002 := by
    intro j
    induction j with
    | zero => intro _; exact ⟨Int.le_refl _, show (0 : Int) ≤ 12002 by omega⟩
    | succ j ih =>
      intro hj
      obtain ⟨h1, h2, h3⟩ := h j (by omega)
      have := ih (by omega)
      exact ⟨by show 0 ≤ (S j).2 + 2; omega, by show (S j).2 + 2 ≤ 12002; omega⟩
  exact key k (Nat.le_refl _)
theorem SetOk.snoc {S : Nat → Int × Int} {k : Nat} (h : SetOk S k) (h1 : lst S k ≤ (S k).1 ∧ (S k).1 ≤ (S k).2 ∧ (S k).2 ≤ 12000) : SetOk S (k + 1) := by
  intro i hi
  by_cases hik : i = k
  · subst hik; exact h1
  · exact h i (by omega)
theorem not_ok {S : Nat → Int × Int} {n k : Nat} {G : Bool} (hG : G = true ↔ SetOk S n) (hk : k < n) (h : ¬ (lst S k ≤ (S k).1 ∧ (S k).1 ≤ (S k).2 ∧ (S k).2 ≤ 12000)) : G = false := by
  cases G with
  | false => rfl
  | true => exact absurd (hG.1 rfl k hk) h
set_option maxHeartbeats 1000000 in
theorem isSet_any (A : Option Addr) (n c : Nat) (S : Nat → Int × Int) (G : Bool) (w : World) (hin : SpsIn A n S w.heap.size w) (hG : G = true ↔ SetOk S n) :
    Calls Try.prog 79 #[.slice A n c] w fun e w' => e = .returned (.bool G) ∧ Below w.heap.size w w' := by
  have HIN := Lib.hid hin
  obtain ⟨hn, _⟩ := hin
  have HG := Lib.hid hG
  clear hG
  go_enter Try.func79, Try.ntmps79
  go_wp2_with fail
  go_loopw [3, 8] (fun l i wr => ∃ k : Nat, k ≤ n ∧ l = .int .i64 (lst S k) ∧ i = .int .i64 k ∧ SetOk S k ∧ Below w.heap.size w wr) (fun _ i _ => n - (intOf i).toNat)
  case atStart => exact ⟨0, Nat.zero_le _, rfl, rfl, fun i hi => absurd hi (by omega), Below.refl _ _⟩
  case round =>
    obtain ⟨k, hk, rfl, rfl, hok, hB⟩ := hrel
    obtain ⟨wo, rfl⟩ : ∃ wo : World, wo = wr := ⟨_, rfl⟩
    have hk0 : (0 : Int) ≤ (k : Int) := by omega
    have hbd := hok.lst_bd
    have HOK := Lib.hid hok
    clear hok
    by_cases hlt : k < n
    · obtain ⟨a, rfl, ab, c0, c1⟩ := (HIN.out.up hB (Nat.le_refl _)).2 k hlt
      have hki : (k : Int) < (n : Int) := by omega
      by_cases t1 : (S k).1 < lst S k
      · obtain rfl : G = false := not_ok HG.out hlt (by omega)
        have d1 : decide ((S k).1 < lst S k) = true := by simpa using t1
        go_wp2_with fail
        go_ret
        exact ⟨rfl, hB.alloc hB.size _⟩
      · have d1 : decide ((S k).1 < lst S k) = false := by simpa using t1
        by_cases t2 : (S k).1 > (S k).2
        · obtain rfl : G = false := not_ok HG.out hlt (by omega)
          have d2 : decide ((S k).1 > (S k).2) = true := by simpa using t2
          go_wp2_with fail
          go_ret
          exact ⟨rfl, hB.alloc hB.size _⟩
        · have d2 : decide ((S k).1 > (S k).2) = false := by simpa using t2
          by_cases t3 : (S k).2 > 12000
          · obtain rfl : G = false := not_ok HG.out hlt (by omega)
            have d3 : decide ((S k).2 > 12000) = true := by simpa using t3
            go_wp2_with fail
            go_ret
            exact ⟨rfl, hB.alloc hB.size _⟩
          · have d3 : decide ((S k).2 > 12000) = false := by simpa using t3
            go_wp2_with fail
            go_roundw
            case rel => exact ⟨k + 1, by omega, rfl, by go_num, HOK.out.snoc (by omega), hB.alloc hB.size _⟩
            case measure => simp [intOf]; omega
    · have hki : (n : Int) ≤ (k : Int) := by omega
      obtain rfl : k = n := by omega
      obtain rfl : G = true := HG.out.2 HOK.out
      go_wp2_with fail
      go_ret
      exact ⟨rfl, hB⟩
end Go.Proofs.Ytmeljcbefnojfaa
