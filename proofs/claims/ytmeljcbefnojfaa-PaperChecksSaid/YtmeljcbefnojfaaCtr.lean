import Derived.Test.YtmeljcbefnojfaaDat
namespace Go.Proofs.Ytmeljcbefnojfaa
open Go.RowKit
/-- what a trace's check answers -/
def ctE (n k : Nat) : Int := if 2000 < n then 2 else if k < n then 11 else 0
def ctI (n k : Nat) : Int := if 2000 < n then 0 else if k < n then k else 0
theorem ret_tup2 {a b c d : Int} (h : a = c) (h2 : b = d) : Ending.returned (.tuple #[.int .i64 a, .int .i64 b]) = .returned (.tuple #[.int .i64 c, .int .i64 d]) := by rw [h, h2]
set_option maxHeartbeats 1000000 in
theorem CheckTrace_any (A : Option Addr) (n c : Nat) (P : Nat → Pt) (j : Nat) (w : World) (hin : PtsIn A n P w.heap.size w) (hj : firstBad P n j) :
    Calls Try.prog 21 #[.slice A n c] w fun e w' => e = .returned (.tuple #[.int .i64 (ctE n j), .int .i64 (ctI n j)]) ∧ Below w.heap.size w w' := by
  have HIN := Lib.hid hin
  obtain ⟨hn, _⟩ := hin
  have HJ := Lib.hid hj
  have hjn := hj.2.2
  clear hj
  by_cases hbig : (2000 : Int) < n
  · go_enter Try.func21, Try.ntmps21
    go_wp2_with fail
    go_ret2
    exact ⟨ret_tup2 (by unfold ctE; rw [if_pos (by omega)]) (by unfold ctI; rw [if_pos (by omega)]), Below.refl _ _⟩
  · have hbig2 : (n : Int) ≤ 2000 := by omega
    go_enter Try.func21, Try.ntmps21
    go_wp2_with fail
    go_loopw [11] (fun i wr => ∃ k : Nat, k ≤ j ∧ i = .int .i64 k ∧ Below w.heap.size w wr) (fun i _ => n - (intOf i).toNat)
    case atStart => exact ⟨0, Nat.zero_le _, rfl, Below.refl _ _⟩
    case round =>
      obtain ⟨k, hk, rfl, hB⟩ := hrel
      obtain ⟨wo, rfl⟩ : ∃ wo : World, wo = wr := ⟨_, rfl⟩
      have hk0 : (0 : Int) ≤ (k : Int) := by omega
      by_cases hlt : k < n
      · obtain ⟨a, rfl, ab, c0, c1, c2⟩ := (HIN.out.up hB (Nat.le_refl _)).2 k hlt
        have hki : (k : Int) < (n : Int) := by omega
        have hsz := hB.size
        by_cases hkj : k < j
        · have hok := HJ.out.1 k hkj
          go_wp2_with fail
          refine (isPoint_t (P k) _ hok).mono ?_
          rintro e w1 ⟨rfl, hb⟩
          go_wp2_with fail
          go_roundw
          case rel => exact ⟨k + 1, by omega, by go_num, (hB.alloc hB.size _).trans (hb.mono (by simp only [World.size_alloc]; omega))⟩
          case measure => simp [intOf]; omega
        · obtain rfl : k = j := by omega
          have hno := HJ.out.2.1 hlt
          go_wp2_with fail
          refine (isPoint_f (P k) _ hno).mono ?_
          rintro e w1 ⟨rfl, hb⟩
          go_wp2_with fail
          go_ret2
          exact ⟨ret_tup2 (by unfold ctE; rw [if_neg (by omega), if_pos hlt]) (by unfold ctI; rw [if_neg (by omega), if_pos hlt]), (hB.alloc hB.size _).trans (hb.mono (by simp only [World.size_alloc]; omega))⟩
      · have hki : (n : Int) ≤ (k : Int) := by omega
        go_wp2_with fail
        go_ret2
        exact ⟨ret_tup2 (by unfold ctE; rw [if_neg (by omega), if_neg (by omega)]) (by unfold ctI; rw [if_neg (by omega), if_neg (by omega)]), hB⟩
end Go.Proofs.Ytmeljcbefnojfaa
