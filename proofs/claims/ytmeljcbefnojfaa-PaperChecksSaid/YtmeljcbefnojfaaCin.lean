import Derived.Test.YtmeljcbefnojfaaGst
namespace Go.Proofs.Ytmeljcbefnojfaa
open Go.RowKit
set_option maxHeartbeats 1000000 in
theorem RCheckTrace_any (A : Option Addr) (n c : Nat) (P : Nat → Pt) (j : Nat) (w : World) (hin : PtsIn A n P w.heap.size w) (hj : firstBad P n j) :
    Calls Try.prog 22 #[.slice A n c] w fun e w' => e = .returned (.tuple #[.int .i64 (ctE n j), .int .i64 (ctI n j)]) ∧ Below w.heap.size w w' := by
  have HIN := Lib.hid hin
  obtain ⟨hn, _⟩ := hin
  have HJ := Lib.hid hj
  have hjn := hj.2.2
  clear hj
  by_cases hbig : (2000 : Int) < n
  · go_enter Try.func22, Try.ntmps22
    go_wp2_with fail
    go_ret2
    exact ⟨ret_tup2 (by unfold ctE; rw [if_pos (by omega)]) (by unfold ctI; rw [if_pos (by omega)]), Below.refl _ _⟩
  · have hbig2 : (n : Int) ≤ 2000 := by omega
    go_enter Try.func22, Try.ntmps22
    go_wp2_with fail
    go_loopw [4] (fun i wr => ∃ k : Nat, k ≤ j ∧ i = .int .i64 k ∧ Below w.heap.size w wr) (fun i _ => n - (intOf i).toNat)
    case atStart => exact ⟨0, Nat.zero_le _, rfl, Below.refl _ _⟩
    case round =>
      obtain ⟨k, hk, rfl, hB⟩ := hrel
      obtain ⟨wo, rfl⟩ : ∃ wo : World, wo = wr := ⟨_, rfl⟩
      have hk0 : (0 : Int) ≤ (k : Int) := by omega
      by_cases hlt : k < n
      · obtain ⟨a, rfl, ab, c0, c1, c2⟩ := (HIN.out.up hB (Nat.le_refl _)).2 k hlt
        have hki : (k : Int) < (n : Int) := by omega
        have hsz := hB.size
        by_cases hkj : k < j
        · have hok := HJ.out.1 k hkj
          go_wp2_with fail
          refine (right_t (P k) _ hok).mono ?_
          rintro e w1 ⟨rfl, hb⟩
          go_wp2_with fail
          go_roundw
          case rel => exact ⟨k + 1, by omega, by go_num, hB.trans (hb.mono hB.size)⟩
          case measure => simp [intOf]; omega
        · obtain rfl : k = j := by omega
          have hno := HJ.out.2.1 hlt
          go_wp2_with fail
          refine (right_f (P k) _ hno).mono ?_
          rintro e w1 ⟨rfl, hb⟩
          go_wp2_with fail
          go_ret2
          exact ⟨ret_tup2 (by unfold ctE; rw [if_neg (by omega), if_pos hlt]) (by unfold ctI; rw [if_neg (by omega), if_pos hlt]), hB.trans (hb.mono hB.size)⟩
      · have hki : (n : Int) ≤ (k : Int) := by omega
        go_wp2_with fail
        go_ret2
        exact ⟨ret_tup2 (by unfold ctE; rw [if_neg (by omega), if_neg (by omega)]) (by unfold ctI; rw [if_neg (by omega), if_neg (by omega)]), hB⟩
/-- an inked sheet is valid -/
def RowOk (x : Cls) (i : Nat) : Prop := x.L i ≤ 8 ∧ SetOk (x.S i) (x.L i)
def InkOk (x : Cls) (n : Nat) : Prop := 1 ≤ n ∧ n ≤ 200 ∧ ∀ i, i < n → RowOk x i
def inkE (G : Bool) : Int := match G with | true => 0 | false => 12
theorem ink_no {x : Cls} {n k : Nat} {G : Bool} (hG : G = true ↔ InkOk x n) (hk : k < n) (h : ¬ RowOk x k) : G = false := by
  cases G with
  | false => rfl
  | true => exact absurd ((hG.1 rfl).2.2 k hk) h
theorem rows_snoc {x : Cls} {k : Nat} (h : ∀ i, i < k → RowOk x i) (h1 : RowOk x k) : ∀ i, i < k + 1 → RowOk x i := by
  intro i hi
  by_cases hik : i = k
  · subst hik; exact h1
  · exact h i (by omega)
set_option maxHeartbeats 1000000 in
theorem CheckInked_any (A : Option Addr) (n c : Nat) (x : Cls) (G : Bool) (w : World) (hin : ClsIn A n x w.heap.size w) (hG : G = true ↔ InkOk x n) :
    Calls Try.prog 29 #[.agg #[.slice A n c]] w fun e w' => e = .returned (.int .i64 (inkE G)) ∧ Below w.heap.size w w' := by
  have HIN := Lib.hid hin
  obtain ⟨hn, _⟩ := hin
  have HG := Lib.hid hG
  clear hG
  by_cases hbt : 1 ≤ (n : Int) ∧ (n : Int) ≤ 200
  · go_enter Try.func29, Try.ntmps29
    go_wp2_with (first | (go_at_call 75; refine (between_t _ _ _ _ (by assumption)).mono ?_; rintro e w' ⟨rfl, rfl⟩) | fail)
    go_loopw [4, 13] (fun _ i wr => ∃ k : Nat, k ≤ n ∧ i = .int .i64 k ∧ (∀ i, i < k → RowOk x i) ∧ Below w.heap.size w wr) (fun _ i _ => n - (intOf i).toNat)
    case atStart => exact ⟨0, Nat.zero_le _, rfl, fun i hi => absurd hi (by omega), box1 _ _⟩
    case round =>
      obtain ⟨k, hk, rfl, hok, hB⟩ := hrel
      obtain ⟨wo, rfl⟩ : ∃ wo : World, wo = wr := ⟨_, rfl⟩
      have hk0 : (0 : Int) ≤ (k : Int) := by omega
      have HOK := Lib.hid hok
      have hsz := hB.size
      clear hok
      by_cases hlt : k < n
      · obtain ⟨a, rfl, ab, c0, hs⟩ := (HIN.out.up hB (Nat.le_refl _)).2 k hlt
        have HS := Lib.hid hs
        clear hs
        have hki : (k : Int) < (n : Int) := by omega
        by_cases t1 : 8 < x.L k
        · obtain rfl : G = false := ink_no HG.out hlt (fun h => absurd h.1 (by omega))
          have d1 : decide (8 < x.L k) = true := by simpa using t1
          go_wp2_with fail
          go_ret
          exact ⟨rfl, hB⟩
        · have d1 : decide (8 < x.L k) = false := by simpa using t1
          by_cases t2 : SetOk (x.S k) (x.L k)
          · go_wp2_with fail
            refine (isSet_any _ _ _ (x.S k) true _ (HS.out.more hsz) ⟨fun _ => t2, fun _ => rfl⟩).mono ?_
            rintro e w1 ⟨rfl, hb⟩
            go_wp2_with fail
            go_roundw
            case rel => exact ⟨k + 1, by omega, by go_num, rows_snoc HOK.out ⟨by omega, t2⟩, hB.trans (hb.mono hB.size)⟩
            case measure => simp [intOf]; omega
          · obtain rfl : G = false := ink_no HG.out hlt (fun h => t2 h.2)
            go_wp2_with fail
            refine (isSet_any _ _ _ (x.S k) false _ (HS.out.more hsz) ⟨(fun h => by cases h), fun h => absurd h t2⟩).mono ?_
            rintro e w1 ⟨rfl, hb⟩
            go_wp2_with fail
            go_ret
            exact ⟨rfl, hB.trans (hb.mono hB.size)⟩
      · have hki : (n : Int) ≤ (k : Int) := by omega
        obtain rfl : k = n := by omega
        obtain rfl : G = true := HG.out.2 ⟨by omega, by omega, HOK.out⟩
        go_wp2_with fail
        go_ret
        exact ⟨rfl, hB⟩
  · go_enter Try.func29, Try.ntmps29
    go_wp2_with (first | (go_at_call 75; refine (between_f _ _ _ _ (by assumption)).mono ?_; rintro e w' ⟨rfl, rfl⟩) | fail)
    obtain rfl : G = false := by
      cases G with
      | false => rfl
      | true => have := HG.out.1 rfl; exact absurd ⟨by have := this.1; omega, by have := this.2.1; omega⟩ hbt
    go_ret
    exact ⟨rfl, box1 _ _⟩
set_option maxHeartbeats 1000000 in
theorem RCheckInked_any (A : Option Addr) (n c : Nat) (x : Cls) (G : Bool) (w : World) (hin : ClsIn A n x w.heap.size w) (hG : G = true ↔ InkOk x n) :
    Calls Try.prog 30 #[.agg #[.slice A n c]] w fun e w' => e = .returned (.int .i64 (inkE G)) ∧ Below w.heap.size w w' := by
  have HIN := Lib.hid hin
  obtain ⟨hn, _⟩ := hin
  have HG := Lib.hid hG
  clear hG
  by_cases hbt : 1 ≤ (n : Int) ∧ (n : Int) ≤ 200
  · go_enter Try.func30, Try.ntmps30
    go_wp2_with (first | (go_at_call 77; refine (within_t _ _ _ _ (by assumption)).mono ?_; rintro e w' ⟨rfl, rfl⟩) | fail)
    go_loopw [3] (fun i wr => ∃ k : Nat, k ≤ n ∧ i = .int .i64 k ∧ (∀ i, i < k → RowOk x i) ∧ Below w.heap.size w wr ∧ wr.cell? ⟨w.heap.size, 0, none⟩ = some (.slice A n c)) (fun i _ => n - (intOf i).toNat)
    case atStart => exact ⟨0, Nat.zero_le _, rfl, fun i hi => absurd hi (by omega), box1 _ _, by go_simp⟩
    case round =>
      obtain ⟨k, hk, rfl, hok, hB, hcx⟩ := hrel
      obtain ⟨wo, rfl⟩ : ∃ wo : World, wo = wr := ⟨_, rfl⟩
      have hk0 : (0 : Int) ≤ (k : Int) := by omega
      have HOK := Lib.hid hok
      have hsz := hB.size
      have hlt0 := World.block_lt_of_cell? _ _ hcx
      clear hok
      by_cases hlt : k < n
      · obtain ⟨a, rfl, ab, c0, hs⟩ := (HIN.out.up hB (Nat.le_refl _)).2 k hlt
        have HS := Lib.hid hs
        clear hs
        have hki : (k : Int) < (n : Int) := by omega
        by_cases t2 : RowOk x k
        · go_wp2_with fail
          refine (goodSet_any _ _ _ (x.S k) true _ (HS.out.more hsz) ⟨fun _ => ⟨t2.2, t2.1⟩, fun _ => rfl⟩).mono ?_
          rintro e w1 ⟨rfl, hb⟩
          have hc1 := low_cell hb hlt0 hcx
          go_wp2_with fail
          go_roundw
          case rel => exact ⟨k + 1, by omega, by go_num, rows_snoc HOK.out t2, hB.trans (hb.mono hB.size), hc1⟩
          case measure => simp [intOf]; omega
        · obtain rfl : G = false := ink_no HG.out hlt t2
          go_wp2_with fail
          refine (goodSet_any _ _ _ (x.S k) false _ (HS.out.more hsz) ⟨(fun h => by cases h), fun h => absurd ⟨h.2, h.1⟩ t2⟩).mono ?_
          rintro e w1 ⟨rfl, hb⟩
          go_wp2_with fail
          go_ret
          exact ⟨rfl, hB.trans (hb.mono hB.size)⟩
      · have hki : (n : Int) ≤ (k : Int) := by omega
        obtain rfl : k = n := by omega
        obtain rfl : G = true := HG.out.2 ⟨by omega, by omega, HOK.out⟩
        go_wp2_with fail
        go_ret
        exact ⟨rfl, hB⟩
  · go_enter Try.func30, Try.ntmps30
    go_wp2_with (first | (go_at_call 77; refine (within_f _ _ _ _ (by assumption)).mono ?_; rintro e w' ⟨rfl, rfl⟩) | fail)
    obtain rfl : G = false := by
      cases G with
      | false => rfl
      | true => have := HG.out.1 rfl; exact absurd ⟨by have := this.1; omega, by have := this.2.1; omega⟩ hbt
    go_ret
    exact ⟨rfl, box1 _ _⟩
end Go.Proofs.Ytmeljcbefnojfaa
