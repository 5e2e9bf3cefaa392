import Derived.Test.YtmeljcbefnojfaaIst
namespace Go.Proofs.Ytmeljcbefnojfaa
open Go.RowKit
set_option maxRecDepth 100000 in
set_option maxHeartbeats 2000000 in
theorem goodSet_any (A : Option Addr) (n c : Nat) (S : Nat → Int × Int) (G : Bool) (w : World) (hin : SpsIn A n S w.heap.size w) (hG : G = true ↔ SetOk S n ∧ n ≤ 8) :
    Calls Try.prog 80 #[.slice A n c] w fun e w' => e = .returned (.bool G) ∧ Below w.heap.size w w' := by
  have HIN := Lib.hid hin
  obtain ⟨hn, _⟩ := hin
  have HG := Lib.hid hG
  clear hG
  have no : ∀ k, k < n → ¬ (lst S k ≤ (S k).1 ∧ (S k).1 ≤ (S k).2 ∧ (S k).2 ≤ 12000) → G = false := by
    intro k hk hno
    cases hg : G with
    | false => rfl
    | true => exact absurd ((HG.out.1 hg).1 k hk) hno
  have NO := Lib.hid no
  clear no
  go_enter Try.func80, Try.ntmps80
  go_wp2_with fail
  go_loopw [3] (fun i wr => ∃ k : Nat, k ≤ n ∧ i = .int .i64 k ∧ SetOk S k ∧ Below w.heap.size w wr) (fun i _ => n - (intOf i).toNat)
  case atStart => exact ⟨0, Nat.zero_le _, rfl, fun i hi => absurd hi (by omega), Below.refl _ _⟩
  case round =>
    obtain ⟨k, hk, rfl, hok, hB⟩ := hrel
    obtain ⟨wo, rfl⟩ : ∃ wo : World, wo = wr := ⟨_, rfl⟩
    have hk0 : (0 : Int) ≤ (k : Int) := by omega
    have hbd := hok.lst_bd
    have HOK := Lib.hid hok
    clear hok
    by_cases hlt : k < n
    · obtain ⟨a, rfl, ab, c0, c1⟩ := (HIN.out.up hB (Nat.le_refl _)).2 k hlt
      have hki : (k : Int) < (n : Int) := by omega
      by_cases t1 : (S k).1 < 0
      · obtain rfl : G = false := NO.out k hlt (by omega)
        have d1 : decide ((S k).1 < 0) = true := by simpa using t1
        go_wp2_with fail
        go_quiet (fail)
        go_wp2_with fail
        go_ret
        exact ⟨rfl, below_drewN hB _⟩
      · have d1 : decide ((S k).1 < 0) = false := by simpa using t1
        by_cases t2 : (S k).1 > (S k).2
        · obtain rfl : G = false := NO.out k hlt (by omega)
          have d2 : decide ((S k).1 > (S k).2) = true := by simpa using t2
          go_wp2_with fail
          go_quiet (fail)
          go_wp2_with fail
          go_ret
          exact ⟨rfl, below_drewN hB _⟩
        · have d2 : decide ((S k).1 > (S k).2) = false := by simpa using t2
          by_cases t3 : (S k).2 > 12000
          · obtain rfl : G = false := NO.out k hlt (by omega)
            have d3 : decide ((S k).2 > 12000) = true := by simpa using t3
            go_wp2_with fail
            go_quiet (fail)
            go_wp2_with fail
            go_ret
            exact ⟨rfl, below_drewN hB _⟩
          · have d3 : decide ((S k).2 > 12000) = false := by simpa using t3
            by_cases hz : k = 0
            · have hs : SetOk S (k + 1) := HOK.out.snoc ⟨by rw [hz]; show (0 : Int) ≤ _; rw [hz] at t1; omega, by omega, by omega⟩
              have HS := Lib.hid hs
              have d4 : decide (0 < k) = false := by simp [hz]
              clear hs hz
              go_wp2_with fail
              go_quiet (fail)
              go_wp2_with fail
              go_roundw
              case rel => exact ⟨k + 1, by omega, by go_num, HS.out, below_drewN hB _⟩
              case measure => simp [intOf]; omega
            · obtain ⟨a', e', _, c2, c3⟩ := (HIN.out.up hB (Nat.le_refl _)).2 (k - 1) (by omega)
              cases e'
              have hk1 : (1 : Int) ≤ (k : Int) := by omega
              have d4 : decide (0 < k) = true := by simp; omega
              have hl : lst S k = (S (k - 1)).2 + 2 := by
                obtain ⟨m, rfl⟩ : ∃ m, k = m + 1 := ⟨k - 1, by omega⟩
                rfl
              have HL := Lib.hid hl
              clear hz
              have hi1 : IntKind.i64.wrap ((S k).1 - 1) = (S k).1 - 1 := IntWalk.i64_in _ (by omega)
              have hi2 : IntKind.i64.wrap ((k : Int) - 1) = (k : Int) - 1 := IntWalk.i64_in _ (by omega)
              have hi3 : ((k : Int) - 1).toNat = k - 1 := by omega
              have hi4 : 0 ≤ (k : Int) - 1 := by omega
              have hi5 : (k : Int) - 1 < n := by omega
              by_cases t4 : (S k).1 - 1 ≤ (S (k - 1)).2
              · obtain rfl : G = false := NO.out k hlt (by omega)
                have d5 : decide ((S k).1 - 1 ≤ (S (k - 1)).2) = true := by simpa using t4
                clear hl
                go_wp2_with fail
                go_quiet (fail)
                clear hi1 hi2 hi3
                go_wp2_with fail
                go_ret
                exact ⟨rfl, below_drewN hB _⟩
              · have hs : SetOk S (k + 1) := HOK.out.snoc ⟨by omega, by omega, by omega⟩
                have HS := Lib.hid hs
                have d5 : decide ((S k).1 - 1 ≤ (S (k - 1)).2) = false := by simpa using t4
                clear hs hl
                go_wp2_with fail
                go_quiet (fail)
                clear hi1 hi2 hi3
                go_wp2_with fail
                go_roundw
                case rel => exact ⟨k + 1, by omega, by go_num, HS.out, below_drewN hB _⟩
                case measure => simp [intOf]; omega
    · have hki : (n : Int) ≤ (k : Int) := by omega
      obtain rfl : k = n := by omega
      have hg : decide ((k : Int) ≤ 8) = G := by
        cases hG : G with
        | true => have := (HG.out.1 hG).2; simp; omega
        | false =>
          by_cases h8 : k ≤ 8
          · have := HG.out.2 ⟨HOK.out, h8⟩; rw [hG] at this; cases this
          · simp; omega
      have HGG := Lib.hid hg
      clear hg
      go_wp2_with fail
      go_ret
      exact ⟨by rw [HGG.out]; rfl, hB⟩
end Go.Proofs.Ytmeljcbefnojfaa
