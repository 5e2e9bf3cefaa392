import Derived.Test.YtkidhmajlpceeaaPgU
namespace Go.Proofs.Ytkidhmajlpceeaa
open Go.RowKit
theorem abs_gen (z : Int) (w : World) (h : -9223372036854775807 ≤ z ∧ z ≤ 9223372036854775807) :
    Calls Try.prog 60 #[.int .i64 z] w fun e w' => e = .returned (.int .i64 (max z (-z))) ∧ w = w' := by
  have e1 : IntKind.i64.wrap (-z) = -z := IntWalk.i64_in _ (by omega)
  go_enter Try.func60, Try.ntmps60
  go_wp2_with fail
  go_ret
  exact ⟨rfl, rfl⟩
theorem abs_min (z : Int) (hz : z = -9223372036854775808) (w : World) :
    Calls Try.prog 60 #[.int .i64 z] w fun e w' => e = .returned (.int .i64 z) ∧ w = w' := by
  have e1 : IntKind.i64.wrap (-z) = z := by subst hz; decide
  have e2 : max z z = z := by omega
  clear hz
  go_enter Try.func60, Try.ntmps60
  go_wp2_with fail
  go_ret
  exact ⟨rfl, rfl⟩
set_option maxRecDepth 100000 in
set_option maxHeartbeats 4000000 in
theorem up_law (p : Pn) (f : Int) (A : Option Addr) (n c : Nat) (Z : Nat → Int) (w : World) (hin : IntsIn A n Z w.heap.size w) (hf : -9223372036854775808 ≤ f ∧ f ≤ 9223372036854775807) :
    Calls Try.prog 17 #[p.v, .int .i64 f, .slice A n c] w fun e w' => e = .returned (.bool true) ∧ Below w.heap.size w w' := by
  by_cases hn : n ≤ 500
  · by_cases ha : (-100000 ≤ f ∧ f ≤ 100000) ∨ f = -9223372036854775808
    · have hA : ∃ av, av ≤ 100000 ∧ ∀ W, Calls Try.prog 60 #[.int .i64 f] W fun e w' => e = .returned (.int .i64 av) ∧ W = w' := by
        rcases ha with ha | ha
        · exact ⟨_, by omega, fun W => abs_gen f W (by omega)⟩
        · exact ⟨f, by omega, fun W => abs_min f ha W⟩
      obtain ⟨av, hav, hA⟩ := hA
      by_cases hb : ∀ i, i < n → -100000 ≤ Z i ∧ Z i ≤ 100000
      · rcases ha with ha | ha
        · exact up_mid p f (-f) av A n c Z w hin (IntWalk.i64_in _ (by omega)) hav hA (fun E h => folR_ng h) (fun h i => (shw_ng (fol_ok h).1.b.1 f Z i).symm) hn hb
        · have hl : ¬ Lev f := by unfold Lev; omega
          refine up_mid p f f av A n c Z w hin (by subst ha; decide) hav hA (fun E h => ?_) (fun h => absurd (fol_ok h).2.1 hl) hn hb
          rcases h with h | ⟨hp, h | ⟨h, _⟩⟩
          · exact .inl h
          · exact .inr ⟨hp, .inl h⟩
          · exact absurd h hl
      · obtain ⟨j, j1, j2, j3⟩ : ∃ j, j < n ∧ (∀ i, i < j → -100000 ≤ Z i ∧ Z i ≤ 100000) ∧ ¬ (-100000 ≤ Z j ∧ Z j ≤ 100000) := by
          clear hin hA
          induction n with
          | zero => exact absurd (fun i hi => absurd hi (by omega)) hb
          | succ m ih =>
            by_cases hm : ∀ i, i < m → -100000 ≤ Z i ∧ Z i ≤ 100000
            · refine ⟨m, by omega, hm, fun hx => hb fun i hi => ?_⟩
              by_cases e : i = m
              · rw [e]; exact hx
              · exact hm i (by omega)
            · obtain ⟨j, h1, h2, h3⟩ := ih (by omega) hm
              exact ⟨j, by omega, h2, h3⟩
        have HIN := Lib.hid hin
        have HJ := Lib.hid j2
        have HB := Lib.hid j3
        have hn63 := hin.1
        have KF : Hid (∀ W, Calls Try.prog 20 #[.slice A n c] W fun e w' => e = .returned (.bool true) ∧ W = w') :=
          Lib.hid fun W => by have := few_any A n c W; rwa [show decide ((n : Int) ≤ 500) = true from decide_eq_true (by omega)] at this
        have KA := Lib.hid hA
        have dA : decide (100000 < av) = false := decide_eq_false (by omega)
        clear hin hb j2 j3 ha hf hA hav
        go_enter Try.func17, Try.ntmps17
        go_wp2_with fail
        refine (awake_any _).mono ?_
        rintro e w2 ⟨rfl, hb2⟩
        have C2 := Lib.hid (nextB (box1 w _) hb2)
        clear hb2
        go_wp2_with (first | (go_at_call 20; refine (KF.out _).mono ?_; rintro e w' ⟨rfl, rfl⟩) | (go_at_call 60; refine (KA.out _).mono ?_; rintro e w' ⟨rfl, rfl⟩))
        go_loopw [8] (fun i wr => ∃ k : Nat, k ≤ j ∧ i = .int .i64 k ∧ Below w2.heap.size w2 wr) (fun i _ => n - (intOf i).toNat)
        case atStart => exact ⟨0, Nat.zero_le _, rfl, Below.refl _ _⟩
        case round =>
          obtain ⟨k, hk, rfl, hb⟩ := hrel
          obtain ⟨w3, rfl⟩ : ∃ w3 : World, w3 = wr := ⟨_, rfl⟩
          have D3 := Lib.hid hb
          have C3 := Lib.hid (nextB C2.out hb)
          clear hb
          have hk0 : (0 : Int) ≤ (k : Int) := by omega
          obtain ⟨a, rfl, _, c0⟩ := (HIN.out.up C3.out (Nat.le_refl _)).2 k (by omega)
          have hki : (k : Int) < (n : Int) := by omega
          by_cases hkj : k < j
          · have v1 := HJ.out k hkj
            have t1 : decide (Z k < -100000) = false := decide_eq_false (by omega)
            have t2 : decide (100000 < Z k) = false := decide_eq_false (by omega)
            clear v1
            go_wp2_with fail
            go_roundw
            case rel => exact ⟨k + 1, by omega, by go_num, D3.out⟩
            case measure => simp [intOf]; omega
          · obtain rfl : k = j := by omega
            have hbad := HB.out
            by_cases g1 : Z k < -100000
            · have t1 : decide (Z k < -100000) = true := decide_eq_true g1
              clear hbad g1
              go_wp2_with fail
              go_ret
              exact ⟨rfl, C3.out⟩
            · have t1 : decide (Z k < -100000) = false := decide_eq_false g1
              have t2 : decide (100000 < Z k) = true := decide_eq_true (by omega)
              clear hbad g1
              go_wp2_with fail
              go_ret
              exact ⟨rfl, C3.out⟩
    · have KF : Hid (∀ W, Calls Try.prog 20 #[.slice A n c] W fun e w' => e = .returned (.bool true) ∧ W = w') :=
        Lib.hid fun W => by have := few_any A n c W; rwa [show decide ((n : Int) ≤ 500) = true from decide_eq_true (by omega)] at this
      have KA := Lib.hid fun W => abs_gen f W (by omega)
      have dA : decide (100000 < max f (-f)) = true := decide_eq_true (by omega)
      clear hin ha hf
      go_enter Try.func17, Try.ntmps17
      go_wp2_with fail
      refine (awake_any _).mono ?_
      rintro e w2 ⟨rfl, hb2⟩
      have C2 := Lib.hid (nextB (box1 w _) hb2)
      clear hb2
      go_wp2_with (first | (go_at_call 20; refine (KF.out _).mono ?_; rintro e w' ⟨rfl, rfl⟩) | (go_at_call 60; refine (KA.out _).mono ?_; rintro e w' ⟨rfl, rfl⟩))
      go_ret
      exact ⟨rfl, C2.out⟩
  · have KF : Hid (∀ W, Calls Try.prog 20 #[.slice A n c] W fun e w' => e = .returned (.bool false) ∧ W = w') :=
      Lib.hid fun W => by have := few_any A n c W; rwa [show decide ((n : Int) ≤ 500) = false from decide_eq_false (by omega)] at this
    clear hin hf
    go_enter Try.func17, Try.ntmps17
    go_wp2_with fail
    refine (awake_any _).mono ?_
    rintro e w2 ⟨rfl, hb2⟩
    have C2 := Lib.hid (nextB (box1 w _) hb2)
    clear hb2
    go_wp2_with (go_at_call 20; refine (KF.out _).mono ?_; rintro e w' ⟨rfl, rfl⟩)
    go_ret
    exact ⟨rfl, C2.out⟩
end Go.Proofs.Ytkidhmajlpceeaa
