import Derived.Test.YtkidhmajlpceeaaAwk
namespace Go.Proofs.Ytkidhmajlpceeaa
open Go.RowKit
theorem Fw_in (p : Pn) (Z : Nat → Int) : ∀ k, (Ofs p Z k).1 ≤ (Fw p Z k).1 ∧ (Fw p Z k).2 ≤ (Ofs p Z k).2
  | 0 => ⟨Int.le_refl _, Int.le_refl _⟩
  | k + 1 => by
    show _ ≤ (lft p.r (Ofs p Z (k + 1)) (Fw p Z k) (Z (k + 1) - Z k)).1 ∧ (lft p.r (Ofs p Z (k + 1)) (Fw p Z k) (Z (k + 1) - Z k)).2 ≤ _
    unfold lft
    exact ⟨Int.le_max_left _ _, Int.min_le_left _ _⟩
theorem Gs_in (p : Pn) (Z : Nat → Int) (n i : Nat) (hi : i < n) : (Ofs p Z i).1 ≤ (Gs p Z n i).1 ∧ (Gs p Z n i).2 ≤ (Ofs p Z i).2 := by
  obtain ⟨f1, f2⟩ := Fw_in p Z i
  by_cases h : i = n - 1
  · rw [h, Gs_last]; rw [h] at f1 f2; exact ⟨f1, f2⟩
  · rw [Gs_step p Z n i (by omega)]
    unfold lft
    exact ⟨Int.le_trans f1 (Int.le_max_left _ _), Int.le_trans (Int.min_le_left _ _) f2⟩
/-- what a reading tells of the real level -/
theorem Rls_in {p : Pn} {Z : Nat → Int} {n i : Nat} (h : p.Ok) (hf : Ful (Gs p Z n) n) (hi : i < n) :
    (Rls p Z n i).1 ≤ (Rls p Z n i).2 ∧ Z i - p.b ≤ (Rls p Z n i).1 ∧ (Rls p Z n i).2 ≤ Z i + p.b ∧ (Z (i - 1) < Z i → Rls p Z n i = (Z i + p.b, Z i + p.b)) ∧ (Z i < Z (i - 1) → Rls p Z n i = (Z i - p.b, Z i - p.b)) := by
  obtain ⟨g1, g2⟩ := Gs_in p Z n i hi
  have g3 := hf i hi
  have hb := h.b
  unfold Ofs pul at g1 g2
  unfold Rls
  generalize (Gs p Z n i).1 = x at *
  generalize (Gs p Z n i).2 = y at *
  by_cases h1 : 0 < Z i - Z (i - 1)
  · simp only [h1, if_true] at g1 g2
    refine ⟨by simp only; omega, by simp only; omega, by simp only; omega, fun _ => by rw [show x = p.b by omega, show y = p.b by omega, Int.add_comm], fun _ => by omega⟩
  · by_cases h2 : Z i - Z (i - 1) < 0
    · simp only [h1, h2, if_true, if_false] at g1 g2
      refine ⟨by simp only; omega, by simp only; omega, by simp only; omega, fun _ => by omega, fun _ => by rw [show x = -p.b by omega, show y = -p.b by omega, show -p.b + Z i = Z i - p.b by omega]⟩
    · simp only [h1, h2, if_false] at g1 g2
      refine ⟨by simp only; omega, by simp only; omega, by simp only; omega, fun _ => by omega, fun _ => by omega⟩
set_option maxRecDepth 100000 in
set_option maxHeartbeats 4000000 in
theorem drift_law (p : Pn) (A : Option Addr) (n c : Nat) (Z : Nat → Int) (w : World) (hin : IntsIn A n Z w.heap.size w) :
    Calls Try.prog 18 #[p.v, .slice A n c] w fun e w' => e = .returned (.bool true) ∧ Below w.heap.size w w' := by
  have HIN := Lib.hid hin
  have hn := hin.1
  clear hin
  go_enter Try.func18, Try.ntmps18
  go_wp2_with fail
  refine (awake_any _).mono ?_
  rintro e w2 ⟨rfl, hb2⟩
  have p2 := (pn_new w p.b p.lo p.hi p.r).up hb2 (by simp)
  have C2 := Lib.hid (nextB (box1 w _) hb2)
  have z2 := p2.lt
  obtain ⟨q0, q1, q2, q3⟩ := p2
  clear hb2
  by_cases hf : (n : Int) ≤ 500
  · have KF := Lib.hid fun W => few_any A n c W
    have df : decide ((n : Int) ≤ 500) = true := by simpa using hf
    rw [df] at KF
    clear df
    go_wp2_with fail
    refine (KF.out _).mono ?_
    rintro e w' ⟨rfl, rfl⟩
    clear hf KF
    obtain ⟨E, hE⟩ := reaR_ex p n Z
    have K := Lib.hid (Reals_any p A n c Z E w2 ((HIN.out.up C2.out (Nat.le_refl _)).more C2.out.size) hE)
    have HE := Lib.hid hE
    clear hE
    go_wp2_with fail
    refine K.out.mono ?_
    rintro e w3 ⟨k1, k2⟩
    by_cases h0 : E = 0
    · obtain ⟨g, cap, rfl, hg, hs, hb3⟩ := k1 h0
      obtain ⟨hok, hls, hful⟩ : p.Ok ∧ LsOk Z n ∧ Ful (Gs p Z n) n := by
        rcases HE.out with ⟨_, e⟩ | ⟨h, ⟨_, e⟩ | ⟨hl, ⟨_, e⟩ | ⟨hf, _⟩⟩⟩
        · omega
        · omega
        · omega
        · exact ⟨h, hl, hf⟩
      obtain ⟨b1, b2⟩ := hok.b
      obtain ⟨l1, l2, l3⟩ := hls
      have RI := Lib.hid fun i (hi : i < n) => Rls_in hok hful hi
      have HV := Lib.hid l3
      have HS := Lib.hid hs
      have B3 := Lib.hid hb3
      have HI3 := Lib.hid ((HIN.out.up (nextB C2.out hb3) (Nat.le_refl _)))
      have c0 : w3.cell? ⟨w.heap.size, 0, none⟩ = some (.int .i64 p.b) := cell_up hb3 z2 q0
      clear k1 k2 hs hb3 q0 q1 q2 q3 hok hful l3 h0 hg HE K
      go_wp2_with fail
      go_loopw [8] (fun i wr => ∃ k : Nat, k ≤ n ∧ i = .int .i64 k ∧ ∃ q, wr = w3.drewN q) (fun i _ => n - (intOf i).toNat)
      case atStart => exact ⟨0, Nat.zero_le _, rfl, 0, rfl⟩
      case round =>
        obtain ⟨k, hk, rfl, q, rfl⟩ := hrel
        have hk0 : (0 : Int) ≤ (k : Int) := by omega
        by_cases hlt : k < n
        · have s0 := HS.out.c0 k hlt
          have s1 := HS.out.c1 k hlt
          obtain ⟨a, rfl, _, i0⟩ := HI3.out.2 k hlt
          obtain ⟨r1, r2, r3, r4, r5⟩ := RI.out k hlt
          have v1 := HV.out k hlt
          have w3' : IntKind.i64.wrap (Z k - p.b) = Z k - p.b := IntWalk.i64_in _ (by omega)
          have w4' : IntKind.i64.wrap (Z k + p.b) = Z k + p.b := IntWalk.i64_in _ (by omega)
          have w5' : IntKind.i64.wrap ((k : Int) - 1) = (k : Int) - 1 := IntWalk.i64_in _ (by omega)
          have hki : (k : Int) < (n : Int) := by omega
          clear HIN
          by_cases hk1 : k = 0
          · have t0 : decide (0 < k) = false := decide_eq_false (by omega)
            clear r4 r5 hk1
            generalize (Rls p Z n k).1 = x at s0 r1 r2
            generalize (Rls p Z n k).2 = y at s1 r1 r3
            have t1 : decide (y < x) = false := decide_eq_false (by omega)
            have t2 : decide (x < Z k - p.b) = false := decide_eq_false (by omega)
            have t3 : decide (Z k + p.b < y) = false := decide_eq_false (by omega)
            clear r1 r2 r3 v1
            go_wp2_with fail
            go_quiet (fail)
            go_wp2_with fail
            go_quiet (fail)
            go_wp2_with fail
            go_quiet (fail)
            clear w3' w4' w5'
            go_wp2_with fail
            go_roundw
            case rel => exact ⟨k + 1, by omega, by go_num, _, rfl⟩
            case measure => simp [intOf]; omega
          · obtain ⟨a', e', _, j0⟩ := HI3.out.2 (k - 1) (by omega)
            cases e'
            have t0 : decide (0 < k) = true := decide_eq_true (by omega)
            have u1 : (0 : Int) ≤ (k : Int) - 1 := by omega
            have u2 : ((k : Int) - 1).toNat = k - 1 := by omega
            have u3 : (k : Int) - 1 < n := by omega
            rcases Int.lt_trichotomy (Z (k - 1)) (Z k) with hA | hA | hA
            · rw [r4 hA] at s0 s1
              simp only at s0 s1
              have t4 : decide (Z (k - 1) < Z k) = true := decide_eq_true hA
              have t5 : decide (Z k < Z (k - 1)) = false := decide_eq_false (by omega)
              have t1 : decide (Z k + p.b < Z k + p.b) = false := decide_eq_false (by omega)
              have t2 : decide (Z k + p.b < Z k - p.b) = false := decide_eq_false (by omega)
              have t3 : decide (Z k + p.b < Z k + p.b) = false := decide_eq_false (by omega)
              clear r1 r2 r3 r4 r5 v1 hA
              go_wp2_with fail
              go_quiet (fail)
              go_wp2_with fail
              go_quiet (fail)
              go_wp2_with fail
              go_quiet (fail)
              clear w3' w4' w5'
              go_wp2_with fail
              go_roundw
              case rel => exact ⟨k + 1, by omega, by go_num, _, rfl⟩
              case measure => simp [intOf]; omega
            · clear r4 r5
              generalize (Rls p Z n k).1 = x at s0 r1 r2
              generalize (Rls p Z n k).2 = y at s1 r1 r3
              have t4 : decide (Z (k - 1) < Z k) = false := decide_eq_false (by omega)
              have t5 : decide (Z k < Z (k - 1)) = false := decide_eq_false (by omega)
              have t1 : decide (y < x) = false := decide_eq_false (by omega)
              have t2 : decide (x < Z k - p.b) = false := decide_eq_false (by omega)
              have t3 : decide (Z k + p.b < y) = false := decide_eq_false (by omega)
              clear r1 r2 r3 v1 hA
              go_wp2_with fail
              go_quiet (fail)
              go_wp2_with fail
              go_quiet (fail)
              go_wp2_with fail
              go_quiet (fail)
              clear w3' w4' w5'
              go_wp2_with fail
              go_roundw
              case rel => exact ⟨k + 1, by omega, by go_num, _, rfl⟩
              case measure => simp [intOf]; omega
            · rw [r5 hA] at s0 s1
              simp only at s0 s1
              have t4 : decide (Z (k - 1) < Z k) = false := decide_eq_false (by omega)
              have t5 : decide (Z k < Z (k - 1)) = true := decide_eq_true hA
              have t1 : decide (Z k - p.b < Z k - p.b) = false := decide_eq_false (by omega)
              have t2 : decide (Z k - p.b < Z k - p.b) = false := decide_eq_false (by omega)
              have t3 : decide (Z k + p.b < Z k - p.b) = false := decide_eq_false (by omega)
              clear r1 r2 r3 r4 r5 v1 hA
              go_wp2_with fail
              go_quiet (fail)
              go_wp2_with fail
              go_quiet (fail)
              go_wp2_with fail
              go_quiet (fail)
              clear w3' w4' w5'
              go_wp2_with fail
              go_roundw
              case rel => exact ⟨k + 1, by omega, by go_num, _, rfl⟩
              case measure => simp [intOf]; omega
        · have hki : (n : Int) ≤ (k : Int) := by omega
          go_wp2_with fail
          go_ret
          exact ⟨rfl, below_drewN (nextB C2.out B3.out) q⟩
    · obtain ⟨rfl, hb3⟩ := k2 h0
      have B3 := Lib.hid hb3
      have e0 : (E == 0) = false := by simpa using h0
      clear k1 k2 hb3 h0 HE K
      go_wp2_with fail
      go_ret
      exact ⟨rfl, nextB C2.out B3.out⟩
  · have KF := Lib.hid fun W => few_any A n c W
    have df : decide ((n : Int) ≤ 500) = false := by simpa using hf
    rw [df] at KF
    clear df hf
    go_wp2_with fail
    refine (KF.out _).mono ?_
    rintro e w' ⟨rfl, rfl⟩
    go_wp2_with fail
    go_ret
    exact ⟨rfl, C2.out⟩
end Go.Proofs.Ytkidhmajlpceeaa
