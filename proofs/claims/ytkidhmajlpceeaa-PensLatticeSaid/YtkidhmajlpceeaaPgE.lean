import Derived.Test.YtkidhmajlpceeaaPgA
namespace Go.Proofs.Ytkidhmajlpceeaa
open Go.RowKit
def apD (f g : Int) (Z Y : Nat → Int) : Nat → Int
  | 0 => max (f - g) (-(f - g))
  | k + 1 => max (apD f g Z Y k) (max (Z k - Y k) (-(Z k - Y k)))
def abv (f g : Int) (Z Y : Nat → Int) : Nat → Bool
  | 0 => decide (f ≤ g)
  | k + 1 => abv f g Z Y k && decide (Z k ≤ Y k)
theorem apD_le (f g : Int) (Z Y : Nat → Int) (k : Nat) : ∀ d, apD f g Z Y k ≤ apD f g Z Y (k + d)
  | 0 => Int.le_refl _
  | d + 1 => Int.le_trans (apD_le f g Z Y k d) (Int.le_max_left _ _)
theorem abv_le (f g : Int) (Z Y : Nat → Int) (k : Nat) : ∀ d, abv f g Z Y (k + d) = true → abv f g Z Y k = true
  | 0, h => h
  | d + 1, h => abv_le f g Z Y k d (by
    have h' : (abv f g Z Y (k + d) && decide (Z (k + d) ≤ Y (k + d))) = true := h
    simp only [Bool.and_eq_true] at h'; exact h'.1)
theorem lz_even {b s t x y a : Int} (h1 : s - t ≤ a ∧ t - s ≤ a) (h2 : x - y ≤ a ∧ y - x ≤ a) : lz b s x - lz b t y ≤ a ∧ lz b t y - lz b s x ≤ a := by unfold lz; omega
theorem lz_mono {b s t x y : Int} (h1 : s ≤ t) (h2 : x ≤ y) : lz b s x ≤ lz b t y := by unfold lz; omega
theorem shw_even (b f g : Int) (Z Y : Nat → Int) : ∀ k, shw b f Z k - shw b g Y k ≤ apD f g Z Y (k + 1) ∧ shw b g Y k - shw b f Z k ≤ apD f g Z Y (k + 1)
  | 0 => by
    show lz b f (Z 0) - lz b g (Y 0) ≤ max (max (f - g) (-(f - g))) (max (Z 0 - Y 0) (-(Z 0 - Y 0))) ∧ lz b g (Y 0) - lz b f (Z 0) ≤ max (max (f - g) (-(f - g))) (max (Z 0 - Y 0) (-(Z 0 - Y 0)))
    exact lz_even (by omega) (by omega)
  | k + 1 => by
    have ih := shw_even b f g Z Y k
    have e : apD f g Z Y (k + 1 + 1) = max (apD f g Z Y (k + 1)) (max (Z (k + 1) - Y (k + 1)) (-(Z (k + 1) - Y (k + 1)))) := rfl
    show lz b (shw b f Z k) (Z (k + 1)) - lz b (shw b g Y k) (Y (k + 1)) ≤ _ ∧ lz b (shw b g Y k) (Y (k + 1)) - lz b (shw b f Z k) (Z (k + 1)) ≤ _
    rw [e]
    exact lz_even (by omega) (by omega)
theorem shw_mono (b f g : Int) (Z Y : Nat → Int) : ∀ k, abv f g Z Y (k + 1) = true → shw b f Z k ≤ shw b g Y k
  | 0, h => by
    have h' : (decide (f ≤ g) && decide (Z 0 ≤ Y 0)) = true := h
    simp only [Bool.and_eq_true, decide_eq_true_eq] at h'
    exact lz_mono h'.1 h'.2
  | k + 1, h => by
    have h' : (abv f g Z Y (k + 1) && decide (Z (k + 1) ≤ Y (k + 1))) = true := h
    simp only [Bool.and_eq_true, decide_eq_true_eq] at h'
    exact lz_mono (shw_mono b f g Z Y k h'.1) h'.2
theorem even_at (b f g : Int) (Z Y : Nat → Int) {k n : Nat} (hk : k < n) :
    shw b f Z k - shw b g Y k ≤ apD f g Z Y n ∧ shw b g Y k - shw b f Z k ≤ apD f g Z Y n ∧ (abv f g Z Y n = true → shw b f Z k ≤ shw b g Y k) := by
  have h := shw_even b f g Z Y k
  have h2 := apD_le f g Z Y (k + 1) (n - (k + 1))
  have h3 := abv_le f g Z Y (k + 1) (n - (k + 1))
  rw [show k + 1 + (n - (k + 1)) = n by omega] at h2 h3
  exact ⟨Int.le_trans h.1 h2, Int.le_trans h.2 h2, fun e => shw_mono b f g Z Y k (h3 e)⟩
theorem abs_any (z : Int) (w : World) (h : -4611686018427387904 ≤ z ∧ z ≤ 4611686018427387904) :
    Calls Try.prog 60 #[.int .i64 z] w fun e w' => e = .returned (.int .i64 (max z (-z))) ∧ w = w' := by
  have e1 : IntKind.i64.wrap (-z) = -z := IntWalk.i64_in _ (by omega)
  go_enter Try.func60, Try.ntmps60
  go_wp2_with fail
  go_ret
  exact ⟨rfl, rfl⟩
theorem fol_ok {p : Pn} {f : Int} {n : Nat} {Z : Nat → Int} (h : folR p f n Z 0) : p.Ok ∧ Lev f ∧ LsOk Z n := by
  rcases h with ⟨_, e⟩ | ⟨hp, ⟨_, e⟩ | ⟨hf, ⟨_, e⟩ | ⟨hl, _⟩⟩⟩
  · omega
  · omega
  · omega
  · exact ⟨hp, hf, hl⟩
set_option maxRecDepth 100000 in
set_option maxHeartbeats 4000000 in
theorem even_law (p : Pn) (f : Int) (A : Option Addr) (n c : Nat) (Z : Nat → Int) (g : Int) (A2 : Option Addr) (n2 c2 : Nat) (Y : Nat → Int) (w : World) (hin : IntsIn A n Z w.heap.size w) (hin2 : IntsIn A2 n2 Y w.heap.size w) :
    Calls Try.prog 13 #[p.v, .int .i64 f, .slice A n c, .int .i64 g, .slice A2 n2 c2] w fun e w' => e = .returned (.bool true) ∧ Below w.heap.size w w' := by
  have HIN := Lib.hid hin
  have HIN2 := Lib.hid hin2
  have hn := hin.1
  have hn2 := hin2.1
  clear hin hin2
  go_enter Try.func13, Try.ntmps13
  go_wp2_with fail
  refine (awake_any _).mono ?_
  rintro e w2 ⟨rfl, hb2⟩
  have hp2 := (pn_new w p.b p.lo p.hi p.r).up hb2 (by simp)
  have C2 := Lib.hid (nextB (box1 w _) hb2)
  have zp2 := hp2.lt
  have Hp2 := Lib.hid hp2
  clear hb2 hp2
  have KF := Lib.hid fun W => few_any A n c W
  by_cases hf : (n : Int) ≤ 500
  · have df : decide ((n : Int) ≤ 500) = true := by simpa using hf
    rw [df] at KF
    clear df
    have hn5 : n ≤ 1000 := by omega
    by_cases hl : n2 = n
    · subst hl
      go_wp2_with fail
      refine (KF.out _).mono ?_
      rintro e w' ⟨rfl, rfl⟩
      clear KF hf
      obtain ⟨E1, hE1⟩ := folR_ex p f n2 Z
      obtain ⟨E2, hE2⟩ := folR_ex p g n2 Y
      have K1 := Lib.hid (Follow_any p f A n2 c Z E1 w2 ((HIN.out.up C2.out (Nat.le_refl _)).more C2.out.size) hE1)
      have K2 : Hid (∀ W, Below w2.heap.size w2 W → Calls Try.prog 25 #[p.v, .int .i64 g, .slice A2 n2 c2] W fun e w' => LPost W (upTo (shw p.b g Y) n2) E2 e w') := Lib.hid fun W hb => Follow_any p g A2 n2 c2 Y E2 W ((HIN2.out.up (nextB C2.out hb) (Nat.le_refl _)).more (nextB C2.out hb).size) hE2
      have HE1 := Lib.hid hE1
      have HE2 := Lib.hid hE2
      clear hE1 hE2
      obtain ⟨x0, x1, x2, x3⟩ := Hp2.out
      go_wp2_with fail
      refine K1.out.mono ?_
      rintro e w3 hP
      obtain ⟨v3, e3, hb3⟩ := hP.any
      subst e3
      have D3 := Lib.hid hb3
      have HP3 := Lib.hid hP
      clear x0 x1 x2 x3 hb3 hP
      obtain ⟨x0, x1, x2, x3⟩ := Hp2.out.up D3.out zp2
      go_wp2_with fail
      refine (K2.out _ D3.out).mono ?_
      rintro e w4 hP
      obtain ⟨v4, e4, hb4⟩ := hP.any
      subst e4
      have D4 := Lib.hid hb4
      have HP4 := Lib.hid hP
      clear x0 x1 x2 x3 hb4 hP K1 K2
      by_cases h1 : E1 = 0
      · by_cases h2 : E2 = 0
        · subst h1; subst h2
          obtain ⟨hok, hf1, hl1⟩ := fol_ok HE1.out
          obtain ⟨_, hf2, hl2⟩ := fol_ok HE2.out
          obtain ⟨f1, f2⟩ := hf1
          obtain ⟨f3, f4⟩ := hf2
          obtain ⟨b1, b2⟩ := hok.b
          have HV1 := Lib.hid hl1.2.2
          have HV2 := Lib.hid hl2.2.2
          have C4 := Lib.hid (nextB C2.out (nextB D3.out D4.out))
          obtain ⟨v3', e3, hr3⟩ := HP3.out.1 rfl
          cases e3
          obtain ⟨v4', e4, hr4⟩ := HP4.out.1 rfl
          cases e4
          obtain ⟨A3, c3, rfl, hin3⟩ := row_upTo (by have := own_keep hr3.own D4.out; rwa [upTo_len] at this) hn5
          obtain ⟨A4, c4, rfl, hin4⟩ := row_upTo (by have := hr4.own; rwa [upTo_len] at this) hn5
          have HJ3 := Lib.hid hin3
          have HJ4 := Lib.hid hin4
          have HJ1 := Lib.hid (HIN.out.up C4.out (Nat.le_refl _))
          have HJ2 := Lib.hid (HIN2.out.up C4.out (Nat.le_refl _))
          have HEV := Lib.hid fun k (hk : k < n2) => even_at p.b f g Z Y hk
          have HN1 := Lib.hid fun k => shw_near b1 f Z k
          have HN2 := Lib.hid fun k => shw_near b1 g Y k
          have KA := Lib.hid fun z W h => abs_any z W h
          clear hok hl1 hl2 hr3 hr4 hin3 hin4 HP3 HP4 HE1 HE2
          have w1' : IntKind.i64.wrap (f - g) = f - g := IntWalk.i64_in _ (by omega)
          go_wp2_with (go_at_call 60; refine (KA.out _ _ (by omega)).mono ?_; rintro e wA ⟨rfl, rfl⟩)
          clear w1'
          go_loopw [16, 17, 18] (fun a b i wr => ∃ k : Nat, k ≤ n2 ∧ a = .int .i64 (apD f g Z Y k) ∧ b = .bool (abv f g Z Y k) ∧ i = .int .i64 k ∧ Below w4.heap.size w4 wr) (fun _ _ i _ => n2 - (intOf i).toNat)
          case atStart => exact ⟨0, Nat.zero_le _, rfl, rfl, rfl, Below.refl _ _⟩
          case round =>
            obtain ⟨k, hk, rfl, rfl, rfl, hb⟩ := hrel
            obtain ⟨wo, rfl⟩ : ∃ wo : World, wo = wr := ⟨_, rfl⟩
            have HB := Lib.hid hb
            have hk0 : (0 : Int) ≤ (k : Int) := by omega
            clear hb
            by_cases hlt : k < n2
            · obtain ⟨a, rfl, _, c0⟩ := (HJ1.out.up HB.out C4.out.size).2 k hlt
              obtain ⟨a', rfl, _, c1⟩ := (HJ2.out.up HB.out C4.out.size).2 k hlt
              have hki : (k : Int) < (n2 : Int) := by omega
              have v1 := HV1.out k hlt
              have v2 := HV2.out k hlt
              have w2' : IntKind.i64.wrap (Z k - Y k) = Z k - Y k := IntWalk.i64_in _ (by omega)
              have KB := Lib.hid fun W => KA.out (Z k - Y k) W (by omega)
              have ea : apD f g Z Y (k + 1) = max (apD f g Z Y k) (max (Z k - Y k) (-(Z k - Y k))) := rfl
              have HEA := Lib.hid ea
              cases B1 : abv f g Z Y k
              · have HBV := Lib.hid (show abv f g Z Y (k + 1) = false by show (abv f g Z Y k && _) = false; rw [B1]; rfl)
                clear ea v1 v2
                go_wp2_with fail
                go_quiet ((go_at_call 60; exact Calls.quiet_of_same ((KB.out _).mono fun _ _ h => ⟨h.1, h.2.symm⟩)))
                clear w2'
                go_wp2_with fail
                go_quiet (fail)
                go_wp2_with fail
                go_roundw
                case rel => exact ⟨k + 1, by omega, by rw [HEA.out], by rw [HBV.out], by go_num, HB.out.trans (below_drewN (Below.refl _ _) _)⟩
                case measure => simp [intOf]; omega
              · have HBV := Lib.hid (show abv f g Z Y (k + 1) = decide (Z k ≤ Y k) by show (abv f g Z Y k && _) = _; rw [B1]; rfl)
                clear ea v1 v2
                go_wp2_with fail
                go_quiet ((go_at_call 60; exact Calls.quiet_of_same ((KB.out _).mono fun _ _ h => ⟨h.1, h.2.symm⟩)))
                clear w2'
                go_wp2_with fail
                go_quiet (fail)
                go_wp2_with fail
                go_roundw
                case rel => exact ⟨k + 1, by omega, by rw [HEA.out], by rw [HBV.out], by go_num, HB.out.trans (below_drewN (Below.refl _ _) _)⟩
                case measure => simp [intOf]; omega
            · obtain rfl : k = n2 := by omega
              generalize hBB : abv f g Z Y k = BB at *
              have HBB := Lib.hid hBB
              have W4 := Lib.hid HB.out
              clear hBB hk0
              have hki : (k : Int) ≤ (k : Int) := by omega
              go_wp2_with fail
              go_loopw [19] (fun i wr => ∃ j : Nat, j ≤ k ∧ i = .int .i64 j ∧ Below w4.heap.size w4 wr) (fun i _ => k - (intOf i).toNat)
              case atStart => exact ⟨0, Nat.zero_le _, rfl, HB.out⟩
              case round =>
                obtain ⟨j, hj, rfl, hb⟩ := hrel
                obtain ⟨w5, rfl⟩ : ∃ w5 : World, w5 = wr := ⟨_, rfl⟩
                have HB2 := Lib.hid hb
                clear hb
                have hj0 : (0 : Int) ≤ (j : Int) := by omega
                by_cases hlt2 : j < k
                · obtain ⟨a, rfl, _, c0⟩ := (HJ3.out.up HB2.out (Nat.le_refl _)).2 j hlt2
                  obtain ⟨a', rfl, _, c1⟩ := (HJ4.out.up HB2.out (Nat.le_refl _)).2 j hlt2
                  have hji : (j : Int) < (k : Int) := by omega
                  obtain ⟨hxy1, hxy2, hm⟩ := HEV.out j hlt2
                  have m1 := HN1.out j
                  have m2 := HN2.out j
                  have v1 := HV1.out j hlt2
                  have v2 := HV2.out j hlt2
                  generalize shw p.b f Z j = X at *
                  generalize shw p.b g Y j = V at *
                  have w3' : IntKind.i64.wrap (X - V) = X - V := IntWalk.i64_in _ (by omega)
                  have KB := Lib.hid fun W => KA.out (X - V) W (by omega)
                  have t1 : decide (apD f g Z Y k < max (X - V) (-(X - V))) = false := decide_eq_false (by omega)
                  clear v1 v2
                  cases BB
                  · clear hxy1 hxy2 hm m1 m2
                    go_wp2_with fail
                    go_quiet ((go_at_call 60; exact Calls.quiet_of_same ((KB.out _).mono fun _ _ h => ⟨h.1, h.2.symm⟩)))
                    clear w3'
                    go_wp2_with fail
                    go_roundw
                    case rel => exact ⟨j + 1, by omega, by go_num, HB2.out.trans (below_drewN (Below.refl _ _) _)⟩
                    case measure => simp [intOf]; omega
                  · have t2 : decide (V < X) = false := decide_eq_false (by have := hm rfl; omega)
                    clear hxy1 hxy2 hm m1 m2
                    go_wp2_with fail
                    go_quiet ((go_at_call 60; exact Calls.quiet_of_same ((KB.out _).mono fun _ _ h => ⟨h.1, h.2.symm⟩)))
                    clear w3'
                    go_wp2_with fail
                    go_roundw
                    case rel => exact ⟨j + 1, by omega, by go_num, HB2.out.trans (below_drewN (Below.refl _ _) _)⟩
                    case measure => simp [intOf]; omega
                · have hji : (k : Int) ≤ (j : Int) := by omega
                  go_wp2_with fail
                  go_ret
                  exact ⟨rfl, nextB C4.out HB2.out⟩
        · have g2 : (E2 == 0) = false := by simpa using h2
          subst h1
          clear h2
          go_wp2_with fail
          go_ret
          exact ⟨rfl, nextB C2.out (nextB D3.out D4.out)⟩
      · have g1 : (E1 == 0) = false := by simpa using h1
        clear h1
        go_wp2_with fail
        go_ret
        exact ⟨rfl, nextB C2.out (nextB D3.out D4.out)⟩
    · have dl : ((n2 : Int) == (n : Int)) = false := by simpa using (by omega : ¬ (n2 : Int) = n)
      have dl2 : (n2 == n) = false := by simpa using hl
      go_wp2_with fail
      refine (KF.out _).mono ?_
      rintro e w' ⟨rfl, rfl⟩
      go_wp2_with fail
      go_ret
      exact ⟨rfl, C2.out⟩
  · have df : decide ((n : Int) ≤ 500) = false := by simpa using hf
    rw [df] at KF
    clear df hf
    go_wp2_with fail
    refine (KF.out _).mono ?_
    rintro e w' ⟨rfl, rfl⟩
    go_wp2_with fail
    go_ret
    exact ⟨rfl, C2.out⟩
end Go.Proofs.Ytkidhmajlpceeaa
