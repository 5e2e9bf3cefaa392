import Derived.Test.YtkidhmajlpceeaaPgE
namespace Go.Proofs.Ytkidhmajlpceeaa
open Go.RowKit
/-- the sum of the differences of neighbours, after some steps -/
def wy (Z : Nat → Int) : Nat → Int
  | 0 => 0
  | d + 1 => wy Z d + max (Z (d + 1) - Z d) (-(Z (d + 1) - Z d))
theorem wy_bd {Z : Nat → Int} {B : Int} (n : Nat) (h : ∀ i, i < n → -B ≤ Z i ∧ Z i ≤ B) : ∀ d, d < n → 0 ≤ wy Z d ∧ wy Z d ≤ 2 * B * d
  | 0, _ => by simp [wy]
  | d + 1, hd => by
    have ih := wy_bd n h d (by omega)
    have h1 := h d (by omega)
    have h2 := h (d + 1) hd
    have e : (2 * B) * ((d + 1 : Nat) : Int) = 2 * B * d + 2 * B := by rw [Int.natCast_add, Int.mul_add]; simp
    show 0 ≤ wy Z d + max (Z (d + 1) - Z d) (-(Z (d + 1) - Z d)) ∧ wy Z d + max (Z (d + 1) - Z d) (-(Z (d + 1) - Z d)) ≤ _
    rw [e]
    generalize 2 * B * (d : Int) = t at *
    omega
theorem lz_lazy {b a z y y2 : Int} (h : z - b ≤ y2 ∧ y2 ≤ z + b) : max (lz b a z - a) (-(lz b a z - a)) + max (lz b a z - y2) (-(lz b a z - y2)) ≤ max (a - y) (-(a - y)) + max (y2 - y) (-(y2 - y)) := by unfold lz; omega
theorem lazy_le {b f : Int} {Z Y : Nat → Int} {n : Nat} (h : ∀ i, i < n → Z i - b ≤ Y i ∧ Y i ≤ Z i + b) (h0 : shw b f Z 0 = Y 0) : ∀ d, d < n → wy (shw b f Z) d + max (shw b f Z d - Y d) (-(shw b f Z d - Y d)) ≤ wy Y d
  | 0, _ => by rw [h0]; simp [wy]
  | d + 1, hd => by
    have ih := lazy_le h h0 d (by omega)
    have h1 := lz_lazy (a := shw b f Z d) (y := Y d) (h (d + 1) hd)
    show wy (shw b f Z) d + max (lz b (shw b f Z d) (Z (d + 1)) - shw b f Z d) (-(lz b (shw b f Z d) (Z (d + 1)) - shw b f Z d)) + max (lz b (shw b f Z d) (Z (d + 1)) - Y (d + 1)) (-(lz b (shw b f Z d) (Z (d + 1)) - Y (d + 1))) ≤ wy Y d + max (Y (d + 1) - Y d) (-(Y (d + 1) - Y d))
    generalize max (lz b (shw b f Z d) (Z (d + 1)) - shw b f Z d) (-(lz b (shw b f Z d) (Z (d + 1)) - shw b f Z d)) = m1 at *
    generalize max (lz b (shw b f Z d) (Z (d + 1)) - Y (d + 1)) (-(lz b (shw b f Z d) (Z (d + 1)) - Y (d + 1))) = m2 at *
    generalize max (shw b f Z d - Y d) (-(shw b f Z d - Y d)) = m3 at *
    generalize max (Y (d + 1) - Y d) (-(Y (d + 1) - Y d)) = m4 at *
    omega
set_option maxRecDepth 100000 in
set_option maxHeartbeats 1000000 in
theorem way_any (A : Option Addr) (n c : Nat) (Z : Nat → Int) (w : World) (hin : IntsIn A n Z w.heap.size w) (h0 : 1 ≤ n) (hn : n ≤ 1000) (hb : ∀ i, i < n → -100000 ≤ Z i ∧ Z i ≤ 100000) :
    Calls Try.prog 59 #[.slice A n c] w fun e w' => e = .returned (.int .i64 (wy Z (n - 1))) ∧ Below w.heap.size w w' := by
  have HIN := Lib.hid hin
  have HB := Lib.hid hb
  have HW := Lib.hid fun d (hd : d < n) => wy_bd n hb d hd
  clear hin hb
  have KA := Lib.hid fun z W h => abs_any z W h
  go_enter Try.func59, Try.ntmps59
  go_wp2_with fail
  go_loopw [3, 4] (fun a i wr => ∃ d : Nat, d + 1 ≤ n ∧ a = .int .i64 (wy Z d) ∧ i = .int .i64 ((d : Int) + 1) ∧ Below w.heap.size w wr) (fun _ i _ => n - (intOf i).toNat)
  case atStart => exact ⟨0, h0, rfl, rfl, Below.refl _ _⟩
  case round =>
    obtain ⟨d, hd, rfl, rfl, hb⟩ := hrel
    obtain ⟨wo, rfl⟩ : ∃ wo : World, wo = wr := ⟨_, rfl⟩
    have HBW := Lib.hid hb
    clear hb
    have hd0 : (0 : Int) ≤ (d : Int) := by omega
    by_cases hlt : d + 1 < n
    · obtain ⟨a, rfl, _, c0⟩ := (HIN.out.up HBW.out (Nat.le_refl _)).2 d (by omega)
      obtain ⟨a', e', _, c1⟩ := (HIN.out.up HBW.out (Nat.le_refl _)).2 (d + 1) hlt
      cases e'
      rw [Addr.add, if_neg (by omega : ¬ d + 1 = 0)] at c1
      have hdi : (d : Int) + 1 < (n : Int) := by omega
      have u1 : (0 : Int) ≤ (d : Int) + 1 := by omega
      have u2 : ((d : Int) + 1).toNat = d + 1 := by omega
      have u3 : (d : Int) < n := by omega
      have v1 := HB.out d (by omega)
      have v2 := HB.out (d + 1) hlt
      have v3 := HW.out d (by omega)
      have v4 := HW.out (d + 1) hlt
      have e1 : wy Z (d + 1) = wy Z d + max (Z (d + 1) - Z d) (-(Z (d + 1) - Z d)) := rfl
      have e2 : 2 * (100000 : Int) * ((d + 1 : Nat) : Int) ≤ 200000000 := by omega
      have w1' : IntKind.i64.wrap (Z (d + 1) - Z d) = Z (d + 1) - Z d := IntWalk.i64_in _ (by omega)
      have w2' : IntKind.i64.wrap (wy Z d + max (Z (d + 1) - Z d) (-(Z (d + 1) - Z d))) = wy Z d + max (Z (d + 1) - Z d) (-(Z (d + 1) - Z d)) := by rw [e1] at v4; exact IntWalk.i64_in _ (by omega)
      have w3' : IntKind.i64.wrap (d : Int) = (d : Int) := IntWalk.i64_in _ (by omega)
      have KB := Lib.hid fun W => KA.out (Z (d + 1) - Z d) W (by omega)
      have HE := Lib.hid e1
      clear v1 v2 v3 v4 e1 e2
      go_wp2_with fail
      go_quiet ((go_at_call 60; exact Calls.quiet_of_same ((KB.out _).mono fun _ _ h => ⟨h.1, h.2.symm⟩)))
      clear w1' w2' w3'
      go_wp2_with fail
      go_roundw
      case rel => exact ⟨d + 1, by omega, by rw [HE.out], by simp, HBW.out.trans (below_drewN (Below.refl _ _) _)⟩
      case measure => simp [intOf]; omega
    · obtain rfl : n = d + 1 := by omega
      go_wp2_with fail
      go_ret
      exact ⟨rfl, HBW.out⟩
set_option maxRecDepth 100000 in
set_option maxHeartbeats 4000000 in
theorem lazy_law (p : Pn) (f : Int) (A : Option Addr) (n c : Nat) (Z : Nat → Int) (A2 : Option Addr) (n2 c2 : Nat) (Y : Nat → Int) (w : World) (hin : IntsIn A n Z w.heap.size w) (hin2 : IntsIn A2 n2 Y w.heap.size w) :
    Calls Try.prog 10 #[p.v, .int .i64 f, .slice A n c, .slice A2 n2 c2] w fun e w' => e = .returned (.bool true) ∧ Below w.heap.size w w' := by
  have HIN := Lib.hid hin
  have HIN2 := Lib.hid hin2
  have hn := hin.1
  have hn2 := hin2.1
  clear hin hin2
  go_enter Try.func10, Try.ntmps10
  go_wp2_with fail
  refine (awake_any _).mono ?_
  rintro e w2 ⟨rfl, hb2⟩
  have hp2 := (pn_new w p.b p.lo p.hi p.r).up hb2 (by simp)
  have C2 := Lib.hid (nextB (box1 w _) hb2)
  have zp2 := hp2.lt
  have Hp2 := Lib.hid hp2
  clear hb2 hp2
  have KF := Lib.hid fun W => few_any A n c W
  by_cases hf : (n : Int) ≤ 500
  · have df : decide ((n : Int) ≤ 500) = true := by simpa using hf
    rw [df] at KF
    clear df
    have hn5 : n ≤ 1000 := by omega
    by_cases hl : n2 = n
    · subst hl
      go_wp2_with fail
      refine (KF.out _).mono ?_
      rintro e w' ⟨rfl, rfl⟩
      clear KF hf
      obtain ⟨E1, hE1⟩ := folR_ex p f n2 Z
      have K1 := Lib.hid (Follow_any p f A n2 c Z E1 w2 ((HIN.out.up C2.out (Nat.le_refl _)).more C2.out.size) hE1)
      have HE1 := Lib.hid hE1
      clear hE1
      obtain ⟨x0, x1, x2, x3⟩ := Hp2.out
      go_wp2_with fail
      refine K1.out.mono ?_
      rintro e w3 hP
      obtain ⟨v3, e3, hb3⟩ := hP.any
      subst e3
      have D3 := Lib.hid hb3
      have HP3 := Lib.hid hP
      have C3 := Lib.hid (nextB C2.out D3.out)
      clear x0 x1 x2 x3 hb3 hP K1
      by_cases h1 : E1 = 0
      · subst h1
        obtain ⟨hok, hf1, hl1⟩ := fol_ok HE1.out
        obtain ⟨f1, f2⟩ := hf1
        obtain ⟨b1, b2⟩ := hok.b
        have l1 := hl1.1
        have hs0 : shw p.b f Z 0 = f := by
          rcases HE1.out with ⟨_, e⟩ | ⟨hp, ⟨_, e⟩ | ⟨_, ⟨_, e⟩ | ⟨_, ⟨o1, _⟩ | ⟨_, e⟩⟩⟩⟩
          · omega
          · omega
          · omega
          · have a0 : -p.b ≤ Z 0 - f ∧ Z 0 - f ≤ p.b := o1 0 (by omega)
            show lz p.b f (Z 0) = f
            unfold lz; omega
          · omega
        have HV1 := Lib.hid hl1.2.2
        have HS0 := Lib.hid hs0
        obtain ⟨v3', e3, hr3⟩ := HP3.out.1 rfl
        cases e3
        obtain ⟨A3, c3, rfl, hin3⟩ := row_upTo (by have := hr3.own; rwa [upTo_len] at this) hn5
        have HJ3 := Lib.hid hin3
        have HJ1 := Lib.hid (HIN.out.up C3.out (Nat.le_refl _))
        have HJ2 := Lib.hid (HIN2.out.up C3.out (Nat.le_refl _))
        have HN1 := Lib.hid fun k => shw_near b1 f Z k
        have x0 := (Hp2.out.up D3.out zp2).1
        have zp3 : w.heap.size < w3.heap.size := World.block_lt_of_cell? _ _ x0
        obtain ⟨a0, ra0, _, i0⟩ := HJ2.out.2 0 (by omega)
        have i1 : w3.cell? a0 = some (.int .i64 (Y 0)) := by simpa [Addr.add] using i0
        have nn : (0 : Int) < (n2 : Int) := by omega
        subst ra0
        clear hok hl1 hr3 hin3 HP3 HE1 hs0 i0
        by_cases hy : Y 0 = f
        · have gy : (Y 0 == f) = true := by simpa using hy
          have HY := Lib.hid hy
          clear hy
          go_wp2_with fail
          clear i1 gy
          go_loopw [12] (fun i wr => ∃ k : Nat, k ≤ n2 ∧ i = .int .i64 k ∧ Hid (∀ j, j < k → Z j - p.b ≤ Y j ∧ Y j ≤ Z j + p.b) ∧ Below w3.heap.size w3 wr) (fun i _ => n2 - (intOf i).toNat)
          case atStart => exact ⟨0, Nat.zero_le _, rfl, Lib.hid fun j hj => absurd hj (by omega), Below.refl _ _⟩
          case round =>
            obtain ⟨k, hk, rfl, HQ, hb⟩ := hrel
            obtain ⟨wo, rfl⟩ : ∃ wo : World, wo = wr := ⟨_, rfl⟩
            have HB := Lib.hid hb
            have hk0 : (0 : Int) ≤ (k : Int) := by omega
            have y0 := cell_up hb zp3 x0
            clear hb
            by_cases hlt : k < n2
            · obtain ⟨a, rfl, _, c0⟩ := (HJ1.out.up HB.out C3.out.size).2 k hlt
              obtain ⟨a', e', _, c1⟩ := (HJ2.out.up HB.out C3.out.size).2 k hlt
              cases e'
              have hki : (k : Int) < (n2 : Int) := by omega
              have v1 := HV1.out k hlt
              have w1' : IntKind.i64.wrap (Z k - p.b) = Z k - p.b := IntWalk.i64_in _ (by omega)
              have w2' : IntKind.i64.wrap (Z k + p.b) = Z k + p.b := IntWalk.i64_in _ (by omega)
              clear x0 v1
              by_cases g1 : Y k < Z k - p.b
              · have t1 : decide (Y k < Z k - p.b) = true := decide_eq_true g1
                clear g1
                go_wp2_with fail
                go_quiet (fail)
                clear w1' w2'
                go_wp2_with fail
                go_ret
                exact ⟨rfl, nextB C3.out (HB.out.trans (below_drewN (Below.refl _ _) _))⟩
              · have t1 : decide (Y k < Z k - p.b) = false := decide_eq_false g1
                by_cases g2 : Z k + p.b < Y k
                · have t2 : decide (Z k + p.b < Y k) = true := decide_eq_true g2
                  clear g1 g2
                  go_wp2_with fail
                  go_quiet (fail)
                  clear w1' w2'
                  go_wp2_with fail
                  go_ret
                  exact ⟨rfl, nextB C3.out (HB.out.trans (below_drewN (Below.refl _ _) _))⟩
                · have t2 : decide (Z k + p.b < Y k) = false := decide_eq_false g2
                  have HG : Hid (Z k - p.b ≤ Y k ∧ Y k ≤ Z k + p.b) := Lib.hid (by omega)
                  clear g1 g2
                  go_wp2_with fail
                  go_quiet (fail)
                  clear w1' w2'
                  go_wp2_with fail
                  go_roundw
                  case rel => exact ⟨k + 1, by omega, by go_num, Lib.hid (fun j hj => by
                    by_cases hjk : j = k
                    · rw [hjk]; exact HG.out
                    · exact HQ.out j (by omega)), HB.out.trans (below_drewN (Below.refl _ _) _)⟩
                  case measure => simp [intOf]; omega
            · obtain rfl : k = n2 := by omega
              have HLE := Lib.hid (lazy_le HQ.out (HS0.out.trans HY.out.symm) (k - 1) (by omega))
              have bz : ∀ i, i < k → -100000 ≤ shw p.b f Z i ∧ shw p.b f Z i ≤ 100000 := fun i hi => by have h1 := HN1.out i; have h2 := HV1.out i hi; omega
              have by' : ∀ i, i < k → -100000 ≤ Y i ∧ Y i ≤ 100000 := fun i hi => by have h1 := HQ.out i hi; have h2 := HV1.out i hi; omega
              have K1 := Lib.hid (way_any A3 k c3 (shw p.b f Z) wo ((HJ3.out.up HB.out (Nat.le_refl _)).more HB.out.size) l1 hn5 bz)
              have K2 : Hid (∀ W, Below wo.heap.size wo W → Calls Try.prog 59 #[.slice (some a0) k c2] W fun e w' => e = .returned (.int .i64 (wy Y (k - 1))) ∧ Below W.heap.size W w') := Lib.hid fun W hW => way_any (some a0) k c2 Y W (((HJ2.out.up HB.out C3.out.size).up hW (Nat.le_trans C3.out.size HB.out.size)).more (Nat.le_trans C3.out.size (Nat.le_trans HB.out.size hW.size))) l1 hn5 by'
              have t3 : decide (wy (shw p.b f Z) (k - 1) ≤ wy Y (k - 1)) = true := decide_eq_true (by have := HLE.out; omega)
              clear bz by' x0 y0
              go_wp2_with fail
              refine K1.out.mono ?_
              rintro e w4 ⟨rfl, hb4⟩
              have D4 := Lib.hid hb4
              clear hb4
              go_wp2_with fail
              refine (K2.out _ D4.out).mono ?_
              rintro e w5 ⟨rfl, hb5⟩
              have D5 := Lib.hid hb5
              clear hb5
              go_wp2_with fail
              go_ret
              exact ⟨rfl, nextB (nextB C3.out HB.out) (nextB D4.out D5.out)⟩
        · have gy : (Y 0 == f) = false := by simpa using hy
          clear hy
          go_wp2_with fail
          go_ret
          exact ⟨rfl, C3.out⟩
      · have g1 : (E1 == 0) = false := by simpa using h1
        go_wp2_with fail
        go_ret
        exact ⟨rfl, C3.out⟩
    · have dl : ((n2 : Int) == (n : Int)) = false := by simpa using (by omega : ¬ (n2 : Int) = n)
      have dl2 : (n2 == n) = false := by simpa using hl
      go_wp2_with fail
      refine (KF.out _).mono ?_
      rintro e w' ⟨rfl, rfl⟩
      go_wp2_with fail
      go_ret
      exact ⟨rfl, C2.out⟩
  · have df : decide ((n : Int) ≤ 500) = false := by simpa using hf
    rw [df] at KF
    clear df hf
    go_wp2_with fail
    refine (KF.out _).mono ?_
    rintro e w' ⟨rfl, rfl⟩
    go_wp2_with fail
    go_ret
    exact ⟨rfl, C2.out⟩
end Go.Proofs.Ytkidhmajlpceeaa
