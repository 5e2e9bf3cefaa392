/- The specification's checkShown, Forgets. -/
import Derived.Test.YtkidhmajlpceeaaRf2
namespace Go.Proofs.Ytkidhmajlpceeaa
open Go.RowKit
def chsR (p : Pn) (n : Nat) (Z : Nat → Int) (E : Int) : Prop := (¬ p.Ok ∧ E = 30) ∨ p.Ok ∧ ((¬ LsOk Z n ∧ E = 1) ∨ LsOk Z n ∧ E = 0)
theorem checkShown_any (p : Pn) (A : Option Addr) (n c : Nat) (Z : Nat → Int) (E : Int) (w : World) (hin : IntsIn A n Z w.heap.size w) (hE : chsR p n Z E) :
    Calls Try.prog 79 #[p.v, .slice A n c] w fun e w' => e = .returned (.int .i64 E) ∧ Below w.heap.size w w' := by
  have HIN := Lib.hid hin
  clear hin
  rcases hE with ⟨h, rfl⟩ | ⟨h, hE⟩
  · have KC := Lib.hid fun W => RCheck_any p 30 W (.inl ⟨h, rfl⟩)
    clear h
    go_enter Try.func79, Try.ntmps79
    go_wp2_with fail
    refine (KC.out _).mono ?_
    rintro e w1 ⟨rfl, hb⟩
    go_wp2_with fail
    go_ret
    exact ⟨rfl, nextB (box1 _ _) hb⟩
  · have KC := Lib.hid fun W => RCheck_any p 0 W (.inr ⟨h, rfl⟩)
    obtain ⟨G, hG, hGE⟩ : ∃ G : Bool, (G = true ↔ LsOk Z n) ∧ ((G = true ∧ E = 0) ∨ (G = false ∧ E = 1)) := by
      rcases hE with ⟨h2, e⟩ | ⟨h2, e⟩
      · exact ⟨false, ⟨fun e => (by cases e), fun e => absurd e h2⟩, .inr ⟨rfl, e⟩⟩
      · exact ⟨true, ⟨fun _ => h2, fun _ => rfl⟩, .inl ⟨rfl, e⟩⟩
    have KL : Hid (∀ W, Below w.heap.size w W → Calls Try.prog 72 #[.slice A n c] W fun e w' => e = .returned (.bool G) ∧ W = w') :=
      Lib.hid fun W hW => levels_is A n c Z G W ((HIN.out.up hW (Nat.le_refl _)).more hW.size) hG
    clear h hE hG
    go_enter Try.func79, Try.ntmps79
    go_wp2_with fail
    refine (KC.out _).mono ?_
    rintro e w1 ⟨rfl, hb⟩
    have C1 := Lib.hid (nextB (box1 w _) hb)
    clear hb
    go_wp2_with fail
    refine (KL.out _ C1.out).mono ?_
    rintro e w' ⟨rfl, rfl⟩
    rcases hGE with ⟨rfl, rfl⟩ | ⟨rfl, rfl⟩
    · go_wp2_with fail
      go_ret
      exact ⟨rfl, C1.out⟩
    · go_wp2_with fail
      go_ret
      exact ⟨rfl, C1.out⟩
/-- both ends, brought along -/
theorem pv_first {b : Int} (hb : 0 ≤ b) (Z : Nat → Int) : lz b (Z 0 - b) (Z 0) = Z 0 - b ∧ lz b (Z 0 + b) (Z 0) = Z 0 + b := by unfold lz; omega
set_option maxRecDepth 100000 in
set_option maxHeartbeats 4000000 in
theorem RForgets_any (p : Pn) (A : Option Addr) (n c : Nat) (Z : Nat → Int) (I E : Int) (w : World) (hin : IntsIn A n Z w.heap.size w) (hE : forR p n Z I E) :
    Calls Try.prog 53 #[p.v, .slice A n c] w fun e w' => e = .returned (.tuple #[.int .i64 I, .int .i64 E]) ∧ Below w.heap.size w w' := by
  have HIN := Lib.hid hin
  have hn := hin.1
  clear hin
  by_cases hck : p.Ok ∧ LsOk Z n
  · obtain ⟨h, hl⟩ := hck
    have KC : Hid (∀ W, Below w.heap.size w W → Calls Try.prog 79 #[p.v, .slice A n c] W fun e w' => e = .returned (.int .i64 0) ∧ Below W.heap.size W w') :=
      Lib.hid fun W hW => checkShown_any p A n c Z 0 W ((HIN.out.up hW (Nat.le_refl _)).more hW.size) (.inr ⟨h, .inr ⟨hl, rfl⟩⟩)
    have hE' : (¬ RateOk p Z n ∧ I = 0 ∧ E = 31) ∨ (RateOk p Z n ∧ ∃ j, Meets p Z n j ∧ ((j < n ∧ I = j ∧ E = 0) ∨ (j = n ∧ I = 0 ∧ E = 3))) := by
      rcases hE with ⟨h1, _⟩ | ⟨_, ⟨h1, _⟩ | ⟨_, h1 | h1⟩⟩
      · exact absurd h h1
      · exact absurd hl h1
      · exact .inl h1
      · exact .inr h1
    -- the first index at which the rate is passed
    obtain ⟨j0, i1, i2, i3⟩ : ∃ j0, j0 ≤ n ∧ (∀ k, k < j0 → okAt p (Z 0) Z k) ∧ (j0 < n → ¬ okAt p (Z 0) Z j0) := by
      rcases ok_or p (Z 0) Z n with h1 | ⟨j, h1, h2, h3⟩
      · exact ⟨n, Nat.le_refl _, h1, fun h => absurd h (by omega)⟩
      · exact ⟨j, by omega, h2, fun _ => h3⟩
    have hj1 : 1 ≤ j0 := by
      rcases Nat.lt_or_ge 0 j0 with h1 | h1
      · exact h1
      · have h2 : j0 = 0 := by omega
        have hb := h.b.1
        exact absurd (show okAt p (Z 0) Z 0 from ⟨by omega, by omega⟩) (by rw [h2] at i3; exact i3 hl.1)
    have hbad : j0 < n → I = 0 ∧ E = 31 := fun hj => by
      rcases hE' with ⟨_, h2⟩ | ⟨h2, _⟩
      · exact h2
      · exact absurd (h2 j0 hj) (i3 hj)
    have hgood : j0 = n → ∃ j, Meets p Z n j ∧ ((j < n ∧ I = j ∧ E = 0) ∨ (j = n ∧ I = 0 ∧ E = 3)) := fun hj => by
      rcases hE' with ⟨h2, _⟩ | ⟨_, h2⟩
      · exact absurd (by rw [← hj]; exact i2) h2
      · exact h2
    have hn0 := hl.1
    have hn4 := hl.2.1
    have HLv := Lib.hid hl.2.2
    obtain ⟨b1, b2⟩ := h.b
    obtain ⟨r1, r2⟩ := h.r
    have KW : Hid (∀ (x : Int) (G : Bool) (W : World), (G = true ↔ (-p.r ≤ x ∧ x ≤ p.r)) → Calls Try.prog 74 #[.int .i64 x, .int .i64 (-p.r), .int .i64 p.r] W fun e w' => e = .returned (.bool G) ∧ W = w') := Lib.hid fun x G W hG => within_is W hG
    have KZ : Hid (∀ (s x : Int) (W : World), -1000000 ≤ x → x ≤ 1000000 → Calls Try.prog 62 #[.int .i64 p.b, .int .i64 s, .int .i64 x] W fun e w' => e = .returned (.int .i64 (lz p.b s x)) ∧ W = w') := Lib.hid fun s x W h1 h2 => LazyR_any p.b s x W (by omega) ⟨h1, h2⟩
    have HI2 := Lib.hid i2
    have HI3 := Lib.hid i3
    have HB := Lib.hid hbad
    have HG := Lib.hid hgood
    have wr' : IntKind.i64.wrap (-p.r) = -p.r := IntWalk.i64_in _ (by omega)
    have HWr : Hid (∀ x : Int, -1000000 ≤ x → x ≤ 1000000 → IntKind.i64.wrap x = x) := Lib.hid fun x h1 h2 => IntWalk.i64_in _ (by omega)
    have HPV := Lib.hid (pv_first b1 Z)
    clear h hl hE hE' i2 i3 hbad hgood
    go_enter Try.func53, Try.ntmps53
    go_wp2_with fail
    refine (KC.out _ (box1 _ _)).mono ?_
    rintro e w1 ⟨rfl, hb⟩
    have C1 := Lib.hid (nextB (box1 w _) hb)
    have P1 := Lib.hid ((pn_new w p.b p.lo p.hi p.r).up hb (by simp))
    have zp1 := P1.out.lt
    clear hb KC
    go_wp2_with fail
    go_loopw [7] (fun i wr => ∃ k : Nat, k + 1 ≤ j0 ∧ i = .int .i64 ((k + 1 : Nat) : Int) ∧ Below w1.heap.size w1 wr) (fun i _ => n - (intOf i).toNat)
    case atStart => exact ⟨0, hj1, rfl, Below.refl _ _⟩
    case round =>
      obtain ⟨k, hk, rfl, hb⟩ := hrel
      obtain ⟨wo, rfl⟩ : ∃ wo : World, wo = wr := ⟨_, rfl⟩
      have HBw := Lib.hid hb
      have hk0 : (0 : Int) ≤ ((k + 1 : Nat) : Int) := by omega
      have C2 := Lib.hid (nextB C1.out hb)
      have P2 := Lib.hid (P1.out.up hb zp1)
      have zp2 := P2.out.lt
      clear hb
      by_cases hlt : k + 1 < n
      · obtain ⟨a, e1, _, c1⟩ := (HIN.out.up C2.out (Nat.le_refl _)).2 (k + 1) hlt
        obtain ⟨a', e2, _, c2⟩ := (HIN.out.up C2.out (Nat.le_refl _)).2 k (by omega)
        subst e1
        cases e2
        have v1 := HLv.out (k + 1) hlt
        have v2 := HLv.out k (by omega)
        have hki : ((k + 1 : Nat) : Int) < (n : Int) := by omega
        have hk2 : (k : Int) < (n : Int) := by omega
        have hk3 : (0 : Int) ≤ (k : Int) := by omega
        have w2' : IntKind.i64.wrap (((k + 1 : Nat) : Int) - 1) = (k : Int) := by rw [show ((k + 1 : Nat) : Int) - 1 = (k : Int) by omega]; exact HWr.out _ (by omega) (by omega)
        have w3' : IntKind.i64.wrap (Z (k + 1) - Z k) = Z (k + 1) - Z k := HWr.out _ (by omega) (by omega)
        obtain ⟨x0, x1, x2, x3⟩ := P2.out
        have hrow : k + 1 + 1 ≤ j0 → ∀ wx, Below w1.heap.size w1 wx → ∃ d : Nat, d + 1 ≤ j0 ∧ Value.int .i64 (((k + 1) + 1 : Nat) : Int) = .int .i64 ((d + 1 : Nat) : Int) ∧ Below w1.heap.size w1 wx := fun h wx hx => ⟨k + 1, h, rfl, hx⟩
        have HROW := Lib.hid hrow
        have w4' : IntKind.i64.wrap (((k + 1 : Nat) : Int) + 1) = (((k + 1) + 1 : Nat) : Int) := by rw [show ((k + 1 : Nat) : Int) + 1 = (((k + 1) + 1 : Nat) : Int) by omega]; exact HWr.out _ (by omega) (by omega)
        by_cases hkj : k + 1 < j0
        · have K := Lib.hid fun W => KW.out (Z (k + 1) - Z k) true W ⟨fun _ => HI2.out (k + 1) hkj, fun _ => rfl⟩
          have hj2 : k + 1 + 1 ≤ j0 := hkj
          have HJ2 := Lib.hid hj2
          clear v1 v2 hrow hkj hj2
          generalize Z (k + 1) = Z1 at c1 w3' K
          generalize Z k = Z0 at c2 w3' K
          generalize hq : k + 1 = q at *
          clear hq
          go_wp2_with fail
          go_quiet ((go_at_call 74; exact Calls.quiet_of_same ((K.out _).mono fun _ _ h => ⟨h.1, h.2.symm⟩)))
          clear w2' w3'
          go_wp2_with fail
          go_roundw
          case rel => (obtain ⟨d, h1, h2, h3⟩ := HROW.out HJ2.out _ (below_drewN HBw.out _); exact ⟨d, h1, by first | exact h2 | (rw [← h2]; go_num), h3⟩)
          case measure => simp [intOf]; omega
        · obtain ⟨rfl, rfl⟩ := HB.out (by omega)
          have hno : ¬ (-p.r ≤ Z (k + 1) - Z k ∧ Z (k + 1) - Z k ≤ p.r) := by
            have hj : j0 = k + 1 := by omega
            have h2 := HI3.out (by omega)
            rw [hj] at h2
            exact h2
          have K := Lib.hid fun W => KW.out (Z (k + 1) - Z k) false W ⟨fun e => (by cases e), fun e => absurd e hno⟩
          clear v1 v2 hrow hkj hno
          generalize Z (k + 1) = Z1 at c1 w3' K
          generalize Z k = Z0 at c2 w3' K
          generalize k + 1 = q at *
          go_wp2_with fail
          go_quiet ((go_at_call 74; exact Calls.quiet_of_same ((K.out _).mono fun _ _ h => ⟨h.1, h.2.symm⟩)))
          go_wp2_with fail
          go_ret2
          exact ⟨rfl, below_drewN C2.out _⟩
      · have hki : (n : Int) ≤ ((k + 1 : Nat) : Int) := by omega
        obtain ⟨j, hm, hj⟩ := HG.out (by omega)
        have HM := Lib.hid hm
        have HJ := Lib.hid hj
        obtain ⟨a, e1, _, c0⟩ := (HIN.out.up C2.out (Nat.le_refl _)).2 0 (by omega)
        subst e1
        have d0 : wo.cell? a = some (.int .i64 (Z 0)) := by simpa [Addr.add] using c0
        have v0 := HLv.out 0 (by omega)
        have w2' : IntKind.i64.wrap (Z 0 - p.b) = Z 0 - p.b := HWr.out _ (by omega) (by omega)
        have w3' : IntKind.i64.wrap (Z 0 + p.b) = Z 0 + p.b := HWr.out _ (by omega) (by omega)
        have nn1 : 0 < n := by omega
        have nn2 : (0 : Int) < (n : Int) := by omega
        obtain ⟨x0, x1, x2, x3⟩ := P2.out
        clear c0 v0 hm hj HI2 HI3 HB HG
        generalize k + 1 = q at *
        go_wp2_with fail
        go_quiet (fail)
        go_wp2_with fail
        go_quiet (fail)
        go_wp2_with fail
        go_loopw [8, 9, 10] (fun lo hi i wr => ∃ k : Nat, k ≤ j ∧ lo = .int .i64 (pvS p.b (Z 0 - p.b) Z k) ∧ hi = .int .i64 (pvS p.b (Z 0 + p.b) Z k) ∧ i = .int .i64 (k : Int) ∧ Below wo.heap.size wo wr) (fun _ _ i _ => n - (intOf i).toNat)
        case atStart => exact ⟨0, Nat.zero_le _, rfl, rfl, rfl, by first | exact below_drewN (below_drewN (Below.refl _ _) _) _ | exact below_drewN (Below.refl _ _) _ | exact Below.refl _ _⟩
        case round =>
          obtain ⟨k, hk, rfl, rfl, rfl, hb⟩ := hrel
          obtain ⟨w3, rfl⟩ : ∃ w3 : World, w3 = wr := ⟨_, rfl⟩
          have C3 := Lib.hid (nextB C2.out hb)
          have D3 := Lib.hid hb
          have P3 := Lib.hid (P2.out.up hb zp2)
          have zp3 := P3.out.lt
          have hk0 : (0 : Int) ≤ (k : Int) := by omega
          have hjn := HM.out.le
          clear hb x0 x1 x2 x3
          obtain ⟨x0, x1, x2, x3⟩ := P3.out
          by_cases hlt : k < n
          · have hki : (k : Int) < (n : Int) := by omega
            obtain ⟨a, e1, _, c1⟩ := (HIN.out.up C3.out (Nat.le_refl _)).2 k hlt
            cases e1
            have az := World.block_lt_of_cell? _ _ c1
            have v1 := HLv.out k hlt
            have eL : pvS p.b (Z 0 - p.b) Z (k + 1) = lz p.b (pvS p.b (Z 0 - p.b) Z k) (Z k) := shw_pv p.b _ Z k
            have eH : pvS p.b (Z 0 + p.b) Z (k + 1) = lz p.b (pvS p.b (Z 0 + p.b) Z k) (Z k) := shw_pv p.b _ Z k
            have HPG := Lib.hid (And.intro eL eH)
            have KL1 := Lib.hid fun W => KZ.out (pvS p.b (Z 0 - p.b) Z k) (Z k) W (by omega) (by omega)
            have KL2 := Lib.hid fun W => KZ.out (pvS p.b (Z 0 + p.b) Z k) (Z k) W (by omega) (by omega)
            have hcmp : (lz p.b (pvS p.b (Z 0 - p.b) Z k) (Z k) = lz p.b (pvS p.b (Z 0 + p.b) Z k) (Z k) → (I : Int) = k ∧ E = 0) ∧ (lz p.b (pvS p.b (Z 0 - p.b) Z k) (Z k) ≠ lz p.b (pvS p.b (Z 0 + p.b) Z k) (Z k) → k + 1 ≤ j) := by
              rw [← shw_pv, ← shw_pv]
              constructor
              · intro he
                rcases Nat.lt_or_ge k j with h1 | h1
                · exact absurd he (HM.out.ne k h1)
                · have h2 : k = j := by omega
                  subst h2
                  rcases HJ.out with ⟨_, h3, h4⟩ | ⟨h3, _⟩
                  · exact ⟨h3, h4⟩
                  · omega
              · intro he
                rcases Nat.lt_or_ge k j with h1 | h1
                · exact h1
                · have h2 : k = j := by omega
                  subst h2
                  exact absurd (HM.out.eq hlt) he
            have HCM := Lib.hid hcmp
            clear hcmp eL eH v1
            generalize hL : pvS p.b (Z 0 - p.b) Z k = L at KL1 HCM HPG ⊢
            generalize hH : pvS p.b (Z 0 + p.b) Z k = H at KL2 HCM HPG ⊢
            generalize hzk : Z k = zk at KL1 KL2 HCM HPG c1
            generalize hL2 : lz p.b L zk = L2 at KL1 HCM HPG
            generalize hH2 : lz p.b H zk = H2 at KL2 HCM HPG
            clear hL hH hzk hL2 hH2 d0 w2' w3'
            go_wp2_with fail
            go_upto_region 14 with fail
            go_cut [8] (fun v wx => v = .int .i64 L2 ∧ Below w3.heap.size w3 wx)
            case first =>
              go_quiet ((go_at_call 62; exact Calls.quiet_of_same ((KL1.out _).mono fun _ _ h => ⟨h.1, h.2.symm⟩)))
              go_wp2_with fail
              go_meet
              exact ⟨rfl, below_drewN (Below.refl _ _) _⟩
            case rest =>
              obtain ⟨rfl, hb4⟩ := hcut
              obtain ⟨w4, rfl⟩ : ∃ w4 : World, w4 = wc := ⟨_, rfl⟩
              have D4 := Lib.hid hb4
              have P4 := Lib.hid (P3.out.up hb4 zp3)
              have d1 := (hb4.cell az).trans c1
              clear hb4 x0 x1 x2 x3 c1
              obtain ⟨x0, x1, x2, x3⟩ := P4.out
              go_wp2_with fail
              go_upto_region 15 with fail
              go_cut [9] (fun v wx => v = .int .i64 H2 ∧ Below w4.heap.size w4 wx)
              case first =>
                go_quiet ((go_at_call 62; exact Calls.quiet_of_same ((KL2.out _).mono fun _ _ h => ⟨h.1, h.2.symm⟩)))
                go_wp2_with fail
                go_meet
                exact ⟨rfl, below_drewN (Below.refl _ _) _⟩
              case rest =>
                obtain ⟨rfl, hb5⟩ := hcut
                obtain ⟨w5, rfl⟩ : ∃ w5 : World, w5 = wc := ⟨_, rfl⟩
                have D5 := Lib.hid (D4.out.trans (hb5.mono D4.out.size))
                have E5 := Lib.hid (nextB C3.out D5.out)
                have F5 := Lib.hid (nextB D3.out D5.out)
                have w6' : IntKind.i64.wrap ((k : Int) + 1) = ((k + 1 : Nat) : Int) := by rw [show (k : Int) + 1 = ((k + 1 : Nat) : Int) by omega]; exact HWr.out _ (by omega) (by omega)
                clear hb5 x0 x1 x2 x3 d1 KL1 KL2
                by_cases hx : L2 = H2
                · obtain ⟨hI, hE0⟩ := HCM.out.1 hx
                  have HI := Lib.hid hI
                  have HE := Lib.hid hE0
                  clear hI hE0 HCM
                  subst hx
                  go_wp2_with fail
                  go_ret2
                  exact ⟨by rw [HI.out, HE.out]; rfl, E5.out⟩
                · have HK := Lib.hid (HCM.out.2 hx)
                  have u1 : decide (L2 = H2) = false := decide_eq_false hx
                  go_wp2_with fail
                  go_roundw
                  case rel => exact ⟨k + 1, HK.out, by rw [HPG.out.1], by rw [HPG.out.2], by go_num, F5.out⟩
                  case measure => simp [intOf]; omega
          · have hki : (n : Int) ≤ (k : Int) := by omega
            have HN : Hid (I = 0 ∧ E = 3) := Lib.hid (by
              rcases HJ.out with ⟨h1, _⟩ | ⟨_, h2⟩
              · omega
              · exact h2)
            obtain ⟨rfl, rfl⟩ := HN.out
            go_wp2_with fail
            go_ret2
            exact ⟨rfl, C3.out⟩
  · obtain ⟨E', hc⟩ : ∃ E, chsR p n Z E ∧ E ≠ 0 := by
      by_cases h : p.Ok
      · by_cases hl : LsOk Z n
        · exact absurd ⟨h, hl⟩ hck
        · exact ⟨1, .inr ⟨h, .inl ⟨hl, rfl⟩⟩, by decide⟩
      · exact ⟨30, .inl ⟨h, rfl⟩, by decide⟩
    have KC : Hid (∀ W, Below w.heap.size w W → Calls Try.prog 79 #[p.v, .slice A n c] W fun e w' => e = .returned (.int .i64 E') ∧ Below W.heap.size W w') :=
      Lib.hid fun W hW => checkShown_any p A n c Z E' W ((HIN.out.up hW (Nat.le_refl _)).more hW.size) hc.1
    have hIE : I = 0 ∧ E = E' := by
      rcases hE with ⟨h1, h2, h3⟩ | ⟨h1, ⟨h2, h3, h4⟩ | ⟨h2, _⟩⟩
      · rcases hc.1 with ⟨_, h5⟩ | ⟨h5, _⟩
        · exact ⟨h2, by rw [h3, h5]⟩
        · exact absurd h5 h1
      · rcases hc.1 with ⟨h5, _⟩ | ⟨_, ⟨_, h5⟩ | ⟨h5, _⟩⟩
        · exact absurd h1 h5
        · exact ⟨h3, by rw [h4, h5]⟩
        · exact absurd h5 h2
      · exact absurd ⟨h1, h2⟩ hck
    obtain ⟨rfl, rfl⟩ := hIE
    have hne := hc.2
    clear hE hc hck
    have e0 : (E == 0) = false := by simpa using hne
    go_enter Try.func53, Try.ntmps53
    go_wp2_with fail
    refine (KC.out _ (box1 _ _)).mono ?_
    rintro e w1 ⟨rfl, hb⟩
    have C1 := Lib.hid (nextB (box1 w _) hb)
    clear hb KC
    go_wp2_with fail
    go_ret2
    exact ⟨rfl, C1.out⟩
end Go.Proofs.Ytkidhmajlpceeaa
