/- PensRuns: what lies between turns, and the law. -/
import Derived.Test.YtkidhmajlpceeaaPgU
namespace Go.Proofs.Ytkidhmajlpceeaa
open Go.RowKit
theorem asZ_app {L M : List Int} {i : Nat} (h : i < L.length) : asZ (L ++ M) i = asZ L i := by simp [asZ, List.getElem?_append_left h]
/-- from one turn to the next -/
def frI (L : List Int) (j : Nat) : Int := if j = 0 then 0 else asZ L (j - 1)
def UpS (Z : Nat → Int) (a b : Nat) : Prop := ∀ k, a ≤ k → k < b → Z k ≤ Z (k + 1)
def DnS (Z : Nat → Int) (a b : Nat) : Prop := ∀ k, a ≤ k → k < b → Z (k + 1) ≤ Z k
structure TSt (Z : Nat → Int) (i s : Nat) : Prop where
  le : s ≤ tlast Z i
  con : ∀ k, tlast Z i ≤ k → k < i → Z k = Z (k + 1)
  dir : (tlast Z i = 0 ∧ s = 0) ∨ (s < tlast Z i ∧ Z (tlast Z i - 1) < Z (tlast Z i) ∧ UpS Z s (tlast Z i)) ∨ (s < tlast Z i ∧ Z (tlast Z i) < Z (tlast Z i - 1) ∧ DnS Z s (tlast Z i))
theorem const_to {Z : Nat → Int} {t : Nat} : ∀ i, t ≤ i → (∀ k, t ≤ k → k < i → Z k = Z (k + 1)) → Z t = Z i
  | 0, h, _ => by obtain rfl : t = 0 := by omega
                  rfl
  | i + 1, h, hc => by
    by_cases e : t = i + 1
    · rw [e]
    · rw [const_to i (by omega) (fun k h1 h2 => hc k h1 (by omega)), hc i (by omega) (by omega)]
theorem tlast_step (Z : Nat → Int) (i : Nat) : tlast Z (i + 1) = if Z (i + 1) = Z i then tlast Z i else i + 1 := rfl
theorem runs_inv (Z : Nat → Int) : ∀ i,
    (∀ j, j < (tout Z i).length → ∃ a b : Nat, frI (tout Z i) j = a ∧ asZ (tout Z i) j = b ∧ a < b ∧ b ≤ i ∧ (UpS Z a b ∨ DnS Z a b) ∧ Z b ≠ Z (b - 1)) ∧
    ∃ s : Nat, frI (tout Z i) (tout Z i).length = s ∧ TSt Z i s
  | 0 => ⟨fun j hj => absurd hj (by simp [tout]), 0, rfl, ⟨Nat.zero_le _, fun k _ h => absurd h (by omega), .inl ⟨rfl, rfl⟩⟩⟩
  | i + 1 => by
    obtain ⟨h1, s, hs, ⟨hle, hcon, hdir⟩⟩ := runs_inv Z i
    have htl := tlast_le Z i
    have eo : tout Z (i + 1) = if tyes Z i = true then tout Z i ++ [(tlast Z i : Int)] else tout Z i := rfl
    have et := tlast_step Z i
    have hZt := const_to i htl hcon
    by_cases hz : Z (i + 1) = Z i
    · have hn : tyes Z i = false := by unfold tyes; simp [hz]
      rw [hn, if_neg (by simp)] at eo
      rw [if_pos hz] at et
      rw [eo]
      refine ⟨fun j hj => ?_, s, hs, ⟨by rw [et]; exact hle, fun k k1 k2 => ?_, by rw [et]; exact hdir⟩⟩
      · obtain ⟨a, b, e1, e2, e3, e4, e5⟩ := h1 j hj
        exact ⟨a, b, e1, e2, e3, by omega, e5⟩
      · rw [et] at k1
        by_cases e : k = i
        · rw [e]; exact hz.symm
        · exact hcon k k1 (by omega)
    · rw [if_neg hz] at et
      have hy : tyes Z i = (decide (0 < tlast Z i) && (decide (Z (tlast Z i - 1) < Z (tlast Z i)) == decide (Z (i + 1) < Z i))) := by
        unfold tyes
        rw [decide_eq_true (show Z (i + 1) ≠ Z i from hz), Bool.true_and]
      cases hb : tyes Z i
      · rw [hb, if_neg (by simp)] at eo
        rw [eo]
        refine ⟨fun j hj => ?_, s, hs, ⟨by rw [et]; omega, fun k k1 k2 => by rw [et] at k1; omega, .inr ?_⟩⟩
        · obtain ⟨a, b, e1, e2, e3, e4, e5⟩ := h1 j hj
          exact ⟨a, b, e1, e2, e3, by omega, e5⟩
        · rw [et, show i + 1 - 1 = i by omega]
          rw [hb] at hy
          rcases Int.lt_or_gt_of_ne hz with hd | hd
          · refine .inr ⟨by omega, hd, fun k k1 k2 => ?_⟩
            by_cases e : k = i
            · rw [e]; omega
            · by_cases e2 : tlast Z i ≤ k
              · have := hcon k e2 (by omega); omega
              · rcases hdir with ⟨d1, d2⟩ | ⟨d1, d2, d3⟩ | ⟨d1, d2, d3⟩
                · omega
                · rw [decide_eq_true (show 0 < tlast Z i by omega), decide_eq_true d2, decide_eq_true hd] at hy
                  simp at hy
                · exact d3 k k1 (by omega)
          · refine .inl ⟨by omega, hd, fun k k1 k2 => ?_⟩
            by_cases e : k = i
            · rw [e]; omega
            · by_cases e2 : tlast Z i ≤ k
              · have := hcon k e2 (by omega); omega
              · rcases hdir with ⟨d1, d2⟩ | ⟨d1, d2, d3⟩ | ⟨d1, d2, d3⟩
                · omega
                · exact d3 k k1 (by omega)
                · rw [decide_eq_true (show 0 < tlast Z i by omega), decide_eq_false (show ¬ Z (tlast Z i - 1) < Z (tlast Z i) by omega), decide_eq_false (show ¬ Z (i + 1) < Z i by omega)] at hy
                  simp at hy
      · rw [hb, if_pos rfl] at eo
        have ht0 : 0 < tlast Z i := by
          rw [hb] at hy
          have : (decide (0 < tlast Z i) && (decide (Z (tlast Z i - 1) < Z (tlast Z i)) == decide (Z (i + 1) < Z i))) = true := hy.symm
          rw [Bool.and_eq_true, decide_eq_true_eq] at this
          exact this.1
        have hfr : ∀ j, j ≤ (tout Z i).length → frI (tout Z i ++ [(tlast Z i : Int)]) j = frI (tout Z i) j := fun j hj => by
          unfold frI
          by_cases e : j = 0
          · rw [if_pos e, if_pos e]
          · rw [if_neg e, if_neg e]
            exact asZ_app (by omega)
        rw [eo]
        refine ⟨fun j hj => ?_, tlast Z i, ?_, ⟨by rw [et]; omega, fun k k1 k2 => by rw [et] at k1; omega, .inr ?_⟩⟩
        · rw [List.length_append, List.length_singleton] at hj
          rw [hfr j (by omega)]
          by_cases e : j = (tout Z i).length
          · subst e
            refine ⟨s, tlast Z i, hs, by simp [asZ], ?_, by omega, ?_, ?_⟩
            · rcases hdir with ⟨d1, d2⟩ | ⟨d1, d2, d3⟩ | ⟨d1, d2, d3⟩ <;> omega
            · rcases hdir with ⟨d1, d2⟩ | ⟨d1, d2, d3⟩ | ⟨d1, d2, d3⟩
              · omega
              · exact .inl d3
              · exact .inr d3
            · rcases hdir with ⟨d1, d2⟩ | ⟨d1, d2, d3⟩ | ⟨d1, d2, d3⟩ <;> omega
          · obtain ⟨a, b, e1, e2, e3, e4, e5⟩ := h1 j (by omega)
            refine ⟨a, b, e1, ?_, e3, by omega, e5⟩
            rw [← e2]
            exact asZ_app (by omega)
        · rw [List.length_append, List.length_singleton]
          unfold frI
          rw [if_neg (by omega), Nat.add_sub_cancel]
          simp [asZ]
        · rw [et, show i + 1 - 1 = i by omega]
          rcases Int.lt_or_gt_of_ne hz with hd | hd
          · refine .inr ⟨by omega, hd, fun k k1 k2 => ?_⟩
            by_cases e : k = i
            · rw [e]; omega
            · have := hcon k k1 (by omega); omega
          · refine .inl ⟨by omega, hd, fun k k1 k2 => ?_⟩
            by_cases e : k = i
            · rw [e]; omega
            · have := hcon k k1 (by omega); omega
/-- what is told of a list between its turns -/
theorem runs_all (Z : Nat → Int) (n : Nat) (h0 : 0 < n) :
    (∀ j, j < (turnsL Z n).length → ∃ a b : Nat, frI (turnsL Z n) j = a ∧ asZ (turnsL Z n) j = b ∧ a < b ∧ b < n ∧ (UpS Z a b ∨ DnS Z a b) ∧ Z b ≠ Z (b - 1)) ∧
    ∃ s : Nat, frI (turnsL Z n) (turnsL Z n).length = s ∧ s < n ∧ (UpS Z s (n - 1) ∨ DnS Z s (n - 1)) := by
  obtain ⟨h1, s, hs, ⟨hle, hcon, hdir⟩⟩ := runs_inv Z (n - 1)
  have htl := tlast_le Z (n - 1)
  refine ⟨fun j hj => ?_, s, hs, by omega, ?_⟩
  · obtain ⟨a, b, e1, e2, e3, e4, e5⟩ := h1 j hj
    exact ⟨a, b, e1, e2, e3, by omega, e5⟩
  · rcases hdir with ⟨d1, d2⟩ | ⟨d1, d2, d3⟩ | ⟨d1, d2, d3⟩
    · exact .inl fun k k1 k2 => by have := hcon k (by omega) k2; omega
    · refine .inl fun k k1 k2 => ?_
      by_cases e : k < tlast Z (n - 1)
      · exact d3 k k1 e
      · have := hcon k (by omega) k2; omega
    · refine .inr fun k k1 k2 => ?_
      by_cases e : k < tlast Z (n - 1)
      · exact d3 k k1 e
      · have := hcon k (by omega) k2; omega
def rsB (Z : Nat → Int) (a : Nat) : Nat → Bool
  | 0 => true
  | d + 1 => rsB Z a d && decide (Z (a + d) ≤ Z (a + d + 1))
def flB (Z : Nat → Int) (a : Nat) : Nat → Bool
  | 0 => true
  | d + 1 => flB Z a d && decide (Z (a + d + 1) ≤ Z (a + d))
theorem rsB_up {Z : Nat → Int} {a b : Nat} (h : UpS Z a b) : ∀ d, a + d ≤ b → rsB Z a d = true
  | 0, _ => rfl
  | d + 1, hd => by
    show (rsB Z a d && decide (Z (a + d) ≤ Z (a + d + 1))) = true
    rw [rsB_up h d (by omega), decide_eq_true (h (a + d) (by omega) (by omega))]; rfl
theorem flB_dn {Z : Nat → Int} {a b : Nat} (h : DnS Z a b) : ∀ d, a + d ≤ b → flB Z a d = true
  | 0, _ => rfl
  | d + 1, hd => by
    show (flB Z a d && decide (Z (a + d + 1) ≤ Z (a + d))) = true
    rw [flB_dn h d (by omega), decide_eq_true (h (a + d) (by omega) (by omega))]; rfl
theorem both_no {Z : Nat → Int} {a b : Nat} (hab : a < b) (h : Z b ≠ Z (b - 1)) : (rsB Z a (b - a) && flB Z a (b - a)) = false := by
  obtain ⟨d, hd⟩ : ∃ d, b - a = d + 1 := ⟨b - a - 1, by omega⟩
  rw [hd]
  have e1 : a + d + 1 = b := by omega
  have e2 : a + d = b - 1 := by omega
  show ((rsB Z a d && decide (Z (a + d) ≤ Z (a + d + 1))) && (flB Z a d && decide (Z (a + d + 1) ≤ Z (a + d)))) = false
  rw [e1, e2]
  rcases Int.lt_or_gt_of_ne h with h | h
  · rw [decide_eq_false (show ¬ Z (b - 1) ≤ Z b by omega)]; simp
  · rw [decide_eq_false (show ¬ Z b ≤ Z (b - 1) by omega)]; simp
theorem up_from {Z : Nat → Int} {m : Nat} (h : UpS Z 0 m) : ∀ k, k ≤ m → Z 0 ≤ Z k
  | 0, _ => Int.le_refl _
  | k + 1, hk => by have := up_from h k (by omega); have := h k (by omega) (by omega); omega
theorem up_to {Z : Nat → Int} {m : Nat} (h : UpS Z 0 m) : ∀ d, d ≤ m → Z (m - d) ≤ Z m
  | 0, _ => Int.le_refl _
  | d + 1, hk => by
    have := up_to h d (by omega)
    have := h (m - (d + 1)) (by omega) (by omega)
    rw [show m - (d + 1) + 1 = m - d by omega] at this
    omega
theorem dn_from {Z : Nat → Int} {m : Nat} (h : DnS Z 0 m) : ∀ k, k ≤ m → Z k ≤ Z 0
  | 0, _ => Int.le_refl _
  | k + 1, hk => by have := dn_from h k (by omega); have := h k (by omega) (by omega); omega
theorem dn_to {Z : Nat → Int} {m : Nat} (h : DnS Z 0 m) : ∀ d, d ≤ m → Z m ≤ Z (m - d)
  | 0, _ => Int.le_refl _
  | d + 1, hk => by
    have := dn_to h d (by omega)
    have := h (m - (d + 1)) (by omega) (by omega)
    rw [show m - (d + 1) + 1 = m - d by omega] at this
    omega
theorem runs_l {b : Int} (hb : 0 ≤ b) (f : Int) (Z : Nat → Int) (m : Nat) (h : UpS Z 0 m ∨ DnS Z 0 m) (i : Nat) (hi : i < m) :
    (Z 0 ≤ Z m → shw b f Z i ≤ shw b f Z (i + 1)) ∧ (Z m ≤ Z 0 → shw b f Z (i + 1) ≤ shw b f Z i) := by
  have hn := shw_near hb f Z i
  have hs : shw b f Z (i + 1) = lz b (shw b f Z i) (Z (i + 1)) := rfl
  rw [hs]
  unfold lz
  rcases h with h | h
  · have h1 := h i (by omega) hi
    refine ⟨fun _ => by omega, fun h2 => ?_⟩
    have h3 := up_from h i (by omega)
    have h4 := up_to h (m - (i + 1)) (by omega)
    rw [show m - (m - (i + 1)) = i + 1 by omega] at h4
    omega
  · have h1 := h i (by omega) hi
    refine ⟨fun h2 => ?_, fun _ => by omega⟩
    have h3 := dn_from h i (by omega)
    have h4 := dn_to h (m - (i + 1)) (by omega)
    rw [show m - (m - (i + 1)) = i + 1 by omega] at h4
    omega
theorem LQ.rowR {w0 wx : World} {F : Nat → Int} {n : Nat} {v : Value} (h : LQ w0 (upTo F n) 0 v wx) (hn : n ≤ 1000) : ∃ A c, v = .slice A n c ∧ IntsIn A n F wx.heap.size wx := h.row hn
theorem LQ.rowT {w0 wx : World} {L : List Int} {v : Value} (h : LQ w0 L 0 v wx) (hn : L.length ≤ 1000) : ∃ A c, v = .slice A L.length c ∧ IntsIn A L.length (asZ L) wx.heap.size wx := h.rowL hn
set_option maxRecDepth 100000 in
set_option maxHeartbeats 4000000 in
theorem runs_law (p : Pn) (f : Int) (A : Option Addr) (n c : Nat) (Z : Nat → Int) (w : World) (hin : IntsIn A n Z w.heap.size w) :
    Calls Try.prog 16 #[p.v, .int .i64 f, .slice A n c] w fun e w' => e = .returned (.bool true) ∧ Below w.heap.size w w' := by
  have HIN := Lib.hid hin
  have hn := hin.1
  clear hin
  have KF := Lib.hid fun W => few_any A n c W
  go_enter Try.func16, Try.ntmps16
  go_wp2_with fail
  refine (awake_any _).mono ?_
  rintro e w2 ⟨rfl, hb2⟩
  have hp2 := (pn_new w p.b p.lo p.hi p.r).up hb2 (by simp)
  have C2 := Lib.hid (nextB (box1 w _) hb2)
  have zp2 := hp2.lt
  have Hp2 := Lib.hid hp2
  clear hb2 hp2
  by_cases hf : (n : Int) ≤ 500
  · have df : decide ((n : Int) ≤ 500) = true := by simpa using hf
    rw [df] at KF
    clear df
    have hn5 : n ≤ 1000 := by omega
    obtain ⟨E1, hE1⟩ : ∃ E, turR n Z E := by
      by_cases hl : LsOk Z n
      · exact ⟨0, .inl ⟨hl, rfl⟩⟩
      · exact ⟨1, .inr ⟨hl, rfl⟩⟩
    obtain ⟨E2, hE2⟩ := folR_ex p f n Z
    have K1 : Hid (∀ W, Below w.heap.size w W → Calls Try.prog 50 #[.slice A n c] W fun e w' => LPost W (turnsL Z n) E1 e w') :=
      Lib.hid fun W hW => Turns_any A n c Z E1 W ((HIN.out.up hW (Nat.le_refl _)).more hW.size) hE1
    have K2 : Hid (∀ W, Below w.heap.size w W → Calls Try.prog 25 #[p.v, .int .i64 f, .slice A n c] W fun e w' => LPost W (upTo (shw p.b f Z) n) E2 e w') :=
      Lib.hid fun W hW => Follow_any p f A n c Z E2 W ((HIN.out.up hW (Nat.le_refl _)).more hW.size) hE2
    have HE := Lib.hid (And.intro hE1 hE2)
    clear hE1 hE2 hf
    go_wp2_with (go_at_call 20; refine (KF.out _).mono ?_; rintro e w' ⟨rfl, rfl⟩; clear KF)
    refine (K1.out _ C2.out).mono ?_
    rintro e w3 hP
    obtain ⟨v3, e3, hb3⟩ := hP.any
    subst e3
    have Q3 := Lib.hid (LQ.of hP (Below.refl _ _))
    have C3 := Lib.hid (nextB C2.out hb3)
    have Hp3 := Lib.hid (Hp2.out.up hb3 zp2)
    have zp3 := Hp3.out.lt
    clear hP hb3 K1
    by_cases g1 : E1 = 0
    · subst g1
      have hl : LsOk Z n := by
        rcases HE.out.1 with ⟨h, _⟩ | ⟨_, e⟩
        · exact h
        · omega
      have hn0 := hl.1
      have hn4 := hl.2.1
      have HLv := Lib.hid hl.2.2
      obtain ⟨r1, s, r2, r3, r4⟩ := runs_all Z n hn0
      have hTl : (turnsL Z n).length ≤ 401 := by have := tout_len Z (n - 1); unfold turnsL; omega
      obtain ⟨A8, c8, rfl, hin8⟩ := Q3.out.rowT (by omega)
      have HN8 := Lib.hid hin8
      have HS : Hid (∀ i, i ≤ (turnsL Z n).length → ∃ a b : Nat, frI (turnsL Z n) i = a ∧ a ≤ b ∧ b < n ∧ (i < (turnsL Z n).length → asZ (turnsL Z n) i = b) ∧ (¬ i < (turnsL Z n).length → b = n - 1) ∧ (rsB Z a (b - a) = true ∨ flB Z a (b - a) = true) ∧ (i < (turnsL Z n).length → (rsB Z a (b - a) && flB Z a (b - a)) = false)) := Lib.hid fun i hi => by
        by_cases hm : i < (turnsL Z n).length
        · obtain ⟨a, b, e1, e2, e3, e4, e5, e6⟩ := r1 i hm
          refine ⟨a, b, e1, by omega, e4, fun _ => e2, fun h => absurd hm h, ?_, fun _ => both_no e3 e6⟩
          rcases e5 with e5 | e5
          · exact .inl (rsB_up e5 _ (by omega))
          · exact .inr (flB_dn e5 _ (by omega))
        · obtain rfl : i = (turnsL Z n).length := by omega
          refine ⟨s, n - 1, r2, by omega, by omega, fun h => absurd h hm, fun _ => rfl, ?_, fun h => absurd h hm⟩
          rcases r4 with e5 | e5
          · exact .inl (rsB_up e5 _ (by omega))
          · exact .inr (flB_dn e5 _ (by omega))
      have HM : Hid ((turnsL Z n).length = 0 → UpS Z 0 (n - 1) ∨ DnS Z 0 (n - 1)) := Lib.hid fun h => by
        rw [h] at r2
        have : (0 : Int) = s := r2
        obtain rfl : s = 0 := by omega
        exact r4
      have HFr : Hid (∀ i, frI (turnsL Z n) (i + 1) = asZ (turnsL Z n) i) := Lib.hid fun i => by unfold frI; rw [if_neg (by omega), Nat.add_sub_cancel]
      have w1' : IntKind.i64.wrap ((n : Int) - 1) = ((n - 1 : Nat) : Int) := by rw [show (n : Int) - 1 = ((n - 1 : Nat) : Int) by omega]; exact IntWalk.i64_in _ (by omega)
      have HW1 := Lib.hid w1'
      clear hl r1 r2 r3 r4 hin8 w1' Q3
      generalize turnsL Z n = T at *
      generalize hm : T.length = m at *
      clear hm
      go_wp2_with fail
      go_loopw [10, 11, 12, 13, 14, 15] (fun fr i _ _ _ _ wr => ∃ (k : Nat) (F : Int), k ≤ m + 1 ∧ fr = .int .i64 F ∧ (k ≤ m → F = frI T k) ∧ i = .int .i64 (k : Int) ∧ Below w3.heap.size w3 wr) (fun _ i _ _ _ _ _ => m + 1 - (intOf i).toNat)
      case atStart => exact ⟨0, 0, by omega, rfl, fun _ => rfl, rfl, Below.refl _ _⟩
      case round =>
        obtain ⟨k, F, hk, rfl, hF, rfl, hb⟩ := hrel
        obtain ⟨wo, rfl⟩ : ∃ wo : World, wo = wr := ⟨_, rfl⟩
        have HB := Lib.hid hb
        have hk0 : (0 : Int) ≤ (k : Int) := by omega
        by_cases hlt : k ≤ m
        · obtain ⟨a, b, e1, e2, e3, e4, e5, e6, e7⟩ := HS.out k hlt
          obtain rfl : F = (a : Int) := (hF hlt).trans e1
          have hki : (k : Int) ≤ (m : Int) := by omega
          have hRF : (rsB Z a (b - a) = true ∧ flB Z a (b - a) = true ∧ ¬ k < m) ∨ (rsB Z a (b - a) = true ∧ flB Z a (b - a) = false) ∨ (rsB Z a (b - a) = false ∧ flB Z a (b - a) = true) := by
            by_cases hm : k < m
            · have h7 := e7 hm
              cases h1 : rsB Z a (b - a) <;> cases h2 : flB Z a (b - a)
              · rw [h1, h2] at e6; simp at e6
              · exact .inr (.inr ⟨rfl, rfl⟩)
              · exact .inr (.inl ⟨rfl, rfl⟩)
              · rw [h1, h2] at h7; simp at h7
            · cases h1 : rsB Z a (b - a) <;> cases h2 : flB Z a (b - a)
              · rw [h1, h2] at e6; simp at e6
              · exact .inr (.inr ⟨rfl, rfl⟩)
              · exact .inr (.inl ⟨rfl, rfl⟩)
              · exact .inl ⟨rfl, rfl, hm⟩
          have HRF := Lib.hid hRF
          have hFn : Hid (k + 1 ≤ m → (b : Int) = frI T (k + 1)) := Lib.hid fun h => by rw [HFr.out k]; exact (e4 (by omega)).symm
          have w2' : IntKind.i64.wrap ((a : Int) + 1) = ((a + 0 + 1 : Nat) : Int) := by rw [show (a : Int) + 1 = ((a + 0 + 1 : Nat) : Int) by omega]; exact IntWalk.i64_in _ (by omega)
          have t1 : decide ((b : Int) < (a : Int)) = false := decide_eq_false (by omega)
          have t1' : decide (b < a) = false := decide_eq_false (by omega)
          have t2 : decide ((n : Int) ≤ (b : Int)) = false := decide_eq_false (by omega)
          have t2' : decide (n ≤ b) = false := decide_eq_false (by omega)
          have w1' := HW1.out
          have hcase : (k < m ∧ ∃ a8 : Addr, A8 = some a8 ∧ wo.cell? (a8.add k) = some (.int .i64 (b : Int))) ∨ (¬ k < m ∧ n - 1 = b) := by
            by_cases hm : k < m
            · obtain ⟨a8, r8, _, c8'⟩ := (HN8.out.up hb (Nat.le_refl _)).2 k hm
              rw [e4 hm] at c8'
              exact .inl ⟨hm, a8, r8, c8'⟩
            · exact .inr ⟨hm, (e5 hm).symm⟩
          clear hF hb e1 e4 e5 e6 e7 hRF
          rcases hcase with ⟨hm, a8, r8, c8'⟩ | ⟨hm, hbn⟩
          · subst r8
            have hmi : (k : Int) < (m : Int) := by omega
            have u2 : decide (k < m) = true := decide_eq_true hm
            have u3 : decide ((k : Int) < (m : Int)) = true := decide_eq_true hmi
            go_wp2_with fail
            go_loopw [13, 14, 15] (fun r fl kk wr => ∃ d : Nat, a + d ≤ b ∧ r = .bool (rsB Z a d) ∧ fl = .bool (flB Z a d) ∧ kk = .int .i64 ((a + d + 1 : Nat) : Int) ∧ Below wo.heap.size wo wr) (fun _ _ kk _ => b + 1 - (intOf kk).toNat)
            case atStart => exact ⟨0, by omega, rfl, rfl, rfl, Below.refl _ _⟩
            case round =>
              obtain ⟨d, hd, rfl, rfl, rfl, hb2⟩ := hrel
              obtain ⟨wq, rfl⟩ : ∃ wq : World, wq = wr := ⟨_, rfl⟩
              have HB2 := Lib.hid hb2
              have hd0 : (0 : Int) ≤ ((a + d + 1 : Nat) : Int) := by omega
              by_cases hdl : a + d < b
              · have hbel := nextB C3.out (nextB (show Below w3.heap.size w3 wo from HB.out) hb2)
                obtain ⟨a1, r1, _, c1⟩ := (HIN.out.up hbel (Nat.le_refl _)).2 (a + d + 1) (by omega)
                obtain ⟨a2, r2, _, c2⟩ := (HIN.out.up hbel (Nat.le_refl _)).2 (a + d) (by omega)
                subst r1
                cases r2
                have az1 := World.block_lt_of_cell? _ _ c1
                have az2 := World.block_lt_of_cell? _ _ c2
                have eR : rsB Z a (d + 1) = (rsB Z a d && decide (Z (a + d) ≤ Z (a + d + 1))) := rfl
                have eF : flB Z a (d + 1) = (flB Z a d && decide (Z (a + d + 1) ≤ Z (a + d))) := rfl
                have k1 : ((a + d + 1 : Nat) : Int) ≤ (b : Int) := by omega
                have k2 : ((a + d + 1 : Nat) : Int) < (n : Int) := by omega
                have k3 : ((a + d : Nat) : Int) < (n : Int) := by omega
                have k4 : (0 : Int) ≤ ((a + d : Nat) : Int) := by omega
                have k5 : IntKind.i64.wrap (((a + d + 1 : Nat) : Int) - 1) = ((a + d : Nat) : Int) := by rw [show ((a + d + 1 : Nat) : Int) - 1 = ((a + d : Nat) : Int) by omega]; exact IntWalk.i64_in _ (by omega)
                have hrow : ∀ wx, Below wo.heap.size wo wx → ∃ d' : Nat, a + d' ≤ b ∧ Value.bool (rsB Z a (d + 1)) = .bool (rsB Z a d') ∧ Value.bool (flB Z a (d + 1)) = .bool (flB Z a d') ∧ Value.int .i64 (((a + d + 1) + 1 : Nat) : Int) = .int .i64 ((a + d' + 1 : Nat) : Int) ∧ Below wo.heap.size wo wx := fun wx hx => ⟨d + 1, by omega, rfl, rfl, rfl, hx⟩
                have HROW := Lib.hid hrow
                clear hb2 hbel hdl hrow
                generalize hR1 : rsB Z a (d + 1) = R1 at *
                generalize hF1 : flB Z a (d + 1) = F1 at *
                generalize hR0 : rsB Z a d = R0 at *
                generalize hF0 : flB Z a d = F0 at *
                have H1 := Lib.hid (And.intro hR1 hF1)
                generalize hZq : Z (a + d + 1) = Zq at *
                generalize hZr : Z (a + d) = Zr at *
                generalize hqq : a + d + 1 = q at *
                generalize hrr : a + d = r at *
                have HQQ := Lib.hid hqq
                clear hR1 hF1 hR0 hF0 hZq hZr hqq hrr
                go_upto_region 21 with fail
                go_cut [13] (fun v wx => v = .bool R1 ∧ Below wq.heap.size wq wx)
                case first =>
                  cases R0
                  · rw [Bool.false_and] at eR
                    subst eR
                    go_quiet (fail)
                    go_wp2_with fail
                    go_meet
                    exact ⟨rfl, below_drewN (Below.refl _ _) _⟩
                  · rw [Bool.true_and] at eR
                    have HER := Lib.hid eR
                    clear eR eF
                    go_quiet (fail)
                    go_wp2_with fail
                    go_meet
                    exact ⟨by rw [HER.out], below_drewN (Below.refl _ _) _⟩
                case rest =>
                  obtain ⟨rfl, hb3⟩ := hcut
                  obtain ⟨w6, rfl⟩ : ∃ w6 : World, w6 = wc := ⟨_, rfl⟩
                  have D6 := Lib.hid hb3
                  have c1 := (hb3.cell (p := a1.add q) az1).trans c1
                  have c2 := (hb3.cell (p := a1.add r) az2).trans c2
                  clear hb3 eR
                  go_wp2_with fail
                  go_upto_region 22 with fail
                  have k6 : IntKind.i64.wrap ((q : Int) + 1) = ((q + 1 : Nat) : Int) := by rw [show (q : Int) + 1 = ((q + 1 : Nat) : Int) by omega]; exact IntWalk.i64_in _ (by omega)
                  have D7 := Lib.hid (HB2.out.trans (D6.out.mono HB2.out.size))
                  cases F0
                  · rw [Bool.false_and] at eF
                    subst eF
                    go_quiet (fail)
                    clear k5
                    go_wp2_with fail
                    go_roundw
                    case rel => (obtain ⟨d', h1, h2, h3, h4, h5⟩ := HROW.out _ (below_drewN D7.out _); exact ⟨d', h1, h2, h3, by first | exact h4 | (rw [← h4]; go_num), h5⟩)
                    case measure => simp [intOf]; omega
                  · rw [Bool.true_and] at eF
                    have HEF := Lib.hid eF
                    clear eF
                    go_quiet (fail)
                    clear k5
                    go_wp2_with fail
                    go_roundw
                    case rel => (obtain ⟨d', h1, h2, h3, h4, h5⟩ := HROW.out _ (below_drewN D7.out _); rw [HEF.out] at h3; exact ⟨d', h1, h2, h3, by first | exact h4 | (rw [← h4]; go_num), h5⟩)
                    case measure => simp [intOf]; omega
              · have hki2 : (b : Int) < ((a + d + 1 : Nat) : Int) := by omega
                have hdd : b - a = d := by omega
                have hrf := HRF.out
                rw [hdd] at hrf
                have D7 := Lib.hid (HB.out.trans (hb2.mono HB.out.size))
                clear hb2 hdd hdl
                generalize rsB Z a d = R0 at *
                generalize flB Z a d = F0 at *
                generalize a + d + 1 = q at *
                by_cases hk00 : k = 0
                · have u4 : decide (0 < k) = false := decide_eq_false (by omega)
                  have u5 : decide ((0 : Int) < (k : Int)) = false := decide_eq_false (by omega)
                  clear hk00
                  cases R0 <;> cases F0
                  all_goals
                    first
                      | (exfalso; simp [hm] at hrf; done)
                      | (clear hrf; go_wp2_with fail; go_roundw; (case rel => exact ⟨k + 1, (b : Int), by omega, rfl, fun h => hFn.out h, by go_num, D7.out⟩); (case measure => (simp [intOf]; omega)))
                · have u4 : decide (0 < k) = true := decide_eq_true (by omega)
                  have u5 : decide ((0 : Int) < (k : Int)) = true := decide_eq_true (by omega)
                  clear hk00
                  cases R0 <;> cases F0
                  all_goals
                    first
                      | (exfalso; simp [hm] at hrf; done)
                      | (clear hrf; go_wp2_with fail; go_roundw; (case rel => exact ⟨k + 1, (b : Int), by omega, rfl, fun h => hFn.out h, by go_num, D7.out⟩); (case measure => (simp [intOf]; omega)))
          · have hmi : (m : Int) ≤ (k : Int) := by omega
            have u2 : decide (k < m) = false := decide_eq_false hm
            have u3 : decide ((k : Int) < (m : Int)) = false := decide_eq_false (by omega)
            rw [hbn] at w1'
            go_wp2_with fail
            go_loopw [13, 14, 15] (fun r fl kk wr => ∃ d : Nat, a + d ≤ b ∧ r = .bool (rsB Z a d) ∧ fl = .bool (flB Z a d) ∧ kk = .int .i64 ((a + d + 1 : Nat) : Int) ∧ Below wo.heap.size wo wr) (fun _ _ kk _ => b + 1 - (intOf kk).toNat)
            case atStart => exact ⟨0, by omega, rfl, rfl, rfl, Below.refl _ _⟩
            case round =>
              obtain ⟨d, hd, rfl, rfl, rfl, hb2⟩ := hrel
              obtain ⟨wq, rfl⟩ : ∃ wq : World, wq = wr := ⟨_, rfl⟩
              have HB2 := Lib.hid hb2
              have hd0 : (0 : Int) ≤ ((a + d + 1 : Nat) : Int) := by omega
              by_cases hdl : a + d < b
              · have hbel := nextB C3.out (nextB (show Below w3.heap.size w3 wo from HB.out) hb2)
                obtain ⟨a1, r1, _, c1⟩ := (HIN.out.up hbel (Nat.le_refl _)).2 (a + d + 1) (by omega)
                obtain ⟨a2, r2, _, c2⟩ := (HIN.out.up hbel (Nat.le_refl _)).2 (a + d) (by omega)
                subst r1
                cases r2
                have az1 := World.block_lt_of_cell? _ _ c1
                have az2 := World.block_lt_of_cell? _ _ c2
                have eR : rsB Z a (d + 1) = (rsB Z a d && decide (Z (a + d) ≤ Z (a + d + 1))) := rfl
                have eF : flB Z a (d + 1) = (flB Z a d && decide (Z (a + d + 1) ≤ Z (a + d))) := rfl
                have k1 : ((a + d + 1 : Nat) : Int) ≤ (b : Int) := by omega
                have k2 : ((a + d + 1 : Nat) : Int) < (n : Int) := by omega
                have k3 : ((a + d : Nat) : Int) < (n : Int) := by omega
                have k4 : (0 : Int) ≤ ((a + d : Nat) : Int) := by omega
                have k5 : IntKind.i64.wrap (((a + d + 1 : Nat) : Int) - 1) = ((a + d : Nat) : Int) := by rw [show ((a + d + 1 : Nat) : Int) - 1 = ((a + d : Nat) : Int) by omega]; exact IntWalk.i64_in _ (by omega)
                have hrow : ∀ wx, Below wo.heap.size wo wx → ∃ d' : Nat, a + d' ≤ b ∧ Value.bool (rsB Z a (d + 1)) = .bool (rsB Z a d') ∧ Value.bool (flB Z a (d + 1)) = .bool (flB Z a d') ∧ Value.int .i64 (((a + d + 1) + 1 : Nat) : Int) = .int .i64 ((a + d' + 1 : Nat) : Int) ∧ Below wo.heap.size wo wx := fun wx hx => ⟨d + 1, by omega, rfl, rfl, rfl, hx⟩
                have HROW := Lib.hid hrow
                clear hb2 hbel hdl hrow
                generalize hR1 : rsB Z a (d + 1) = R1 at *
                generalize hF1 : flB Z a (d + 1) = F1 at *
                generalize hR0 : rsB Z a d = R0 at *
                generalize hF0 : flB Z a d = F0 at *
                have H1 := Lib.hid (And.intro hR1 hF1)
                generalize hZq : Z (a + d + 1) = Zq at *
                generalize hZr : Z (a + d) = Zr at *
                generalize hqq : a + d + 1 = q at *
                generalize hrr : a + d = r at *
                have HQQ := Lib.hid hqq
                clear hR1 hF1 hR0 hF0 hZq hZr hqq hrr
                go_upto_region 21 with fail
                go_cut [13] (fun v wx => v = .bool R1 ∧ Below wq.heap.size wq wx)
                case first =>
                  cases R0
                  · rw [Bool.false_and] at eR
                    subst eR
                    go_quiet (fail)
                    go_wp2_with fail
                    go_meet
                    exact ⟨rfl, below_drewN (Below.refl _ _) _⟩
                  · rw [Bool.true_and] at eR
                    have HER := Lib.hid eR
                    clear eR eF
                    go_quiet (fail)
                    go_wp2_with fail
                    go_meet
                    exact ⟨by rw [HER.out], below_drewN (Below.refl _ _) _⟩
                case rest =>
                  obtain ⟨rfl, hb3⟩ := hcut
                  obtain ⟨w6, rfl⟩ : ∃ w6 : World, w6 = wc := ⟨_, rfl⟩
                  have D6 := Lib.hid hb3
                  have c1 := (hb3.cell (p := a1.add q) az1).trans c1
                  have c2 := (hb3.cell (p := a1.add r) az2).trans c2
                  clear hb3 eR
                  go_wp2_with fail
                  go_upto_region 22 with fail
                  have k6 : IntKind.i64.wrap ((q : Int) + 1) = ((q + 1 : Nat) : Int) := by rw [show (q : Int) + 1 = ((q + 1 : Nat) : Int) by omega]; exact IntWalk.i64_in _ (by omega)
                  have D7 := Lib.hid (HB2.out.trans (D6.out.mono HB2.out.size))
                  cases F0
                  · rw [Bool.false_and] at eF
                    subst eF
                    go_quiet (fail)
                    clear k5
                    go_wp2_with fail
                    go_roundw
                    case rel => (obtain ⟨d', h1, h2, h3, h4, h5⟩ := HROW.out _ (below_drewN D7.out _); exact ⟨d', h1, h2, h3, by first | exact h4 | (rw [← h4]; go_num), h5⟩)
                    case measure => simp [intOf]; omega
                  · rw [Bool.true_and] at eF
                    have HEF := Lib.hid eF
                    clear eF
                    go_quiet (fail)
                    clear k5
                    go_wp2_with fail
                    go_roundw
                    case rel => (obtain ⟨d', h1, h2, h3, h4, h5⟩ := HROW.out _ (below_drewN D7.out _); rw [HEF.out] at h3; exact ⟨d', h1, h2, h3, by first | exact h4 | (rw [← h4]; go_num), h5⟩)
                    case measure => simp [intOf]; omega
              · have hki2 : (b : Int) < ((a + d + 1 : Nat) : Int) := by omega
                have hdd : b - a = d := by omega
                have hrf := HRF.out
                rw [hdd] at hrf
                have D7 := Lib.hid (HB.out.trans (hb2.mono HB.out.size))
                clear hb2 hdd hdl
                generalize rsB Z a d = R0 at *
                generalize flB Z a d = F0 at *
                generalize a + d + 1 = q at *
                by_cases hk00 : k = 0
                · have u4 : decide (0 < k) = false := decide_eq_false (by omega)
                  have u5 : decide ((0 : Int) < (k : Int)) = false := decide_eq_false (by omega)
                  clear hk00
                  cases R0 <;> cases F0
                  all_goals
                    first
                      | (exfalso; simp [hm] at hrf; done)
                      | (clear hrf; go_wp2_with fail; go_roundw; (case rel => exact ⟨k + 1, (b : Int), by omega, rfl, fun h => hFn.out h, by go_num, D7.out⟩); (case measure => (simp [intOf]; omega)))
                · have u4 : decide (0 < k) = true := decide_eq_true (by omega)
                  have u5 : decide ((0 : Int) < (k : Int)) = true := decide_eq_true (by omega)
                  clear hk00
                  cases R0 <;> cases F0
                  all_goals
                    first
                      | (exfalso; simp [hm] at hrf; done)
                      | (clear hrf; go_wp2_with fail; go_roundw; (case rel => exact ⟨k + 1, (b : Int), by omega, rfl, fun h => hFn.out h, by go_num, D7.out⟩); (case measure => (simp [intOf]; omega)))
        · have hki : (m : Int) < (k : Int) := by omega
          have C4 := Lib.hid (nextB C3.out hb)
          have Hp4 := Lib.hid (Hp3.out.up hb zp3)
          have zp4 := Hp4.out.lt
          have HWr : Hid (∀ x : Int, -1000000 ≤ x → x ≤ 1000000 → IntKind.i64.wrap x = x) := Lib.hid fun x h1 h2 => IntWalk.i64_in _ (by omega)
          obtain ⟨x0, x1, x2, x3⟩ := Hp4.out
          obtain ⟨nm, hnm⟩ : ∃ nm : Nat, nm = n - 1 := ⟨_, rfl⟩
          have hmono : m = 0 → UpS Z 0 nm ∨ DnS Z 0 nm := by rw [hnm]; exact HM.out
          have HMono := Lib.hid hmono
          have w1' : IntKind.i64.wrap ((n : Int) - 1) = (nm : Int) := by rw [hnm]; exact HW1.out
          have HW := Lib.hid w1'
          have HNM := Lib.hid hnm
          have hnmn : nm < n := by omega
          have hnmi : (nm : Int) < (n : Int) := by omega
          have hnm0 : (0 : Int) ≤ (nm : Int) := by omega
          clear hb hF HM HS HFr hmono w1' hnm
          go_wp2_with fail
          refine (K2.out _ C4.out).mono ?_
          rintro e w5 hP
          obtain ⟨v5, e5, hb5⟩ := hP.any
          subst e5
          have Q5 := Lib.hid (LQ.of hP (Below.refl _ _))
          have C5 := Lib.hid (nextB C4.out hb5)
          clear hP hb5 K2 x0 x1 x2 x3
          by_cases g2 : E2 = 0
          · by_cases hm0 : m = 0
            · have u1 : decide (0 < m) = false := decide_eq_false (by omega)
              have u2 : decide ((0 : Int) < (m : Int)) = false := decide_eq_false (by omega)
              have g4 : (E2 == 0) = true := by simpa using g2
              have g5 : (E2 != 0) = false := by simpa using g2
              have HE2 := Lib.hid (show folR p f n Z 0 by have h := HE.out.2; rw [g2] at h; exact h)
              have Q5' := Lib.hid (show LQ wo (upTo (shw p.b f Z) n) 0 _ w5 by have h := Q5.out; rw [g2] at h; exact h)
              obtain ⟨hok, _, _⟩ := fol_ok HE2.out
              have HL := Lib.hid (runs_l hok.b.1 f Z nm (HMono.out hm0))
              have HSh := Lib.hid (fun k => shw_near hok.b.1 f Z k)
              obtain ⟨A5, c5, rfl, hin5⟩ := Q5'.out.rowR hn5
              have HN5 := Lib.hid hin5
              clear hok hin5 Q5 Q5' hm0 g2 HE HE2
              go_wp2_with fail
              go_loopw [18] (fun i wr => ∃ k : Nat, k + 1 ≤ n ∧ i = .int .i64 ((k + 1 : Nat) : Int) ∧ Below w5.heap.size w5 wr) (fun i _ => n - (intOf i).toNat)
              case atStart => exact ⟨0, hn0, rfl, Below.refl _ _⟩
              case round =>
                obtain ⟨d, hd, rfl, hb6⟩ := hrel
                obtain ⟨wq, rfl⟩ : ∃ wq : World, wq = wr := ⟨_, rfl⟩
                have HB6 := Lib.hid hb6
                have hd0 : (0 : Int) ≤ ((d + 1 : Nat) : Int) := by omega
                by_cases hdl : d + 1 < n
                · have hbel := nextB C5.out hb6
                  obtain ⟨a1, r1, _, c1⟩ := (HIN.out.up hbel (Nat.le_refl _)).2 0 (by omega)
                  obtain ⟨a2, r2, _, c2⟩ := (HIN.out.up hbel (Nat.le_refl _)).2 nm hnmn
                  subst r1
                  cases r2
                  obtain ⟨a3, r3, _, c3⟩ := (HN5.out.up hb6 (Nat.le_refl _)).2 (d + 1) hdl
                  obtain ⟨a4, r4, _, c4⟩ := (HN5.out.up hb6 (Nat.le_refl _)).2 d (by omega)
                  subst r3
                  cases r4
                  have c0 : wq.cell? a1 = some (.int .i64 (Z 0)) := by simpa [Addr.add] using c1
                  have k2 : ((d + 1 : Nat) : Int) < (n : Int) := by omega
                  have k3 : (d : Int) < (n : Int) := by omega
                  have k4 : (0 : Int) ≤ (d : Int) := by omega
                  have k5 : IntKind.i64.wrap (((d + 1 : Nat) : Int) - 1) = (d : Int) := by rw [show ((d + 1 : Nat) : Int) - 1 = (d : Int) by omega]; exact HWr.out _ (by omega) (by omega)
                  have k6 := HW.out
                  have nn1 : 0 < n := by omega
                  have nn2 : (0 : Int) < (n : Int) := by omega
                  have hmm := HL.out d (by have := HNM.out; omega)
                  have hrow : ∀ wx, Below w5.heap.size w5 wx → ∃ d' : Nat, d' + 1 ≤ n ∧ Value.int .i64 (((d + 1) + 1 : Nat) : Int) = .int .i64 ((d' + 1 : Nat) : Int) ∧ Below w5.heap.size w5 wx := fun wx hx => ⟨d + 1, by omega, rfl, hx⟩
                  have HROW := Lib.hid hrow
                  have k7 : IntKind.i64.wrap (((d + 1 : Nat) : Int) + 1) = (((d + 1) + 1 : Nat) : Int) := by rw [show ((d + 1 : Nat) : Int) + 1 = (((d + 1) + 1 : Nat) : Int) by omega]; exact HWr.out _ (by omega) (by omega)
                  generalize hS1 : shw p.b f Z (d + 1) = S1 at *
                  generalize hS0 : shw p.b f Z d = S0 at *
                  generalize hZ0 : Z 0 = Z0 at *
                  generalize hZn : Z nm = Zn at *
                  generalize hqq : d + 1 = q at *
                  have s1 : Z0 ≤ Zn → decide (S1 < S0) = false := fun h => decide_eq_false (by have := hmm.1 h; omega)
                  have s2 : Zn ≤ Z0 → decide (S0 < S1) = false := fun h => decide_eq_false (by have := hmm.2 h; omega)
                  clear hb6 hbel c1 hmm hrow hS1 hS0 hZ0 hZn hqq hdl
                  rcases Int.lt_trichotomy Z0 Zn with hz | hz | hz
                  · have d1 : decide (Z0 ≤ Zn) = true := decide_eq_true (by omega)
                    have d2 : decide (Zn ≤ Z0) = false := decide_eq_false (by omega)
                    have d3 := s1 (by omega)
                    clear s1 s2 hz
                    go_wp2_with fail
                    go_quiet (fail)
                    clear k5 k6
                    go_wp2_with fail
                    go_roundw
                    case rel => (obtain ⟨d', h1, h2, h3⟩ := HROW.out _ (below_drewN HB6.out _); exact ⟨d', h1, by first | exact h2 | (rw [← h2]; go_num), h3⟩)
                    case measure => simp [intOf]; omega
                  · have d1 : decide (Z0 ≤ Zn) = true := decide_eq_true (by omega)
                    have d2 : decide (Zn ≤ Z0) = true := decide_eq_true (by omega)
                    have d3 := s1 (by omega)
                    have d4 := s2 (by omega)
                    clear s1 s2 hz
                    go_wp2_with fail
                    go_quiet (fail)
                    clear k5 k6
                    go_wp2_with fail
                    go_roundw
                    case rel => (obtain ⟨d', h1, h2, h3⟩ := HROW.out _ (below_drewN HB6.out _); exact ⟨d', h1, by first | exact h2 | (rw [← h2]; go_num), h3⟩)
                    case measure => simp [intOf]; omega
                  · have d1 : decide (Z0 ≤ Zn) = false := decide_eq_false (by omega)
                    have d2 : decide (Zn ≤ Z0) = true := decide_eq_true (by omega)
                    have d4 := s2 (by omega)
                    clear s1 s2 hz
                    go_wp2_with fail
                    go_quiet (fail)
                    clear k5 k6
                    go_wp2_with fail
                    go_roundw
                    case rel => (obtain ⟨d', h1, h2, h3⟩ := HROW.out _ (below_drewN HB6.out _); exact ⟨d', h1, by first | exact h2 | (rw [← h2]; go_num), h3⟩)
                    case measure => simp [intOf]; omega
                · have hki2 : (n : Int) ≤ ((d + 1 : Nat) : Int) := by omega
                  clear hb6
                  generalize d + 1 = q at *
                  go_wp2_with fail
                  go_ret
                  exact ⟨rfl, nextB C5.out HB6.out⟩
            · have u1 : decide (0 < m) = true := decide_eq_true (by omega)
              have u2 : decide ((0 : Int) < (m : Int)) = true := decide_eq_true (by omega)
              have g4 : (E2 == 0) = true := by simpa using g2
              have g5 : (E2 != 0) = false := by simpa using g2
              clear hm0 g2
              go_wp2_with fail
              go_ret
              exact ⟨rfl, C5.out⟩
          · have g4 : (E2 == 0) = false := by simpa using g2
            have g5 : (E2 != 0) = true := by simpa using g2
            clear g2
            go_wp2_with fail
            go_ret
            exact ⟨rfl, C5.out⟩
    · have g4 : (E1 == 0) = false := by simpa using g1
      have g5 : (E1 != 0) = true := by simpa using g1
      obtain rfl := Q3.out.2.2 g1
      clear g1
      go_wp2_with fail
      go_ret
      exact ⟨rfl, C3.out⟩
  · have df : decide ((n : Int) ≤ 500) = false := by simpa using hf
    rw [df] at KF
    clear df hf
    go_wp2_with (go_at_call 20; refine (KF.out _).mono ?_; rintro e w' ⟨rfl, rfl⟩)
    go_ret
    exact ⟨rfl, C2.out⟩
end Go.Proofs.Ytkidhmajlpceeaa
