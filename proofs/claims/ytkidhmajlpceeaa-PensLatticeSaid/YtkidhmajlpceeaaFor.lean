import Derived.Test.YtkidhmajlpceeaaFlw
import Derived.Deep.DeepCutAuto
namespace Go.Proofs.Ytkidhmajlpceeaa
open Go.RowKit
theorem asZ_upTo {Z : Nat → Int} {n i : Nat} (h : i < n) : asZ (upTo Z n) i = Z i := by simp [asZ, upTo, h]
theorem row_upTo {w : World} {B n : Nat} {v : Value} {Z : Nat → Int} (h : w.ownsRow B 3 1 v n (intsZ (upTo Z n))) (hn : n ≤ 1000) : ∃ A c, v = .slice A n c ∧ IntsIn A n Z w.heap.size w := by
  have h' : w.ownsRow B 3 1 v (upTo Z n).length (intsZ (upTo Z n)) := by rw [upTo_len]; exact h
  obtain ⟨A, c, e, h1, h2⟩ := row_ints h' (by rw [upTo_len]; exact hn)
  rw [upTo_len] at e h1 h2
  exact ⟨A, c, e, h1, fun i hi => by have := h2 i hi; rwa [asZ_upTo hi] at this⟩
/-- no change is too great -/
def RateOk (p : Pn) (Z : Nat → Int) (n : Nat) : Prop := ∀ k, k < n → okAt p (Z 0) Z k
theorem okAt_b {p : Pn} {Z : Nat → Int} (h : p.Ok) {f : Int} (hf : -p.b ≤ Z 0 - f ∧ Z 0 - f ≤ p.b) (k : Nat) : okAt p f Z k ↔ okAt p (Z 0) Z k := by
  have := h.b
  cases k with
  | zero => exact ⟨fun _ => by show -p.b ≤ Z 0 - Z 0 ∧ Z 0 - Z 0 ≤ p.b; omega, fun _ => hf⟩
  | succ k => exact Iff.rfl
/-- the first one at which the lowest and the highest beginning show the same -/
structure Meets (p : Pn) (Z : Nat → Int) (n : Nat) (j : Nat) : Prop where
  le : j ≤ n
  ne : ∀ k, k < j → shw p.b (Z 0 - p.b) Z k ≠ shw p.b (Z 0 + p.b) Z k
  eq : j < n → shw p.b (Z 0 - p.b) Z j = shw p.b (Z 0 + p.b) Z j
theorem meets_ex (p : Pn) (Z : Nat → Int) (n : Nat) : ∃ j, Meets p Z n j := by
  induction n with
  | zero => exact ⟨0, Nat.le_refl _, fun k hk => absurd hk (by omega), fun h => absurd h (by omega)⟩
  | succ n ih =>
    obtain ⟨k, h1, h2, h3⟩ := ih
    by_cases hk : k < n
    · exact ⟨k, by omega, h2, fun _ => h3 hk⟩
    · obtain rfl : k = n := by omega
      by_cases hx : shw p.b (Z 0 - p.b) Z k = shw p.b (Z 0 + p.b) Z k
      · exact ⟨k, by omega, h2, fun _ => hx⟩
      · exact ⟨k + 1, Nat.le_refl _, fun i hi => (Nat.lt_succ_iff_lt_or_eq.1 hi).elim (h2 i) (fun e => e ▸ hx), fun h => absurd h (by omega)⟩
/-- what Forgets answers: a number and an error -/
def forR (p : Pn) (n : Nat) (Z : Nat → Int) (I E : Int) : Prop :=
  (¬ p.Ok ∧ I = 0 ∧ E = 30) ∨ p.Ok ∧ ((¬ LsOk Z n ∧ I = 0 ∧ E = 1) ∨ LsOk Z n ∧ ((¬ RateOk p Z n ∧ I = 0 ∧ E = 31) ∨ RateOk p Z n ∧ ∃ j, Meets p Z n j ∧ ((j < n ∧ I = j ∧ E = 0) ∨ (j = n ∧ I = 0 ∧ E = 3))))
theorem forR_ex (p : Pn) (n : Nat) (Z : Nat → Int) : ∃ I E, forR p n Z I E := by
  by_cases h : p.Ok
  · by_cases hl : LsOk Z n
    · by_cases hr : RateOk p Z n
      · obtain ⟨j, hj⟩ := meets_ex p Z n
        by_cases hx : j < n
        · exact ⟨j, 0, .inr ⟨h, .inr ⟨hl, .inr ⟨hr, j, hj, .inl ⟨hx, rfl, rfl⟩⟩⟩⟩⟩
        · exact ⟨0, 3, .inr ⟨h, .inr ⟨hl, .inr ⟨hr, j, hj, .inr ⟨by have := hj.le; omega, rfl, rfl⟩⟩⟩⟩⟩
      · exact ⟨0, 31, .inr ⟨h, .inr ⟨hl, .inl ⟨hr, rfl, rfl⟩⟩⟩⟩
    · exact ⟨0, 1, .inr ⟨h, .inl ⟨hl, rfl, rfl⟩⟩⟩
  · exact ⟨0, 30, .inl ⟨h, rfl, rfl⟩⟩
theorem follow_at (p : Pn) (f : Int) (A : Option Addr) (n c : Nat) (Z : Nat → Int) (w : World) (h : p.Ok) (hf : -p.b ≤ Z 0 - f ∧ Z 0 - f ≤ p.b) (hl : LsOk Z n) (hin : IntsIn A n Z w.heap.size w) :
    (RateOk p Z n → Calls Try.prog 71 #[.func (.func 67) #[p.v] #[], .int .i64 f, .slice A n c] w fun e w' => ∃ v, e = .returned (.tuple #[v, .bool true]) ∧ RowZ w (upTo (shw p.b f Z) n) v w') ∧
    (¬ RateOk p Z n → Calls Try.prog 71 #[.func (.func 67) #[p.v] #[], .int .i64 f, .slice A n c] w fun e w' => e = .returned (.tuple #[.slice none 0 0, .bool false]) ∧ Below w.heap.size w w') := by
  obtain ⟨l1, l2, l3⟩ := hl
  have h0 := l3 0 (by omega)
  have hb := h.b
  constructor
  · intro hr
    refine (follow_any p f A n c n Z w h (by omega) l3 (by omega) l2 hin (Nat.le_refl _) (fun k hk => (okAt_b h hf k).2 (hr k hk)) (fun e => absurd e (by omega))).mono ?_
    intro e w' hp
    exact hp.1 (by simp)
  · intro hr
    rcases ok_or p f Z n with h1 | ⟨j, hj, h1, h2⟩
    · exact absurd (fun k hk => (okAt_b h hf k).1 (h1 k hk)) hr
    · refine (follow_any p f A n c j Z w h (by omega) l3 (by omega) l2 hin (by omega) h1 (fun _ => h2)).mono ?_
      intro e w' hp
      exact hp.2 (by simp; omega)
set_option maxHeartbeats 2000000 in
theorem Forgets_e (p : Pn) (A : Option Addr) (n c : Nat) (Z : Nat → Int) (w : World) (hin : IntsIn A n Z w.heap.size w) :
    (¬ p.Ok → Calls Try.prog 52 #[p.v, .slice A n c] w fun e w' => e = .returned (.tuple #[.int .i64 0, .int .i64 30]) ∧ Below w.heap.size w w') ∧
    (p.Ok → ¬ LsOk Z n → Calls Try.prog 52 #[p.v, .slice A n c] w fun e w' => e = .returned (.tuple #[.int .i64 0, .int .i64 1]) ∧ Below w.heap.size w w') := by
  constructor
  · intro h
    go_enter Try.func52, Try.ntmps52
    go_wp2_with fail
    refine (checkList_bad p _ _ _ _ h).mono ?_
    rintro e w1 ⟨rfl, hb⟩
    go_wp2_with fail
    go_ret2
    exact ⟨rfl, (box1 _ _).trans (hb.mono (by simp))⟩
  · intro h hl
    have HIN := Lib.hid (fun o => (hin.up (box1 w o) (Nat.le_refl _)).more (box1 w o).size)
    have HL := Lib.hid hl
    clear hl hin
    go_enter Try.func52, Try.ntmps52
    go_wp2_with fail
    refine (checkList_arg p _ _ _ Z _ (HIN.out _) h HL.out).mono ?_
    rintro e w1 ⟨rfl, hb⟩
    go_wp2_with fail
    go_ret2
    exact ⟨rfl, (box1 _ _).trans (hb.mono (by simp))⟩
set_option maxRecDepth 100000 in
set_option maxHeartbeats 4000000 in
theorem Forgets_no (p : Pn) (A : Option Addr) (n c : Nat) (Z : Nat → Int) (w : World) (hin : IntsIn A n Z w.heap.size w) (h : p.Ok) (hl : LsOk Z n) (hr : ¬ RateOk p Z n) :
    Calls Try.prog 52 #[p.v, .slice A n c] w fun e w' => e = .returned (.tuple #[.int .i64 0, .int .i64 31]) ∧ Below w.heap.size w w' := by
  have HIN := Lib.hid hin
  obtain ⟨a, rfl, ab, c0⟩ := hin.2 0 (by have := hl.1; omega)
  rw [add_zero] at c0
  have h0i : (0 : Int) < n := by have := hl.1; omega
  have hb := h.b
  have hz0 := hl.2.2 0 (by have := hl.1; omega)
  have HL := Lib.hid hl
  have HR := Lib.hid hr
  have HH := Lib.hid h
  clear hin hl hr
  obtain ⟨b1, b2⟩ := hb
  obtain ⟨z1, z2⟩ := hz0
  go_enter Try.func52, Try.ntmps52
  go_wp2_with fail
  refine (checkList_ok p _ _ _ Z _ ((HIN.out.up (box1 w _) (Nat.le_refl _)).more (by simp)) HH.out HL.out).mono ?_
  rintro e w1 ⟨rfl, hb⟩
  have C1 : Below w.heap.size w w1 := (box1 _ _).trans (hb.mono (by simp))
  have s1 := hb.size
  simp only [World.size_alloc] at s1
  have q0 : w1.cell? ⟨w.heap.size, 0, none⟩ = some (.int .i64 p.b) := low_cell hb (by simp only [World.size_alloc]; omega) (by go_simp)
  have q1 : w1.cell? ⟨w.heap.size, 1, none⟩ = some (.int .i64 p.lo) := low_cell hb (by simp only [World.size_alloc]; omega) (by go_simp)
  have q2 : w1.cell? ⟨w.heap.size, 2, none⟩ = some (.int .i64 p.hi) := low_cell hb (by simp only [World.size_alloc]; omega) (by go_simp)
  have q3 : w1.cell? ⟨w.heap.size, 3, none⟩ = some (.int .i64 p.r) := low_cell hb (by simp only [World.size_alloc]; omega) (by go_simp)
  have d0 := (C1.cell (p := a) ab).trans c0
  have hin1 := Lib.hid ((HIN.out.up C1 (Nat.le_refl _)).more C1.size)
  have HC := Lib.hid C1
  have z : w.heap.size < w1.heap.size := by omega
  have e1 : IntKind.i64.wrap (Z 0 - p.b) = Z 0 - p.b := IntWalk.i64_in _ (by omega)
  have hok : -p.b ≤ Z 0 - (Z 0 - p.b) ∧ Z 0 - (Z 0 - p.b) ≤ p.b := by omega
  have K := Lib.hid fun W (hW : Below w1.heap.size w1 W) => (follow_at p (Z 0 - p.b) (some a) n c Z W HH.out hok HL.out ((hin1.out.up hW (Nat.le_refl _)).more hW.size)).2 HR.out
  clear hb C1 hok c0
  go_wp2_with fail
  go_region_with (go_at_call 71; refine (K.out _ (by first | exact Below.refl _ _ | exact (Below.refl _ _).drew)).mono ?_; rintro e w2 ⟨rfl, hb2⟩; have HB2 := Lib.hid (show Below w1.heap.size w1 w2 from by first | exact hb2 | exact (Below.refl _ _).drew.trans (hb2.mono (by simp only [World.size_drew]; omega))); clear hb2)
  all_goals
    clear e1
    go_wp2_with fail
    go_ret2
    exact ⟨rfl, HC.out.trans (by first | exact HB2.out.mono HC.out.size | exact (HB2.out.mono HC.out.size).drew)⟩
set_option maxRecDepth 100000 in
set_option maxHeartbeats 4000000 in
theorem Forgets_ok (p : Pn) (A : Option Addr) (n c : Nat) (Z : Nat → Int) (w : World) (hin : IntsIn A n Z w.heap.size w) (j : Nat) (I E : Int) (h : p.Ok) (hl : LsOk Z n) (hr : RateOk p Z n) (hm : Meets p Z n j) (hI : (j < n ∧ I = j ∧ E = 0) ∨ (j = n ∧ I = 0 ∧ E = 3)) :
    Calls Try.prog 52 #[p.v, .slice A n c] w fun e w' => e = .returned (.tuple #[.int .i64 I, .int .i64 E]) ∧ Below w.heap.size w w' := by
  have HIN := Lib.hid hin
  obtain ⟨a, rfl, ab, c0⟩ := hin.2 0 (by have := hl.1; omega)
  rw [add_zero] at c0
  have h0i : (0 : Int) < n := by have := hl.1; omega
  have hb := h.b
  have hz0 := hl.2.2 0 (by have := hl.1; omega)
  have HL := Lib.hid hl
  have HR := Lib.hid hr
  have HH := Lib.hid h
  have HM := Lib.hid hm
  have HI := Lib.hid hI
  have hn := hin.1
  clear hin hl hr hm hI
  obtain ⟨b1, b2⟩ := hb
  obtain ⟨z1, z2⟩ := hz0
  go_enter Try.func52, Try.ntmps52
  go_wp2_with fail
  refine (checkList_ok p _ _ _ Z _ ((HIN.out.up (box1 w _) (Nat.le_refl _)).more (by simp)) HH.out HL.out).mono ?_
  rintro e w1 ⟨rfl, hb⟩
  have C1 : Below w.heap.size w w1 := (box1 _ _).trans (hb.mono (by simp))
  have s1 := hb.size
  simp only [World.size_alloc] at s1
  have q0 : w1.cell? ⟨w.heap.size, 0, none⟩ = some (.int .i64 p.b) := low_cell hb (by simp only [World.size_alloc]; omega) (by go_simp)
  have q1 : w1.cell? ⟨w.heap.size, 1, none⟩ = some (.int .i64 p.lo) := low_cell hb (by simp only [World.size_alloc]; omega) (by go_simp)
  have q2 : w1.cell? ⟨w.heap.size, 2, none⟩ = some (.int .i64 p.hi) := low_cell hb (by simp only [World.size_alloc]; omega) (by go_simp)
  have q3 : w1.cell? ⟨w.heap.size, 3, none⟩ = some (.int .i64 p.r) := low_cell hb (by simp only [World.size_alloc]; omega) (by go_simp)
  have d0 := (C1.cell (p := a) ab).trans c0
  have hin1 := Lib.hid ((HIN.out.up C1 (Nat.le_refl _)).more C1.size)
  have HC := Lib.hid C1
  have z : w.heap.size < w1.heap.size := by omega
  have e1 : IntKind.i64.wrap (Z 0 - p.b) = Z 0 - p.b := IntWalk.i64_in _ (by omega)
  have e2 : IntKind.i64.wrap (Z 0 + p.b) = Z 0 + p.b := IntWalk.i64_in _ (by omega)
  have hok : -p.b ≤ Z 0 - (Z 0 - p.b) ∧ Z 0 - (Z 0 - p.b) ≤ p.b := by omega
  have hok2 : -p.b ≤ Z 0 - (Z 0 + p.b) ∧ Z 0 - (Z 0 + p.b) ≤ p.b := by omega
  have K := Lib.hid fun W (hW : Below w1.heap.size w1 W) => (follow_at p (Z 0 - p.b) (some a) n c Z W HH.out hok HL.out ((hin1.out.up hW (Nat.le_refl _)).more hW.size)).1 HR.out
  have K2 := Lib.hid fun W (hW : Below w1.heap.size w1 W) => (follow_at p (Z 0 + p.b) (some a) n c Z W HH.out hok2 HL.out ((hin1.out.up hW (Nat.le_refl _)).more hW.size)).1 HR.out
  clear hb C1 hok hok2 c0
  go_wp2_with fail
  go_upto_region 5 with fail
  go_cut [8, 9] (fun v8 v9 wx => v9 = .bool true ∧ Below w1.heap.size w1 wx ∧ wx.ownsRow w1.heap.size 3 1 v8 n (intsZ (upTo (shw p.b (Z 0 - p.b) Z) n)))
  case first =>
    clear e2
    go_region_with (go_at_call 71; refine (K.out _ (by first | exact Below.refl _ _ | exact (Below.refl _ _).drew)).mono ?_; rintro e w2 ⟨v, rfl, hr2⟩; have HB2 := Lib.hid (show Below w1.heap.size w1 w2 ∧ w2.ownsRow w1.heap.size 3 1 v n (intsZ (upTo (shw p.b (Z 0 - p.b) Z) n)) from by first | exact ⟨hr2.below, by have := hr2.own; rwa [upTo_len] at this⟩ | exact ⟨(Below.refl _ _).drew.trans (hr2.below.mono (by simp only [World.size_drew]; omega)), by have := hr2.own; rw [upTo_len] at this; exact own_mono this (by simp only [World.size_drew]; omega)⟩); clear hr2)
    all_goals
      go_wp2_with fail
      go_meet
      exact ⟨rfl, HB2.out.1, HB2.out.2⟩
  case rest =>
    obtain ⟨rfl, hb2, ho2⟩ := hcut
    obtain ⟨wd, rfl⟩ : ∃ wd : World, wd = wc := ⟨_, rfl⟩
    obtain ⟨A2, c2, rfl, hin2⟩ := row_upTo ho2 (by have := HL.out.2.1; omega)
    have dd := (hb2.cell (p := a) (Nat.lt_of_lt_of_le ab HC.out.size)).trans d0
    have p0 := cell_up hb2 z q0
    have p1 := cell_up hb2 z q1
    have p2 := cell_up hb2 z q2
    have p3 := cell_up hb2 z q3
    have K3 := Lib.hid fun W (hW : Below wd.heap.size wd W) => K2.out W (hb2.trans (hW.mono hb2.size))
    have HIN2 := Lib.hid hin2
    have HB2 := Lib.hid hb2
    have z2 : w.heap.size < wd.heap.size := Nat.lt_of_lt_of_le z hb2.size
    clear hb2 ho2 hin2 q0 q1 q2 q3 d0 K K2 e1
    go_wp2_with fail
    go_upto_region 8 with fail
    go_cut [10, 9] (fun v10 v9 wx => v9 = .bool true ∧ Below wd.heap.size wd wx ∧ wx.ownsRow wd.heap.size 3 1 v10 n (intsZ (upTo (shw p.b (Z 0 + p.b) Z) n)))
    case first =>
      go_region_with (go_at_call 71; refine (K3.out _ (by first | exact Below.refl _ _ | exact (Below.refl _ _).drew)).mono ?_; rintro e w2 ⟨v, rfl, hr2⟩; have HB3 := Lib.hid (show Below wd.heap.size wd w2 ∧ w2.ownsRow wd.heap.size 3 1 v n (intsZ (upTo (shw p.b (Z 0 + p.b) Z) n)) from by first | exact ⟨hr2.below, by have := hr2.own; rw [upTo_len] at this; exact own_mono this HB2.out.size⟩ | exact ⟨(Below.refl _ _).drew.trans (hr2.below.mono (by simp only [World.size_drew]; omega)), by have := hr2.own; rw [upTo_len] at this; exact own_mono this (by simp only [World.size_drew]; have := HB2.out.size; omega)⟩); clear hr2)
      all_goals
        go_wp2_with fail
        go_meet
        exact ⟨rfl, HB3.out.1, HB3.out.2⟩
    case rest =>
      obtain ⟨rfl, hb3, ho3⟩ := hcut
      obtain ⟨A3, c3, rfl, hin3⟩ := row_upTo ho3 (by have := HL.out.2.1; omega)
      have H3 := Lib.hid hin3
      have H2 := Lib.hid ((HIN2.out.up hb3 (Nat.le_refl _)).more hb3.size)
      have HB3 := Lib.hid (HC.out.trans ((HB2.out.trans (hb3.mono HB2.out.size)).mono HC.out.size))
      have hjn := HM.out.le
      clear hb3 ho3 hin3 dd p0 p1 p2 p3 K3 e2
      go_wp2_with fail
      go_loopw [11, 50] (fun _ i wr => ∃ k : Nat, k ≤ j ∧ i = .int .i64 k ∧ ∃ q, wr = wc.drewN q) (fun _ i _ => n - (intOf i).toNat)
      case atStart => exact ⟨0, Nat.zero_le _, rfl, 0, rfl⟩
      case round =>
        obtain ⟨k, hk, rfl, q, rfl⟩ := hrel
        have hk0 : (0 : Int) ≤ (k : Int) := by omega
        by_cases hlt : k < n
        · obtain ⟨a2, e2, ab2, x2⟩ := H2.out.2 k hlt
          obtain ⟨a3, e3, ab3, x3⟩ := H3.out.2 k hlt
          cases e2
          cases e3
          have hki : (k : Int) < (n : Int) := by omega
          by_cases hkj : k < j
          · have hne : (shw p.b (Z 0 - p.b) Z k == shw p.b (Z 0 + p.b) Z k) = false := by simpa using HM.out.ne k hkj
            go_wp2_with fail
            go_quiet (fail)
            go_wp2_with fail
            go_roundw
            case rel => exact ⟨k + 1, by omega, by go_num, _, rfl⟩
            case measure => simp [intOf]; omega
          · obtain rfl : k = j := by omega
            have heq : (shw p.b (Z 0 - p.b) Z k == shw p.b (Z 0 + p.b) Z k) = true := by simpa using HM.out.eq hlt
            rcases HI.out with ⟨_, rfl, rfl⟩ | ⟨h4, _⟩
            · go_wp2_with fail
              go_quiet (fail)
              go_wp2_with fail
              go_ret2
              exact ⟨rfl, below_drewN (below_drewN HB3.out _) _⟩
            · omega
        · have hki : (n : Int) ≤ (k : Int) := by omega
          rcases HI.out with ⟨h4, _⟩ | ⟨h4, rfl, rfl⟩
          · omega
          · go_wp2_with fail
            go_ret2
            exact ⟨rfl, below_drewN HB3.out _⟩
end Go.Proofs.Ytkidhmajlpceeaa
