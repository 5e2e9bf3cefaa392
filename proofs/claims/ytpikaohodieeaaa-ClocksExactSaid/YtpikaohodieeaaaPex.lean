/- ClocksExact's law. -/
import Derived.Test.YtpikaohodieeaaaCnm
namespace Go.Proofs.Ytpikaohodieeaaa
open Go.RowKit
set_option linter.unusedSimpArgs false
set_option linter.unusedVariables false
theorem trs_two (W : World) (x y : Int × Int × Int) (t : TypeId) : TrsIn (some ⟨W.heap.size, 0, none⟩) 2 (pair3 x y) (W.alloc (.cells #[.int .i64 x.1, .int .i64 x.2.1, .int .i64 x.2.2, .int .i64 y.1, .int .i64 y.2.1, .int .i64 y.2.2] t)).heap.size (W.alloc (.cells #[.int .i64 x.1, .int .i64 x.2.1, .int .i64 x.2.2, .int .i64 y.1, .int .i64 y.2.1, .int .i64 y.2.2] t)) := ⟨by omega, fun k hk => by
  have zl : W.heap.size < (W.alloc (.cells #[.int .i64 x.1, .int .i64 x.2.1, .int .i64 x.2.2, .int .i64 y.1, .int .i64 y.2.1, .int .i64 y.2.2] t)).heap.size := by rw [World.size_alloc]; omega
  by_cases hk0 : k = 0
  · subst hk0
    exact ⟨⟨W.heap.size, 0, none⟩, rfl, zl, by go_simp; rfl, by go_simp; rfl, by go_simp; rfl⟩
  · obtain rfl : k = 1 := by omega
    exact ⟨⟨W.heap.size, 0, none⟩, rfl, zl, by go_simp; rfl, by go_simp; rfl, by go_simp; rfl⟩⟩
/-- two columns at two ticks -/
theorem can_two {c : Clo} {S : Nat → Int × Int} {a b : Nat} {t y : Int} (hd : DrOk c.d) (hk : MksOk c.d c.m c.F) (hm : c.m ≤ 20) (ha : a ≤ c.d.n) (hb : b ≤ c.d.n) (ht : 0 ≤ t ∧ t ≤ 400) (hy : 0 ≤ y ∧ y ≤ 400) :
    CanP c 2 (pair3 ((a : Int), t, t) ((b : Int), y, y)) ↔ ∃ T, Rdg c.d.n (gapF c.d) c.m c.F T ∧ T a = t ∧ T b = y := by
  rw [canP_iff hd hk (by omega)]
  constructor
  · rintro ⟨_, T, hT, h⟩
    have h0 := h 0 (by omega)
    have h1 := h 1 (by omega)
    unfold hasP pair3 at h0 h1
    simp only [if_true, if_neg (show ¬ (1 : Nat) = 0 by omega)] at h0 h1
    rw [Int.toNat_natCast] at h0 h1
    exact ⟨T, hT, by omega, by omega⟩
  · rintro ⟨T, hT, h1, h2⟩
    refine ⟨fun j _ => ?_, T, hT, fun j _ => ?_⟩
    · unfold mkOk pair3 isS
      by_cases e : j = 0
      · simp only [if_pos e]; omega
      · simp only [if_neg e]; omega
    · unfold hasP pair3
      by_cases e : j = 0
      · simp only [if_pos e]; rw [Int.toNat_natCast]; omega
      · simp only [if_neg e]; rw [Int.toNat_natCast]; omega
/-- what Exact asks of the numbers -/
theorem exact_math {c : Clo} {S : Nat → Int × Int} {a b : Nat} {s1 s2 : Int} (hd : DrOk c.d) (hk : MksOk c.d c.m c.F) (he : Ends c.d.n (Rdg c.d.n (gapF c.d) c.m c.F) S) (ha : a ≤ c.d.n) (hb : b ≤ c.d.n) (hs : apS (gapF c.d) S a b = (s1, s2)) :
    apS (gapF c.d) S b a = (-s2, -s1) ∧ (-400 ≤ s1 ∧ s1 ≤ s2 ∧ s2 ≤ 400) ∧ (0 ≤ (S a).1 ∧ (S a).1 ≤ (S a).2 ∧ (S a).2 ≤ 400) ∧ (a = b → s1 = 0 ∧ s2 = 0) ∧ (∀ x, (s1 ≤ x ∧ x ≤ s2) ↔ ∃ T, Rdg c.d.n (gapF c.d) c.m c.F T ∧ T b - T a = x) ∧ (∀ T, Rdg c.d.n (gapF c.d) c.m c.F T → (S a).1 ≤ T a ∧ T a ≤ (S a).2) ∧ (∀ T, Rdg c.d.n (gapF c.d) c.m c.F T → 0 ≤ T b ∧ T b ≤ 400) ∧
      (∀ q, q ≤ c.d.n → (apS (gapF c.d) S a q).1 + (apS (gapF c.d) S q b).1 ≤ s1 ∧ s2 ≤ (apS (gapF c.d) S a q).2 + (apS (gapF c.d) S q b).2 ∧ -400 ≤ (apS (gapF c.d) S a q).1 ∧ (apS (gapF c.d) S a q).2 ≤ 400 ∧ (apS (gapF c.d) S a q).1 ≤ (apS (gapF c.d) S a q).2 ∧ -400 ≤ (apS (gapF c.d) S q b).1 ∧ (apS (gapF c.d) S q b).2 ≤ 400 ∧ (apS (gapF c.d) S q b).1 ≤ (apS (gapF c.d) S q b).2) := by
  have hg := gpOk hd
  have hG : ∀ i, i < c.d.n → (gapF c.d i).1 ≤ (gapF c.d i).2 := fun i hi => (hg.2.2 i hi).2.1
  have hmk := mkOk_of hk
  have hdf : ∀ p q, p ≤ c.d.n → q ≤ c.d.n → ∀ x, (∃ T, Rdg c.d.n (gapF c.d) c.m c.F T ∧ T q - T p = x) ↔ (apS (gapF c.d) S p q).1 ≤ x ∧ x ≤ (apS (gapF c.d) S p q).2 := fun p q hp hq x => he.diff hG hmk hp hq x
  have hne : ∀ p q, p ≤ c.d.n → q ≤ c.d.n → -400 ≤ (apS (gapF c.d) S p q).1 ∧ (apS (gapF c.d) S p q).1 ≤ (apS (gapF c.d) S p q).2 ∧ (apS (gapF c.d) S p q).2 ≤ 400 := fun p q hp hq => by
    have h1 := apS_ne he hp hq
    obtain ⟨T, hT, e1⟩ := (hdf p q hp hq _).2 ⟨Int.le_refl _, h1⟩
    obtain ⟨U, hU, e2⟩ := (hdf p q hp hq _).2 ⟨h1, Int.le_refl _⟩
    have t1 := hT.tick p (by omega)
    have t2 := hT.tick q (by omega)
    have u1 := hU.tick p (by omega)
    have u2 := hU.tick q (by omega)
    omega
  have e1 : (apS (gapF c.d) S a b).1 = s1 := by rw [hs]
  have e2 : (apS (gapF c.d) S a b).2 = s2 := by rw [hs]
  have nab := hne a b ha hb
  rw [e1, e2] at nab
  refine ⟨by rw [apS_opp, hs], nab, ?_, fun e => ?_, fun x => ?_, fun T hT => he.all T hT a ha, fun T hT => hT.tick b (by omega), fun q hq => ?_⟩
  · have h1 := he.lo.tick a (by omega)
    have h2 := he.hi.tick a (by omega)
    have h3 := (he.all _ he.lo a ha).2
    exact ⟨h1.1, h3, h2.2⟩
  · subst e
    obtain ⟨T, hT, k⟩ := (hdf a a ha ha s1).2 (by rw [e1, e2]; omega)
    obtain ⟨U, hU, k2⟩ := (hdf a a ha ha s2).2 (by rw [e1, e2]; omega)
    omega
  · rw [hdf a b ha hb, e1, e2]
  · have naq := hne a q ha hq
    have nqb := hne q b hq hb
    obtain ⟨T, hT, k⟩ := (hdf a b ha hb s1).2 (by rw [e1, e2]; omega)
    obtain ⟨U, hU, k2⟩ := (hdf a b ha hb s2).2 (by rw [e1, e2]; omega)
    have p1 := (hdf a q ha hq _).1 ⟨T, hT, rfl⟩
    have p2 := (hdf q b hq hb _).1 ⟨T, hT, rfl⟩
    have p3 := (hdf a q ha hq _).1 ⟨U, hU, rfl⟩
    have p4 := (hdf q b hq hb _).1 ⟨U, hU, rfl⟩
    clear hdf hne
    omega
set_option maxRecDepth 100000 in
set_option maxHeartbeats 4000000 in
theorem exact_law (c : Clo) (x : Aks) (third n : Int) (w : World) (hc : ClIn c w.heap.size w) (hx : AkIn x w.heap.size w) :
    Calls Try.prog 10 #[c.v, x.v, .int .i64 third, .int .i64 n] w fun e w' => e = .returned (.bool true) ∧ Below w.heap.size w w' := by
  have CC : Hid (∀ W, Below w.heap.size w W → ClIn c W.heap.size W) := Lib.hid fun W h => (hc.up h (Nat.le_refl _)).more h.size
  have AA : Hid (∀ W, Below w.heap.size w W → AkIn x W.heap.size W) := Lib.hid fun W h => (hx.up h (Nat.le_refl _)).more h.size
  obtain ⟨G, hG⟩ := few_ex c
  have HG := Lib.hid hG
  clear hc hG hx
  go_enter Try.func10, Try.ntmps10
  go_wp2_with fail
  refine (awake_any _).mono ?_
  rintro e w2 ⟨rfl, hb⟩
  have D := Lib.hid (nextB (w2b_below c x w) hb)
  have C : Hid (HasCl c w.heap.size w2) := Lib.hid ((w2b_cl c x w).up hb)
  have X : Hid (HasAk x (w.heap.size + 1) w2) := Lib.hid ((w2b_ak c x w).up hb)
  clear hb
  obtain ⟨c0, c1, c2⟩ := C.out
  have zC := C.out.lt
  have x0 : w2.cell? ⟨w.heap.size + 1, 0, none⟩ = some (.int .i64 x.A) := X.out.c 0 _ rfl
  have x1 : w2.cell? ⟨w.heap.size + 1, 1, none⟩ = some (.int .i64 x.B) := X.out.c 1 _ rfl
  have zX := X.out.lt
  go_wp2_with fail
  refine (few_any c G _ HG.out).mono ?_
  rintro e w3 ⟨rfl, hb⟩
  have J := Lib.hid (hb)
  have D := Lib.hid (nextB D.out J.out)
  clear c0 c1 c2 zC x0 x1 zX
  have C := Lib.hid (C.out.up J.out)
  have X := Lib.hid (X.out.up J.out)
  clear hb
  obtain ⟨c0, c1, c2⟩ := C.out
  have zC := C.out.lt
  have x0 : w3.cell? ⟨w.heap.size + 1, 0, none⟩ = some (.int .i64 x.A) := X.out.c 0 _ rfl
  have x1 : w3.cell? ⟨w.heap.size + 1, 1, none⟩ = some (.int .i64 x.B) := X.out.c 1 _ rfl
  have zX := X.out.lt
  cases G with
  | false =>
    go_wp2_with fail
    go_ret
    exact ⟨rfl, D.out⟩
  | true =>
    clear HG
    by_cases hm20 : c.m ≤ 20
    · have dm1 : decide (20 < c.m) = false := decide_eq_false (by omega)
      have dm2 : decide ((20 : Int) < (c.m : Int)) = false := decide_eq_false (by omega)
      have HM20 := Lib.hid hm20
      clear hm20
      obtain ⟨vd, hv⟩ := bool_of ((0 ≤ x.A ∧ x.A ≤ c.d.n) ∧ 0 ≤ x.B ∧ x.B ≤ c.d.n)
      obtain ⟨E, S, hE⟩ := rdR_ex c.d c.m c.F vd
      obtain ⟨⟨s1, s2⟩, hs⟩ : ∃ s : Int × Int, (if E = 0 then apS (gapF c.d) S x.A.toNat x.B.toNat else (0, 0)) = s := ⟨_, rfl⟩
      obtain ⟨⟨r1, r2⟩, hr⟩ : ∃ s : Int × Int, (if E = 0 then apS (gapF c.d) S x.B.toNat x.A.toNat else (0, 0)) = s := ⟨_, rfl⟩
      have K1 := Lib.hid fun W h => Between_any c.d c.MA c.m c.mc c.F x.A x.B vd E S W (CC.out W h).1 (CC.out W h).2 hv hE
      have K2 := Lib.hid fun W h => Between_any c.d c.MA c.m c.mc c.F x.B x.A vd E S W (CC.out W h).1 (CC.out W h).2 (hv.trans And.comm) hE
      rw [hs] at K1
      rw [hr] at K2
      obtain ⟨va, hva⟩ := bool_of (0 ≤ x.A ∧ x.A ≤ c.d.n)
      obtain ⟨Ea, Sa, hEa, hEa0⟩ : ∃ Ea Sa, RdR c.d c.m c.F va Ea Sa ∧ (E = 0 → Ea = 0 ∧ Sa = S) := by
        by_cases hz : E = 0
        · subst hz
          obtain ⟨hvt, hd, hk, he⟩ := rdR_0 hE
          exact ⟨0, S, .inr ⟨hd, hk, .inr (.inr ⟨hva.2 (hv.1 hvt).1, rfl, he⟩)⟩, fun _ => ⟨rfl, rfl⟩⟩
        · obtain ⟨Ea, Sa, h⟩ := rdR_ex c.d c.m c.F va
          exact ⟨Ea, Sa, h, fun h => absurd h hz⟩
      obtain ⟨⟨p1, p2⟩, hp⟩ : ∃ s : Int × Int, (if Ea = 0 then Sa x.A.toNat else (0, 0)) = s := ⟨_, rfl⟩
      have K3 := Lib.hid fun W h => Span_any c.d c.MA c.m c.mc c.F x.A va Ea Sa W (CC.out W h).1 (CC.out W h).2 hva hEa
      rw [hp] at K3
      have HV := Lib.hid hv
      have HE := Lib.hid hE
      have HS := Lib.hid hs
      have HR := Lib.hid hr
      have HP := Lib.hid hp
      have HE0 := Lib.hid hEa0
      clear hv hE hs hr hva hEa hEa0 hp
      go_wp2_with fail
      refine (K1.out _ D.out).mono ?_
      rintro e w4 ⟨rfl, hb⟩
      have J := Lib.hid (hb)
      have D := Lib.hid (nextB D.out J.out)
      clear c0 c1 c2 zC x0 x1 zX
      have C := Lib.hid (C.out.up J.out)
      have X := Lib.hid (X.out.up J.out)
      clear hb
      obtain ⟨c0, c1, c2⟩ := C.out
      have zC := C.out.lt
      have x0 : w4.cell? ⟨w.heap.size + 1, 0, none⟩ = some (.int .i64 x.A) := X.out.c 0 _ rfl
      have x1 : w4.cell? ⟨w.heap.size + 1, 1, none⟩ = some (.int .i64 x.B) := X.out.c 1 _ rfl
      have zX := X.out.lt
      go_wp2_with fail
      refine (K2.out _ (nextB D.out (box1 w4 _))).mono ?_
      rintro e w5 ⟨rfl, hb⟩
      have J := Lib.hid (nextB (box1 w4 _) hb)
      have D := Lib.hid (nextB D.out J.out)
      clear c0 c1 c2 zC x0 x1 zX
      have C := Lib.hid (C.out.up J.out)
      have X := Lib.hid (X.out.up J.out)
      have L := Lib.hid (((Bt.new w4 31 (s1) (s2))).up hb)
      clear hb
      obtain ⟨c0, c1, c2⟩ := C.out
      have zC := C.out.lt
      have x0 : w5.cell? ⟨w.heap.size + 1, 0, none⟩ = some (.int .i64 x.A) := X.out.c 0 _ rfl
      have x1 : w5.cell? ⟨w.heap.size + 1, 1, none⟩ = some (.int .i64 x.B) := X.out.c 1 _ rfl
      have zX := X.out.lt
      obtain ⟨l0, l1, l2, l3⟩ := L.out
      have zL := L.out.lt
      go_wp2_with fail
      refine (K3.out _ (nextB D.out (box1 w5 _))).mono ?_
      rintro e w6 ⟨rfl, hb⟩
      have J := Lib.hid (nextB (box1 w5 _) hb)
      have D := Lib.hid (nextB D.out J.out)
      clear c0 c1 c2 zC x0 x1 zX l0 l1 l2 l3 zL
      have C := Lib.hid (C.out.up J.out)
      have X := Lib.hid (X.out.up J.out)
      have L := Lib.hid (L.out.up J.out)
      have M := Lib.hid (((Bt.new w5 31 (r1) (r2))).up hb)
      clear hb
      obtain ⟨c0, c1, c2⟩ := C.out
      have zC := C.out.lt
      have x0 : w6.cell? ⟨w.heap.size + 1, 0, none⟩ = some (.int .i64 x.A) := X.out.c 0 _ rfl
      have x1 : w6.cell? ⟨w.heap.size + 1, 1, none⟩ = some (.int .i64 x.B) := X.out.c 1 _ rfl
      have zX := X.out.lt
      obtain ⟨l0, l1, l2, l3⟩ := L.out
      have zL := L.out.lt
      obtain ⟨m0, m1, m2, m3⟩ := M.out
      have zM := M.out.lt
      by_cases hz : E = 0
      · subst hz
        obtain ⟨hvt, hd, hk, he⟩ := rdR_0 HE.out
        obtain ⟨rfl, rfl⟩ := HE0.out rfl
        obtain ⟨⟨hA0, hA1⟩, hB0, hB1⟩ := HV.out.1 hvt
        obtain ⟨a, ha⟩ : ∃ a : Nat, x.A = (a : Int) := ⟨x.A.toNat, by omega⟩
        obtain ⟨b, hb⟩ : ∃ b : Nat, x.B = (b : Int) := ⟨x.B.toNat, by omega⟩
        have hs := HS.out
        have hr := HR.out
        have hp := HP.out
        rw [if_pos rfl, ha, Int.toNat_natCast] at hp
        rw [if_pos rfl, ha, hb, Int.toNat_natCast, Int.toNat_natCast] at hs hr
        obtain ⟨m1, m2, m3, m4, m5, m6, m7, m8⟩ := exact_math hd hk he (a := a) (b := b) (by omega) (by omega) hs
        rw [hr] at m1
        injection m1 with m1a m1b
        subst m1a
        subst m1b
        rw [hp] at m3 m6
        simp only at m3 m6
        have HC2 := Lib.hid fun (t y : Int) (h1 : 0 ≤ t ∧ t ≤ 400) (h2 : 0 ≤ y ∧ y ≤ 400) => can_two (c := c) (S := Sa) hd hk HM20.out (a := a) (b := b) (by omega) (by omega) h1 h2
        have KC := Lib.hid fun H G1 ad qc W (h : Below w.heap.size w W) hq hG => can_any c ad 2 qc H G1 W (CC.out W h) hq (by have := HM20.out; omega) (by omega) (by omega) hG
        obtain ⟨v3, hv3⟩ := bool_of (0 ≤ third ∧ third ≤ c.d.n)
        have KB : Hid (v3 = true → ∃ e1 e2 f1 f2 : Int, (e1 + f1 ≤ s1 ∧ s2 ≤ e2 + f2) ∧ (-400 ≤ e1 ∧ e1 ≤ 400 ∧ -400 ≤ e2 ∧ e2 ≤ 400) ∧ (-400 ≤ f1 ∧ f1 ≤ 400 ∧ -400 ≤ f2 ∧ f2 ≤ 400) ∧
            (∀ W, Below w.heap.size w W → Calls Try.prog 46 #[c.d.v, .slice c.MA c.m c.mc, .int .i64 x.A, .int .i64 third] W fun e w' => e = .returned (.tuple #[Sp (e1, e2), .int .i64 0]) ∧ Below W.heap.size W w') ∧
            (∀ W, Below w.heap.size w W → Calls Try.prog 46 #[c.d.v, .slice c.MA c.m c.mc, .int .i64 third, .int .i64 x.B] W fun e w' => e = .returned (.tuple #[Sp (f1, f2), .int .i64 0]) ∧ Below W.heap.size W w')) := Lib.hid fun h => by
          obtain ⟨q, hq⟩ : ∃ q : Nat, third = (q : Int) := ⟨third.toNat, by have := hv3.1 h; omega⟩
          have hqn : q ≤ c.d.n := by have := hv3.1 h; omega
          have k := m8 q hqn
          obtain ⟨⟨e1, e2⟩, h1⟩ : ∃ s, apS (gapF c.d) Sa a q = s := ⟨_, rfl⟩
          obtain ⟨⟨f1, f2⟩, h2⟩ : ∃ s, apS (gapF c.d) Sa q b = s := ⟨_, rfl⟩
          rw [h1, h2] at k
          simp only at k
          refine ⟨e1, e2, f1, f2, ⟨by omega, by omega⟩, by omega, by omega, fun W hW => ?_, fun W hW => ?_⟩
          · have kk := Between_any c.d c.MA c.m c.mc c.F x.A third true 0 Sa W (CC.out W hW).1 (CC.out W hW).2 ⟨fun _ => ⟨by omega, by omega⟩, fun _ => rfl⟩ (.inr ⟨hd, hk, .inr (.inr ⟨rfl, rfl, he⟩)⟩)
            rw [if_pos rfl, ha, hq, Int.toNat_natCast, Int.toNat_natCast, h1] at kk
            rw [ha, hq]
            exact kk
          · have kk := Between_any c.d c.MA c.m c.mc c.F third x.B true 0 Sa W (CC.out W hW).1 (CC.out W hW).2 ⟨fun _ => ⟨by omega, by omega⟩, fun _ => rfl⟩ (.inr ⟨hd, hk, .inr (.inr ⟨rfl, rfl, he⟩)⟩)
            rw [if_pos rfl, hb, hq, Int.toNat_natCast, Int.toNat_natCast, h2] at kk
            rw [hb, hq]
            exact kk
        have KN : Hid (v3 = false → (∀ W, Below w.heap.size w W → Calls Try.prog 46 #[c.d.v, .slice c.MA c.m c.mc, .int .i64 x.A, .int .i64 third] W fun e w' => e = .returned (.tuple #[Sp (0, 0), .int .i64 1]) ∧ Below W.heap.size W w') ∧
            (∀ W, Below w.heap.size w W → Calls Try.prog 46 #[c.d.v, .slice c.MA c.m c.mc, .int .i64 third, .int .i64 x.B] W fun e w' => e = .returned (.tuple #[Sp (0, 0), .int .i64 1]) ∧ Below W.heap.size W w')) := Lib.hid fun h => by
          have hno : ¬ (0 ≤ third ∧ third ≤ (c.d.n : Int)) := fun k => by have := hv3.2 k; rw [h] at this; cases this
          refine ⟨fun W hW => ?_, fun W hW => ?_⟩
          · have kk := Between_any c.d c.MA c.m c.mc c.F x.A third false 1 Sa W (CC.out W hW).1 (CC.out W hW).2 ⟨fun e => (Bool.false_ne_true e).elim, fun e => absurd e.2 hno⟩ (.inr ⟨hd, hk, .inl ⟨rfl, rfl⟩⟩)
            exact kk
          · have kk := Between_any c.d c.MA c.m c.mc c.F third x.B false 1 Sa W (CC.out W hW).1 (CC.out W hW).2 ⟨fun e => (Bool.false_ne_true e).elim, fun e => absurd e.1 hno⟩ (.inr ⟨hd, hk, .inl ⟨rfl, rfl⟩⟩)
            exact kk
        have HM5 := Lib.hid m5
        have HM6 := Lib.hid m6
        have HM7 := Lib.hid m7
        have HM2 := Lib.hid m2
        have HM3 := Lib.hid m3
        have HA := Lib.hid ha
        have HB := Lib.hid hb
        have wn1 : IntKind.i64.wrap (-s1) = -s1 := IntWalk.i64_in _ (by omega)
        have wn2 : IntKind.i64.wrap (-s2) = -s2 := IntWalk.i64_in _ (by omega)
        have dss : decide (s2 < s1) = false := decide_eq_false (by omega)
        have hab : ∃ gab : Bool, (x.A == x.B) = gab ∧ (gab = true → s1 = 0 ∧ s2 = 0) := ⟨_, rfl, fun h => m4 (by have := beq_iff_eq.1 h; omega)⟩
        obtain ⟨gab, hab1, hab2⟩ := hab
        clear hvt hd hk he hA0 hA1 hB0 hB1 hs hr hp m2 m3 m4 m5 m6 m7 m8 hv3 ha hb
        have ssd : gab = true → (s1 == 0) = true ∧ (s2 == 0) = true := fun h => by obtain ⟨h1, h2⟩ := hab2 h; subst h1; subst h2; exact ⟨rfl, rfl⟩
        clear hab2
        skip
        cases gab with
        | true =>
          obtain ⟨z1, z2⟩ := ssd rfl
          obtain rfl : s1 = 0 := by simpa using z1
          obtain rfl : s2 = 0 := by simpa using z2
          clear z1 z2 ssd
          go_wp2_with fail
          obtain ⟨w7, hw7⟩ : ∃ w7 : World, w7 = w6.alloc (.cells #[.int .i64 p1, .int .i64 p2] 31) := ⟨_, rfl⟩
          have hb7 : Below w6.heap.size w6 w7 := by rw [hw7]; exact box1 _ _
          have U : Hid (Bt w6.heap.size p1 p2 w7) := Lib.hid (by rw [hw7]; exact Bt.new _ _ _ _)
          rw [← hw7]
          clear hw7
          have D := Lib.hid (nextB D.out hb7)
          have C := Lib.hid (C.out.up hb7)
          have X := Lib.hid (X.out.up hb7)
          have L := Lib.hid (L.out.up hb7)
          have M := Lib.hid (M.out.up hb7)
          clear hb7 c0 c1 c2 zC x0 x1 zX l0 l1 l2 l3 zL m0 m1 m2 m3 zM
          go_loopw [16, 17] (fun found tick wr => ∃ t : Int, p1 ≤ t ∧ t ≤ p2 + 1 ∧ found = .bool false ∧ tick = .int .i64 t ∧ Hid (∀ t', p1 ≤ t' → t' < t → ¬ ∃ T, Rdg c.d.n (gapF c.d) c.m c.F T ∧ T a = t' ∧ T b = t' + n) ∧ Below w7.heap.size w7 wr) (fun _ tick _ => (p2 + 1 - intOf tick).toNat)
          case atStart => exact ⟨p1, by omega, by have := HM3.out; omega, rfl, rfl, Lib.hid fun t' h1 h2 => absurd h1 (by omega), Below.refl _ _⟩
          case round =>
            obtain ⟨t, ht1, ht2, rfl, rfl, hno, hb⟩ := hrel
            obtain ⟨w8, rfl⟩ : ∃ w8 : World, w8 = wr := ⟨_, rfl⟩
            have HB8 := Lib.hid hb
            have D := Lib.hid (nextB D.out hb)
            have C := Lib.hid (C.out.up hb)
            have X := Lib.hid (X.out.up hb)
            have L := Lib.hid (L.out.up hb)
            have U := Lib.hid (U.out.up hb)
            clear hb
            obtain ⟨c0, c1, c2⟩ := C.out
            have zC := C.out.lt
            have x0 : w8.cell? ⟨w.heap.size + 1, 0, none⟩ = some (.int .i64 x.A) := X.out.c 0 _ rfl
            have x1 : w8.cell? ⟨w.heap.size + 1, 1, none⟩ = some (.int .i64 x.B) := X.out.c 1 _ rfl
            have zX := X.out.lt
            obtain ⟨l0, l1, l2, l3⟩ := L.out
            have zL := L.out.lt
            obtain ⟨u0, u1, u2, u3⟩ := U.out
            have zU := U.out.lt
            by_cases htp : t ≤ p2
            · have dtp : decide (t ≤ p2) = true := decide_eq_true htp
              by_cases hn1 : -400 ≤ n
              · have dn1 : decide (-400 ≤ n) = true := decide_eq_true hn1
                by_cases hn2 : n ≤ 400
                · have dn2 : decide (n ≤ 400) = true := decide_eq_true hn2
                  have htr := HM3.out
                  have wtn : IntKind.i64.wrap (t + n) = t + n := IntWalk.i64_in _ (by omega)
                  have wt1 : IntKind.i64.wrap (t + 1) = t + 1 := IntWalk.i64_in _ (by omega)
                  by_cases hl : 0 ≤ t + n
                  · have dl : decide (0 ≤ t + n) = true := decide_eq_true hl
                    by_cases hh : t + n ≤ 400
                    · have dh : decide (t + n ≤ 400) = true := decide_eq_true hh
                      obtain ⟨G2, hG2⟩ := bool_of (CanP c 2 (pair3 (x.A, t, t) (x.B, t + n, t + n)))
                      have hG3 : G2 = true ↔ ∃ T, Rdg c.d.n (gapF c.d) c.m c.F T ∧ T a = t ∧ T b = t + n := by
                        rw [hG2, HA.out, HB.out]
                        exact HC2.out t (t + n) (by omega) (by omega)
                      have HG2 := Lib.hid hG2
                      have HG3 := Lib.hid hG3
                      clear hG2 hG3
                      cases G2 with
                      | true =>
                        have HCT := Lib.hid (HG2.out.1 rfl)
                        have hin : 0 ≤ n ∧ n ≤ 0 := (HM5.out n).2 (by obtain ⟨T, hT, h1, h2⟩ := HG3.out.1 rfl; exact ⟨T, hT, by omega⟩)
                        have d1 : decide (0 ≤ n) = true := decide_eq_true hin.1
                        have d2 : decide (n ≤ 0) = true := decide_eq_true hin.2
                        go_wp2_with fail
                        refine wp_region_M [] (fun w' => w'.cell? ⟨w.heap.size, 0, none⟩ = some (.slice c.d.RA c.d.n c.d.rc) ∧ w'.cell? ⟨w.heap.size, 1, none⟩ = some (.slice c.d.SA c.d.m c.d.sc) ∧ w'.cell? ⟨w.heap.size, 2, none⟩ = some (.slice c.MA c.m c.mc) ∧ w'.cell? ⟨w.heap.size + 1, 0, none⟩ = some (.int .i64 x.A) ∧ w'.cell? ⟨w.heap.size + 1, 1, none⟩ = some (.int .i64 x.B)) (by kernel_rfl) (by kernel_rfl) (by (try dsimp only); (repeat' apply And.intro); all_goals first | assumption | (go_simp; done)) (fun hT0 => ?_)
                        refine M_take (v := ?_) 0 rfl (by kernel_rfl) (by assumption) (fun _ _ _ h => h) (Or.inl ⟨by rfl, ?_⟩) ?_
                        rotate_left
                        · (intro w hSw; (try dsimp only at hSw); go_simp; (try with_reducible rfl))
                        (try simp only [Act.put, List.setIfInBounds_toArray, List.set_cons_zero, List.set_cons_succ])
                        refine M_take (v := ?_) 1 rfl (by kernel_rfl) (by assumption) (fun _ _ _ h => h) (Or.inl ⟨by rfl, ?_⟩) ?_
                        rotate_left
                        · (intro w hSw; (try dsimp only at hSw); go_simp; (try with_reducible rfl))
                        (try simp only [Act.put, List.setIfInBounds_toArray, List.set_cons_zero, List.set_cons_succ])
                        refine M_take (v := ?_) 2 rfl (by kernel_rfl) (by assumption) (fun _ _ _ h => h) (Or.inl ⟨by rfl, ?_⟩) ?_
                        rotate_left
                        · (intro w hSw; (try dsimp only at hSw); go_simp; (try with_reducible rfl))
                        (try simp only [Act.put, List.setIfInBounds_toArray, List.set_cons_zero, List.set_cons_succ])
                        refine M_take (v := ?_) 3 rfl (by kernel_rfl) (by assumption) (fun _ _ _ h => h) (Or.inl ⟨by rfl, ?_⟩) ?_
                        rotate_left
                        · (intro w hSw; (try dsimp only at hSw); go_simp; (try with_reducible rfl))
                        (try simp only [Act.put, List.setIfInBounds_toArray, List.set_cons_zero, List.set_cons_succ])
                        refine M_take (v := ?_) 4 rfl (by kernel_rfl) (by assumption) (fun _ _ _ h => h) (Or.inl ⟨by rfl, ?_⟩) ?_
                        rotate_left
                        · (intro w hSw; (try dsimp only at hSw); go_simp; (try with_reducible rfl))
                        (try simp only [Act.put, List.setIfInBounds_toArray, List.set_cons_zero, List.set_cons_succ])
                        refine M_take (v := ?_) 5 rfl (by kernel_rfl) (by assumption) (fun _ _ _ h => h) (Or.inl ⟨by rfl, ?_⟩) ?_
                        rotate_left
                        · (intro w hSw; (try dsimp only at hSw); go_simp; (try with_reducible rfl))
                        (try simp only [Act.put, List.setIfInBounds_toArray, List.set_cons_zero, List.set_cons_succ])
                        refine M_take (v := ?_) 6 rfl (by kernel_rfl) (by assumption) (fun _ _ _ h => h) (Or.inl ⟨by rfl, ?_⟩) ?_
                        rotate_left
                        · (intro w hSw; (try dsimp only at hSw); go_simp; (try with_reducible rfl))
                        (try simp only [Act.put, List.setIfInBounds_toArray, List.set_cons_zero, List.set_cons_succ])
                        refine M_take (v := ?_) 7 rfl (by kernel_rfl) (by assumption) (fun _ _ _ h => h) (Or.inl ⟨by rfl, ?_⟩) ?_
                        rotate_left
                        · (intro w hSw; (try dsimp only at hSw); go_simp; (try with_reducible rfl))
                        (try simp only [Act.put, List.setIfInBounds_toArray, List.set_cons_zero, List.set_cons_succ])
                        refine M_take (v := ?_) 8 rfl (by kernel_rfl) (by assumption) (fun _ _ _ h => h) (Or.inl ⟨by rfl, ?_⟩) ?_
                        rotate_left
                        · (intro w hSw; (try dsimp only at hSw); go_simp; (try with_reducible rfl))
                        (try simp only [Act.put, List.setIfInBounds_toArray, List.set_cons_zero, List.set_cons_succ])
                        refine M_take (v := ?_) 9 rfl (by kernel_rfl) (by assumption) (fun _ _ _ h => h) (Or.inl ⟨by rfl, ?_⟩) ?_
                        rotate_left
                        · (intro w hSw; (try dsimp only at hSw); go_simp; (try with_reducible rfl))
                        (try simp only [Act.put, List.setIfInBounds_toArray, List.set_cons_zero, List.set_cons_succ])
                        refine M_take (v := ?_) 10 rfl (by kernel_rfl) (by assumption) (fun _ _ _ h => h) (Or.inl ⟨by rfl, ?_⟩) ?_
                        rotate_left
                        · (intro w hSw; (try dsimp only at hSw); go_simp; (try with_reducible rfl))
                        (try simp only [Act.put, List.setIfInBounds_toArray, List.set_cons_zero, List.set_cons_succ])
                        refine M_take (v := ?_) 11 rfl (by kernel_rfl) (by assumption) (fun _ _ _ h => h) (Or.inl ⟨by rfl, ?_⟩) ?_
                        rotate_left
                        · (intro w hSw; (try dsimp only at hSw); go_simp; (try with_reducible rfl))
                        (try simp only [Act.put, List.setIfInBounds_toArray, List.set_cons_zero, List.set_cons_succ])
                        refine M_take (v := ?_) 12 rfl (by kernel_rfl) (by assumption) (fun _ _ _ h => h) (Or.inl ⟨by rfl, ?_⟩) ?_
                        rotate_left
                        · (intro w hSw; (try dsimp only at hSw); go_simp; (try with_reducible rfl))
                        (try simp only [Act.put, List.setIfInBounds_toArray, List.set_cons_zero, List.set_cons_succ])
                        refine M_take (v := ?_) 13 rfl (by kernel_rfl) (by assumption) (fun _ _ _ h => h) (Or.inl ⟨by rfl, ?_⟩) ?_
                        rotate_left
                        · (intro w hSw; (try dsimp only at hSw); go_simp; (try with_reducible rfl))
                        (try simp only [Act.put, List.setIfInBounds_toArray, List.set_cons_zero, List.set_cons_succ])
                        refine M_take (v := ?_) 14 rfl (by kernel_rfl) (by assumption) (fun _ _ _ h => h) (Or.inl ⟨by rfl, ?_⟩) ?_
                        rotate_left
                        · (intro w hSw; (try dsimp only at hSw); go_simp; (try with_reducible rfl))
                        (try simp only [Act.put, List.setIfInBounds_toArray, List.set_cons_zero, List.set_cons_succ])
                        refine M_take (v := ?_) 16 rfl (by kernel_rfl) (by assumption) (fun _ _ _ h => h) (Or.inl ⟨by rfl, ?_⟩) ?_
                        rotate_left
                        · (intro w hSw; (try dsimp only at hSw); go_simp; (try with_reducible rfl))
                        (try simp only [Act.put, List.setIfInBounds_toArray, List.set_cons_zero, List.set_cons_succ])
                        refine M_take (v := ?_) 17 rfl (by kernel_rfl) (by assumption) (fun _ _ _ h => h) (Or.inl ⟨by rfl, ?_⟩) ?_
                        rotate_left
                        · (intro w hSw; (try dsimp only at hSw); go_simp; (try with_reducible rfl))
                        (try simp only [Act.put, List.setIfInBounds_toArray, List.set_cons_zero, List.set_cons_succ])
                        refine M_take (v := ?_) 18 rfl (by kernel_rfl) (by assumption) (fun _ _ _ h => h) (Or.inl ⟨by rfl, ?_⟩) ?_
                        rotate_left
                        · (intro w hSw; (try dsimp only at hSw); go_simp; (try with_reducible rfl))
                        (try simp only [Act.put, List.setIfInBounds_toArray, List.set_cons_zero, List.set_cons_succ])
                        refine M_take (v := ?_) 19 rfl (by kernel_rfl) (by assumption) (fun _ _ _ h => h) (Or.inl ⟨by rfl, ?_⟩) ?_
                        rotate_left
                        · (intro w hSw; (try dsimp only at hSw); go_simp; (try with_reducible rfl))
                        (try simp only [Act.put, List.setIfInBounds_toArray, List.set_cons_zero, List.set_cons_succ])
                        refine M_take (v := ?_) 20 rfl (by kernel_rfl) (by assumption) (fun _ _ _ h => h) (Or.inl ⟨by rfl, ?_⟩) ?_
                        rotate_left
                        · (intro w hSw; (try dsimp only at hSw); go_simp; (try with_reducible rfl))
                        (try simp only [Act.put, List.setIfInBounds_toArray, List.set_cons_zero, List.set_cons_succ])
                        refine M_step 15 rfl (by kernel_rfl) (fun K hK => ?_)
                        go_simp
                        go_at_call 68
                        refine (one_any x.A t _).mono ?_
                        rintro e wA ⟨rfl, hbA⟩
                        have HBA := Lib.hid (show Below w8.heap.size w8 wA from nextB (Below.refl _ _).drew hbA)
                        have hTA : (fun w' => w'.cell? ⟨w.heap.size, 0, none⟩ = some (.slice c.d.RA c.d.n c.d.rc) ∧ w'.cell? ⟨w.heap.size, 1, none⟩ = some (.slice c.d.SA c.d.m c.d.sc) ∧ w'.cell? ⟨w.heap.size, 2, none⟩ = some (.slice c.MA c.m c.mc) ∧ w'.cell? ⟨w.heap.size + 1, 0, none⟩ = some (.int .i64 x.A) ∧ w'.cell? ⟨w.heap.size + 1, 1, none⟩ = some (.int .i64 x.B)) wA := ⟨(HBA.out.cell (World.block_lt_of_cell? _ _ c0)).trans c0, (HBA.out.cell (World.block_lt_of_cell? _ _ c1)).trans c1, (HBA.out.cell (World.block_lt_of_cell? _ _ c2)).trans c2, (HBA.out.cell (World.block_lt_of_cell? _ _ x0)).trans x0, (HBA.out.cell (World.block_lt_of_cell? _ _ x1)).trans x1⟩
                        clear hbA
                        refine hK.out _ _ (fun _ => hTA) ?_
                        clear hK K
                        (try simp only [Act.put, List.setIfInBounds_toArray, List.set_cons_zero, List.set_cons_succ])
                        refine M_step 21 rfl (by kernel_rfl) (fun K hK => ?_)
                        go_simp
                        go_at_call 68
                        refine (one_any x.B (t + n) _).mono ?_
                        rintro e wB ⟨rfl, hbB⟩
                        have HBB := Lib.hid (show Below w8.heap.size w8 wB from nextB HBA.out hbB)
                        have hTB : (fun w' => w'.cell? ⟨w.heap.size, 0, none⟩ = some (.slice c.d.RA c.d.n c.d.rc) ∧ w'.cell? ⟨w.heap.size, 1, none⟩ = some (.slice c.d.SA c.d.m c.d.sc) ∧ w'.cell? ⟨w.heap.size, 2, none⟩ = some (.slice c.MA c.m c.mc) ∧ w'.cell? ⟨w.heap.size + 1, 0, none⟩ = some (.int .i64 x.A) ∧ w'.cell? ⟨w.heap.size + 1, 1, none⟩ = some (.int .i64 x.B)) wB := ⟨(HBB.out.cell (World.block_lt_of_cell? _ _ c0)).trans c0, (HBB.out.cell (World.block_lt_of_cell? _ _ c1)).trans c1, (HBB.out.cell (World.block_lt_of_cell? _ _ c2)).trans c2, (HBB.out.cell (World.block_lt_of_cell? _ _ x0)).trans x0, (HBB.out.cell (World.block_lt_of_cell? _ _ x1)).trans x1⟩
                        clear hbB
                        refine hK.out _ _ (fun _ => hTB) ?_
                        clear hK K
                        (try simp only [Act.put, List.setIfInBounds_toArray, List.set_cons_zero, List.set_cons_succ])
                        refine M_step 22 rfl (by kernel_rfl) (fun K hK => ?_)
                        go_simp
                        have HBC := Lib.hid (show Below w8.heap.size w8 (wB.alloc (.cells #[.int .i64 x.A, .int .i64 t, .int .i64 t, .int .i64 x.B, .int .i64 (t + n), .int .i64 (t + n)] 33)) from nextB HBB.out (box1 wB _))
                        have hTC : (fun w' => w'.cell? ⟨w.heap.size, 0, none⟩ = some (.slice c.d.RA c.d.n c.d.rc) ∧ w'.cell? ⟨w.heap.size, 1, none⟩ = some (.slice c.d.SA c.d.m c.d.sc) ∧ w'.cell? ⟨w.heap.size, 2, none⟩ = some (.slice c.MA c.m c.mc) ∧ w'.cell? ⟨w.heap.size + 1, 0, none⟩ = some (.int .i64 x.A) ∧ w'.cell? ⟨w.heap.size + 1, 1, none⟩ = some (.int .i64 x.B)) (wB.alloc (.cells #[.int .i64 x.A, .int .i64 t, .int .i64 t, .int .i64 x.B, .int .i64 (t + n), .int .i64 (t + n)] 33)) := ⟨(HBC.out.cell (World.block_lt_of_cell? _ _ c0)).trans c0, (HBC.out.cell (World.block_lt_of_cell? _ _ c1)).trans c1, (HBC.out.cell (World.block_lt_of_cell? _ _ c2)).trans c2, (HBC.out.cell (World.block_lt_of_cell? _ _ x0)).trans x0, (HBC.out.cell (World.block_lt_of_cell? _ _ x1)).trans x1⟩
                        refine hK.out _ _ (fun _ => hTC) ?_
                        clear hK K
                        (try simp only [Act.put, List.setIfInBounds_toArray, List.set_cons_zero, List.set_cons_succ])
                        refine M_step 23 rfl (by kernel_rfl) (fun K hK => ?_)
                        go_simp
                        go_at_call 67
                        refine (KC.out _ true _ _ _ (nextB D.out HBC.out) (trs_two wB (x.A, t, t) (x.B, t + n, t + n) _) ⟨fun _ => HCT.out, fun _ => rfl⟩).mono ?_
                        rintro e wD ⟨rfl, hbD⟩
                        have HBD := Lib.hid (show Below w8.heap.size w8 wD from nextB HBC.out hbD)
                        have hTD : (fun w' => w'.cell? ⟨w.heap.size, 0, none⟩ = some (.slice c.d.RA c.d.n c.d.rc) ∧ w'.cell? ⟨w.heap.size, 1, none⟩ = some (.slice c.d.SA c.d.m c.d.sc) ∧ w'.cell? ⟨w.heap.size, 2, none⟩ = some (.slice c.MA c.m c.mc) ∧ w'.cell? ⟨w.heap.size + 1, 0, none⟩ = some (.int .i64 x.A) ∧ w'.cell? ⟨w.heap.size + 1, 1, none⟩ = some (.int .i64 x.B)) wD := ⟨(HBD.out.cell (World.block_lt_of_cell? _ _ c0)).trans c0, (HBD.out.cell (World.block_lt_of_cell? _ _ c1)).trans c1, (HBD.out.cell (World.block_lt_of_cell? _ _ c2)).trans c2, (HBD.out.cell (World.block_lt_of_cell? _ _ x0)).trans x0, (HBD.out.cell (World.block_lt_of_cell? _ _ x1)).trans x1⟩
                        clear hbD
                        refine hK.out _ _ (fun _ => hTD) ?_
                        clear hK K
                        (try simp only [Act.put, List.setIfInBounds_toArray, List.set_cons_zero, List.set_cons_succ])
                        refine M_take (v := ?_) 24 rfl (by kernel_rfl) (by assumption) (fun _ _ _ h => h) (Or.inl ⟨by rfl, ?_⟩) ?_
                        rotate_left
                        · (intro w hSw; (try dsimp only at hSw); go_simp; (try with_reducible rfl))
                        (try simp only [Act.put, List.setIfInBounds_toArray, List.set_cons_zero, List.set_cons_succ])
                        refine M_done (by kernel_rfl) ?_ _
                        obtain ⟨w9, hw9⟩ : ∃ W : World, W = wD := ⟨_, rfl⟩
                        rw [← hw9] at HBD ⊢
                        clear hw9 hT0 hTA hTB hTC hTD hin
                        have D := Lib.hid (nextB D.out HBD.out)
                        have C := Lib.hid (C.out.up HBD.out)
                        have X := Lib.hid (X.out.up HBD.out)
                        have L := Lib.hid (L.out.up HBD.out)
                        clear c0 c1 c2 x0 x1 l0 l1 l2 l3 zC zX zL
                        obtain ⟨c0, c1, c2⟩ := C.out
                        have zC := C.out.lt
                        have x0 : w9.cell? ⟨w.heap.size + 1, 0, none⟩ = some (.int .i64 x.A) := X.out.c 0 _ rfl
                        have x1 : w9.cell? ⟨w.heap.size + 1, 1, none⟩ = some (.int .i64 x.B) := X.out.c 1 _ rfl
                        have zX := X.out.lt
                        obtain ⟨l0, l1, l2, l3⟩ := L.out
                        have zL := L.out.lt
                        cases hv3 : v3 with
                        | true =>
                          obtain ⟨e1, e2, f1, f2, ⟨k1, k2⟩, k3, k4, KX, KY⟩ := KB.out hv3
                          have KX := Lib.hid KX
                          have KY := Lib.hid KY
                          have w9' : IntKind.i64.wrap (e1 + f1) = e1 + f1 := IntWalk.i64_in _ (by omega)
                          have w10' : IntKind.i64.wrap (e2 + f2) = e2 + f2 := IntWalk.i64_in _ (by omega)
                          have d3 : decide (e1 + f1 ≤ 0) = true := decide_eq_true k1
                          have d4 : decide (0 ≤ e2 + f2) = true := decide_eq_true k2
                          clear k1 k2 k3 k4
                          go_wp2_with fail
                          refine (KX.out _ D.out).mono ?_
                          rintro e w10 ⟨rfl, hb⟩
                          have J := Lib.hid (hb)
                          have D := Lib.hid (nextB D.out J.out)
                          clear c0 c1 c2 zC x0 x1 zX l0 l1 l2 l3 zL
                          have C := Lib.hid (C.out.up J.out)
                          have X := Lib.hid (X.out.up J.out)
                          have L := Lib.hid (L.out.up J.out)
                          clear hb
                          obtain ⟨c0, c1, c2⟩ := C.out
                          have zC := C.out.lt
                          have x0 : w10.cell? ⟨w.heap.size + 1, 0, none⟩ = some (.int .i64 x.A) := X.out.c 0 _ rfl
                          have x1 : w10.cell? ⟨w.heap.size + 1, 1, none⟩ = some (.int .i64 x.B) := X.out.c 1 _ rfl
                          have zX := X.out.lt
                          obtain ⟨l0, l1, l2, l3⟩ := L.out
                          have zL := L.out.lt
                          go_wp2_with fail
                          refine (KY.out _ (nextB D.out (box1 w10 _))).mono ?_
                          rintro e w11 ⟨rfl, hb⟩
                          have J := Lib.hid (nextB (box1 w10 _) hb)
                          have D := Lib.hid (nextB D.out J.out)
                          clear c0 c1 c2 zC x0 x1 zX l0 l1 l2 l3 zL
                          have C := Lib.hid (C.out.up J.out)
                          have X := Lib.hid (X.out.up J.out)
                          have L := Lib.hid (L.out.up J.out)
                          have V := Lib.hid (((Bt.new w10 31 (e1) (e2))).up hb)
                          clear hb
                          obtain ⟨c0, c1, c2⟩ := C.out
                          have zC := C.out.lt
                          have x0 : w11.cell? ⟨w.heap.size + 1, 0, none⟩ = some (.int .i64 x.A) := X.out.c 0 _ rfl
                          have x1 : w11.cell? ⟨w.heap.size + 1, 1, none⟩ = some (.int .i64 x.B) := X.out.c 1 _ rfl
                          have zX := X.out.lt
                          obtain ⟨l0, l1, l2, l3⟩ := L.out
                          have zL := L.out.lt
                          obtain ⟨v0, v1, v2, v3⟩ := V.out
                          have zV := V.out.lt
                          go_wp2_with fail
                          go_ret
                          exact ⟨rfl, (nextB D.out (box1 w11 _))⟩
                        | false =>
                          obtain ⟨KX, KY⟩ := KN.out hv3
                          have KX := Lib.hid KX
                          have KY := Lib.hid KY
                          go_wp2_with fail
                          refine (KX.out _ D.out).mono ?_
                          rintro e w10 ⟨rfl, hb⟩
                          have J := Lib.hid (hb)
                          have D := Lib.hid (nextB D.out J.out)
                          clear c0 c1 c2 zC x0 x1 zX l0 l1 l2 l3 zL
                          have C := Lib.hid (C.out.up J.out)
                          have X := Lib.hid (X.out.up J.out)
                          have L := Lib.hid (L.out.up J.out)
                          clear hb
                          obtain ⟨c0, c1, c2⟩ := C.out
                          have zC := C.out.lt
                          have x0 : w10.cell? ⟨w.heap.size + 1, 0, none⟩ = some (.int .i64 x.A) := X.out.c 0 _ rfl
                          have x1 : w10.cell? ⟨w.heap.size + 1, 1, none⟩ = some (.int .i64 x.B) := X.out.c 1 _ rfl
                          have zX := X.out.lt
                          obtain ⟨l0, l1, l2, l3⟩ := L.out
                          have zL := L.out.lt
                          go_wp2_with fail
                          refine (KY.out _ (nextB D.out (box1 w10 _))).mono ?_
                          rintro e w11 ⟨rfl, hb⟩
                          have J := Lib.hid (nextB (box1 w10 _) hb)
                          have D := Lib.hid (nextB D.out J.out)
                          clear c0 c1 c2 zC x0 x1 zX l0 l1 l2 l3 zL
                          have C := Lib.hid (C.out.up J.out)
                          have X := Lib.hid (X.out.up J.out)
                          have L := Lib.hid (L.out.up J.out)
                          have V := Lib.hid (((Bt.new w10 31 (0) (0))).up hb)
                          clear hb
                          obtain ⟨c0, c1, c2⟩ := C.out
                          have zC := C.out.lt
                          have x0 : w11.cell? ⟨w.heap.size + 1, 0, none⟩ = some (.int .i64 x.A) := X.out.c 0 _ rfl
                          have x1 : w11.cell? ⟨w.heap.size + 1, 1, none⟩ = some (.int .i64 x.B) := X.out.c 1 _ rfl
                          have zX := X.out.lt
                          obtain ⟨l0, l1, l2, l3⟩ := L.out
                          have zL := L.out.lt
                          obtain ⟨v0, v1, v2, v3⟩ := V.out
                          have zV := V.out.lt
                          go_wp2_with fail
                          go_ret
                          exact ⟨rfl, (nextB D.out (box1 w11 _))⟩
                      | false =>
                        have HCF : Hid (¬ CanP c 2 (pair3 (x.A, t, t) (x.B, t + n, t + n))) := Lib.hid fun h => Bool.false_ne_true (HG2.out.2 h)
                        have HN3 : Hid (¬ ∃ T, Rdg c.d.n (gapF c.d) c.m c.F T ∧ T a = t ∧ T b = t + n) := Lib.hid fun h => Bool.false_ne_true (HG3.out.2 h)
                        go_wp2_with fail
                        refine wp_region_M [] (fun w' => w'.cell? ⟨w.heap.size, 0, none⟩ = some (.slice c.d.RA c.d.n c.d.rc) ∧ w'.cell? ⟨w.heap.size, 1, none⟩ = some (.slice c.d.SA c.d.m c.d.sc) ∧ w'.cell? ⟨w.heap.size, 2, none⟩ = some (.slice c.MA c.m c.mc) ∧ w'.cell? ⟨w.heap.size + 1, 0, none⟩ = some (.int .i64 x.A) ∧ w'.cell? ⟨w.heap.size + 1, 1, none⟩ = some (.int .i64 x.B)) (by kernel_rfl) (by kernel_rfl) (by (try dsimp only); (repeat' apply And.intro); all_goals first | assumption | (go_simp; done)) (fun hT0 => ?_)
                        refine M_take (v := ?_) 0 rfl (by kernel_rfl) (by assumption) (fun _ _ _ h => h) (Or.inl ⟨by rfl, ?_⟩) ?_
                        rotate_left
                        · (intro w hSw; (try dsimp only at hSw); go_simp; (try with_reducible rfl))
                        (try simp only [Act.put, List.setIfInBounds_toArray, List.set_cons_zero, List.set_cons_succ])
                        refine M_take (v := ?_) 1 rfl (by kernel_rfl) (by assumption) (fun _ _ _ h => h) (Or.inl ⟨by rfl, ?_⟩) ?_
                        rotate_left
                        · (intro w hSw; (try dsimp only at hSw); go_simp; (try with_reducible rfl))
                        (try simp only [Act.put, List.setIfInBounds_toArray, List.set_cons_zero, List.set_cons_succ])
                        refine M_take (v := ?_) 2 rfl (by kernel_rfl) (by assumption) (fun _ _ _ h => h) (Or.inl ⟨by rfl, ?_⟩) ?_
                        rotate_left
                        · (intro w hSw; (try dsimp only at hSw); go_simp; (try with_reducible rfl))
                        (try simp only [Act.put, List.setIfInBounds_toArray, List.set_cons_zero, List.set_cons_succ])
                        refine M_take (v := ?_) 3 rfl (by kernel_rfl) (by assumption) (fun _ _ _ h => h) (Or.inl ⟨by rfl, ?_⟩) ?_
                        rotate_left
                        · (intro w hSw; (try dsimp only at hSw); go_simp; (try with_reducible rfl))
                        (try simp only [Act.put, List.setIfInBounds_toArray, List.set_cons_zero, List.set_cons_succ])
                        refine M_take (v := ?_) 4 rfl (by kernel_rfl) (by assumption) (fun _ _ _ h => h) (Or.inl ⟨by rfl, ?_⟩) ?_
                        rotate_left
                        · (intro w hSw; (try dsimp only at hSw); go_simp; (try with_reducible rfl))
                        (try simp only [Act.put, List.setIfInBounds_toArray, List.set_cons_zero, List.set_cons_succ])
                        refine M_take (v := ?_) 5 rfl (by kernel_rfl) (by assumption) (fun _ _ _ h => h) (Or.inl ⟨by rfl, ?_⟩) ?_
                        rotate_left
                        · (intro w hSw; (try dsimp only at hSw); go_simp; (try with_reducible rfl))
                        (try simp only [Act.put, List.setIfInBounds_toArray, List.set_cons_zero, List.set_cons_succ])
                        refine M_take (v := ?_) 6 rfl (by kernel_rfl) (by assumption) (fun _ _ _ h => h) (Or.inl ⟨by rfl, ?_⟩) ?_
                        rotate_left
                        · (intro w hSw; (try dsimp only at hSw); go_simp; (try with_reducible rfl))
                        (try simp only [Act.put, List.setIfInBounds_toArray, List.set_cons_zero, List.set_cons_succ])
                        refine M_take (v := ?_) 7 rfl (by kernel_rfl) (by assumption) (fun _ _ _ h => h) (Or.inl ⟨by rfl, ?_⟩) ?_
                        rotate_left
                        · (intro w hSw; (try dsimp only at hSw); go_simp; (try with_reducible rfl))
                        (try simp only [Act.put, List.setIfInBounds_toArray, List.set_cons_zero, List.set_cons_succ])
                        refine M_take (v := ?_) 8 rfl (by kernel_rfl) (by assumption) (fun _ _ _ h => h) (Or.inl ⟨by rfl, ?_⟩) ?_
                        rotate_left
                        · (intro w hSw; (try dsimp only at hSw); go_simp; (try with_reducible rfl))
                        (try simp only [Act.put, List.setIfInBounds_toArray, List.set_cons_zero, List.set_cons_succ])
                        refine M_take (v := ?_) 9 rfl (by kernel_rfl) (by assumption) (fun _ _ _ h => h) (Or.inl ⟨by rfl, ?_⟩) ?_
                        rotate_left
                        · (intro w hSw; (try dsimp only at hSw); go_simp; (try with_reducible rfl))
                        (try simp only [Act.put, List.setIfInBounds_toArray, List.set_cons_zero, List.set_cons_succ])
                        refine M_take (v := ?_) 10 rfl (by kernel_rfl) (by assumption) (fun _ _ _ h => h) (Or.inl ⟨by rfl, ?_⟩) ?_
                        rotate_left
                        · (intro w hSw; (try dsimp only at hSw); go_simp; (try with_reducible rfl))
                        (try simp only [Act.put, List.setIfInBounds_toArray, List.set_cons_zero, List.set_cons_succ])
                        refine M_take (v := ?_) 11 rfl (by kernel_rfl) (by assumption) (fun _ _ _ h => h) (Or.inl ⟨by rfl, ?_⟩) ?_
                        rotate_left
                        · (intro w hSw; (try dsimp only at hSw); go_simp; (try with_reducible rfl))
                        (try simp only [Act.put, List.setIfInBounds_toArray, List.set_cons_zero, List.set_cons_succ])
                        refine M_take (v := ?_) 12 rfl (by kernel_rfl) (by assumption) (fun _ _ _ h => h) (Or.inl ⟨by rfl, ?_⟩) ?_
                        rotate_left
                        · (intro w hSw; (try dsimp only at hSw); go_simp; (try with_reducible rfl))
                        (try simp only [Act.put, List.setIfInBounds_toArray, List.set_cons_zero, List.set_cons_succ])
                        refine M_take (v := ?_) 13 rfl (by kernel_rfl) (by assumption) (fun _ _ _ h => h) (Or.inl ⟨by rfl, ?_⟩) ?_
                        rotate_left
                        · (intro w hSw; (try dsimp only at hSw); go_simp; (try with_reducible rfl))
                        (try simp only [Act.put, List.setIfInBounds_toArray, List.set_cons_zero, List.set_cons_succ])
                        refine M_take (v := ?_) 14 rfl (by kernel_rfl) (by assumption) (fun _ _ _ h => h) (Or.inl ⟨by rfl, ?_⟩) ?_
                        rotate_left
                        · (intro w hSw; (try dsimp only at hSw); go_simp; (try with_reducible rfl))
                        (try simp only [Act.put, List.setIfInBounds_toArray, List.set_cons_zero, List.set_cons_succ])
                        refine M_take (v := ?_) 16 rfl (by kernel_rfl) (by assumption) (fun _ _ _ h => h) (Or.inl ⟨by rfl, ?_⟩) ?_
                        rotate_left
                        · (intro w hSw; (try dsimp only at hSw); go_simp; (try with_reducible rfl))
                        (try simp only [Act.put, List.setIfInBounds_toArray, List.set_cons_zero, List.set_cons_succ])
                        refine M_take (v := ?_) 17 rfl (by kernel_rfl) (by assumption) (fun _ _ _ h => h) (Or.inl ⟨by rfl, ?_⟩) ?_
                        rotate_left
                        · (intro w hSw; (try dsimp only at hSw); go_simp; (try with_reducible rfl))
                        (try simp only [Act.put, List.setIfInBounds_toArray, List.set_cons_zero, List.set_cons_succ])
                        refine M_take (v := ?_) 18 rfl (by kernel_rfl) (by assumption) (fun _ _ _ h => h) (Or.inl ⟨by rfl, ?_⟩) ?_
                        rotate_left
                        · (intro w hSw; (try dsimp only at hSw); go_simp; (try with_reducible rfl))
                        (try simp only [Act.put, List.setIfInBounds_toArray, List.set_cons_zero, List.set_cons_succ])
                        refine M_take (v := ?_) 19 rfl (by kernel_rfl) (by assumption) (fun _ _ _ h => h) (Or.inl ⟨by rfl, ?_⟩) ?_
                        rotate_left
                        · (intro w hSw; (try dsimp only at hSw); go_simp; (try with_reducible rfl))
                        (try simp only [Act.put, List.setIfInBounds_toArray, List.set_cons_zero, List.set_cons_succ])
                        refine M_take (v := ?_) 20 rfl (by kernel_rfl) (by assumption) (fun _ _ _ h => h) (Or.inl ⟨by rfl, ?_⟩) ?_
                        rotate_left
                        · (intro w hSw; (try dsimp only at hSw); go_simp; (try with_reducible rfl))
                        (try simp only [Act.put, List.setIfInBounds_toArray, List.set_cons_zero, List.set_cons_succ])
                        refine M_step 15 rfl (by kernel_rfl) (fun K hK => ?_)
                        go_simp
                        go_at_call 68
                        refine (one_any x.A t _).mono ?_
                        rintro e wA ⟨rfl, hbA⟩
                        have HBA := Lib.hid (show Below w8.heap.size w8 wA from nextB (Below.refl _ _).drew hbA)
                        have hTA : (fun w' => w'.cell? ⟨w.heap.size, 0, none⟩ = some (.slice c.d.RA c.d.n c.d.rc) ∧ w'.cell? ⟨w.heap.size, 1, none⟩ = some (.slice c.d.SA c.d.m c.d.sc) ∧ w'.cell? ⟨w.heap.size, 2, none⟩ = some (.slice c.MA c.m c.mc) ∧ w'.cell? ⟨w.heap.size + 1, 0, none⟩ = some (.int .i64 x.A) ∧ w'.cell? ⟨w.heap.size + 1, 1, none⟩ = some (.int .i64 x.B)) wA := ⟨(HBA.out.cell (World.block_lt_of_cell? _ _ c0)).trans c0, (HBA.out.cell (World.block_lt_of_cell? _ _ c1)).trans c1, (HBA.out.cell (World.block_lt_of_cell? _ _ c2)).trans c2, (HBA.out.cell (World.block_lt_of_cell? _ _ x0)).trans x0, (HBA.out.cell (World.block_lt_of_cell? _ _ x1)).trans x1⟩
                        clear hbA
                        refine hK.out _ _ (fun _ => hTA) ?_
                        clear hK K
                        (try simp only [Act.put, List.setIfInBounds_toArray, List.set_cons_zero, List.set_cons_succ])
                        refine M_step 21 rfl (by kernel_rfl) (fun K hK => ?_)
                        go_simp
                        go_at_call 68
                        refine (one_any x.B (t + n) _).mono ?_
                        rintro e wB ⟨rfl, hbB⟩
                        have HBB := Lib.hid (show Below w8.heap.size w8 wB from nextB HBA.out hbB)
                        have hTB : (fun w' => w'.cell? ⟨w.heap.size, 0, none⟩ = some (.slice c.d.RA c.d.n c.d.rc) ∧ w'.cell? ⟨w.heap.size, 1, none⟩ = some (.slice c.d.SA c.d.m c.d.sc) ∧ w'.cell? ⟨w.heap.size, 2, none⟩ = some (.slice c.MA c.m c.mc) ∧ w'.cell? ⟨w.heap.size + 1, 0, none⟩ = some (.int .i64 x.A) ∧ w'.cell? ⟨w.heap.size + 1, 1, none⟩ = some (.int .i64 x.B)) wB := ⟨(HBB.out.cell (World.block_lt_of_cell? _ _ c0)).trans c0, (HBB.out.cell (World.block_lt_of_cell? _ _ c1)).trans c1, (HBB.out.cell (World.block_lt_of_cell? _ _ c2)).trans c2, (HBB.out.cell (World.block_lt_of_cell? _ _ x0)).trans x0, (HBB.out.cell (World.block_lt_of_cell? _ _ x1)).trans x1⟩
                        clear hbB
                        refine hK.out _ _ (fun _ => hTB) ?_
                        clear hK K
                        (try simp only [Act.put, List.setIfInBounds_toArray, List.set_cons_zero, List.set_cons_succ])
                        refine M_step 22 rfl (by kernel_rfl) (fun K hK => ?_)
                        go_simp
                        have HBC := Lib.hid (show Below w8.heap.size w8 (wB.alloc (.cells #[.int .i64 x.A, .int .i64 t, .int .i64 t, .int .i64 x.B, .int .i64 (t + n), .int .i64 (t + n)] 33)) from nextB HBB.out (box1 wB _))
                        have hTC : (fun w' => w'.cell? ⟨w.heap.size, 0, none⟩ = some (.slice c.d.RA c.d.n c.d.rc) ∧ w'.cell? ⟨w.heap.size, 1, none⟩ = some (.slice c.d.SA c.d.m c.d.sc) ∧ w'.cell? ⟨w.heap.size, 2, none⟩ = some (.slice c.MA c.m c.mc) ∧ w'.cell? ⟨w.heap.size + 1, 0, none⟩ = some (.int .i64 x.A) ∧ w'.cell? ⟨w.heap.size + 1, 1, none⟩ = some (.int .i64 x.B)) (wB.alloc (.cells #[.int .i64 x.A, .int .i64 t, .int .i64 t, .int .i64 x.B, .int .i64 (t + n), .int .i64 (t + n)] 33)) := ⟨(HBC.out.cell (World.block_lt_of_cell? _ _ c0)).trans c0, (HBC.out.cell (World.block_lt_of_cell? _ _ c1)).trans c1, (HBC.out.cell (World.block_lt_of_cell? _ _ c2)).trans c2, (HBC.out.cell (World.block_lt_of_cell? _ _ x0)).trans x0, (HBC.out.cell (World.block_lt_of_cell? _ _ x1)).trans x1⟩
                        refine hK.out _ _ (fun _ => hTC) ?_
                        clear hK K
                        (try simp only [Act.put, List.setIfInBounds_toArray, List.set_cons_zero, List.set_cons_succ])
                        refine M_step 23 rfl (by kernel_rfl) (fun K hK => ?_)
                        go_simp
                        go_at_call 67
                        refine (KC.out _ false _ _ _ (nextB D.out HBC.out) (trs_two wB (x.A, t, t) (x.B, t + n, t + n) _) ⟨fun h => (Bool.false_ne_true h).elim, fun h => absurd h HCF.out⟩).mono ?_
                        rintro e wD ⟨rfl, hbD⟩
                        have HBD := Lib.hid (show Below w8.heap.size w8 wD from nextB HBC.out hbD)
                        have hTD : (fun w' => w'.cell? ⟨w.heap.size, 0, none⟩ = some (.slice c.d.RA c.d.n c.d.rc) ∧ w'.cell? ⟨w.heap.size, 1, none⟩ = some (.slice c.d.SA c.d.m c.d.sc) ∧ w'.cell? ⟨w.heap.size, 2, none⟩ = some (.slice c.MA c.m c.mc) ∧ w'.cell? ⟨w.heap.size + 1, 0, none⟩ = some (.int .i64 x.A) ∧ w'.cell? ⟨w.heap.size + 1, 1, none⟩ = some (.int .i64 x.B)) wD := ⟨(HBD.out.cell (World.block_lt_of_cell? _ _ c0)).trans c0, (HBD.out.cell (World.block_lt_of_cell? _ _ c1)).trans c1, (HBD.out.cell (World.block_lt_of_cell? _ _ c2)).trans c2, (HBD.out.cell (World.block_lt_of_cell? _ _ x0)).trans x0, (HBD.out.cell (World.block_lt_of_cell? _ _ x1)).trans x1⟩
                        clear hbD
                        refine hK.out _ _ (fun _ => hTD) ?_
                        clear hK K
                        (try simp only [Act.put, List.setIfInBounds_toArray, List.set_cons_zero, List.set_cons_succ])
                        refine M_take (v := ?_) 24 rfl (by kernel_rfl) (by assumption) (fun _ _ _ h => h) (Or.inl ⟨by rfl, ?_⟩) ?_
                        rotate_left
                        · (intro w hSw; (try dsimp only at hSw); go_simp; (try with_reducible rfl))
                        (try simp only [Act.put, List.setIfInBounds_toArray, List.set_cons_zero, List.set_cons_succ])
                        refine M_done (by kernel_rfl) ?_ _
                        clear hT0 hTA hTB hTC hTD
                        have HNO := Lib.hid (show ∀ t', p1 ≤ t' → t' < t + 1 → ¬ ∃ T, Rdg c.d.n (gapF c.d) c.m c.F T ∧ T a = t' ∧ T b = t' + n from fun t' h1 h2 => by
                          by_cases e : t' = t
                          · subst e
                            exact HN3.out
                          · exact hno.out t' h1 (by omega))
                        go_wp2_with fail
                        go_roundw
                        case rel => exact ⟨t + 1, by omega, by omega, rfl, rfl, HNO, (nextB HB8.out HBD.out)⟩
                        case measure => simp [intOf]; omega
                    · have dh : decide (t + n ≤ 400) = false := decide_eq_false hh
                      go_wp2_with fail
                      refine wp_region_M [] (fun w' => w'.cell? ⟨w.heap.size, 0, none⟩ = some (.slice c.d.RA c.d.n c.d.rc) ∧ w'.cell? ⟨w.heap.size, 1, none⟩ = some (.slice c.d.SA c.d.m c.d.sc) ∧ w'.cell? ⟨w.heap.size, 2, none⟩ = some (.slice c.MA c.m c.mc) ∧ w'.cell? ⟨w.heap.size + 1, 0, none⟩ = some (.int .i64 x.A) ∧ w'.cell? ⟨w.heap.size + 1, 1, none⟩ = some (.int .i64 x.B)) (by kernel_rfl) (by kernel_rfl) (by (try dsimp only); (repeat' apply And.intro); all_goals first | assumption | (go_simp; done)) (fun hT0 => ?_)
                      refine M_take (v := ?_) 0 rfl (by kernel_rfl) (by assumption) (fun _ _ _ h => h) (Or.inl ⟨by rfl, ?_⟩) ?_
                      rotate_left
                      · (intro w hSw; (try dsimp only at hSw); go_simp; (try with_reducible rfl))
                      (try simp only [Act.put, List.setIfInBounds_toArray, List.set_cons_zero, List.set_cons_succ])
                      refine M_take (v := ?_) 1 rfl (by kernel_rfl) (by assumption) (fun _ _ _ h => h) (Or.inl ⟨by rfl, ?_⟩) ?_
                      rotate_left
                      · (intro w hSw; (try dsimp only at hSw); go_simp; (try with_reducible rfl))
                      (try simp only [Act.put, List.setIfInBounds_toArray, List.set_cons_zero, List.set_cons_succ])
                      refine M_take (v := ?_) 2 rfl (by kernel_rfl) (by assumption) (fun _ _ _ h => h) (Or.inl ⟨by rfl, ?_⟩) ?_
                      rotate_left
                      · (intro w hSw; (try dsimp only at hSw); go_simp; (try with_reducible rfl))
                      (try simp only [Act.put, List.setIfInBounds_toArray, List.set_cons_zero, List.set_cons_succ])
                      refine M_take (v := ?_) 3 rfl (by kernel_rfl) (by assumption) (fun _ _ _ h => h) (Or.inl ⟨by rfl, ?_⟩) ?_
                      rotate_left
                      · (intro w hSw; (try dsimp only at hSw); go_simp; (try with_reducible rfl))
                      (try simp only [Act.put, List.setIfInBounds_toArray, List.set_cons_zero, List.set_cons_succ])
                      refine M_take (v := ?_) 4 rfl (by kernel_rfl) (by assumption) (fun _ _ _ h => h) (Or.inl ⟨by rfl, ?_⟩) ?_
                      rotate_left
                      · (intro w hSw; (try dsimp only at hSw); go_simp; (try with_reducible rfl))
                      (try simp only [Act.put, List.setIfInBounds_toArray, List.set_cons_zero, List.set_cons_succ])
                      refine M_take (v := ?_) 5 rfl (by kernel_rfl) (by assumption) (fun _ _ _ h => h) (Or.inl ⟨by rfl, ?_⟩) ?_
                      rotate_left
                      · (intro w hSw; (try dsimp only at hSw); go_simp; (try with_reducible rfl))
                      (try simp only [Act.put, List.setIfInBounds_toArray, List.set_cons_zero, List.set_cons_succ])
                      refine M_take (v := ?_) 6 rfl (by kernel_rfl) (by assumption) (fun _ _ _ h => h) (Or.inl ⟨by rfl, ?_⟩) ?_
                      rotate_left
                      · (intro w hSw; (try dsimp only at hSw); go_simp; (try with_reducible rfl))
                      (try simp only [Act.put, List.setIfInBounds_toArray, List.set_cons_zero, List.set_cons_succ])
                      refine M_take (v := ?_) 7 rfl (by kernel_rfl) (by assumption) (fun _ _ _ h => h) (Or.inl ⟨by rfl, ?_⟩) ?_
                      rotate_left
                      · (intro w hSw; (try dsimp only at hSw); go_simp; (try with_reducible rfl))
                      (try simp only [Act.put, List.setIfInBounds_toArray, List.set_cons_zero, List.set_cons_succ])
                      refine M_take (v := ?_) 8 rfl (by kernel_rfl) (by assumption) (fun _ _ _ h => h) (Or.inl ⟨by rfl, ?_⟩) ?_
                      rotate_left
                      · (intro w hSw; (try dsimp only at hSw); go_simp; (try with_reducible rfl))
                      (try simp only [Act.put, List.setIfInBounds_toArray, List.set_cons_zero, List.set_cons_succ])
                      refine M_take (v := ?_) 9 rfl (by kernel_rfl) (by assumption) (fun _ _ _ h => h) (Or.inl ⟨by rfl, ?_⟩) ?_
                      rotate_left
                      · (intro w hSw; (try dsimp only at hSw); go_simp; (try with_reducible rfl))
                      (try simp only [Act.put, List.setIfInBounds_toArray, List.set_cons_zero, List.set_cons_succ])
                      refine M_take (v := ?_) 10 rfl (by kernel_rfl) (by assumption) (fun _ _ _ h => h) (Or.inl ⟨by rfl, ?_⟩) ?_
                      rotate_left
                      · (intro w hSw; (try dsimp only at hSw); go_simp; (try with_reducible rfl))
                      (try simp only [Act.put, List.setIfInBounds_toArray, List.set_cons_zero, List.set_cons_succ])
                      refine M_take 11 rfl (by kernel_rfl) (by assumption) (fun _ _ _ h => h) (Or.inr ⟨by rfl, rfl⟩) ?_
                      (try simp only [Act.put, List.setIfInBounds_toArray, List.set_cons_zero, List.set_cons_succ])
                      refine M_take 12 rfl (by kernel_rfl) (by assumption) (fun _ _ _ h => h) (Or.inr ⟨by rfl, rfl⟩) ?_
                      (try simp only [Act.put, List.setIfInBounds_toArray, List.set_cons_zero, List.set_cons_succ])
                      refine M_take 13 rfl (by kernel_rfl) (by assumption) (fun _ _ _ h => h) (Or.inr ⟨by rfl, rfl⟩) ?_
                      (try simp only [Act.put, List.setIfInBounds_toArray, List.set_cons_zero, List.set_cons_succ])
                      refine M_take 14 rfl (by kernel_rfl) (by assumption) (fun _ _ _ h => h) (Or.inr ⟨by rfl, rfl⟩) ?_
                      (try simp only [Act.put, List.setIfInBounds_toArray, List.set_cons_zero, List.set_cons_succ])
                      refine M_take 15 rfl (by kernel_rfl) (by assumption) (fun _ _ _ h => h) (Or.inr ⟨by rfl, rfl⟩) ?_
                      (try simp only [Act.put, List.setIfInBounds_toArray, List.set_cons_zero, List.set_cons_succ])
                      refine M_take 16 rfl (by kernel_rfl) (by assumption) (fun _ _ _ h => h) (Or.inr ⟨by rfl, rfl⟩) ?_
                      (try simp only [Act.put, List.setIfInBounds_toArray, List.set_cons_zero, List.set_cons_succ])
                      refine M_take 17 rfl (by kernel_rfl) (by assumption) (fun _ _ _ h => h) (Or.inr ⟨by rfl, rfl⟩) ?_
                      (try simp only [Act.put, List.setIfInBounds_toArray, List.set_cons_zero, List.set_cons_succ])
                      refine M_take 18 rfl (by kernel_rfl) (by assumption) (fun _ _ _ h => h) (Or.inr ⟨by rfl, rfl⟩) ?_
                      (try simp only [Act.put, List.setIfInBounds_toArray, List.set_cons_zero, List.set_cons_succ])
                      refine M_take 19 rfl (by kernel_rfl) (by assumption) (fun _ _ _ h => h) (Or.inr ⟨by rfl, rfl⟩) ?_
                      (try simp only [Act.put, List.setIfInBounds_toArray, List.set_cons_zero, List.set_cons_succ])
                      refine M_take 20 rfl (by kernel_rfl) (by assumption) (fun _ _ _ h => h) (Or.inr ⟨by rfl, rfl⟩) ?_
                      (try simp only [Act.put, List.setIfInBounds_toArray, List.set_cons_zero, List.set_cons_succ])
                      refine M_take 21 rfl (by kernel_rfl) (by assumption) (fun _ _ _ h => h) (Or.inr ⟨by rfl, rfl⟩) ?_
                      (try simp only [Act.put, List.setIfInBounds_toArray, List.set_cons_zero, List.set_cons_succ])
                      refine M_take 22 rfl (by kernel_rfl) (by assumption) (fun _ _ _ h => h) (Or.inr ⟨by rfl, rfl⟩) ?_
                      (try simp only [Act.put, List.setIfInBounds_toArray, List.set_cons_zero, List.set_cons_succ])
                      refine M_take 23 rfl (by kernel_rfl) (by assumption) (fun _ _ _ h => h) (Or.inr ⟨by rfl, rfl⟩) ?_
                      (try simp only [Act.put, List.setIfInBounds_toArray, List.set_cons_zero, List.set_cons_succ])
                      refine M_take (v := ?_) 24 rfl (by kernel_rfl) (by assumption) (fun _ _ _ h => h) (Or.inl ⟨by rfl, ?_⟩) ?_
                      rotate_left
                      · (intro w hSw; (try dsimp only at hSw); go_simp; (try with_reducible rfl))
                      (try simp only [Act.put, List.setIfInBounds_toArray, List.set_cons_zero, List.set_cons_succ])
                      refine M_done (by kernel_rfl) ?_ _
                      clear hT0
                      have HNO := Lib.hid (show ∀ t', p1 ≤ t' → t' < t + 1 → ¬ ∃ T, Rdg c.d.n (gapF c.d) c.m c.F T ∧ T a = t' ∧ T b = t' + n from fun t' h1 h2 => by
                        by_cases e : t' = t
                        · subst e
                          exact (fun ⟨T, hT, h1, h2⟩ => by have := HM7.out T hT; omega)
                        · exact hno.out t' h1 (by omega))
                      go_wp2_with fail
                      go_roundw
                      case rel => exact ⟨t + 1, by omega, by omega, rfl, rfl, HNO, (nextB HB8.out (Below.refl w8.heap.size w8).drew)⟩
                      case measure => simp [intOf]; omega
                  · have dl : decide (0 ≤ t + n) = false := decide_eq_false hl
                    go_wp2_with fail
                    refine wp_region_M [] (fun w' => w'.cell? ⟨w.heap.size, 0, none⟩ = some (.slice c.d.RA c.d.n c.d.rc) ∧ w'.cell? ⟨w.heap.size, 1, none⟩ = some (.slice c.d.SA c.d.m c.d.sc) ∧ w'.cell? ⟨w.heap.size, 2, none⟩ = some (.slice c.MA c.m c.mc) ∧ w'.cell? ⟨w.heap.size + 1, 0, none⟩ = some (.int .i64 x.A) ∧ w'.cell? ⟨w.heap.size + 1, 1, none⟩ = some (.int .i64 x.B)) (by kernel_rfl) (by kernel_rfl) (by (try dsimp only); (repeat' apply And.intro); all_goals first | assumption | (go_simp; done)) (fun hT0 => ?_)
                    refine M_take (v := ?_) 0 rfl (by kernel_rfl) (by assumption) (fun _ _ _ h => h) (Or.inl ⟨by rfl, ?_⟩) ?_
                    rotate_left
                    · (intro w hSw; (try dsimp only at hSw); go_simp; (try with_reducible rfl))
                    (try simp only [Act.put, List.setIfInBounds_toArray, List.set_cons_zero, List.set_cons_succ])
                    refine M_take (v := ?_) 1 rfl (by kernel_rfl) (by assumption) (fun _ _ _ h => h) (Or.inl ⟨by rfl, ?_⟩) ?_
                    rotate_left
                    · (intro w hSw; (try dsimp only at hSw); go_simp; (try with_reducible rfl))
                    (try simp only [Act.put, List.setIfInBounds_toArray, List.set_cons_zero, List.set_cons_succ])
                    refine M_take (v := ?_) 2 rfl (by kernel_rfl) (by assumption) (fun _ _ _ h => h) (Or.inl ⟨by rfl, ?_⟩) ?_
                    rotate_left
                    · (intro w hSw; (try dsimp only at hSw); go_simp; (try with_reducible rfl))
                    (try simp only [Act.put, List.setIfInBounds_toArray, List.set_cons_zero, List.set_cons_succ])
                    refine M_take (v := ?_) 3 rfl (by kernel_rfl) (by assumption) (fun _ _ _ h => h) (Or.inl ⟨by rfl, ?_⟩) ?_
                    rotate_left
                    · (intro w hSw; (try dsimp only at hSw); go_simp; (try with_reducible rfl))
                    (try simp only [Act.put, List.setIfInBounds_toArray, List.set_cons_zero, List.set_cons_succ])
                    refine M_take (v := ?_) 4 rfl (by kernel_rfl) (by assumption) (fun _ _ _ h => h) (Or.inl ⟨by rfl, ?_⟩) ?_
                    rotate_left
                    · (intro w hSw; (try dsimp only at hSw); go_simp; (try with_reducible rfl))
                    (try simp only [Act.put, List.setIfInBounds_toArray, List.set_cons_zero, List.set_cons_succ])
                    refine M_take 5 rfl (by kernel_rfl) (by assumption) (fun _ _ _ h => h) (Or.inr ⟨by rfl, rfl⟩) ?_
                    (try simp only [Act.put, List.setIfInBounds_toArray, List.set_cons_zero, List.set_cons_succ])
                    refine M_take 6 rfl (by kernel_rfl) (by assumption) (fun _ _ _ h => h) (Or.inr ⟨by rfl, rfl⟩) ?_
                    (try simp only [Act.put, List.setIfInBounds_toArray, List.set_cons_zero, List.set_cons_succ])
                    refine M_take 7 rfl (by kernel_rfl) (by assumption) (fun _ _ _ h => h) (Or.inr ⟨by rfl, rfl⟩) ?_
                    (try simp only [Act.put, List.setIfInBounds_toArray, List.set_cons_zero, List.set_cons_succ])
                    refine M_take 8 rfl (by kernel_rfl) (by assumption) (fun _ _ _ h => h) (Or.inr ⟨by rfl, rfl⟩) ?_
                    (try simp only [Act.put, List.setIfInBounds_toArray, List.set_cons_zero, List.set_cons_succ])
                    refine M_take (v := ?_) 9 rfl (by kernel_rfl) (by assumption) (fun _ _ _ h => h) (Or.inl ⟨by rfl, ?_⟩) ?_
                    rotate_left
                    · (intro w hSw; (try dsimp only at hSw); go_simp; (try with_reducible rfl))
                    (try simp only [Act.put, List.setIfInBounds_toArray, List.set_cons_zero, List.set_cons_succ])
                    refine M_take (v := ?_) 10 rfl (by kernel_rfl) (by assumption) (fun _ _ _ h => h) (Or.inl ⟨by rfl, ?_⟩) ?_
                    rotate_left
                    · (intro w hSw; (try dsimp only at hSw); go_simp; (try with_reducible rfl))
                    (try simp only [Act.put, List.setIfInBounds_toArray, List.set_cons_zero, List.set_cons_succ])
                    refine M_take 11 rfl (by kernel_rfl) (by assumption) (fun _ _ _ h => h) (Or.inr ⟨by rfl, rfl⟩) ?_
                    (try simp only [Act.put, List.setIfInBounds_toArray, List.set_cons_zero, List.set_cons_succ])
                    refine M_take 12 rfl (by kernel_rfl) (by assumption) (fun _ _ _ h => h) (Or.inr ⟨by rfl, rfl⟩) ?_
                    (try simp only [Act.put, List.setIfInBounds_toArray, List.set_cons_zero, List.set_cons_succ])
                    refine M_take 13 rfl (by kernel_rfl) (by assumption) (fun _ _ _ h => h) (Or.inr ⟨by rfl, rfl⟩) ?_
                    (try simp only [Act.put, List.setIfInBounds_toArray, List.set_cons_zero, List.set_cons_succ])
                    refine M_take 14 rfl (by kernel_rfl) (by assumption) (fun _ _ _ h => h) (Or.inr ⟨by rfl, rfl⟩) ?_
                    (try simp only [Act.put, List.setIfInBounds_toArray, List.set_cons_zero, List.set_cons_succ])
                    refine M_take 15 rfl (by kernel_rfl) (by assumption) (fun _ _ _ h => h) (Or.inr ⟨by rfl, rfl⟩) ?_
                    (try simp only [Act.put, List.setIfInBounds_toArray, List.set_cons_zero, List.set_cons_succ])
                    refine M_take 16 rfl (by kernel_rfl) (by assumption) (fun _ _ _ h => h) (Or.inr ⟨by rfl, rfl⟩) ?_
                    (try simp only [Act.put, List.setIfInBounds_toArray, List.set_cons_zero, List.set_cons_succ])
                    refine M_take 17 rfl (by kernel_rfl) (by assumption) (fun _ _ _ h => h) (Or.inr ⟨by rfl, rfl⟩) ?_
                    (try simp only [Act.put, List.setIfInBounds_toArray, List.set_cons_zero, List.set_cons_succ])
                    refine M_take 18 rfl (by kernel_rfl) (by assumption) (fun _ _ _ h => h) (Or.inr ⟨by rfl, rfl⟩) ?_
                    (try simp only [Act.put, List.setIfInBounds_toArray, List.set_cons_zero, List.set_cons_succ])
                    refine M_take 19 rfl (by kernel_rfl) (by assumption) (fun _ _ _ h => h) (Or.inr ⟨by rfl, rfl⟩) ?_
                    (try simp only [Act.put, List.setIfInBounds_toArray, List.set_cons_zero, List.set_cons_succ])
                    refine M_take 20 rfl (by kernel_rfl) (by assumption) (fun _ _ _ h => h) (Or.inr ⟨by rfl, rfl⟩) ?_
                    (try simp only [Act.put, List.setIfInBounds_toArray, List.set_cons_zero, List.set_cons_succ])
                    refine M_take 21 rfl (by kernel_rfl) (by assumption) (fun _ _ _ h => h) (Or.inr ⟨by rfl, rfl⟩) ?_
                    (try simp only [Act.put, List.setIfInBounds_toArray, List.set_cons_zero, List.set_cons_succ])
                    refine M_take 22 rfl (by kernel_rfl) (by assumption) (fun _ _ _ h => h) (Or.inr ⟨by rfl, rfl⟩) ?_
                    (try simp only [Act.put, List.setIfInBounds_toArray, List.set_cons_zero, List.set_cons_succ])
                    refine M_take 23 rfl (by kernel_rfl) (by assumption) (fun _ _ _ h => h) (Or.inr ⟨by rfl, rfl⟩) ?_
                    (try simp only [Act.put, List.setIfInBounds_toArray, List.set_cons_zero, List.set_cons_succ])
                    refine M_take (v := ?_) 24 rfl (by kernel_rfl) (by assumption) (fun _ _ _ h => h) (Or.inl ⟨by rfl, ?_⟩) ?_
                    rotate_left
                    · (intro w hSw; (try dsimp only at hSw); go_simp; (try with_reducible rfl))
                    (try simp only [Act.put, List.setIfInBounds_toArray, List.set_cons_zero, List.set_cons_succ])
                    refine M_done (by kernel_rfl) ?_ _
                    clear hT0
                    have HNO := Lib.hid (show ∀ t', p1 ≤ t' → t' < t + 1 → ¬ ∃ T, Rdg c.d.n (gapF c.d) c.m c.F T ∧ T a = t' ∧ T b = t' + n from fun t' h1 h2 => by
                      by_cases e : t' = t
                      · subst e
                        exact (fun ⟨T, hT, h1, h2⟩ => by have := HM7.out T hT; omega)
                      · exact hno.out t' h1 (by omega))
                    go_wp2_with fail
                    go_roundw
                    case rel => exact ⟨t + 1, by omega, by omega, rfl, rfl, HNO, (nextB HB8.out (Below.refl w8.heap.size w8).drew)⟩
                    case measure => simp [intOf]; omega
                · have dn2 : decide (n ≤ 400) = false := decide_eq_false hn2
                  have hm2 := HM2.out
                  have d1 : decide (0 ≤ n) = true := decide_eq_true (by omega)
                  have d2 : decide (n ≤ 0) = false := decide_eq_false (by omega)
                  clear hm2
                  cases hv3 : v3 with
                  | true =>
                    obtain ⟨e1, e2, f1, f2, ⟨k1, k2⟩, k3, k4, KX, KY⟩ := KB.out hv3
                    have KX := Lib.hid KX
                    have KY := Lib.hid KY
                    have w9' : IntKind.i64.wrap (e1 + f1) = e1 + f1 := IntWalk.i64_in _ (by omega)
                    have w10' : IntKind.i64.wrap (e2 + f2) = e2 + f2 := IntWalk.i64_in _ (by omega)
                    have d3 : decide (e1 + f1 ≤ 0) = true := decide_eq_true k1
                    have d4 : decide (0 ≤ e2 + f2) = true := decide_eq_true k2
                    clear k1 k2 k3 k4
                    go_wp2_with fail
                    refine (KX.out _ D.out).mono ?_
                    rintro e w9 ⟨rfl, hb⟩
                    have J := Lib.hid (hb)
                    have D := Lib.hid (nextB D.out J.out)
                    clear c0 c1 c2 zC x0 x1 zX l0 l1 l2 l3 zL u0 u1 u2 u3 zU
                    have C := Lib.hid (C.out.up J.out)
                    have X := Lib.hid (X.out.up J.out)
                    have L := Lib.hid (L.out.up J.out)
                    clear hb
                    obtain ⟨c0, c1, c2⟩ := C.out
                    have zC := C.out.lt
                    have x0 : w9.cell? ⟨w.heap.size + 1, 0, none⟩ = some (.int .i64 x.A) := X.out.c 0 _ rfl
                    have x1 : w9.cell? ⟨w.heap.size + 1, 1, none⟩ = some (.int .i64 x.B) := X.out.c 1 _ rfl
                    have zX := X.out.lt
                    obtain ⟨l0, l1, l2, l3⟩ := L.out
                    have zL := L.out.lt
                    go_wp2_with fail
                    refine (KY.out _ (nextB D.out (box1 w9 _))).mono ?_
                    rintro e w10 ⟨rfl, hb⟩
                    have J := Lib.hid (nextB (box1 w9 _) hb)
                    have D := Lib.hid (nextB D.out J.out)
                    clear c0 c1 c2 zC x0 x1 zX l0 l1 l2 l3 zL
                    have C := Lib.hid (C.out.up J.out)
                    have X := Lib.hid (X.out.up J.out)
                    have L := Lib.hid (L.out.up J.out)
                    have V := Lib.hid (((Bt.new w9 31 (e1) (e2))).up hb)
                    clear hb
                    obtain ⟨c0, c1, c2⟩ := C.out
                    have zC := C.out.lt
                    have x0 : w10.cell? ⟨w.heap.size + 1, 0, none⟩ = some (.int .i64 x.A) := X.out.c 0 _ rfl
                    have x1 : w10.cell? ⟨w.heap.size + 1, 1, none⟩ = some (.int .i64 x.B) := X.out.c 1 _ rfl
                    have zX := X.out.lt
                    obtain ⟨l0, l1, l2, l3⟩ := L.out
                    have zL := L.out.lt
                    obtain ⟨v0, v1, v2, v3⟩ := V.out
                    have zV := V.out.lt
                    go_wp2_with fail
                    go_ret
                    exact ⟨rfl, (nextB D.out (box1 w10 _))⟩
                  | false =>
                    obtain ⟨KX, KY⟩ := KN.out hv3
                    have KX := Lib.hid KX
                    have KY := Lib.hid KY
                    go_wp2_with fail
                    refine (KX.out _ D.out).mono ?_
                    rintro e w9 ⟨rfl, hb⟩
                    have J := Lib.hid (hb)
                    have D := Lib.hid (nextB D.out J.out)
                    clear c0 c1 c2 zC x0 x1 zX l0 l1 l2 l3 zL u0 u1 u2 u3 zU
                    have C := Lib.hid (C.out.up J.out)
                    have X := Lib.hid (X.out.up J.out)
                    have L := Lib.hid (L.out.up J.out)
                    clear hb
                    obtain ⟨c0, c1, c2⟩ := C.out
                    have zC := C.out.lt
                    have x0 : w9.cell? ⟨w.heap.size + 1, 0, none⟩ = some (.int .i64 x.A) := X.out.c 0 _ rfl
                    have x1 : w9.cell? ⟨w.heap.size + 1, 1, none⟩ = some (.int .i64 x.B) := X.out.c 1 _ rfl
                    have zX := X.out.lt
                    obtain ⟨l0, l1, l2, l3⟩ := L.out
                    have zL := L.out.lt
                    go_wp2_with fail
                    refine (KY.out _ (nextB D.out (box1 w9 _))).mono ?_
                    rintro e w10 ⟨rfl, hb⟩
                    have J := Lib.hid (nextB (box1 w9 _) hb)
                    have D := Lib.hid (nextB D.out J.out)
                    clear c0 c1 c2 zC x0 x1 zX l0 l1 l2 l3 zL
                    have C := Lib.hid (C.out.up J.out)
                    have X := Lib.hid (X.out.up J.out)
                    have L := Lib.hid (L.out.up J.out)
                    have V := Lib.hid (((Bt.new w9 31 (0) (0))).up hb)
                    clear hb
                    obtain ⟨c0, c1, c2⟩ := C.out
                    have zC := C.out.lt
                    have x0 : w10.cell? ⟨w.heap.size + 1, 0, none⟩ = some (.int .i64 x.A) := X.out.c 0 _ rfl
                    have x1 : w10.cell? ⟨w.heap.size + 1, 1, none⟩ = some (.int .i64 x.B) := X.out.c 1 _ rfl
                    have zX := X.out.lt
                    obtain ⟨l0, l1, l2, l3⟩ := L.out
                    have zL := L.out.lt
                    obtain ⟨v0, v1, v2, v3⟩ := V.out
                    have zV := V.out.lt
                    go_wp2_with fail
                    go_ret
                    exact ⟨rfl, (nextB D.out (box1 w10 _))⟩
              · have dn1 : decide (-400 ≤ n) = false := decide_eq_false hn1
                have hm2 := HM2.out
                have d1 : decide (0 ≤ n) = false := decide_eq_false (by omega)
                clear hm2
                cases hv3 : v3 with
                | true =>
                  obtain ⟨e1, e2, f1, f2, ⟨k1, k2⟩, k3, k4, KX, KY⟩ := KB.out hv3
                  have KX := Lib.hid KX
                  have KY := Lib.hid KY
                  have w9' : IntKind.i64.wrap (e1 + f1) = e1 + f1 := IntWalk.i64_in _ (by omega)
                  have w10' : IntKind.i64.wrap (e2 + f2) = e2 + f2 := IntWalk.i64_in _ (by omega)
                  have d3 : decide (e1 + f1 ≤ 0) = true := decide_eq_true k1
                  have d4 : decide (0 ≤ e2 + f2) = true := decide_eq_true k2
                  clear k1 k2 k3 k4
                  go_wp2_with fail
                  refine (KX.out _ D.out).mono ?_
                  rintro e w9 ⟨rfl, hb⟩
                  have J := Lib.hid (hb)
                  have D := Lib.hid (nextB D.out J.out)
                  clear c0 c1 c2 zC x0 x1 zX l0 l1 l2 l3 zL u0 u1 u2 u3 zU
                  have C := Lib.hid (C.out.up J.out)
                  have X := Lib.hid (X.out.up J.out)
                  have L := Lib.hid (L.out.up J.out)
                  clear hb
                  obtain ⟨c0, c1, c2⟩ := C.out
                  have zC := C.out.lt
                  have x0 : w9.cell? ⟨w.heap.size + 1, 0, none⟩ = some (.int .i64 x.A) := X.out.c 0 _ rfl
                  have x1 : w9.cell? ⟨w.heap.size + 1, 1, none⟩ = some (.int .i64 x.B) := X.out.c 1 _ rfl
                  have zX := X.out.lt
                  obtain ⟨l0, l1, l2, l3⟩ := L.out
                  have zL := L.out.lt
                  go_wp2_with fail
                  refine (KY.out _ (nextB D.out (box1 w9 _))).mono ?_
                  rintro e w10 ⟨rfl, hb⟩
                  have J := Lib.hid (nextB (box1 w9 _) hb)
                  have D := Lib.hid (nextB D.out J.out)
                  clear c0 c1 c2 zC x0 x1 zX l0 l1 l2 l3 zL
                  have C := Lib.hid (C.out.up J.out)
                  have X := Lib.hid (X.out.up J.out)
                  have L := Lib.hid (L.out.up J.out)
                  have V := Lib.hid (((Bt.new w9 31 (e1) (e2))).up hb)
                  clear hb
                  obtain ⟨c0, c1, c2⟩ := C.out
                  have zC := C.out.lt
                  have x0 : w10.cell? ⟨w.heap.size + 1, 0, none⟩ = some (.int .i64 x.A) := X.out.c 0 _ rfl
                  have x1 : w10.cell? ⟨w.heap.size + 1, 1, none⟩ = some (.int .i64 x.B) := X.out.c 1 _ rfl
                  have zX := X.out.lt
                  obtain ⟨l0, l1, l2, l3⟩ := L.out
                  have zL := L.out.lt
                  obtain ⟨v0, v1, v2, v3⟩ := V.out
                  have zV := V.out.lt
                  go_wp2_with fail
                  go_ret
                  exact ⟨rfl, (nextB D.out (box1 w10 _))⟩
                | false =>
                  obtain ⟨KX, KY⟩ := KN.out hv3
                  have KX := Lib.hid KX
                  have KY := Lib.hid KY
                  go_wp2_with fail
                  refine (KX.out _ D.out).mono ?_
                  rintro e w9 ⟨rfl, hb⟩
                  have J := Lib.hid (hb)
                  have D := Lib.hid (nextB D.out J.out)
                  clear c0 c1 c2 zC x0 x1 zX l0 l1 l2 l3 zL u0 u1 u2 u3 zU
                  have C := Lib.hid (C.out.up J.out)
                  have X := Lib.hid (X.out.up J.out)
                  have L := Lib.hid (L.out.up J.out)
                  clear hb
                  obtain ⟨c0, c1, c2⟩ := C.out
                  have zC := C.out.lt
                  have x0 : w9.cell? ⟨w.heap.size + 1, 0, none⟩ = some (.int .i64 x.A) := X.out.c 0 _ rfl
                  have x1 : w9.cell? ⟨w.heap.size + 1, 1, none⟩ = some (.int .i64 x.B) := X.out.c 1 _ rfl
                  have zX := X.out.lt
                  obtain ⟨l0, l1, l2, l3⟩ := L.out
                  have zL := L.out.lt
                  go_wp2_with fail
                  refine (KY.out _ (nextB D.out (box1 w9 _))).mono ?_
                  rintro e w10 ⟨rfl, hb⟩
                  have J := Lib.hid (nextB (box1 w9 _) hb)
                  have D := Lib.hid (nextB D.out J.out)
                  clear c0 c1 c2 zC x0 x1 zX l0 l1 l2 l3 zL
                  have C := Lib.hid (C.out.up J.out)
                  have X := Lib.hid (X.out.up J.out)
                  have L := Lib.hid (L.out.up J.out)
                  have V := Lib.hid (((Bt.new w9 31 (0) (0))).up hb)
                  clear hb
                  obtain ⟨c0, c1, c2⟩ := C.out
                  have zC := C.out.lt
                  have x0 : w10.cell? ⟨w.heap.size + 1, 0, none⟩ = some (.int .i64 x.A) := X.out.c 0 _ rfl
                  have x1 : w10.cell? ⟨w.heap.size + 1, 1, none⟩ = some (.int .i64 x.B) := X.out.c 1 _ rfl
                  have zX := X.out.lt
                  obtain ⟨l0, l1, l2, l3⟩ := L.out
                  have zL := L.out.lt
                  obtain ⟨v0, v1, v2, v3⟩ := V.out
                  have zV := V.out.lt
                  go_wp2_with fail
                  go_ret
                  exact ⟨rfl, (nextB D.out (box1 w10 _))⟩
            · have dtp : decide (t ≤ p2) = false := decide_eq_false htp
              have hnot : ¬ (0 ≤ n ∧ n ≤ 0) := fun h => by
                obtain ⟨T, hT, e⟩ := (HM5.out n).1 h
                have h6 := HM6.out T hT
                exact hno.out (T a) h6.1 (by omega) ⟨T, hT, rfl, by omega⟩
              by_cases hs1 : 0 ≤ n
              · have d1 : decide (0 ≤ n) = true := decide_eq_true hs1
                have d2 : decide (n ≤ 0) = false := decide_eq_false (fun h => hnot ⟨hs1, h⟩)
                cases hv3 : v3 with
                | true =>
                  obtain ⟨e1, e2, f1, f2, ⟨k1, k2⟩, k3, k4, KX, KY⟩ := KB.out hv3
                  have KX := Lib.hid KX
                  have KY := Lib.hid KY
                  have w9' : IntKind.i64.wrap (e1 + f1) = e1 + f1 := IntWalk.i64_in _ (by omega)
                  have w10' : IntKind.i64.wrap (e2 + f2) = e2 + f2 := IntWalk.i64_in _ (by omega)
                  have d3 : decide (e1 + f1 ≤ 0) = true := decide_eq_true k1
                  have d4 : decide (0 ≤ e2 + f2) = true := decide_eq_true k2
                  clear k1 k2 k3 k4
                  go_wp2_with fail
                  refine (KX.out _ D.out).mono ?_
                  rintro e w9 ⟨rfl, hb⟩
                  have J := Lib.hid (hb)
                  have D := Lib.hid (nextB D.out J.out)
                  clear c0 c1 c2 zC x0 x1 zX l0 l1 l2 l3 zL u0 u1 u2 u3 zU
                  have C := Lib.hid (C.out.up J.out)
                  have X := Lib.hid (X.out.up J.out)
                  have L := Lib.hid (L.out.up J.out)
                  clear hb
                  obtain ⟨c0, c1, c2⟩ := C.out
                  have zC := C.out.lt
                  have x0 : w9.cell? ⟨w.heap.size + 1, 0, none⟩ = some (.int .i64 x.A) := X.out.c 0 _ rfl
                  have x1 : w9.cell? ⟨w.heap.size + 1, 1, none⟩ = some (.int .i64 x.B) := X.out.c 1 _ rfl
                  have zX := X.out.lt
                  obtain ⟨l0, l1, l2, l3⟩ := L.out
                  have zL := L.out.lt
                  go_wp2_with fail
                  refine (KY.out _ (nextB D.out (box1 w9 _))).mono ?_
                  rintro e w10 ⟨rfl, hb⟩
                  have J := Lib.hid (nextB (box1 w9 _) hb)
                  have D := Lib.hid (nextB D.out J.out)
                  clear c0 c1 c2 zC x0 x1 zX l0 l1 l2 l3 zL
                  have C := Lib.hid (C.out.up J.out)
                  have X := Lib.hid (X.out.up J.out)
                  have L := Lib.hid (L.out.up J.out)
                  have V := Lib.hid (((Bt.new w9 31 (e1) (e2))).up hb)
                  clear hb
                  obtain ⟨c0, c1, c2⟩ := C.out
                  have zC := C.out.lt
                  have x0 : w10.cell? ⟨w.heap.size + 1, 0, none⟩ = some (.int .i64 x.A) := X.out.c 0 _ rfl
                  have x1 : w10.cell? ⟨w.heap.size + 1, 1, none⟩ = some (.int .i64 x.B) := X.out.c 1 _ rfl
                  have zX := X.out.lt
                  obtain ⟨l0, l1, l2, l3⟩ := L.out
                  have zL := L.out.lt
                  obtain ⟨v0, v1, v2, v3⟩ := V.out
                  have zV := V.out.lt
                  go_wp2_with fail
                  go_ret
                  exact ⟨rfl, (nextB D.out (box1 w10 _))⟩
                | false =>
                  obtain ⟨KX, KY⟩ := KN.out hv3
                  have KX := Lib.hid KX
                  have KY := Lib.hid KY
                  go_wp2_with fail
                  refine (KX.out _ D.out).mono ?_
                  rintro e w9 ⟨rfl, hb⟩
                  have J := Lib.hid (hb)
                  have D := Lib.hid (nextB D.out J.out)
                  clear c0 c1 c2 zC x0 x1 zX l0 l1 l2 l3 zL u0 u1 u2 u3 zU
                  have C := Lib.hid (C.out.up J.out)
                  have X := Lib.hid (X.out.up J.out)
                  have L := Lib.hid (L.out.up J.out)
                  clear hb
                  obtain ⟨c0, c1, c2⟩ := C.out
                  have zC := C.out.lt
                  have x0 : w9.cell? ⟨w.heap.size + 1, 0, none⟩ = some (.int .i64 x.A) := X.out.c 0 _ rfl
                  have x1 : w9.cell? ⟨w.heap.size + 1, 1, none⟩ = some (.int .i64 x.B) := X.out.c 1 _ rfl
                  have zX := X.out.lt
                  obtain ⟨l0, l1, l2, l3⟩ := L.out
                  have zL := L.out.lt
                  go_wp2_with fail
                  refine (KY.out _ (nextB D.out (box1 w9 _))).mono ?_
                  rintro e w10 ⟨rfl, hb⟩
                  have J := Lib.hid (nextB (box1 w9 _) hb)
                  have D := Lib.hid (nextB D.out J.out)
                  clear c0 c1 c2 zC x0 x1 zX l0 l1 l2 l3 zL
                  have C := Lib.hid (C.out.up J.out)
                  have X := Lib.hid (X.out.up J.out)
                  have L := Lib.hid (L.out.up J.out)
                  have V := Lib.hid (((Bt.new w9 31 (0) (0))).up hb)
                  clear hb
                  obtain ⟨c0, c1, c2⟩ := C.out
                  have zC := C.out.lt
                  have x0 : w10.cell? ⟨w.heap.size + 1, 0, none⟩ = some (.int .i64 x.A) := X.out.c 0 _ rfl
                  have x1 : w10.cell? ⟨w.heap.size + 1, 1, none⟩ = some (.int .i64 x.B) := X.out.c 1 _ rfl
                  have zX := X.out.lt
                  obtain ⟨l0, l1, l2, l3⟩ := L.out
                  have zL := L.out.lt
                  obtain ⟨v0, v1, v2, v3⟩ := V.out
                  have zV := V.out.lt
                  go_wp2_with fail
                  go_ret
                  exact ⟨rfl, (nextB D.out (box1 w10 _))⟩
              · have d1 : decide (0 ≤ n) = false := decide_eq_false hs1
                cases hv3 : v3 with
                | true =>
                  obtain ⟨e1, e2, f1, f2, ⟨k1, k2⟩, k3, k4, KX, KY⟩ := KB.out hv3
                  have KX := Lib.hid KX
                  have KY := Lib.hid KY
                  have w9' : IntKind.i64.wrap (e1 + f1) = e1 + f1 := IntWalk.i64_in _ (by omega)
                  have w10' : IntKind.i64.wrap (e2 + f2) = e2 + f2 := IntWalk.i64_in _ (by omega)
                  have d3 : decide (e1 + f1 ≤ 0) = true := decide_eq_true k1
                  have d4 : decide (0 ≤ e2 + f2) = true := decide_eq_true k2
                  clear k1 k2 k3 k4
                  go_wp2_with fail
                  refine (KX.out _ D.out).mono ?_
                  rintro e w9 ⟨rfl, hb⟩
                  have J := Lib.hid (hb)
                  have D := Lib.hid (nextB D.out J.out)
                  clear c0 c1 c2 zC x0 x1 zX l0 l1 l2 l3 zL u0 u1 u2 u3 zU
                  have C := Lib.hid (C.out.up J.out)
                  have X := Lib.hid (X.out.up J.out)
                  have L := Lib.hid (L.out.up J.out)
                  clear hb
                  obtain ⟨c0, c1, c2⟩ := C.out
                  have zC := C.out.lt
                  have x0 : w9.cell? ⟨w.heap.size + 1, 0, none⟩ = some (.int .i64 x.A) := X.out.c 0 _ rfl
                  have x1 : w9.cell? ⟨w.heap.size + 1, 1, none⟩ = some (.int .i64 x.B) := X.out.c 1 _ rfl
                  have zX := X.out.lt
                  obtain ⟨l0, l1, l2, l3⟩ := L.out
                  have zL := L.out.lt
                  go_wp2_with fail
                  refine (KY.out _ (nextB D.out (box1 w9 _))).mono ?_
                  rintro e w10 ⟨rfl, hb⟩
                  have J := Lib.hid (nextB (box1 w9 _) hb)
                  have D := Lib.hid (nextB D.out J.out)
                  clear c0 c1 c2 zC x0 x1 zX l0 l1 l2 l3 zL
                  have C := Lib.hid (C.out.up J.out)
                  have X := Lib.hid (X.out.up J.out)
                  have L := Lib.hid (L.out.up J.out)
                  have V := Lib.hid (((Bt.new w9 31 (e1) (e2))).up hb)
                  clear hb
                  obtain ⟨c0, c1, c2⟩ := C.out
                  have zC := C.out.lt
                  have x0 : w10.cell? ⟨w.heap.size + 1, 0, none⟩ = some (.int .i64 x.A) := X.out.c 0 _ rfl
                  have x1 : w10.cell? ⟨w.heap.size + 1, 1, none⟩ = some (.int .i64 x.B) := X.out.c 1 _ rfl
                  have zX := X.out.lt
                  obtain ⟨l0, l1, l2, l3⟩ := L.out
                  have zL := L.out.lt
                  obtain ⟨v0, v1, v2, v3⟩ := V.out
                  have zV := V.out.lt
                  go_wp2_with fail
                  go_ret
                  exact ⟨rfl, (nextB D.out (box1 w10 _))⟩
                | false =>
                  obtain ⟨KX, KY⟩ := KN.out hv3
                  have KX := Lib.hid KX
                  have KY := Lib.hid KY
                  go_wp2_with fail
                  refine (KX.out _ D.out).mono ?_
                  rintro e w9 ⟨rfl, hb⟩
                  have J := Lib.hid (hb)
                  have D := Lib.hid (nextB D.out J.out)
                  clear c0 c1 c2 zC x0 x1 zX l0 l1 l2 l3 zL u0 u1 u2 u3 zU
                  have C := Lib.hid (C.out.up J.out)
                  have X := Lib.hid (X.out.up J.out)
                  have L := Lib.hid (L.out.up J.out)
                  clear hb
                  obtain ⟨c0, c1, c2⟩ := C.out
                  have zC := C.out.lt
                  have x0 : w9.cell? ⟨w.heap.size + 1, 0, none⟩ = some (.int .i64 x.A) := X.out.c 0 _ rfl
                  have x1 : w9.cell? ⟨w.heap.size + 1, 1, none⟩ = some (.int .i64 x.B) := X.out.c 1 _ rfl
                  have zX := X.out.lt
                  obtain ⟨l0, l1, l2, l3⟩ := L.out
                  have zL := L.out.lt
                  go_wp2_with fail
                  refine (KY.out _ (nextB D.out (box1 w9 _))).mono ?_
                  rintro e w10 ⟨rfl, hb⟩
                  have J := Lib.hid (nextB (box1 w9 _) hb)
                  have D := Lib.hid (nextB D.out J.out)
                  clear c0 c1 c2 zC x0 x1 zX l0 l1 l2 l3 zL
                  have C := Lib.hid (C.out.up J.out)
                  have X := Lib.hid (X.out.up J.out)
                  have L := Lib.hid (L.out.up J.out)
                  have V := Lib.hid (((Bt.new w9 31 (0) (0))).up hb)
                  clear hb
                  obtain ⟨c0, c1, c2⟩ := C.out
                  have zC := C.out.lt
                  have x0 : w10.cell? ⟨w.heap.size + 1, 0, none⟩ = some (.int .i64 x.A) := X.out.c 0 _ rfl
                  have x1 : w10.cell? ⟨w.heap.size + 1, 1, none⟩ = some (.int .i64 x.B) := X.out.c 1 _ rfl
                  have zX := X.out.lt
                  obtain ⟨l0, l1, l2, l3⟩ := L.out
                  have zL := L.out.lt
                  obtain ⟨v0, v1, v2, v3⟩ := V.out
                  have zV := V.out.lt
                  go_wp2_with fail
                  go_ret
                  exact ⟨rfl, (nextB D.out (box1 w10 _))⟩
        | false =>
          clear ssd
          go_wp2_with fail
          obtain ⟨w7, hw7⟩ : ∃ w7 : World, w7 = w6.alloc (.cells #[.int .i64 p1, .int .i64 p2] 31) := ⟨_, rfl⟩
          have hb7 : Below w6.heap.size w6 w7 := by rw [hw7]; exact box1 _ _
          have U : Hid (Bt w6.heap.size p1 p2 w7) := Lib.hid (by rw [hw7]; exact Bt.new _ _ _ _)
          rw [← hw7]
          clear hw7
          have D := Lib.hid (nextB D.out hb7)
          have C := Lib.hid (C.out.up hb7)
          have X := Lib.hid (X.out.up hb7)
          have L := Lib.hid (L.out.up hb7)
          have M := Lib.hid (M.out.up hb7)
          clear hb7 c0 c1 c2 zC x0 x1 zX l0 l1 l2 l3 zL m0 m1 m2 m3 zM
          go_loopw [16, 17] (fun found tick wr => ∃ t : Int, p1 ≤ t ∧ t ≤ p2 + 1 ∧ found = .bool false ∧ tick = .int .i64 t ∧ Hid (∀ t', p1 ≤ t' → t' < t → ¬ ∃ T, Rdg c.d.n (gapF c.d) c.m c.F T ∧ T a = t' ∧ T b = t' + n) ∧ Below w7.heap.size w7 wr) (fun _ tick _ => (p2 + 1 - intOf tick).toNat)
          case atStart => exact ⟨p1, by omega, by have := HM3.out; omega, rfl, rfl, Lib.hid fun t' h1 h2 => absurd h1 (by omega), Below.refl _ _⟩
          case round =>
            obtain ⟨t, ht1, ht2, rfl, rfl, hno, hb⟩ := hrel
            obtain ⟨w8, rfl⟩ : ∃ w8 : World, w8 = wr := ⟨_, rfl⟩
            have HB8 := Lib.hid hb
            have D := Lib.hid (nextB D.out hb)
            have C := Lib.hid (C.out.up hb)
            have X := Lib.hid (X.out.up hb)
            have L := Lib.hid (L.out.up hb)
            have U := Lib.hid (U.out.up hb)
            clear hb
            obtain ⟨c0, c1, c2⟩ := C.out
            have zC := C.out.lt
            have x0 : w8.cell? ⟨w.heap.size + 1, 0, none⟩ = some (.int .i64 x.A) := X.out.c 0 _ rfl
            have x1 : w8.cell? ⟨w.heap.size + 1, 1, none⟩ = some (.int .i64 x.B) := X.out.c 1 _ rfl
            have zX := X.out.lt
            obtain ⟨l0, l1, l2, l3⟩ := L.out
            have zL := L.out.lt
            obtain ⟨u0, u1, u2, u3⟩ := U.out
            have zU := U.out.lt
            by_cases htp : t ≤ p2
            · have dtp : decide (t ≤ p2) = true := decide_eq_true htp
              by_cases hn1 : -400 ≤ n
              · have dn1 : decide (-400 ≤ n) = true := decide_eq_true hn1
                by_cases hn2 : n ≤ 400
                · have dn2 : decide (n ≤ 400) = true := decide_eq_true hn2
                  have htr := HM3.out
                  have wtn : IntKind.i64.wrap (t + n) = t + n := IntWalk.i64_in _ (by omega)
                  have wt1 : IntKind.i64.wrap (t + 1) = t + 1 := IntWalk.i64_in _ (by omega)
                  by_cases hl : 0 ≤ t + n
                  · have dl : decide (0 ≤ t + n) = true := decide_eq_true hl
                    by_cases hh : t + n ≤ 400
                    · have dh : decide (t + n ≤ 400) = true := decide_eq_true hh
                      obtain ⟨G2, hG2⟩ := bool_of (CanP c 2 (pair3 (x.A, t, t) (x.B, t + n, t + n)))
                      have hG3 : G2 = true ↔ ∃ T, Rdg c.d.n (gapF c.d) c.m c.F T ∧ T a = t ∧ T b = t + n := by
                        rw [hG2, HA.out, HB.out]
                        exact HC2.out t (t + n) (by omega) (by omega)
                      have HG2 := Lib.hid hG2
                      have HG3 := Lib.hid hG3
                      clear hG2 hG3
                      cases G2 with
                      | true =>
                        have HCT := Lib.hid (HG2.out.1 rfl)
                        have hin : s1 ≤ n ∧ n ≤ s2 := (HM5.out n).2 (by obtain ⟨T, hT, h1, h2⟩ := HG3.out.1 rfl; exact ⟨T, hT, by omega⟩)
                        have d1 : decide (s1 ≤ n) = true := decide_eq_true hin.1
                        have d2 : decide (n ≤ s2) = true := decide_eq_true hin.2
                        go_wp2_with fail
                        refine wp_region_M [] (fun w' => w'.cell? ⟨w.heap.size, 0, none⟩ = some (.slice c.d.RA c.d.n c.d.rc) ∧ w'.cell? ⟨w.heap.size, 1, none⟩ = some (.slice c.d.SA c.d.m c.d.sc) ∧ w'.cell? ⟨w.heap.size, 2, none⟩ = some (.slice c.MA c.m c.mc) ∧ w'.cell? ⟨w.heap.size + 1, 0, none⟩ = some (.int .i64 x.A) ∧ w'.cell? ⟨w.heap.size + 1, 1, none⟩ = some (.int .i64 x.B)) (by kernel_rfl) (by kernel_rfl) (by (try dsimp only); (repeat' apply And.intro); all_goals first | assumption | (go_simp; done)) (fun hT0 => ?_)
                        refine M_take (v := ?_) 0 rfl (by kernel_rfl) (by assumption) (fun _ _ _ h => h) (Or.inl ⟨by rfl, ?_⟩) ?_
                        rotate_left
                        · (intro w hSw; (try dsimp only at hSw); go_simp; (try with_reducible rfl))
                        (try simp only [Act.put, List.setIfInBounds_toArray, List.set_cons_zero, List.set_cons_succ])
                        refine M_take (v := ?_) 1 rfl (by kernel_rfl) (by assumption) (fun _ _ _ h => h) (Or.inl ⟨by rfl, ?_⟩) ?_
                        rotate_left
                        · (intro w hSw; (try dsimp only at hSw); go_simp; (try with_reducible rfl))
                        (try simp only [Act.put, List.setIfInBounds_toArray, List.set_cons_zero, List.set_cons_succ])
                        refine M_take (v := ?_) 2 rfl (by kernel_rfl) (by assumption) (fun _ _ _ h => h) (Or.inl ⟨by rfl, ?_⟩) ?_
                        rotate_left
                        · (intro w hSw; (try dsimp only at hSw); go_simp; (try with_reducible rfl))
                        (try simp only [Act.put, List.setIfInBounds_toArray, List.set_cons_zero, List.set_cons_succ])
                        refine M_take (v := ?_) 3 rfl (by kernel_rfl) (by assumption) (fun _ _ _ h => h) (Or.inl ⟨by rfl, ?_⟩) ?_
                        rotate_left
                        · (intro w hSw; (try dsimp only at hSw); go_simp; (try with_reducible rfl))
                        (try simp only [Act.put, List.setIfInBounds_toArray, List.set_cons_zero, List.set_cons_succ])
                        refine M_take (v := ?_) 4 rfl (by kernel_rfl) (by assumption) (fun _ _ _ h => h) (Or.inl ⟨by rfl, ?_⟩) ?_
                        rotate_left
                        · (intro w hSw; (try dsimp only at hSw); go_simp; (try with_reducible rfl))
                        (try simp only [Act.put, List.setIfInBounds_toArray, List.set_cons_zero, List.set_cons_succ])
                        refine M_take (v := ?_) 5 rfl (by kernel_rfl) (by assumption) (fun _ _ _ h => h) (Or.inl ⟨by rfl, ?_⟩) ?_
                        rotate_left
                        · (intro w hSw; (try dsimp only at hSw); go_simp; (try with_reducible rfl))
                        (try simp only [Act.put, List.setIfInBounds_toArray, List.set_cons_zero, List.set_cons_succ])
                        refine M_take (v := ?_) 6 rfl (by kernel_rfl) (by assumption) (fun _ _ _ h => h) (Or.inl ⟨by rfl, ?_⟩) ?_
                        rotate_left
                        · (intro w hSw; (try dsimp only at hSw); go_simp; (try with_reducible rfl))
                        (try simp only [Act.put, List.setIfInBounds_toArray, List.set_cons_zero, List.set_cons_succ])
                        refine M_take (v := ?_) 7 rfl (by kernel_rfl) (by assumption) (fun _ _ _ h => h) (Or.inl ⟨by rfl, ?_⟩) ?_
                        rotate_left
                        · (intro w hSw; (try dsimp only at hSw); go_simp; (try with_reducible rfl))
                        (try simp only [Act.put, List.setIfInBounds_toArray, List.set_cons_zero, List.set_cons_succ])
                        refine M_take (v := ?_) 8 rfl (by kernel_rfl) (by assumption) (fun _ _ _ h => h) (Or.inl ⟨by rfl, ?_⟩) ?_
                        rotate_left
                        · (intro w hSw; (try dsimp only at hSw); go_simp; (try with_reducible rfl))
                        (try simp only [Act.put, List.setIfInBounds_toArray, List.set_cons_zero, List.set_cons_succ])
                        refine M_take (v := ?_) 9 rfl (by kernel_rfl) (by assumption) (fun _ _ _ h => h) (Or.inl ⟨by rfl, ?_⟩) ?_
                        rotate_left
                        · (intro w hSw; (try dsimp only at hSw); go_simp; (try with_reducible rfl))
                        (try simp only [Act.put, List.setIfInBounds_toArray, List.set_cons_zero, List.set_cons_succ])
                        refine M_take (v := ?_) 10 rfl (by kernel_rfl) (by assumption) (fun _ _ _ h => h) (Or.inl ⟨by rfl, ?_⟩) ?_
                        rotate_left
                        · (intro w hSw; (try dsimp only at hSw); go_simp; (try with_reducible rfl))
                        (try simp only [Act.put, List.setIfInBounds_toArray, List.set_cons_zero, List.set_cons_succ])
                        refine M_take (v := ?_) 11 rfl (by kernel_rfl) (by assumption) (fun _ _ _ h => h) (Or.inl ⟨by rfl, ?_⟩) ?_
                        rotate_left
                        · (intro w hSw; (try dsimp only at hSw); go_simp; (try with_reducible rfl))
                        (try simp only [Act.put, List.setIfInBounds_toArray, List.set_cons_zero, List.set_cons_succ])
                        refine M_take (v := ?_) 12 rfl (by kernel_rfl) (by assumption) (fun _ _ _ h => h) (Or.inl ⟨by rfl, ?_⟩) ?_
                        rotate_left
                        · (intro w hSw; (try dsimp only at hSw); go_simp; (try with_reducible rfl))
                        (try simp only [Act.put, List.setIfInBounds_toArray, List.set_cons_zero, List.set_cons_succ])
                        refine M_take (v := ?_) 13 rfl (by kernel_rfl) (by assumption) (fun _ _ _ h => h) (Or.inl ⟨by rfl, ?_⟩) ?_
                        rotate_left
                        · (intro w hSw; (try dsimp only at hSw); go_simp; (try with_reducible rfl))
                        (try simp only [Act.put, List.setIfInBounds_toArray, List.set_cons_zero, List.set_cons_succ])
                        refine M_take (v := ?_) 14 rfl (by kernel_rfl) (by assumption) (fun _ _ _ h => h) (Or.inl ⟨by rfl, ?_⟩) ?_
                        rotate_left
                        · (intro w hSw; (try dsimp only at hSw); go_simp; (try with_reducible rfl))
                        (try simp only [Act.put, List.setIfInBounds_toArray, List.set_cons_zero, List.set_cons_succ])
                        refine M_take (v := ?_) 16 rfl (by kernel_rfl) (by assumption) (fun _ _ _ h => h) (Or.inl ⟨by rfl, ?_⟩) ?_
                        rotate_left
                        · (intro w hSw; (try dsimp only at hSw); go_simp; (try with_reducible rfl))
                        (try simp only [Act.put, List.setIfInBounds_toArray, List.set_cons_zero, List.set_cons_succ])
                        refine M_take (v := ?_) 17 rfl (by kernel_rfl) (by assumption) (fun _ _ _ h => h) (Or.inl ⟨by rfl, ?_⟩) ?_
                        rotate_left
                        · (intro w hSw; (try dsimp only at hSw); go_simp; (try with_reducible rfl))
                        (try simp only [Act.put, List.setIfInBounds_toArray, List.set_cons_zero, List.set_cons_succ])
                        refine M_take (v := ?_) 18 rfl (by kernel_rfl) (by assumption) (fun _ _ _ h => h) (Or.inl ⟨by rfl, ?_⟩) ?_
                        rotate_left
                        · (intro w hSw; (try dsimp only at hSw); go_simp; (try with_reducible rfl))
                        (try simp only [Act.put, List.setIfInBounds_toArray, List.set_cons_zero, List.set_cons_succ])
                        refine M_take (v := ?_) 19 rfl (by kernel_rfl) (by assumption) (fun _ _ _ h => h) (Or.inl ⟨by rfl, ?_⟩) ?_
                        rotate_left
                        · (intro w hSw; (try dsimp only at hSw); go_simp; (try with_reducible rfl))
                        (try simp only [Act.put, List.setIfInBounds_toArray, List.set_cons_zero, List.set_cons_succ])
                        refine M_take (v := ?_) 20 rfl (by kernel_rfl) (by assumption) (fun _ _ _ h => h) (Or.inl ⟨by rfl, ?_⟩) ?_
                        rotate_left
                        · (intro w hSw; (try dsimp only at hSw); go_simp; (try with_reducible rfl))
                        (try simp only [Act.put, List.setIfInBounds_toArray, List.set_cons_zero, List.set_cons_succ])
                        refine M_step 15 rfl (by kernel_rfl) (fun K hK => ?_)
                        go_simp
                        go_at_call 68
                        refine (one_any x.A t _).mono ?_
                        rintro e wA ⟨rfl, hbA⟩
                        have HBA := Lib.hid (show Below w8.heap.size w8 wA from nextB (Below.refl _ _).drew hbA)
                        have hTA : (fun w' => w'.cell? ⟨w.heap.size, 0, none⟩ = some (.slice c.d.RA c.d.n c.d.rc) ∧ w'.cell? ⟨w.heap.size, 1, none⟩ = some (.slice c.d.SA c.d.m c.d.sc) ∧ w'.cell? ⟨w.heap.size, 2, none⟩ = some (.slice c.MA c.m c.mc) ∧ w'.cell? ⟨w.heap.size + 1, 0, none⟩ = some (.int .i64 x.A) ∧ w'.cell? ⟨w.heap.size + 1, 1, none⟩ = some (.int .i64 x.B)) wA := ⟨(HBA.out.cell (World.block_lt_of_cell? _ _ c0)).trans c0, (HBA.out.cell (World.block_lt_of_cell? _ _ c1)).trans c1, (HBA.out.cell (World.block_lt_of_cell? _ _ c2)).trans c2, (HBA.out.cell (World.block_lt_of_cell? _ _ x0)).trans x0, (HBA.out.cell (World.block_lt_of_cell? _ _ x1)).trans x1⟩
                        clear hbA
                        refine hK.out _ _ (fun _ => hTA) ?_
                        clear hK K
                        (try simp only [Act.put, List.setIfInBounds_toArray, List.set_cons_zero, List.set_cons_succ])
                        refine M_step 21 rfl (by kernel_rfl) (fun K hK => ?_)
                        go_simp
                        go_at_call 68
                        refine (one_any x.B (t + n) _).mono ?_
                        rintro e wB ⟨rfl, hbB⟩
                        have HBB := Lib.hid (show Below w8.heap.size w8 wB from nextB HBA.out hbB)
                        have hTB : (fun w' => w'.cell? ⟨w.heap.size, 0, none⟩ = some (.slice c.d.RA c.d.n c.d.rc) ∧ w'.cell? ⟨w.heap.size, 1, none⟩ = some (.slice c.d.SA c.d.m c.d.sc) ∧ w'.cell? ⟨w.heap.size, 2, none⟩ = some (.slice c.MA c.m c.mc) ∧ w'.cell? ⟨w.heap.size + 1, 0, none⟩ = some (.int .i64 x.A) ∧ w'.cell? ⟨w.heap.size + 1, 1, none⟩ = some (.int .i64 x.B)) wB := ⟨(HBB.out.cell (World.block_lt_of_cell? _ _ c0)).trans c0, (HBB.out.cell (World.block_lt_of_cell? _ _ c1)).trans c1, (HBB.out.cell (World.block_lt_of_cell? _ _ c2)).trans c2, (HBB.out.cell (World.block_lt_of_cell? _ _ x0)).trans x0, (HBB.out.cell (World.block_lt_of_cell? _ _ x1)).trans x1⟩
                        clear hbB
                        refine hK.out _ _ (fun _ => hTB) ?_
                        clear hK K
                        (try simp only [Act.put, List.setIfInBounds_toArray, List.set_cons_zero, List.set_cons_succ])
                        refine M_step 22 rfl (by kernel_rfl) (fun K hK => ?_)
                        go_simp
                        have HBC := Lib.hid (show Below w8.heap.size w8 (wB.alloc (.cells #[.int .i64 x.A, .int .i64 t, .int .i64 t, .int .i64 x.B, .int .i64 (t + n), .int .i64 (t + n)] 33)) from nextB HBB.out (box1 wB _))
                        have hTC : (fun w' => w'.cell? ⟨w.heap.size, 0, none⟩ = some (.slice c.d.RA c.d.n c.d.rc) ∧ w'.cell? ⟨w.heap.size, 1, none⟩ = some (.slice c.d.SA c.d.m c.d.sc) ∧ w'.cell? ⟨w.heap.size, 2, none⟩ = some (.slice c.MA c.m c.mc) ∧ w'.cell? ⟨w.heap.size + 1, 0, none⟩ = some (.int .i64 x.A) ∧ w'.cell? ⟨w.heap.size + 1, 1, none⟩ = some (.int .i64 x.B)) (wB.alloc (.cells #[.int .i64 x.A, .int .i64 t, .int .i64 t, .int .i64 x.B, .int .i64 (t + n), .int .i64 (t + n)] 33)) := ⟨(HBC.out.cell (World.block_lt_of_cell? _ _ c0)).trans c0, (HBC.out.cell (World.block_lt_of_cell? _ _ c1)).trans c1, (HBC.out.cell (World.block_lt_of_cell? _ _ c2)).trans c2, (HBC.out.cell (World.block_lt_of_cell? _ _ x0)).trans x0, (HBC.out.cell (World.block_lt_of_cell? _ _ x1)).trans x1⟩
                        refine hK.out _ _ (fun _ => hTC) ?_
                        clear hK K
                        (try simp only [Act.put, List.setIfInBounds_toArray, List.set_cons_zero, List.set_cons_succ])
                        refine M_step 23 rfl (by kernel_rfl) (fun K hK => ?_)
                        go_simp
                        go_at_call 67
                        refine (KC.out _ true _ _ _ (nextB D.out HBC.out) (trs_two wB (x.A, t, t) (x.B, t + n, t + n) _) ⟨fun _ => HCT.out, fun _ => rfl⟩).mono ?_
                        rintro e wD ⟨rfl, hbD⟩
                        have HBD := Lib.hid (show Below w8.heap.size w8 wD from nextB HBC.out hbD)
                        have hTD : (fun w' => w'.cell? ⟨w.heap.size, 0, none⟩ = some (.slice c.d.RA c.d.n c.d.rc) ∧ w'.cell? ⟨w.heap.size, 1, none⟩ = some (.slice c.d.SA c.d.m c.d.sc) ∧ w'.cell? ⟨w.heap.size, 2, none⟩ = some (.slice c.MA c.m c.mc) ∧ w'.cell? ⟨w.heap.size + 1, 0, none⟩ = some (.int .i64 x.A) ∧ w'.cell? ⟨w.heap.size + 1, 1, none⟩ = some (.int .i64 x.B)) wD := ⟨(HBD.out.cell (World.block_lt_of_cell? _ _ c0)).trans c0, (HBD.out.cell (World.block_lt_of_cell? _ _ c1)).trans c1, (HBD.out.cell (World.block_lt_of_cell? _ _ c2)).trans c2, (HBD.out.cell (World.block_lt_of_cell? _ _ x0)).trans x0, (HBD.out.cell (World.block_lt_of_cell? _ _ x1)).trans x1⟩
                        clear hbD
                        refine hK.out _ _ (fun _ => hTD) ?_
                        clear hK K
                        (try simp only [Act.put, List.setIfInBounds_toArray, List.set_cons_zero, List.set_cons_succ])
                        refine M_take (v := ?_) 24 rfl (by kernel_rfl) (by assumption) (fun _ _ _ h => h) (Or.inl ⟨by rfl, ?_⟩) ?_
                        rotate_left
                        · (intro w hSw; (try dsimp only at hSw); go_simp; (try with_reducible rfl))
                        (try simp only [Act.put, List.setIfInBounds_toArray, List.set_cons_zero, List.set_cons_succ])
                        refine M_done (by kernel_rfl) ?_ _
                        obtain ⟨w9, hw9⟩ : ∃ W : World, W = wD := ⟨_, rfl⟩
                        rw [← hw9] at HBD ⊢
                        clear hw9 hT0 hTA hTB hTC hTD hin
                        have D := Lib.hid (nextB D.out HBD.out)
                        have C := Lib.hid (C.out.up HBD.out)
                        have X := Lib.hid (X.out.up HBD.out)
                        have L := Lib.hid (L.out.up HBD.out)
                        clear c0 c1 c2 x0 x1 l0 l1 l2 l3 zC zX zL
                        obtain ⟨c0, c1, c2⟩ := C.out
                        have zC := C.out.lt
                        have x0 : w9.cell? ⟨w.heap.size + 1, 0, none⟩ = some (.int .i64 x.A) := X.out.c 0 _ rfl
                        have x1 : w9.cell? ⟨w.heap.size + 1, 1, none⟩ = some (.int .i64 x.B) := X.out.c 1 _ rfl
                        have zX := X.out.lt
                        obtain ⟨l0, l1, l2, l3⟩ := L.out
                        have zL := L.out.lt
                        cases hv3 : v3 with
                        | true =>
                          obtain ⟨e1, e2, f1, f2, ⟨k1, k2⟩, k3, k4, KX, KY⟩ := KB.out hv3
                          have KX := Lib.hid KX
                          have KY := Lib.hid KY
                          have w9' : IntKind.i64.wrap (e1 + f1) = e1 + f1 := IntWalk.i64_in _ (by omega)
                          have w10' : IntKind.i64.wrap (e2 + f2) = e2 + f2 := IntWalk.i64_in _ (by omega)
                          have d3 : decide (e1 + f1 ≤ s1) = true := decide_eq_true k1
                          have d4 : decide (s2 ≤ e2 + f2) = true := decide_eq_true k2
                          clear k1 k2 k3 k4
                          go_wp2_with fail
                          refine (KX.out _ D.out).mono ?_
                          rintro e w10 ⟨rfl, hb⟩
                          have J := Lib.hid (hb)
                          have D := Lib.hid (nextB D.out J.out)
                          clear c0 c1 c2 zC x0 x1 zX l0 l1 l2 l3 zL
                          have C := Lib.hid (C.out.up J.out)
                          have X := Lib.hid (X.out.up J.out)
                          have L := Lib.hid (L.out.up J.out)
                          clear hb
                          obtain ⟨c0, c1, c2⟩ := C.out
                          have zC := C.out.lt
                          have x0 : w10.cell? ⟨w.heap.size + 1, 0, none⟩ = some (.int .i64 x.A) := X.out.c 0 _ rfl
                          have x1 : w10.cell? ⟨w.heap.size + 1, 1, none⟩ = some (.int .i64 x.B) := X.out.c 1 _ rfl
                          have zX := X.out.lt
                          obtain ⟨l0, l1, l2, l3⟩ := L.out
                          have zL := L.out.lt
                          go_wp2_with fail
                          refine (KY.out _ (nextB D.out (box1 w10 _))).mono ?_
                          rintro e w11 ⟨rfl, hb⟩
                          have J := Lib.hid (nextB (box1 w10 _) hb)
                          have D := Lib.hid (nextB D.out J.out)
                          clear c0 c1 c2 zC x0 x1 zX l0 l1 l2 l3 zL
                          have C := Lib.hid (C.out.up J.out)
                          have X := Lib.hid (X.out.up J.out)
                          have L := Lib.hid (L.out.up J.out)
                          have V := Lib.hid (((Bt.new w10 31 (e1) (e2))).up hb)
                          clear hb
                          obtain ⟨c0, c1, c2⟩ := C.out
                          have zC := C.out.lt
                          have x0 : w11.cell? ⟨w.heap.size + 1, 0, none⟩ = some (.int .i64 x.A) := X.out.c 0 _ rfl
                          have x1 : w11.cell? ⟨w.heap.size + 1, 1, none⟩ = some (.int .i64 x.B) := X.out.c 1 _ rfl
                          have zX := X.out.lt
                          obtain ⟨l0, l1, l2, l3⟩ := L.out
                          have zL := L.out.lt
                          obtain ⟨v0, v1, v2, v3⟩ := V.out
                          have zV := V.out.lt
                          go_wp2_with fail
                          go_ret
                          exact ⟨rfl, (nextB D.out (box1 w11 _))⟩
                        | false =>
                          obtain ⟨KX, KY⟩ := KN.out hv3
                          have KX := Lib.hid KX
                          have KY := Lib.hid KY
                          go_wp2_with fail
                          refine (KX.out _ D.out).mono ?_
                          rintro e w10 ⟨rfl, hb⟩
                          have J := Lib.hid (hb)
                          have D := Lib.hid (nextB D.out J.out)
                          clear c0 c1 c2 zC x0 x1 zX l0 l1 l2 l3 zL
                          have C := Lib.hid (C.out.up J.out)
                          have X := Lib.hid (X.out.up J.out)
                          have L := Lib.hid (L.out.up J.out)
                          clear hb
                          obtain ⟨c0, c1, c2⟩ := C.out
                          have zC := C.out.lt
                          have x0 : w10.cell? ⟨w.heap.size + 1, 0, none⟩ = some (.int .i64 x.A) := X.out.c 0 _ rfl
                          have x1 : w10.cell? ⟨w.heap.size + 1, 1, none⟩ = some (.int .i64 x.B) := X.out.c 1 _ rfl
                          have zX := X.out.lt
                          obtain ⟨l0, l1, l2, l3⟩ := L.out
                          have zL := L.out.lt
                          go_wp2_with fail
                          refine (KY.out _ (nextB D.out (box1 w10 _))).mono ?_
                          rintro e w11 ⟨rfl, hb⟩
                          have J := Lib.hid (nextB (box1 w10 _) hb)
                          have D := Lib.hid (nextB D.out J.out)
                          clear c0 c1 c2 zC x0 x1 zX l0 l1 l2 l3 zL
                          have C := Lib.hid (C.out.up J.out)
                          have X := Lib.hid (X.out.up J.out)
                          have L := Lib.hid (L.out.up J.out)
                          have V := Lib.hid (((Bt.new w10 31 (0) (0))).up hb)
                          clear hb
                          obtain ⟨c0, c1, c2⟩ := C.out
                          have zC := C.out.lt
                          have x0 : w11.cell? ⟨w.heap.size + 1, 0, none⟩ = some (.int .i64 x.A) := X.out.c 0 _ rfl
                          have x1 : w11.cell? ⟨w.heap.size + 1, 1, none⟩ = some (.int .i64 x.B) := X.out.c 1 _ rfl
                          have zX := X.out.lt
                          obtain ⟨l0, l1, l2, l3⟩ := L.out
                          have zL := L.out.lt
                          obtain ⟨v0, v1, v2, v3⟩ := V.out
                          have zV := V.out.lt
                          go_wp2_with fail
                          go_ret
                          exact ⟨rfl, (nextB D.out (box1 w11 _))⟩
                      | false =>
                        have HCF : Hid (¬ CanP c 2 (pair3 (x.A, t, t) (x.B, t + n, t + n))) := Lib.hid fun h => Bool.false_ne_true (HG2.out.2 h)
                        have HN3 : Hid (¬ ∃ T, Rdg c.d.n (gapF c.d) c.m c.F T ∧ T a = t ∧ T b = t + n) := Lib.hid fun h => Bool.false_ne_true (HG3.out.2 h)
                        go_wp2_with fail
                        refine wp_region_M [] (fun w' => w'.cell? ⟨w.heap.size, 0, none⟩ = some (.slice c.d.RA c.d.n c.d.rc) ∧ w'.cell? ⟨w.heap.size, 1, none⟩ = some (.slice c.d.SA c.d.m c.d.sc) ∧ w'.cell? ⟨w.heap.size, 2, none⟩ = some (.slice c.MA c.m c.mc) ∧ w'.cell? ⟨w.heap.size + 1, 0, none⟩ = some (.int .i64 x.A) ∧ w'.cell? ⟨w.heap.size + 1, 1, none⟩ = some (.int .i64 x.B)) (by kernel_rfl) (by kernel_rfl) (by (try dsimp only); (repeat' apply And.intro); all_goals first | assumption | (go_simp; done)) (fun hT0 => ?_)
                        refine M_take (v := ?_) 0 rfl (by kernel_rfl) (by assumption) (fun _ _ _ h => h) (Or.inl ⟨by rfl, ?_⟩) ?_
                        rotate_left
                        · (intro w hSw; (try dsimp only at hSw); go_simp; (try with_reducible rfl))
                        (try simp only [Act.put, List.setIfInBounds_toArray, List.set_cons_zero, List.set_cons_succ])
                        refine M_take (v := ?_) 1 rfl (by kernel_rfl) (by assumption) (fun _ _ _ h => h) (Or.inl ⟨by rfl, ?_⟩) ?_
                        rotate_left
                        · (intro w hSw; (try dsimp only at hSw); go_simp; (try with_reducible rfl))
                        (try simp only [Act.put, List.setIfInBounds_toArray, List.set_cons_zero, List.set_cons_succ])
                        refine M_take (v := ?_) 2 rfl (by kernel_rfl) (by assumption) (fun _ _ _ h => h) (Or.inl ⟨by rfl, ?_⟩) ?_
                        rotate_left
                        · (intro w hSw; (try dsimp only at hSw); go_simp; (try with_reducible rfl))
                        (try simp only [Act.put, List.setIfInBounds_toArray, List.set_cons_zero, List.set_cons_succ])
                        refine M_take (v := ?_) 3 rfl (by kernel_rfl) (by assumption) (fun _ _ _ h => h) (Or.inl ⟨by rfl, ?_⟩) ?_
                        rotate_left
                        · (intro w hSw; (try dsimp only at hSw); go_simp; (try with_reducible rfl))
                        (try simp only [Act.put, List.setIfInBounds_toArray, List.set_cons_zero, List.set_cons_succ])
                        refine M_take (v := ?_) 4 rfl (by kernel_rfl) (by assumption) (fun _ _ _ h => h) (Or.inl ⟨by rfl, ?_⟩) ?_
                        rotate_left
                        · (intro w hSw; (try dsimp only at hSw); go_simp; (try with_reducible rfl))
                        (try simp only [Act.put, List.setIfInBounds_toArray, List.set_cons_zero, List.set_cons_succ])
                        refine M_take (v := ?_) 5 rfl (by kernel_rfl) (by assumption) (fun _ _ _ h => h) (Or.inl ⟨by rfl, ?_⟩) ?_
                        rotate_left
                        · (intro w hSw; (try dsimp only at hSw); go_simp; (try with_reducible rfl))
                        (try simp only [Act.put, List.setIfInBounds_toArray, List.set_cons_zero, List.set_cons_succ])
                        refine M_take (v := ?_) 6 rfl (by kernel_rfl) (by assumption) (fun _ _ _ h => h) (Or.inl ⟨by rfl, ?_⟩) ?_
                        rotate_left
                        · (intro w hSw; (try dsimp only at hSw); go_simp; (try with_reducible rfl))
                        (try simp only [Act.put, List.setIfInBounds_toArray, List.set_cons_zero, List.set_cons_succ])
                        refine M_take (v := ?_) 7 rfl (by kernel_rfl) (by assumption) (fun _ _ _ h => h) (Or.inl ⟨by rfl, ?_⟩) ?_
                        rotate_left
                        · (intro w hSw; (try dsimp only at hSw); go_simp; (try with_reducible rfl))
                        (try simp only [Act.put, List.setIfInBounds_toArray, List.set_cons_zero, List.set_cons_succ])
                        refine M_take (v := ?_) 8 rfl (by kernel_rfl) (by assumption) (fun _ _ _ h => h) (Or.inl ⟨by rfl, ?_⟩) ?_
                        rotate_left
                        · (intro w hSw; (try dsimp only at hSw); go_simp; (try with_reducible rfl))
                        (try simp only [Act.put, List.setIfInBounds_toArray, List.set_cons_zero, List.set_cons_succ])
                        refine M_take (v := ?_) 9 rfl (by kernel_rfl) (by assumption) (fun _ _ _ h => h) (Or.inl ⟨by rfl, ?_⟩) ?_
                        rotate_left
                        · (intro w hSw; (try dsimp only at hSw); go_simp; (try with_reducible rfl))
                        (try simp only [Act.put, List.setIfInBounds_toArray, List.set_cons_zero, List.set_cons_succ])
                        refine M_take (v := ?_) 10 rfl (by kernel_rfl) (by assumption) (fun _ _ _ h => h) (Or.inl ⟨by rfl, ?_⟩) ?_
                        rotate_left
                        · (intro w hSw; (try dsimp only at hSw); go_simp; (try with_reducible rfl))
                        (try simp only [Act.put, List.setIfInBounds_toArray, List.set_cons_zero, List.set_cons_succ])
                        refine M_take (v := ?_) 11 rfl (by kernel_rfl) (by assumption) (fun _ _ _ h => h) (Or.inl ⟨by rfl, ?_⟩) ?_
                        rotate_left
                        · (intro w hSw; (try dsimp only at hSw); go_simp; (try with_reducible rfl))
                        (try simp only [Act.put, List.setIfInBounds_toArray, List.set_cons_zero, List.set_cons_succ])
                        refine M_take (v := ?_) 12 rfl (by kernel_rfl) (by assumption) (fun _ _ _ h => h) (Or.inl ⟨by rfl, ?_⟩) ?_
                        rotate_left
                        · (intro w hSw; (try dsimp only at hSw); go_simp; (try with_reducible rfl))
                        (try simp only [Act.put, List.setIfInBounds_toArray, List.set_cons_zero, List.set_cons_succ])
                        refine M_take (v := ?_) 13 rfl (by kernel_rfl) (by assumption) (fun _ _ _ h => h) (Or.inl ⟨by rfl, ?_⟩) ?_
                        rotate_left
                        · (intro w hSw; (try dsimp only at hSw); go_simp; (try with_reducible rfl))
                        (try simp only [Act.put, List.setIfInBounds_toArray, List.set_cons_zero, List.set_cons_succ])
                        refine M_take (v := ?_) 14 rfl (by kernel_rfl) (by assumption) (fun _ _ _ h => h) (Or.inl ⟨by rfl, ?_⟩) ?_
                        rotate_left
                        · (intro w hSw; (try dsimp only at hSw); go_simp; (try with_reducible rfl))
                        (try simp only [Act.put, List.setIfInBounds_toArray, List.set_cons_zero, List.set_cons_succ])
                        refine M_take (v := ?_) 16 rfl (by kernel_rfl) (by assumption) (fun _ _ _ h => h) (Or.inl ⟨by rfl, ?_⟩) ?_
                        rotate_left
                        · (intro w hSw; (try dsimp only at hSw); go_simp; (try with_reducible rfl))
                        (try simp only [Act.put, List.setIfInBounds_toArray, List.set_cons_zero, List.set_cons_succ])
                        refine M_take (v := ?_) 17 rfl (by kernel_rfl) (by assumption) (fun _ _ _ h => h) (Or.inl ⟨by rfl, ?_⟩) ?_
                        rotate_left
                        · (intro w hSw; (try dsimp only at hSw); go_simp; (try with_reducible rfl))
                        (try simp only [Act.put, List.setIfInBounds_toArray, List.set_cons_zero, List.set_cons_succ])
                        refine M_take (v := ?_) 18 rfl (by kernel_rfl) (by assumption) (fun _ _ _ h => h) (Or.inl ⟨by rfl, ?_⟩) ?_
                        rotate_left
                        · (intro w hSw; (try dsimp only at hSw); go_simp; (try with_reducible rfl))
                        (try simp only [Act.put, List.setIfInBounds_toArray, List.set_cons_zero, List.set_cons_succ])
                        refine M_take (v := ?_) 19 rfl (by kernel_rfl) (by assumption) (fun _ _ _ h => h) (Or.inl ⟨by rfl, ?_⟩) ?_
                        rotate_left
                        · (intro w hSw; (try dsimp only at hSw); go_simp; (try with_reducible rfl))
                        (try simp only [Act.put, List.setIfInBounds_toArray, List.set_cons_zero, List.set_cons_succ])
                        refine M_take (v := ?_) 20 rfl (by kernel_rfl) (by assumption) (fun _ _ _ h => h) (Or.inl ⟨by rfl, ?_⟩) ?_
                        rotate_left
                        · (intro w hSw; (try dsimp only at hSw); go_simp; (try with_reducible rfl))
                        (try simp only [Act.put, List.setIfInBounds_toArray, List.set_cons_zero, List.set_cons_succ])
                        refine M_step 15 rfl (by kernel_rfl) (fun K hK => ?_)
                        go_simp
                        go_at_call 68
                        refine (one_any x.A t _).mono ?_
                        rintro e wA ⟨rfl, hbA⟩
                        have HBA := Lib.hid (show Below w8.heap.size w8 wA from nextB (Below.refl _ _).drew hbA)
                        have hTA : (fun w' => w'.cell? ⟨w.heap.size, 0, none⟩ = some (.slice c.d.RA c.d.n c.d.rc) ∧ w'.cell? ⟨w.heap.size, 1, none⟩ = some (.slice c.d.SA c.d.m c.d.sc) ∧ w'.cell? ⟨w.heap.size, 2, none⟩ = some (.slice c.MA c.m c.mc) ∧ w'.cell? ⟨w.heap.size + 1, 0, none⟩ = some (.int .i64 x.A) ∧ w'.cell? ⟨w.heap.size + 1, 1, none⟩ = some (.int .i64 x.B)) wA := ⟨(HBA.out.cell (World.block_lt_of_cell? _ _ c0)).trans c0, (HBA.out.cell (World.block_lt_of_cell? _ _ c1)).trans c1, (HBA.out.cell (World.block_lt_of_cell? _ _ c2)).trans c2, (HBA.out.cell (World.block_lt_of_cell? _ _ x0)).trans x0, (HBA.out.cell (World.block_lt_of_cell? _ _ x1)).trans x1⟩
                        clear hbA
                        refine hK.out _ _ (fun _ => hTA) ?_
                        clear hK K
                        (try simp only [Act.put, List.setIfInBounds_toArray, List.set_cons_zero, List.set_cons_succ])
                        refine M_step 21 rfl (by kernel_rfl) (fun K hK => ?_)
                        go_simp
                        go_at_call 68
                        refine (one_any x.B (t + n) _).mono ?_
                        rintro e wB ⟨rfl, hbB⟩
                        have HBB := Lib.hid (show Below w8.heap.size w8 wB from nextB HBA.out hbB)
                        have hTB : (fun w' => w'.cell? ⟨w.heap.size, 0, none⟩ = some (.slice c.d.RA c.d.n c.d.rc) ∧ w'.cell? ⟨w.heap.size, 1, none⟩ = some (.slice c.d.SA c.d.m c.d.sc) ∧ w'.cell? ⟨w.heap.size, 2, none⟩ = some (.slice c.MA c.m c.mc) ∧ w'.cell? ⟨w.heap.size + 1, 0, none⟩ = some (.int .i64 x.A) ∧ w'.cell? ⟨w.heap.size + 1, 1, none⟩ = some (.int .i64 x.B)) wB := ⟨(HBB.out.cell (World.block_lt_of_cell? _ _ c0)).trans c0, (HBB.out.cell (World.block_lt_of_cell? _ _ c1)).trans c1, (HBB.out.cell (World.block_lt_of_cell? _ _ c2)).trans c2, (HBB.out.cell (World.block_lt_of_cell? _ _ x0)).trans x0, (HBB.out.cell (World.block_lt_of_cell? _ _ x1)).trans x1⟩
                        clear hbB
                        refine hK.out _ _ (fun _ => hTB) ?_
                        clear hK K
                        (try simp only [Act.put, List.setIfInBounds_toArray, List.set_cons_zero, List.set_cons_succ])
                        refine M_step 22 rfl (by kernel_rfl) (fun K hK => ?_)
                        go_simp
                        have HBC := Lib.hid (show Below w8.heap.size w8 (wB.alloc (.cells #[.int .i64 x.A, .int .i64 t, .int .i64 t, .int .i64 x.B, .int .i64 (t + n), .int .i64 (t + n)] 33)) from nextB HBB.out (box1 wB _))
                        have hTC : (fun w' => w'.cell? ⟨w.heap.size, 0, none⟩ = some (.slice c.d.RA c.d.n c.d.rc) ∧ w'.cell? ⟨w.heap.size, 1, none⟩ = some (.slice c.d.SA c.d.m c.d.sc) ∧ w'.cell? ⟨w.heap.size, 2, none⟩ = some (.slice c.MA c.m c.mc) ∧ w'.cell? ⟨w.heap.size + 1, 0, none⟩ = some (.int .i64 x.A) ∧ w'.cell? ⟨w.heap.size + 1, 1, none⟩ = some (.int .i64 x.B)) (wB.alloc (.cells #[.int .i64 x.A, .int .i64 t, .int .i64 t, .int .i64 x.B, .int .i64 (t + n), .int .i64 (t + n)] 33)) := ⟨(HBC.out.cell (World.block_lt_of_cell? _ _ c0)).trans c0, (HBC.out.cell (World.block_lt_of_cell? _ _ c1)).trans c1, (HBC.out.cell (World.block_lt_of_cell? _ _ c2)).trans c2, (HBC.out.cell (World.block_lt_of_cell? _ _ x0)).trans x0, (HBC.out.cell (World.block_lt_of_cell? _ _ x1)).trans x1⟩
                        refine hK.out _ _ (fun _ => hTC) ?_
                        clear hK K
                        (try simp only [Act.put, List.setIfInBounds_toArray, List.set_cons_zero, List.set_cons_succ])
                        refine M_step 23 rfl (by kernel_rfl) (fun K hK => ?_)
                        go_simp
                        go_at_call 67
                        refine (KC.out _ false _ _ _ (nextB D.out HBC.out) (trs_two wB (x.A, t, t) (x.B, t + n, t + n) _) ⟨fun h => (Bool.false_ne_true h).elim, fun h => absurd h HCF.out⟩).mono ?_
                        rintro e wD ⟨rfl, hbD⟩
                        have HBD := Lib.hid (show Below w8.heap.size w8 wD from nextB HBC.out hbD)
                        have hTD : (fun w' => w'.cell? ⟨w.heap.size, 0, none⟩ = some (.slice c.d.RA c.d.n c.d.rc) ∧ w'.cell? ⟨w.heap.size, 1, none⟩ = some (.slice c.d.SA c.d.m c.d.sc) ∧ w'.cell? ⟨w.heap.size, 2, none⟩ = some (.slice c.MA c.m c.mc) ∧ w'.cell? ⟨w.heap.size + 1, 0, none⟩ = some (.int .i64 x.A) ∧ w'.cell? ⟨w.heap.size + 1, 1, none⟩ = some (.int .i64 x.B)) wD := ⟨(HBD.out.cell (World.block_lt_of_cell? _ _ c0)).trans c0, (HBD.out.cell (World.block_lt_of_cell? _ _ c1)).trans c1, (HBD.out.cell (World.block_lt_of_cell? _ _ c2)).trans c2, (HBD.out.cell (World.block_lt_of_cell? _ _ x0)).trans x0, (HBD.out.cell (World.block_lt_of_cell? _ _ x1)).trans x1⟩
                        clear hbD
                        refine hK.out _ _ (fun _ => hTD) ?_
                        clear hK K
                        (try simp only [Act.put, List.setIfInBounds_toArray, List.set_cons_zero, List.set_cons_succ])
                        refine M_take (v := ?_) 24 rfl (by kernel_rfl) (by assumption) (fun _ _ _ h => h) (Or.inl ⟨by rfl, ?_⟩) ?_
                        rotate_left
                        · (intro w hSw; (try dsimp only at hSw); go_simp; (try with_reducible rfl))
                        (try simp only [Act.put, List.setIfInBounds_toArray, List.set_cons_zero, List.set_cons_succ])
                        refine M_done (by kernel_rfl) ?_ _
                        clear hT0 hTA hTB hTC hTD
                        have HNO := Lib.hid (show ∀ t', p1 ≤ t' → t' < t + 1 → ¬ ∃ T, Rdg c.d.n (gapF c.d) c.m c.F T ∧ T a = t' ∧ T b = t' + n from fun t' h1 h2 => by
                          by_cases e : t' = t
                          · subst e
                            exact HN3.out
                          · exact hno.out t' h1 (by omega))
                        go_wp2_with fail
                        go_roundw
                        case rel => exact ⟨t + 1, by omega, by omega, rfl, rfl, HNO, (nextB HB8.out HBD.out)⟩
                        case measure => simp [intOf]; omega
                    · have dh : decide (t + n ≤ 400) = false := decide_eq_false hh
                      go_wp2_with fail
                      refine wp_region_M [] (fun w' => w'.cell? ⟨w.heap.size, 0, none⟩ = some (.slice c.d.RA c.d.n c.d.rc) ∧ w'.cell? ⟨w.heap.size, 1, none⟩ = some (.slice c.d.SA c.d.m c.d.sc) ∧ w'.cell? ⟨w.heap.size, 2, none⟩ = some (.slice c.MA c.m c.mc) ∧ w'.cell? ⟨w.heap.size + 1, 0, none⟩ = some (.int .i64 x.A) ∧ w'.cell? ⟨w.heap.size + 1, 1, none⟩ = some (.int .i64 x.B)) (by kernel_rfl) (by kernel_rfl) (by (try dsimp only); (repeat' apply And.intro); all_goals first | assumption | (go_simp; done)) (fun hT0 => ?_)
                      refine M_take (v := ?_) 0 rfl (by kernel_rfl) (by assumption) (fun _ _ _ h => h) (Or.inl ⟨by rfl, ?_⟩) ?_
                      rotate_left
                      · (intro w hSw; (try dsimp only at hSw); go_simp; (try with_reducible rfl))
                      (try simp only [Act.put, List.setIfInBounds_toArray, List.set_cons_zero, List.set_cons_succ])
                      refine M_take (v := ?_) 1 rfl (by kernel_rfl) (by assumption) (fun _ _ _ h => h) (Or.inl ⟨by rfl, ?_⟩) ?_
                      rotate_left
                      · (intro w hSw; (try dsimp only at hSw); go_simp; (try with_reducible rfl))
                      (try simp only [Act.put, List.setIfInBounds_toArray, List.set_cons_zero, List.set_cons_succ])
                      refine M_take (v := ?_) 2 rfl (by kernel_rfl) (by assumption) (fun _ _ _ h => h) (Or.inl ⟨by rfl, ?_⟩) ?_
                      rotate_left
                      · (intro w hSw; (try dsimp only at hSw); go_simp; (try with_reducible rfl))
                      (try simp only [Act.put, List.setIfInBounds_toArray, List.set_cons_zero, List.set_cons_succ])
                      refine M_take (v := ?_) 3 rfl (by kernel_rfl) (by assumption) (fun _ _ _ h => h) (Or.inl ⟨by rfl, ?_⟩) ?_
                      rotate_left
                      · (intro w hSw; (try dsimp only at hSw); go_simp; (try with_reducible rfl))
                      (try simp only [Act.put, List.setIfInBounds_toArray, List.set_cons_zero, List.set_cons_succ])
                      refine M_take (v := ?_) 4 rfl (by kernel_rfl) (by assumption) (fun _ _ _ h => h) (Or.inl ⟨by rfl, ?_⟩) ?_
                      rotate_left
                      · (intro w hSw; (try dsimp only at hSw); go_simp; (try with_reducible rfl))
                      (try simp only [Act.put, List.setIfInBounds_toArray, List.set_cons_zero, List.set_cons_succ])
                      refine M_take (v := ?_) 5 rfl (by kernel_rfl) (by assumption) (fun _ _ _ h => h) (Or.inl ⟨by rfl, ?_⟩) ?_
                      rotate_left
                      · (intro w hSw; (try dsimp only at hSw); go_simp; (try with_reducible rfl))
                      (try simp only [Act.put, List.setIfInBounds_toArray, List.set_cons_zero, List.set_cons_succ])
                      refine M_take (v := ?_) 6 rfl (by kernel_rfl) (by assumption) (fun _ _ _ h => h) (Or.inl ⟨by rfl, ?_⟩) ?_
                      rotate_left
                      · (intro w hSw; (try dsimp only at hSw); go_simp; (try with_reducible rfl))
                      (try simp only [Act.put, List.setIfInBounds_toArray, List.set_cons_zero, List.set_cons_succ])
                      refine M_take (v := ?_) 7 rfl (by kernel_rfl) (by assumption) (fun _ _ _ h => h) (Or.inl ⟨by rfl, ?_⟩) ?_
                      rotate_left
                      · (intro w hSw; (try dsimp only at hSw); go_simp; (try with_reducible rfl))
                      (try simp only [Act.put, List.setIfInBounds_toArray, List.set_cons_zero, List.set_cons_succ])
                      refine M_take (v := ?_) 8 rfl (by kernel_rfl) (by assumption) (fun _ _ _ h => h) (Or.inl ⟨by rfl, ?_⟩) ?_
                      rotate_left
                      · (intro w hSw; (try dsimp only at hSw); go_simp; (try with_reducible rfl))
                      (try simp only [Act.put, List.setIfInBounds_toArray, List.set_cons_zero, List.set_cons_succ])
                      refine M_take (v := ?_) 9 rfl (by kernel_rfl) (by assumption) (fun _ _ _ h => h) (Or.inl ⟨by rfl, ?_⟩) ?_
                      rotate_left
                      · (intro w hSw; (try dsimp only at hSw); go_simp; (try with_reducible rfl))
                      (try simp only [Act.put, List.setIfInBounds_toArray, List.set_cons_zero, List.set_cons_succ])
                      refine M_take (v := ?_) 10 rfl (by kernel_rfl) (by assumption) (fun _ _ _ h => h) (Or.inl ⟨by rfl, ?_⟩) ?_
                      rotate_left
                      · (intro w hSw; (try dsimp only at hSw); go_simp; (try with_reducible rfl))
                      (try simp only [Act.put, List.setIfInBounds_toArray, List.set_cons_zero, List.set_cons_succ])
                      refine M_take 11 rfl (by kernel_rfl) (by assumption) (fun _ _ _ h => h) (Or.inr ⟨by rfl, rfl⟩) ?_
                      (try simp only [Act.put, List.setIfInBounds_toArray, List.set_cons_zero, List.set_cons_succ])
                      refine M_take 12 rfl (by kernel_rfl) (by assumption) (fun _ _ _ h => h) (Or.inr ⟨by rfl, rfl⟩) ?_
                      (try simp only [Act.put, List.setIfInBounds_toArray, List.set_cons_zero, List.set_cons_succ])
                      refine M_take 13 rfl (by kernel_rfl) (by assumption) (fun _ _ _ h => h) (Or.inr ⟨by rfl, rfl⟩) ?_
                      (try simp only [Act.put, List.setIfInBounds_toArray, List.set_cons_zero, List.set_cons_succ])
                      refine M_take 14 rfl (by kernel_rfl) (by assumption) (fun _ _ _ h => h) (Or.inr ⟨by rfl, rfl⟩) ?_
                      (try simp only [Act.put, List.setIfInBounds_toArray, List.set_cons_zero, List.set_cons_succ])
                      refine M_take 15 rfl (by kernel_rfl) (by assumption) (fun _ _ _ h => h) (Or.inr ⟨by rfl, rfl⟩) ?_
                      (try simp only [Act.put, List.setIfInBounds_toArray, List.set_cons_zero, List.set_cons_succ])
                      refine M_take 16 rfl (by kernel_rfl) (by assumption) (fun _ _ _ h => h) (Or.inr ⟨by rfl, rfl⟩) ?_
                      (try simp only [Act.put, List.setIfInBounds_toArray, List.set_cons_zero, List.set_cons_succ])
                      refine M_take 17 rfl (by kernel_rfl) (by assumption) (fun _ _ _ h => h) (Or.inr ⟨by rfl, rfl⟩) ?_
                      (try simp only [Act.put, List.setIfInBounds_toArray, List.set_cons_zero, List.set_cons_succ])
                      refine M_take 18 rfl (by kernel_rfl) (by assumption) (fun _ _ _ h => h) (Or.inr ⟨by rfl, rfl⟩) ?_
                      (try simp only [Act.put, List.setIfInBounds_toArray, List.set_cons_zero, List.set_cons_succ])
                      refine M_take 19 rfl (by kernel_rfl) (by assumption) (fun _ _ _ h => h) (Or.inr ⟨by rfl, rfl⟩) ?_
                      (try simp only [Act.put, List.setIfInBounds_toArray, List.set_cons_zero, List.set_cons_succ])
                      refine M_take 20 rfl (by kernel_rfl) (by assumption) (fun _ _ _ h => h) (Or.inr ⟨by rfl, rfl⟩) ?_
                      (try simp only [Act.put, List.setIfInBounds_toArray, List.set_cons_zero, List.set_cons_succ])
                      refine M_take 21 rfl (by kernel_rfl) (by assumption) (fun _ _ _ h => h) (Or.inr ⟨by rfl, rfl⟩) ?_
                      (try simp only [Act.put, List.setIfInBounds_toArray, List.set_cons_zero, List.set_cons_succ])
                      refine M_take 22 rfl (by kernel_rfl) (by assumption) (fun _ _ _ h => h) (Or.inr ⟨by rfl, rfl⟩) ?_
                      (try simp only [Act.put, List.setIfInBounds_toArray, List.set_cons_zero, List.set_cons_succ])
                      refine M_take 23 rfl (by kernel_rfl) (by assumption) (fun _ _ _ h => h) (Or.inr ⟨by rfl, rfl⟩) ?_
                      (try simp only [Act.put, List.setIfInBounds_toArray, List.set_cons_zero, List.set_cons_succ])
                      refine M_take (v := ?_) 24 rfl (by kernel_rfl) (by assumption) (fun _ _ _ h => h) (Or.inl ⟨by rfl, ?_⟩) ?_
                      rotate_left
                      · (intro w hSw; (try dsimp only at hSw); go_simp; (try with_reducible rfl))
                      (try simp only [Act.put, List.setIfInBounds_toArray, List.set_cons_zero, List.set_cons_succ])
                      refine M_done (by kernel_rfl) ?_ _
                      clear hT0
                      have HNO := Lib.hid (show ∀ t', p1 ≤ t' → t' < t + 1 → ¬ ∃ T, Rdg c.d.n (gapF c.d) c.m c.F T ∧ T a = t' ∧ T b = t' + n from fun t' h1 h2 => by
                        by_cases e : t' = t
                        · subst e
                          exact (fun ⟨T, hT, h1, h2⟩ => by have := HM7.out T hT; omega)
                        · exact hno.out t' h1 (by omega))
                      go_wp2_with fail
                      go_roundw
                      case rel => exact ⟨t + 1, by omega, by omega, rfl, rfl, HNO, (nextB HB8.out (Below.refl w8.heap.size w8).drew)⟩
                      case measure => simp [intOf]; omega
                  · have dl : decide (0 ≤ t + n) = false := decide_eq_false hl
                    go_wp2_with fail
                    refine wp_region_M [] (fun w' => w'.cell? ⟨w.heap.size, 0, none⟩ = some (.slice c.d.RA c.d.n c.d.rc) ∧ w'.cell? ⟨w.heap.size, 1, none⟩ = some (.slice c.d.SA c.d.m c.d.sc) ∧ w'.cell? ⟨w.heap.size, 2, none⟩ = some (.slice c.MA c.m c.mc) ∧ w'.cell? ⟨w.heap.size + 1, 0, none⟩ = some (.int .i64 x.A) ∧ w'.cell? ⟨w.heap.size + 1, 1, none⟩ = some (.int .i64 x.B)) (by kernel_rfl) (by kernel_rfl) (by (try dsimp only); (repeat' apply And.intro); all_goals first | assumption | (go_simp; done)) (fun hT0 => ?_)
                    refine M_take (v := ?_) 0 rfl (by kernel_rfl) (by assumption) (fun _ _ _ h => h) (Or.inl ⟨by rfl, ?_⟩) ?_
                    rotate_left
                    · (intro w hSw; (try dsimp only at hSw); go_simp; (try with_reducible rfl))
                    (try simp only [Act.put, List.setIfInBounds_toArray, List.set_cons_zero, List.set_cons_succ])
                    refine M_take (v := ?_) 1 rfl (by kernel_rfl) (by assumption) (fun _ _ _ h => h) (Or.inl ⟨by rfl, ?_⟩) ?_
                    rotate_left
                    · (intro w hSw; (try dsimp only at hSw); go_simp; (try with_reducible rfl))
                    (try simp only [Act.put, List.setIfInBounds_toArray, List.set_cons_zero, List.set_cons_succ])
                    refine M_take (v := ?_) 2 rfl (by kernel_rfl) (by assumption) (fun _ _ _ h => h) (Or.inl ⟨by rfl, ?_⟩) ?_
                    rotate_left
                    · (intro w hSw; (try dsimp only at hSw); go_simp; (try with_reducible rfl))
                    (try simp only [Act.put, List.setIfInBounds_toArray, List.set_cons_zero, List.set_cons_succ])
                    refine M_take (v := ?_) 3 rfl (by kernel_rfl) (by assumption) (fun _ _ _ h => h) (Or.inl ⟨by rfl, ?_⟩) ?_
                    rotate_left
                    · (intro w hSw; (try dsimp only at hSw); go_simp; (try with_reducible rfl))
                    (try simp only [Act.put, List.setIfInBounds_toArray, List.set_cons_zero, List.set_cons_succ])
                    refine M_take (v := ?_) 4 rfl (by kernel_rfl) (by assumption) (fun _ _ _ h => h) (Or.inl ⟨by rfl, ?_⟩) ?_
                    rotate_left
                    · (intro w hSw; (try dsimp only at hSw); go_simp; (try with_reducible rfl))
                    (try simp only [Act.put, List.setIfInBounds_toArray, List.set_cons_zero, List.set_cons_succ])
                    refine M_take 5 rfl (by kernel_rfl) (by assumption) (fun _ _ _ h => h) (Or.inr ⟨by rfl, rfl⟩) ?_
                    (try simp only [Act.put, List.setIfInBounds_toArray, List.set_cons_zero, List.set_cons_succ])
                    refine M_take 6 rfl (by kernel_rfl) (by assumption) (fun _ _ _ h => h) (Or.inr ⟨by rfl, rfl⟩) ?_
                    (try simp only [Act.put, List.setIfInBounds_toArray, List.set_cons_zero, List.set_cons_succ])
                    refine M_take 7 rfl (by kernel_rfl) (by assumption) (fun _ _ _ h => h) (Or.inr ⟨by rfl, rfl⟩) ?_
                    (try simp only [Act.put, List.setIfInBounds_toArray, List.set_cons_zero, List.set_cons_succ])
                    refine M_take 8 rfl (by kernel_rfl) (by assumption) (fun _ _ _ h => h) (Or.inr ⟨by rfl, rfl⟩) ?_
                    (try simp only [Act.put, List.setIfInBounds_toArray, List.set_cons_zero, List.set_cons_succ])
                    refine M_take (v := ?_) 9 rfl (by kernel_rfl) (by assumption) (fun _ _ _ h => h) (Or.inl ⟨by rfl, ?_⟩) ?_
                    rotate_left
                    · (intro w hSw; (try dsimp only at hSw); go_simp; (try with_reducible rfl))
                    (try simp only [Act.put, List.setIfInBounds_toArray, List.set_cons_zero, List.set_cons_succ])
                    refine M_take (v := ?_) 10 rfl (by kernel_rfl) (by assumption) (fun _ _ _ h => h) (Or.inl ⟨by rfl, ?_⟩) ?_
                    rotate_left
                    · (intro w hSw; (try dsimp only at hSw); go_simp; (try with_reducible rfl))
                    (try simp only [Act.put, List.setIfInBounds_toArray, List.set_cons_zero, List.set_cons_succ])
                    refine M_take 11 rfl (by kernel_rfl) (by assumption) (fun _ _ _ h => h) (Or.inr ⟨by rfl, rfl⟩) ?_
                    (try simp only [Act.put, List.setIfInBounds_toArray, List.set_cons_zero, List.set_cons_succ])
                    refine M_take 12 rfl (by kernel_rfl) (by assumption) (fun _ _ _ h => h) (Or.inr ⟨by rfl, rfl⟩) ?_
                    (try simp only [Act.put, List.setIfInBounds_toArray, List.set_cons_zero, List.set_cons_succ])
                    refine M_take 13 rfl (by kernel_rfl) (by assumption) (fun _ _ _ h => h) (Or.inr ⟨by rfl, rfl⟩) ?_
                    (try simp only [Act.put, List.setIfInBounds_toArray, List.set_cons_zero, List.set_cons_succ])
                    refine M_take 14 rfl (by kernel_rfl) (by assumption) (fun _ _ _ h => h) (Or.inr ⟨by rfl, rfl⟩) ?_
                    (try simp only [Act.put, List.setIfInBounds_toArray, List.set_cons_zero, List.set_cons_succ])
                    refine M_take 15 rfl (by kernel_rfl) (by assumption) (fun _ _ _ h => h) (Or.inr ⟨by rfl, rfl⟩) ?_
                    (try simp only [Act.put, List.setIfInBounds_toArray, List.set_cons_zero, List.set_cons_succ])
                    refine M_take 16 rfl (by kernel_rfl) (by assumption) (fun _ _ _ h => h) (Or.inr ⟨by rfl, rfl⟩) ?_
                    (try simp only [Act.put, List.setIfInBounds_toArray, List.set_cons_zero, List.set_cons_succ])
                    refine M_take 17 rfl (by kernel_rfl) (by assumption) (fun _ _ _ h => h) (Or.inr ⟨by rfl, rfl⟩) ?_
                    (try simp only [Act.put, List.setIfInBounds_toArray, List.set_cons_zero, List.set_cons_succ])
                    refine M_take 18 rfl (by kernel_rfl) (by assumption) (fun _ _ _ h => h) (Or.inr ⟨by rfl, rfl⟩) ?_
                    (try simp only [Act.put, List.setIfInBounds_toArray, List.set_cons_zero, List.set_cons_succ])
                    refine M_take 19 rfl (by kernel_rfl) (by assumption) (fun _ _ _ h => h) (Or.inr ⟨by rfl, rfl⟩) ?_
                    (try simp only [Act.put, List.setIfInBounds_toArray, List.set_cons_zero, List.set_cons_succ])
                    refine M_take 20 rfl (by kernel_rfl) (by assumption) (fun _ _ _ h => h) (Or.inr ⟨by rfl, rfl⟩) ?_
                    (try simp only [Act.put, List.setIfInBounds_toArray, List.set_cons_zero, List.set_cons_succ])
                    refine M_take 21 rfl (by kernel_rfl) (by assumption) (fun _ _ _ h => h) (Or.inr ⟨by rfl, rfl⟩) ?_
                    (try simp only [Act.put, List.setIfInBounds_toArray, List.set_cons_zero, List.set_cons_succ])
                    refine M_take 22 rfl (by kernel_rfl) (by assumption) (fun _ _ _ h => h) (Or.inr ⟨by rfl, rfl⟩) ?_
                    (try simp only [Act.put, List.setIfInBounds_toArray, List.set_cons_zero, List.set_cons_succ])
                    refine M_take 23 rfl (by kernel_rfl) (by assumption) (fun _ _ _ h => h) (Or.inr ⟨by rfl, rfl⟩) ?_
                    (try simp only [Act.put, List.setIfInBounds_toArray, List.set_cons_zero, List.set_cons_succ])
                    refine M_take (v := ?_) 24 rfl (by kernel_rfl) (by assumption) (fun _ _ _ h => h) (Or.inl ⟨by rfl, ?_⟩) ?_
                    rotate_left
                    · (intro w hSw; (try dsimp only at hSw); go_simp; (try with_reducible rfl))
                    (try simp only [Act.put, List.setIfInBounds_toArray, List.set_cons_zero, List.set_cons_succ])
                    refine M_done (by kernel_rfl) ?_ _
                    clear hT0
                    have HNO := Lib.hid (show ∀ t', p1 ≤ t' → t' < t + 1 → ¬ ∃ T, Rdg c.d.n (gapF c.d) c.m c.F T ∧ T a = t' ∧ T b = t' + n from fun t' h1 h2 => by
                      by_cases e : t' = t
                      · subst e
                        exact (fun ⟨T, hT, h1, h2⟩ => by have := HM7.out T hT; omega)
                      · exact hno.out t' h1 (by omega))
                    go_wp2_with fail
                    go_roundw
                    case rel => exact ⟨t + 1, by omega, by omega, rfl, rfl, HNO, (nextB HB8.out (Below.refl w8.heap.size w8).drew)⟩
                    case measure => simp [intOf]; omega
                · have dn2 : decide (n ≤ 400) = false := decide_eq_false hn2
                  have hm2 := HM2.out
                  have d1 : decide (s1 ≤ n) = true := decide_eq_true (by omega)
                  have d2 : decide (n ≤ s2) = false := decide_eq_false (by omega)
                  clear hm2
                  cases hv3 : v3 with
                  | true =>
                    obtain ⟨e1, e2, f1, f2, ⟨k1, k2⟩, k3, k4, KX, KY⟩ := KB.out hv3
                    have KX := Lib.hid KX
                    have KY := Lib.hid KY
                    have w9' : IntKind.i64.wrap (e1 + f1) = e1 + f1 := IntWalk.i64_in _ (by omega)
                    have w10' : IntKind.i64.wrap (e2 + f2) = e2 + f2 := IntWalk.i64_in _ (by omega)
                    have d3 : decide (e1 + f1 ≤ s1) = true := decide_eq_true k1
                    have d4 : decide (s2 ≤ e2 + f2) = true := decide_eq_true k2
                    clear k1 k2 k3 k4
                    go_wp2_with fail
                    refine (KX.out _ D.out).mono ?_
                    rintro e w9 ⟨rfl, hb⟩
                    have J := Lib.hid (hb)
                    have D := Lib.hid (nextB D.out J.out)
                    clear c0 c1 c2 zC x0 x1 zX l0 l1 l2 l3 zL u0 u1 u2 u3 zU
                    have C := Lib.hid (C.out.up J.out)
                    have X := Lib.hid (X.out.up J.out)
                    have L := Lib.hid (L.out.up J.out)
                    clear hb
                    obtain ⟨c0, c1, c2⟩ := C.out
                    have zC := C.out.lt
                    have x0 : w9.cell? ⟨w.heap.size + 1, 0, none⟩ = some (.int .i64 x.A) := X.out.c 0 _ rfl
                    have x1 : w9.cell? ⟨w.heap.size + 1, 1, none⟩ = some (.int .i64 x.B) := X.out.c 1 _ rfl
                    have zX := X.out.lt
                    obtain ⟨l0, l1, l2, l3⟩ := L.out
                    have zL := L.out.lt
                    go_wp2_with fail
                    refine (KY.out _ (nextB D.out (box1 w9 _))).mono ?_
                    rintro e w10 ⟨rfl, hb⟩
                    have J := Lib.hid (nextB (box1 w9 _) hb)
                    have D := Lib.hid (nextB D.out J.out)
                    clear c0 c1 c2 zC x0 x1 zX l0 l1 l2 l3 zL
                    have C := Lib.hid (C.out.up J.out)
                    have X := Lib.hid (X.out.up J.out)
                    have L := Lib.hid (L.out.up J.out)
                    have V := Lib.hid (((Bt.new w9 31 (e1) (e2))).up hb)
                    clear hb
                    obtain ⟨c0, c1, c2⟩ := C.out
                    have zC := C.out.lt
                    have x0 : w10.cell? ⟨w.heap.size + 1, 0, none⟩ = some (.int .i64 x.A) := X.out.c 0 _ rfl
                    have x1 : w10.cell? ⟨w.heap.size + 1, 1, none⟩ = some (.int .i64 x.B) := X.out.c 1 _ rfl
                    have zX := X.out.lt
                    obtain ⟨l0, l1, l2, l3⟩ := L.out
                    have zL := L.out.lt
                    obtain ⟨v0, v1, v2, v3⟩ := V.out
                    have zV := V.out.lt
                    go_wp2_with fail
                    go_ret
                    exact ⟨rfl, (nextB D.out (box1 w10 _))⟩
                  | false =>
                    obtain ⟨KX, KY⟩ := KN.out hv3
                    have KX := Lib.hid KX
                    have KY := Lib.hid KY
                    go_wp2_with fail
                    refine (KX.out _ D.out).mono ?_
                    rintro e w9 ⟨rfl, hb⟩
                    have J := Lib.hid (hb)
                    have D := Lib.hid (nextB D.out J.out)
                    clear c0 c1 c2 zC x0 x1 zX l0 l1 l2 l3 zL u0 u1 u2 u3 zU
                    have C := Lib.hid (C.out.up J.out)
                    have X := Lib.hid (X.out.up J.out)
                    have L := Lib.hid (L.out.up J.out)
                    clear hb
                    obtain ⟨c0, c1, c2⟩ := C.out
                    have zC := C.out.lt
                    have x0 : w9.cell? ⟨w.heap.size + 1, 0, none⟩ = some (.int .i64 x.A) := X.out.c 0 _ rfl
                    have x1 : w9.cell? ⟨w.heap.size + 1, 1, none⟩ = some (.int .i64 x.B) := X.out.c 1 _ rfl
                    have zX := X.out.lt
                    obtain ⟨l0, l1, l2, l3⟩ := L.out
                    have zL := L.out.lt
                    go_wp2_with fail
                    refine (KY.out _ (nextB D.out (box1 w9 _))).mono ?_
                    rintro e w10 ⟨rfl, hb⟩
                    have J := Lib.hid (nextB (box1 w9 _) hb)
                    have D := Lib.hid (nextB D.out J.out)
                    clear c0 c1 c2 zC x0 x1 zX l0 l1 l2 l3 zL
                    have C := Lib.hid (C.out.up J.out)
                    have X := Lib.hid (X.out.up J.out)
                    have L := Lib.hid (L.out.up J.out)
                    have V := Lib.hid (((Bt.new w9 31 (0) (0))).up hb)
                    clear hb
                    obtain ⟨c0, c1, c2⟩ := C.out
                    have zC := C.out.lt
                    have x0 : w10.cell? ⟨w.heap.size + 1, 0, none⟩ = some (.int .i64 x.A) := X.out.c 0 _ rfl
                    have x1 : w10.cell? ⟨w.heap.size + 1, 1, none⟩ = some (.int .i64 x.B) := X.out.c 1 _ rfl
                    have zX := X.out.lt
                    obtain ⟨l0, l1, l2, l3⟩ := L.out
                    have zL := L.out.lt
                    obtain ⟨v0, v1, v2, v3⟩ := V.out
                    have zV := V.out.lt
                    go_wp2_with fail
                    go_ret
                    exact ⟨rfl, (nextB D.out (box1 w10 _))⟩
              · have dn1 : decide (-400 ≤ n) = false := decide_eq_false hn1
                have hm2 := HM2.out
                have d1 : decide (s1 ≤ n) = false := decide_eq_false (by omega)
                clear hm2
                cases hv3 : v3 with
                | true =>
                  obtain ⟨e1, e2, f1, f2, ⟨k1, k2⟩, k3, k4, KX, KY⟩ := KB.out hv3
                  have KX := Lib.hid KX
                  have KY := Lib.hid KY
                  have w9' : IntKind.i64.wrap (e1 + f1) = e1 + f1 := IntWalk.i64_in _ (by omega)
                  have w10' : IntKind.i64.wrap (e2 + f2) = e2 + f2 := IntWalk.i64_in _ (by omega)
                  have d3 : decide (e1 + f1 ≤ s1) = true := decide_eq_true k1
                  have d4 : decide (s2 ≤ e2 + f2) = true := decide_eq_true k2
                  clear k1 k2 k3 k4
                  go_wp2_with fail
                  refine (KX.out _ D.out).mono ?_
                  rintro e w9 ⟨rfl, hb⟩
                  have J := Lib.hid (hb)
                  have D := Lib.hid (nextB D.out J.out)
                  clear c0 c1 c2 zC x0 x1 zX l0 l1 l2 l3 zL u0 u1 u2 u3 zU
                  have C := Lib.hid (C.out.up J.out)
                  have X := Lib.hid (X.out.up J.out)
                  have L := Lib.hid (L.out.up J.out)
                  clear hb
                  obtain ⟨c0, c1, c2⟩ := C.out
                  have zC := C.out.lt
                  have x0 : w9.cell? ⟨w.heap.size + 1, 0, none⟩ = some (.int .i64 x.A) := X.out.c 0 _ rfl
                  have x1 : w9.cell? ⟨w.heap.size + 1, 1, none⟩ = some (.int .i64 x.B) := X.out.c 1 _ rfl
                  have zX := X.out.lt
                  obtain ⟨l0, l1, l2, l3⟩ := L.out
                  have zL := L.out.lt
                  go_wp2_with fail
                  refine (KY.out _ (nextB D.out (box1 w9 _))).mono ?_
                  rintro e w10 ⟨rfl, hb⟩
                  have J := Lib.hid (nextB (box1 w9 _) hb)
                  have D := Lib.hid (nextB D.out J.out)
                  clear c0 c1 c2 zC x0 x1 zX l0 l1 l2 l3 zL
                  have C := Lib.hid (C.out.up J.out)
                  have X := Lib.hid (X.out.up J.out)
                  have L := Lib.hid (L.out.up J.out)
                  have V := Lib.hid (((Bt.new w9 31 (e1) (e2))).up hb)
                  clear hb
                  obtain ⟨c0, c1, c2⟩ := C.out
                  have zC := C.out.lt
                  have x0 : w10.cell? ⟨w.heap.size + 1, 0, none⟩ = some (.int .i64 x.A) := X.out.c 0 _ rfl
                  have x1 : w10.cell? ⟨w.heap.size + 1, 1, none⟩ = some (.int .i64 x.B) := X.out.c 1 _ rfl
                  have zX := X.out.lt
                  obtain ⟨l0, l1, l2, l3⟩ := L.out
                  have zL := L.out.lt
                  obtain ⟨v0, v1, v2, v3⟩ := V.out
                  have zV := V.out.lt
                  go_wp2_with fail
                  go_ret
                  exact ⟨rfl, (nextB D.out (box1 w10 _))⟩
                | false =>
                  obtain ⟨KX, KY⟩ := KN.out hv3
                  have KX := Lib.hid KX
                  have KY := Lib.hid KY
                  go_wp2_with fail
                  refine (KX.out _ D.out).mono ?_
                  rintro e w9 ⟨rfl, hb⟩
                  have J := Lib.hid (hb)
                  have D := Lib.hid (nextB D.out J.out)
                  clear c0 c1 c2 zC x0 x1 zX l0 l1 l2 l3 zL u0 u1 u2 u3 zU
                  have C := Lib.hid (C.out.up J.out)
                  have X := Lib.hid (X.out.up J.out)
                  have L := Lib.hid (L.out.up J.out)
                  clear hb
                  obtain ⟨c0, c1, c2⟩ := C.out
                  have zC := C.out.lt
                  have x0 : w9.cell? ⟨w.heap.size + 1, 0, none⟩ = some (.int .i64 x.A) := X.out.c 0 _ rfl
                  have x1 : w9.cell? ⟨w.heap.size + 1, 1, none⟩ = some (.int .i64 x.B) := X.out.c 1 _ rfl
                  have zX := X.out.lt
                  obtain ⟨l0, l1, l2, l3⟩ := L.out
                  have zL := L.out.lt
                  go_wp2_with fail
                  refine (KY.out _ (nextB D.out (box1 w9 _))).mono ?_
                  rintro e w10 ⟨rfl, hb⟩
                  have J := Lib.hid (nextB (box1 w9 _) hb)
                  have D := Lib.hid (nextB D.out J.out)
                  clear c0 c1 c2 zC x0 x1 zX l0 l1 l2 l3 zL
                  have C := Lib.hid (C.out.up J.out)
                  have X := Lib.hid (X.out.up J.out)
                  have L := Lib.hid (L.out.up J.out)
                  have V := Lib.hid (((Bt.new w9 31 (0) (0))).up hb)
                  clear hb
                  obtain ⟨c0, c1, c2⟩ := C.out
                  have zC := C.out.lt
                  have x0 : w10.cell? ⟨w.heap.size + 1, 0, none⟩ = some (.int .i64 x.A) := X.out.c 0 _ rfl
                  have x1 : w10.cell? ⟨w.heap.size + 1, 1, none⟩ = some (.int .i64 x.B) := X.out.c 1 _ rfl
                  have zX := X.out.lt
                  obtain ⟨l0, l1, l2, l3⟩ := L.out
                  have zL := L.out.lt
                  obtain ⟨v0, v1, v2, v3⟩ := V.out
                  have zV := V.out.lt
                  go_wp2_with fail
                  go_ret
                  exact ⟨rfl, (nextB D.out (box1 w10 _))⟩
            · have dtp : decide (t ≤ p2) = false := decide_eq_false htp
              have hnot : ¬ (s1 ≤ n ∧ n ≤ s2) := fun h => by
                obtain ⟨T, hT, e⟩ := (HM5.out n).1 h
                have h6 := HM6.out T hT
                exact hno.out (T a) h6.1 (by omega) ⟨T, hT, rfl, by omega⟩
              by_cases hs1 : s1 ≤ n
              · have d1 : decide (s1 ≤ n) = true := decide_eq_true hs1
                have d2 : decide (n ≤ s2) = false := decide_eq_false (fun h => hnot ⟨hs1, h⟩)
                cases hv3 : v3 with
                | true =>
                  obtain ⟨e1, e2, f1, f2, ⟨k1, k2⟩, k3, k4, KX, KY⟩ := KB.out hv3
                  have KX := Lib.hid KX
                  have KY := Lib.hid KY
                  have w9' : IntKind.i64.wrap (e1 + f1) = e1 + f1 := IntWalk.i64_in _ (by omega)
                  have w10' : IntKind.i64.wrap (e2 + f2) = e2 + f2 := IntWalk.i64_in _ (by omega)
                  have d3 : decide (e1 + f1 ≤ s1) = true := decide_eq_true k1
                  have d4 : decide (s2 ≤ e2 + f2) = true := decide_eq_true k2
                  clear k1 k2 k3 k4
                  go_wp2_with fail
                  refine (KX.out _ D.out).mono ?_
                  rintro e w9 ⟨rfl, hb⟩
                  have J := Lib.hid (hb)
                  have D := Lib.hid (nextB D.out J.out)
                  clear c0 c1 c2 zC x0 x1 zX l0 l1 l2 l3 zL u0 u1 u2 u3 zU
                  have C := Lib.hid (C.out.up J.out)
                  have X := Lib.hid (X.out.up J.out)
                  have L := Lib.hid (L.out.up J.out)
                  clear hb
                  obtain ⟨c0, c1, c2⟩ := C.out
                  have zC := C.out.lt
                  have x0 : w9.cell? ⟨w.heap.size + 1, 0, none⟩ = some (.int .i64 x.A) := X.out.c 0 _ rfl
                  have x1 : w9.cell? ⟨w.heap.size + 1, 1, none⟩ = some (.int .i64 x.B) := X.out.c 1 _ rfl
                  have zX := X.out.lt
                  obtain ⟨l0, l1, l2, l3⟩ := L.out
                  have zL := L.out.lt
                  go_wp2_with fail
                  refine (KY.out _ (nextB D.out (box1 w9 _))).mono ?_
                  rintro e w10 ⟨rfl, hb⟩
                  have J := Lib.hid (nextB (box1 w9 _) hb)
                  have D := Lib.hid (nextB D.out J.out)
                  clear c0 c1 c2 zC x0 x1 zX l0 l1 l2 l3 zL
                  have C := Lib.hid (C.out.up J.out)
                  have X := Lib.hid (X.out.up J.out)
                  have L := Lib.hid (L.out.up J.out)
                  have V := Lib.hid (((Bt.new w9 31 (e1) (e2))).up hb)
                  clear hb
                  obtain ⟨c0, c1, c2⟩ := C.out
                  have zC := C.out.lt
                  have x0 : w10.cell? ⟨w.heap.size + 1, 0, none⟩ = some (.int .i64 x.A) := X.out.c 0 _ rfl
                  have x1 : w10.cell? ⟨w.heap.size + 1, 1, none⟩ = some (.int .i64 x.B) := X.out.c 1 _ rfl
                  have zX := X.out.lt
                  obtain ⟨l0, l1, l2, l3⟩ := L.out
                  have zL := L.out.lt
                  obtain ⟨v0, v1, v2, v3⟩ := V.out
                  have zV := V.out.lt
                  go_wp2_with fail
                  go_ret
                  exact ⟨rfl, (nextB D.out (box1 w10 _))⟩
                | false =>
                  obtain ⟨KX, KY⟩ := KN.out hv3
                  have KX := Lib.hid KX
                  have KY := Lib.hid KY
                  go_wp2_with fail
                  refine (KX.out _ D.out).mono ?_
                  rintro e w9 ⟨rfl, hb⟩
                  have J := Lib.hid (hb)
                  have D := Lib.hid (nextB D.out J.out)
                  clear c0 c1 c2 zC x0 x1 zX l0 l1 l2 l3 zL u0 u1 u2 u3 zU
                  have C := Lib.hid (C.out.up J.out)
                  have X := Lib.hid (X.out.up J.out)
                  have L := Lib.hid (L.out.up J.out)
                  clear hb
                  obtain ⟨c0, c1, c2⟩ := C.out
                  have zC := C.out.lt
                  have x0 : w9.cell? ⟨w.heap.size + 1, 0, none⟩ = some (.int .i64 x.A) := X.out.c 0 _ rfl
                  have x1 : w9.cell? ⟨w.heap.size + 1, 1, none⟩ = some (.int .i64 x.B) := X.out.c 1 _ rfl
                  have zX := X.out.lt
                  obtain ⟨l0, l1, l2, l3⟩ := L.out
                  have zL := L.out.lt
                  go_wp2_with fail
                  refine (KY.out _ (nextB D.out (box1 w9 _))).mono ?_
                  rintro e w10 ⟨rfl, hb⟩
                  have J := Lib.hid (nextB (box1 w9 _) hb)
                  have D := Lib.hid (nextB D.out J.out)
                  clear c0 c1 c2 zC x0 x1 zX l0 l1 l2 l3 zL
                  have C := Lib.hid (C.out.up J.out)
                  have X := Lib.hid (X.out.up J.out)
                  have L := Lib.hid (L.out.up J.out)
                  have V := Lib.hid (((Bt.new w9 31 (0) (0))).up hb)
                  clear hb
                  obtain ⟨c0, c1, c2⟩ := C.out
                  have zC := C.out.lt
                  have x0 : w10.cell? ⟨w.heap.size + 1, 0, none⟩ = some (.int .i64 x.A) := X.out.c 0 _ rfl
                  have x1 : w10.cell? ⟨w.heap.size + 1, 1, none⟩ = some (.int .i64 x.B) := X.out.c 1 _ rfl
                  have zX := X.out.lt
                  obtain ⟨l0, l1, l2, l3⟩ := L.out
                  have zL := L.out.lt
                  obtain ⟨v0, v1, v2, v3⟩ := V.out
                  have zV := V.out.lt
                  go_wp2_with fail
                  go_ret
                  exact ⟨rfl, (nextB D.out (box1 w10 _))⟩
              · have d1 : decide (s1 ≤ n) = false := decide_eq_false hs1
                cases hv3 : v3 with
                | true =>
                  obtain ⟨e1, e2, f1, f2, ⟨k1, k2⟩, k3, k4, KX, KY⟩ := KB.out hv3
                  have KX := Lib.hid KX
                  have KY := Lib.hid KY
                  have w9' : IntKind.i64.wrap (e1 + f1) = e1 + f1 := IntWalk.i64_in _ (by omega)
                  have w10' : IntKind.i64.wrap (e2 + f2) = e2 + f2 := IntWalk.i64_in _ (by omega)
                  have d3 : decide (e1 + f1 ≤ s1) = true := decide_eq_true k1
                  have d4 : decide (s2 ≤ e2 + f2) = true := decide_eq_true k2
                  clear k1 k2 k3 k4
                  go_wp2_with fail
                  refine (KX.out _ D.out).mono ?_
                  rintro e w9 ⟨rfl, hb⟩
                  have J := Lib.hid (hb)
                  have D := Lib.hid (nextB D.out J.out)
                  clear c0 c1 c2 zC x0 x1 zX l0 l1 l2 l3 zL u0 u1 u2 u3 zU
                  have C := Lib.hid (C.out.up J.out)
                  have X := Lib.hid (X.out.up J.out)
                  have L := Lib.hid (L.out.up J.out)
                  clear hb
                  obtain ⟨c0, c1, c2⟩ := C.out
                  have zC := C.out.lt
                  have x0 : w9.cell? ⟨w.heap.size + 1, 0, none⟩ = some (.int .i64 x.A) := X.out.c 0 _ rfl
                  have x1 : w9.cell? ⟨w.heap.size + 1, 1, none⟩ = some (.int .i64 x.B) := X.out.c 1 _ rfl
                  have zX := X.out.lt
                  obtain ⟨l0, l1, l2, l3⟩ := L.out
                  have zL := L.out.lt
                  go_wp2_with fail
                  refine (KY.out _ (nextB D.out (box1 w9 _))).mono ?_
                  rintro e w10 ⟨rfl, hb⟩
                  have J := Lib.hid (nextB (box1 w9 _) hb)
                  have D := Lib.hid (nextB D.out J.out)
                  clear c0 c1 c2 zC x0 x1 zX l0 l1 l2 l3 zL
                  have C := Lib.hid (C.out.up J.out)
                  have X := Lib.hid (X.out.up J.out)
                  have L := Lib.hid (L.out.up J.out)
                  have V := Lib.hid (((Bt.new w9 31 (e1) (e2))).up hb)
                  clear hb
                  obtain ⟨c0, c1, c2⟩ := C.out
                  have zC := C.out.lt
                  have x0 : w10.cell? ⟨w.heap.size + 1, 0, none⟩ = some (.int .i64 x.A) := X.out.c 0 _ rfl
                  have x1 : w10.cell? ⟨w.heap.size + 1, 1, none⟩ = some (.int .i64 x.B) := X.out.c 1 _ rfl
                  have zX := X.out.lt
                  obtain ⟨l0, l1, l2, l3⟩ := L.out
                  have zL := L.out.lt
                  obtain ⟨v0, v1, v2, v3⟩ := V.out
                  have zV := V.out.lt
                  go_wp2_with fail
                  go_ret
                  exact ⟨rfl, (nextB D.out (box1 w10 _))⟩
                | false =>
                  obtain ⟨KX, KY⟩ := KN.out hv3
                  have KX := Lib.hid KX
                  have KY := Lib.hid KY
                  go_wp2_with fail
                  refine (KX.out _ D.out).mono ?_
                  rintro e w9 ⟨rfl, hb⟩
                  have J := Lib.hid (hb)
                  have D := Lib.hid (nextB D.out J.out)
                  clear c0 c1 c2 zC x0 x1 zX l0 l1 l2 l3 zL u0 u1 u2 u3 zU
                  have C := Lib.hid (C.out.up J.out)
                  have X := Lib.hid (X.out.up J.out)
                  have L := Lib.hid (L.out.up J.out)
                  clear hb
                  obtain ⟨c0, c1, c2⟩ := C.out
                  have zC := C.out.lt
                  have x0 : w9.cell? ⟨w.heap.size + 1, 0, none⟩ = some (.int .i64 x.A) := X.out.c 0 _ rfl
                  have x1 : w9.cell? ⟨w.heap.size + 1, 1, none⟩ = some (.int .i64 x.B) := X.out.c 1 _ rfl
                  have zX := X.out.lt
                  obtain ⟨l0, l1, l2, l3⟩ := L.out
                  have zL := L.out.lt
                  go_wp2_with fail
                  refine (KY.out _ (nextB D.out (box1 w9 _))).mono ?_
                  rintro e w10 ⟨rfl, hb⟩
                  have J := Lib.hid (nextB (box1 w9 _) hb)
                  have D := Lib.hid (nextB D.out J.out)
                  clear c0 c1 c2 zC x0 x1 zX l0 l1 l2 l3 zL
                  have C := Lib.hid (C.out.up J.out)
                  have X := Lib.hid (X.out.up J.out)
                  have L := Lib.hid (L.out.up J.out)
                  have V := Lib.hid (((Bt.new w9 31 (0) (0))).up hb)
                  clear hb
                  obtain ⟨c0, c1, c2⟩ := C.out
                  have zC := C.out.lt
                  have x0 : w10.cell? ⟨w.heap.size + 1, 0, none⟩ = some (.int .i64 x.A) := X.out.c 0 _ rfl
                  have x1 : w10.cell? ⟨w.heap.size + 1, 1, none⟩ = some (.int .i64 x.B) := X.out.c 1 _ rfl
                  have zX := X.out.lt
                  obtain ⟨l0, l1, l2, l3⟩ := L.out
                  have zL := L.out.lt
                  obtain ⟨v0, v1, v2, v3⟩ := V.out
                  have zV := V.out.lt
                  go_wp2_with fail
                  go_ret
                  exact ⟨rfl, (nextB D.out (box1 w10 _))⟩
      · have hn1 : (E != 0) = true := by simpa using hz
        clear hz
        go_wp2_with fail
        go_ret
        exact ⟨rfl, (nextB D.out (box1 w6 _))⟩
    · have dm1 : decide (20 < c.m) = true := decide_eq_true (by omega)
      have dm2 : decide ((20 : Int) < (c.m : Int)) = true := decide_eq_true (by omega)
      clear hm20
      go_wp2_with fail
      go_ret
      exact ⟨rfl, D.out⟩
end Go.Proofs.Ytpikaohodieeaaa
