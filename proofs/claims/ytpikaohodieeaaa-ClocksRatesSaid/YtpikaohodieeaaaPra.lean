/- ClocksRates' law. -/
import Derived.Test.YtpikaohodieeaaaHas
namespace Go.Proofs.Ytpikaohodieeaaa
open Go.RowKit
set_option linter.unusedSimpArgs false
set_option linter.unusedVariables false
theorem ratP_eq {x : Int} {y : Nat} (hx : 0 ≤ x) (hy : 0 < y) : ∃ g : Int, 1 ≤ g ∧ x = (ratP x y).1 * g ∧ (y : Int) = (ratP x y).2 * g ∧ 0 ≤ (ratP x y).1 ∧ 1 ≤ (ratP x y).2 ∧ (ratP x y).1 ≤ x ∧ (ratP x y).2 ≤ y := by
  obtain ⟨n, rfl⟩ : ∃ n : Nat, x = (n : Int) := ⟨x.toNat, by omega⟩
  have h1 : Nat.gcd n y ∣ n := Nat.gcd_dvd_left _ _
  have h2 : Nat.gcd n y ∣ y := Nat.gcd_dvd_right _ _
  have h3 : 0 < Nat.gcd n y := Nat.gcd_pos_of_pos_right _ hy
  unfold ratP
  rw [Int.toNat_natCast]
  obtain ⟨g, hg⟩ : ∃ g, g = Nat.gcd n y := ⟨_, rfl⟩
  rw [← hg] at h1 h2 h3 ⊢
  clear hg
  have e1 : n / g * g = n := Nat.div_mul_cancel h1
  have e2 : y / g * g = y := Nat.div_mul_cancel h2
  have e3 : n / g ≤ n := Nat.div_le_self _ _
  have e4 : y / g ≤ y := Nat.div_le_self _ _
  have e5 : 1 ≤ y / g := Nat.div_pos (Nat.le_of_dvd hy h2) h3
  generalize n / g = p at *
  generalize y / g = r at *
  refine ⟨(g : Int), by omega, ?_, ?_, ?_, ?_, ?_, ?_⟩
  · show (n : Int) = (p : Int) * (g : Int); rw [← e1]; simp
  · show (y : Int) = (r : Int) * (g : Int); rw [← e2]; simp
  · show (0 : Int) ≤ (p : Int); omega
  · show (1 : Int) ≤ (r : Int); omega
  · show (p : Int) ≤ (n : Int); omega
  · show (r : Int) ≤ (y : Int); omega
/-- the least and the greatest gap of the first k from a on -/
def lstK (G : Nat → Int × Int) (a : Nat) : Nat → Int
  | 0 => 1099511627776
  | k + 1 => min (lstK G a k) (G (a + k)).1
def mstK (G : Nat → Int × Int) (a : Nat) : Nat → Int
  | 0 => 0
  | k + 1 => max (mstK G a k) (G (a + k)).2
theorem lst_sum {G : Nat → Int × Int} {a n : Nat} : ∀ k, a + k ≤ n → (k : Int) * lstK G a k ≤ (sumK G a k).1 ∧ (sumK G a k).2 ≤ (k : Int) * mstK G a k
  | 0, _ => by simp [sumK]
  | k + 1, hk => by
    obtain ⟨h1, h2⟩ := lst_sum (G := G) (a := a) (n := n) k (by omega)
    have e1 : (k : Int) * lstK G a (k + 1) ≤ (k : Int) * lstK G a k := Int.mul_le_mul_of_nonneg_left (by simp only [lstK]; omega) (by omega)
    have e2 : (k : Int) * mstK G a k ≤ (k : Int) * mstK G a (k + 1) := Int.mul_le_mul_of_nonneg_left (by simp only [mstK]; omega) (by omega)
    have e3 : lstK G a (k + 1) ≤ (G (a + k)).1 := by simp only [lstK]; omega
    have e4 : (G (a + k)).2 ≤ mstK G a (k + 1) := by simp only [mstK]; omega
    rw [show ((k + 1 : Nat) : Int) = (k : Int) + 1 by omega, Int.add_mul, Int.add_mul]
    simp only [sumK, addS]
    omega
theorem lst_bd {G : Nat → Int × Int} {a n : Nat} (h : ∀ i, i < n → 0 ≤ (G i).1 ∧ (G i).1 ≤ (G i).2 ∧ (G i).2 ≤ 10000) : ∀ k, a + k ≤ n → 0 ≤ lstK G a k ∧ lstK G a k ≤ 1099511627776 ∧ 0 ≤ mstK G a k ∧ mstK G a k ≤ 10000 ∧ (1 ≤ k → lstK G a k ≤ 10000)
  | 0, _ => by simp [lstK, mstK]
  | k + 1, hk => by
    obtain ⟨h1, h2, h3, h4, _⟩ := lst_bd (a := a) h k (by omega)
    have h5 := h (a + k) (by omega)
    simp only [lstK, mstK]
    omega
/-- all that the law asks of the numbers -/
theorem rates_math {d : Drm} {m : Nat} {F : Nat → Int × Int × Int} {S : Nat → Int × Int} (hd : DrOk d) (hk : MksOk d m F) (h : Ends d.n (Rdg d.n (gapF d) m F) S) {a q : Nat} (hq : 0 < q) (hb : a + q ≤ d.n) :
    ∃ s1 s2 r1 r2 t1 t2 : Int, apS (gapF d) S a (a + q) = (s1, s2) ∧ ratP s1 q = (r1, r2) ∧ ratP s2 q = (t1, t2) ∧ (sumK (gapF d) a q).1 ≤ s1 ∧ s2 ≤ (sumK (gapF d) a q).2 ∧ r1 * q = s1 * r2 ∧ t1 * q = s2 * t2 ∧ lstK (gapF d) a q * r2 ≤ r1 ∧ t1 ≤ mstK (gapF d) a q * t2 ∧
      (0 ≤ s1 ∧ s1 ≤ 2000000 ∧ 0 ≤ s2 ∧ s2 ≤ 2000000) ∧ (0 ≤ r1 ∧ r1 ≤ 2000000 ∧ 1 ≤ r2 ∧ r2 ≤ 200) ∧ (0 ≤ t1 ∧ t1 ≤ 2000000 ∧ 1 ≤ t2 ∧ t2 ≤ 200) := by
  have hG := gpOk hd
  have e0 : addedF (gapF d) a (a + q) = sumK (gapF d) a q := by unfold addedF; rw [if_pos (by omega), show a + q - a = q by omega]
  have e1 : ((apS (gapF d) S a (a + q)).1 = max (sumK (gapF d) a q).1 ((S (a + q)).1 - (S a).2)) ∧ (apS (gapF d) S a (a + q)).2 = min (sumK (gapF d) a q).2 ((S (a + q)).2 - (S a).1) := by unfold apS; rw [e0]; exact ⟨rfl, rfl⟩
  have e2 := apS_ne h (a := a) (b := a + q) (by omega) hb
  have e3 := sumK_pos hG.2.2 q hb
  have e4 := lst_sum (G := gapF d) (a := a) (n := d.n) q hb
  have e6 := h.hi.tick a (by omega)
  have e7 := h.hi.tick (a + q) (by omega)
  have e8 := h.lo.tick a (by omega)
  have e9 := h.lo.tick (a + q) (by omega)
  have en := hd.n2
  obtain ⟨⟨s1, s2⟩, hs⟩ : ∃ s, s = apS (gapF d) S a (a + q) := ⟨_, rfl⟩
  rw [← hs] at e1 e2
  simp only at e1 e2 e6 e7 e8 e9
  obtain ⟨e1a, e1b⟩ := e1
  obtain ⟨g, g1, g2, g3, g4, g5, g6, g7⟩ := ratP_eq (x := s1) (y := q) (by omega) hq
  obtain ⟨f, f1, f2, f3, f4, f5, f6, f7⟩ := ratP_eq (x := s2) (y := q) (by omega) hq
  obtain ⟨⟨r1, r2⟩, hr⟩ : ∃ s, s = ratP s1 q := ⟨_, rfl⟩
  obtain ⟨⟨t1, t2⟩, ht⟩ : ∃ s, s = ratP s2 q := ⟨_, rfl⟩
  rw [← hr] at g2 g3 g4 g5 g6 g7
  rw [← ht] at f2 f3 f4 f5 f6 f7
  simp only at g2 g3 g4 g5 g6 g7 f2 f3 f4 f5 f6 f7
  refine ⟨s1, s2, r1, r2, t1, t2, hs.symm, hr.symm, ht.symm, by omega, by omega, ?_, ?_, ?_, ?_, by omega, by omega, by omega⟩
  · rw [g3, g2, Int.mul_assoc, Int.mul_comm g r2, ← Int.mul_assoc]
  · rw [f3, f2, Int.mul_assoc, Int.mul_comm f t2, ← Int.mul_assoc]
  · have h1 : (q : Int) * lstK (gapF d) a q ≤ s1 := by omega
    rw [g3, g2, Int.mul_right_comm] at h1
    have := Int.le_of_mul_le_mul_right h1 (by omega)
    rwa [Int.mul_comm] at this
  · have h1 : s2 ≤ (q : Int) * mstK (gapF d) a q := by omega
    rw [f3, f2, Int.mul_right_comm] at h1
    have := Int.le_of_mul_le_mul_right h1 (by omega)
    rwa [Int.mul_comm t2] at this
set_option maxRecDepth 100000 in
set_option maxHeartbeats 4000000 in
theorem rates_law (c : Clo) (x : Aks) (w : World) (hc : ClIn c w.heap.size w) (hx : AkIn x w.heap.size w) :
    Calls Try.prog 16 #[c.v, x.v] w fun e w' => e = .returned (.bool true) ∧ Below w.heap.size w w' := by
  have CC : Hid (∀ W, Below w.heap.size w W → ClIn c W.heap.size W) := Lib.hid fun W h => (hc.up h (Nat.le_refl _)).more h.size
  have AA : Hid (∀ W, Below w.heap.size w W → AkIn x W.heap.size W) := Lib.hid fun W h => (hx.up h (Nat.le_refl _)).more h.size
  obtain ⟨G, hG⟩ := few_ex c
  have HG := Lib.hid hG
  clear hc hG hx
  go_enter Try.func16, Try.ntmps16
  go_wp2_with fail
  refine (awake_any _).mono ?_
  rintro e w2 ⟨rfl, hb⟩
  have D := Lib.hid (nextB (w2b_below c x w) hb)
  have C : Hid (HasCl c w.heap.size w2) := Lib.hid ((w2b_cl c x w).up hb)
  have X : Hid (HasAk x (w.heap.size + 1) w2) := Lib.hid ((w2b_ak c x w).up hb)
  clear hb
  obtain ⟨c0, c1, c2⟩ := C.out
  have zC := C.out.lt
  have x0 : w2.cell? ⟨w.heap.size + 1, 0, none⟩ = some (.int .i64 x.A) := X.out.c 0 _ rfl
  have x1 : w2.cell? ⟨w.heap.size + 1, 1, none⟩ = some (.int .i64 x.B) := X.out.c 1 _ rfl
  have zX := X.out.lt
  go_wp2_with fail
  refine (few_any c G _ HG.out).mono ?_
  rintro e w3 ⟨rfl, hb⟩
  have J := Lib.hid (hb)
  have D := Lib.hid (nextB D.out J.out)
  clear c0 c1 c2 zC x0 x1 zX
  have C := Lib.hid (C.out.up J.out)
  have X := Lib.hid (X.out.up J.out)
  clear hb
  obtain ⟨c0, c1, c2⟩ := C.out
  have zC := C.out.lt
  have x0 : w3.cell? ⟨w.heap.size + 1, 0, none⟩ = some (.int .i64 x.A) := X.out.c 0 _ rfl
  have x1 : w3.cell? ⟨w.heap.size + 1, 1, none⟩ = some (.int .i64 x.B) := X.out.c 1 _ rfl
  have zX := X.out.lt
  cases G with
  | false =>
    go_wp2_with fail
    go_ret
    exact ⟨rfl, D.out⟩
  | true =>
    clear HG
    obtain ⟨vd1, hv1⟩ := bool_of (((0 ≤ x.A ∧ x.A ≤ c.d.n) ∧ 0 ≤ x.B ∧ x.B ≤ c.d.n) ∧ x.A < x.B)
    obtain ⟨E1, S, hE⟩ := rdR_ex c.d c.m c.F vd1
    by_cases hz : E1 = 0
    · clear c0 c1 c2 zC x0 x1 zX
      subst hz
      obtain ⟨rfl, hd, hk, he⟩ := rdR_0 hE
      obtain ⟨⟨⟨hA0, hA1⟩, hB0, hB1⟩, hAB⟩ := hv1.1 rfl
      obtain ⟨a, ha⟩ : ∃ a : Nat, x.A = (a : Int) := ⟨x.A.toNat, by omega⟩
      obtain ⟨q, hq⟩ : ∃ q : Nat, x.B = (a : Int) + (q : Int) := ⟨(x.B - x.A).toNat, by omega⟩
      have hq0 : 0 < q := by omega
      have hqn : a + q ≤ c.d.n := by omega
      have hn2 := hd.n2
      obtain ⟨s1, s2, r1, r2, t1, t2, m1, m2, m3, m4, m5, m6, m7, m8, m9, m10, m11, m12⟩ := rates_math hd hk he hq0 hqn
      have hlst := lst_bd (gpOk hd).2.2 (a := a) (n := c.d.n)
      have HLST := Lib.hid hlst
      have HA := Lib.hid ha
      have HB := Lib.hid hq
      have eA : x.A.toNat = a := by omega
      have eB : x.B.toNat = a + q := by omega
      have eBA : (x.B - x.A).toNat = q := by omega
      have K1 : Hid (∀ W, Below w.heap.size w W → Calls Try.prog 52 #[c.d.v, .slice c.MA c.m c.mc, .int .i64 (a : Int), .int .i64 ((a : Int) + (q : Int))] W fun e w' => e = .returned (.tuple #[.agg #[.int .i64 r1, .int .i64 r2], .agg #[.int .i64 t1, .int .i64 t2], .int .i64 0]) ∧ Below W.heap.size W w') := Lib.hid fun W h => by
        have k := Drift_any c.d c.MA c.m c.mc c.F x.A x.B true 0 S W (CC.out W h).1 (CC.out W h).2 hv1 hE
        rw [if_pos rfl, if_pos rfl, eA, eB, eBA, m1, m2, m3, ha, hq] at k
        exact k
      have K2 : Hid (∀ W, Below w.heap.size w W → Calls Try.prog 46 #[c.d.v, .slice c.MA c.m c.mc, .int .i64 (a : Int), .int .i64 ((a : Int) + (q : Int))] W fun e w' => e = .returned (.tuple #[.agg #[.int .i64 s1, .int .i64 s2], .int .i64 0]) ∧ Below W.heap.size W w') := Lib.hid fun W h => by
        have k := Between_any c.d c.MA c.m c.mc c.F x.A x.B true 0 S W (CC.out W h).1 (CC.out W h).2 ⟨fun _ => (hv1.1 rfl).1, fun _ => rfl⟩ hE
        rw [if_pos rfl, eA, eB, m1, ha, hq] at k
        exact k
      have K3 : Hid (∀ k, k < q → ∀ W, Below w.heap.size w W → Calls Try.prog 23 #[c.d.v, .int .i64 ((a : Int) + (k : Int))] W fun e w' => e = .returned (.tuple #[.agg #[.int .i64 (gapF c.d (a + k)).1, .int .i64 (gapF c.d (a + k)).2], .int .i64 0]) ∧ Below W.heap.size W w') := Lib.hid fun k hk W h =>
        Gap_any c.d ((a : Int) + (k : Int)) (gapF c.d (a + k)) 0 W (CC.out W h).1 (.inr (.inr ⟨rfl, hd, by omega, by omega, by rw [show ((a : Int) + (k : Int)).toNat = a + k by omega]⟩))
      have HGB : Hid (∀ k, k < q → 0 ≤ (gapF c.d (a + k)).1 ∧ (gapF c.d (a + k)).1 ≤ (gapF c.d (a + k)).2 ∧ (gapF c.d (a + k)).2 ≤ 10000) := Lib.hid fun k hk => (gpOk hd).2.2 (a + k) (by omega)
      have HSB : Hid (∀ k, k ≤ q → -200000000 ≤ (sumK (gapF c.d) a k).1 ∧ (sumK (gapF c.d) a k).1 ≤ 200000000 ∧ -200000000 ≤ (sumK (gapF c.d) a k).2 ∧ (sumK (gapF c.d) a k).2 ≤ 200000000) := Lib.hid fun k hk => by
        have h := sumK_bd (S := gapF c.d) (a := a) (n := c.d.n) (fun i hi => by have := (gpOk hd).2.2 i hi; unfold Bd; omega) k (by omega)
        unfold Bd at h
        have : (k : Int) ≤ 200 := by omega
        omega
      have HM := Lib.hid (And.intro m4 (And.intro m5 (And.intro m6 (And.intro m7 (And.intro m8 (And.intro m9 (And.intro m10 (And.intro m11 m12))))))))
      have HN : Hid (a + q ≤ 200 ∧ 0 < q ∧ a + q ≤ c.d.n) := Lib.hid ⟨by omega, hq0, hqn⟩
      clear hv1 hE hd hk he hA0 hA1 hB0 hB1 hAB ha hq hq0 hqn hn2 m1 m2 m3 m4 m5 m6 m7 m8 m9 m10 m11 m12 hlst eA eB eBA CC AA
      obtain ⟨c0, c1, c2⟩ := C.out
      have zC := C.out.lt
      have x0 : w3.cell? ⟨w.heap.size + 1, 0, none⟩ = some (.int .i64 (a : Int)) := by have h : w3.cell? ⟨w.heap.size + 1, 0, none⟩ = some (.int .i64 x.A) := X.out.c 0 _ rfl; rw [HA.out] at h; exact h
      have x1 : w3.cell? ⟨w.heap.size + 1, 1, none⟩ = some (.int .i64 ((a : Int) + (q : Int))) := by have h : w3.cell? ⟨w.heap.size + 1, 1, none⟩ = some (.int .i64 x.B) := X.out.c 1 _ rfl; rw [HB.out] at h; exact h
      have zX := X.out.lt
      go_wp2_with fail
      refine (K1.out _ D.out).mono ?_
      rintro e w4 ⟨rfl, hb⟩
      have J := Lib.hid (hb)
      have D := Lib.hid (nextB D.out J.out)
      clear c0 c1 c2 zC x0 x1 zX
      have C := Lib.hid (C.out.up J.out)
      have X := Lib.hid (X.out.up J.out)
      clear hb
      obtain ⟨c0, c1, c2⟩ := C.out
      have zC := C.out.lt
      have x0 : w4.cell? ⟨w.heap.size + 1, 0, none⟩ = some (.int .i64 (a : Int)) := by have h : w4.cell? ⟨w.heap.size + 1, 0, none⟩ = some (.int .i64 x.A) := X.out.c 0 _ rfl; rw [HA.out] at h; exact h
      have x1 : w4.cell? ⟨w.heap.size + 1, 1, none⟩ = some (.int .i64 ((a : Int) + (q : Int))) := by have h : w4.cell? ⟨w.heap.size + 1, 1, none⟩ = some (.int .i64 x.B) := X.out.c 1 _ rfl; rw [HB.out] at h; exact h
      have zX := X.out.lt
      go_wp2_with fail
      refine (K2.out _ (nextB D.out (box2 w4 _ _))).mono ?_
      rintro e w5 ⟨rfl, hb⟩
      have J := Lib.hid (nextB (box2 w4 _ _) hb)
      have D := Lib.hid (nextB D.out J.out)
      clear c0 c1 c2 zC x0 x1 zX
      have C := Lib.hid (C.out.up J.out)
      have X := Lib.hid (X.out.up J.out)
      have L := Lib.hid (((Bt.new w4 63 (r1) (r2)).up (box1 _ _)).up hb)
      have T := Lib.hid (((Bt.new (w4.alloc (.cells #[.int .i64 (r1), .int .i64 (r2)] 63)) 63 (t1) (t2))).up hb)
      simp only [World.size_alloc] at T
      clear hb
      obtain ⟨c0, c1, c2⟩ := C.out
      have zC := C.out.lt
      have x0 : w5.cell? ⟨w.heap.size + 1, 0, none⟩ = some (.int .i64 (a : Int)) := by have h : w5.cell? ⟨w.heap.size + 1, 0, none⟩ = some (.int .i64 x.A) := X.out.c 0 _ rfl; rw [HA.out] at h; exact h
      have x1 : w5.cell? ⟨w.heap.size + 1, 1, none⟩ = some (.int .i64 ((a : Int) + (q : Int))) := by have h : w5.cell? ⟨w.heap.size + 1, 1, none⟩ = some (.int .i64 x.B) := X.out.c 1 _ rfl; rw [HB.out] at h; exact h
      have zX := X.out.lt
      obtain ⟨l0, l1, l2, l3⟩ := L.out
      have zL := L.out.lt
      obtain ⟨t0, t1, t2, t3⟩ := T.out
      have zT := T.out.lt
      have HZ : Hid (w.heap.size < w5.heap.size ∧ w.heap.size + 1 < w5.heap.size ∧ w4.heap.size < w5.heap.size ∧ w4.heap.size + 1 < w5.heap.size) := Lib.hid ⟨zC, zX, zL, zT⟩
      go_wp2_with fail
      obtain ⟨w6, hw6⟩ : ∃ w6 : World, w6 = (w5.alloc (.cells #[.int .i64 s1, .int .i64 s2] 31)).alloc (.cells #[.int .i64 0, .int .i64 0] 31) := ⟨_, rfl⟩
      have hb6 : Below w5.heap.size w5 w6 := by rw [hw6]; exact box2 _ _ _
      have R : Hid (Bt w5.heap.size s1 s2 w6) := Lib.hid (by rw [hw6]; exact (Bt.new _ _ _ _).up (box1 _ _))
      have U : Hid (Bt (w5.heap.size + 1) 0 0 w6) := Lib.hid (by rw [hw6]; have h := Bt.new (w5.alloc (.cells #[.int .i64 s1, .int .i64 s2] 31)) 31 0 0; rwa [World.size_alloc] at h)
      rw [← hw6]
      clear hw6
      have D := Lib.hid (nextB D.out hb6)
      clear c0 c1 c2 zC x0 x1 zX l0 l1 l2 l3 zL t0 t1 t2 t3 zT
      have C := Lib.hid (C.out.up hb6)
      have X := Lib.hid (X.out.up hb6)
      have L := Lib.hid (L.out.up hb6)
      have T := Lib.hid (T.out.up hb6)
      obtain ⟨bs, hbs⟩ : ∃ bs : Nat, bs = w5.heap.size + 1 := ⟨_, rfl⟩
      have hl6 : w5.heap.size + 1 < w6.heap.size := U.out.lt
      rw [← hbs] at U hl6 ⊢
      have HBS := Lib.hid hbs
      have HL6 := Lib.hid hl6
      clear hbs hl6 hb6
      go_loopw [12, 13, 14, 15, 16] (fun least most i g h wr => ∃ k : Nat, k ≤ q ∧ least = .int .i64 (lstK (gapF c.d) a k) ∧ most = .int .i64 (mstK (gapF c.d) a k) ∧ i = .int .i64 ((a : Int) + (k : Int)) ∧ Bt bs (sumK (gapF c.d) a k).1 (sumK (gapF c.d) a k).2 wr ∧ Below bs w6 wr) (fun _ _ i _ _ _ => a + q - (intOf i).toNat)
      case atStart => exact ⟨0, Nat.zero_le _, rfl, rfl, by simp, U.out, Below.refl _ _⟩
      case round =>
        obtain ⟨k, hk, rfl, rfl, rfl, hU, hb7⟩ := hrel
        obtain ⟨w7, rfl⟩ : ∃ w7 : World, w7 = wr := ⟨_, rfl⟩
        have V := Lib.hid hU
        have hz := HZ.out
        have hbs := HBS.out
        have D6 := D
        have D : Hid (Below w.heap.size w w7) := Lib.hid (D.out.trans (hb7.mono (by omega)))
        have HB7 := Lib.hid hb7
        have C := Lib.hid (C.out.low hb7 (by omega))
        have X := Lib.hid (X.out.low hb7 (by omega))
        have L := Lib.hid (bt_low L.out hb7 (by omega))
        have T := Lib.hid (bt_low T.out hb7 (by omega))
        have R := Lib.hid (bt_low R.out hb7 (by omega))
        clear hz hbs hU hb7
        by_cases hlt : k < q
        · have hki : ((a : Int) + (k : Int)) < ((a : Int) + (q : Int)) := by omega
          have K3 := Lib.hid (K3.out k hlt)
          have hgb := HGB.out k hlt
          have hsb := HSB.out k hk
          have eL : lstK (gapF c.d) a (k + 1) = min (lstK (gapF c.d) a k) (gapF c.d (a + k)).1 := rfl
          have eM : mstK (gapF c.d) a (k + 1) = max (mstK (gapF c.d) a k) (gapF c.d (a + k)).2 := rfl
          have eS : sumK (gapF c.d) a (k + 1) = ((sumK (gapF c.d) a k).1 + (gapF c.d (a + k)).1, (sumK (gapF c.d) a k).2 + (gapF c.d (a + k)).2) := rfl
          have hq200 := HN.out.1
          have wi : IntKind.i64.wrap ((a : Int) + (k : Int) + 1) = (a : Int) + (k : Int) + 1 := IntWalk.i64_in _ (by omega)
          generalize (gapF c.d (a + k)).1 = g1 at *
          generalize (gapF c.d (a + k)).2 = g2 at *
          generalize (sumK (gapF c.d) a k).1 = p1 at *
          generalize (sumK (gapF c.d) a k).2 = p2 at *
          have u1 : IntKind.i64.wrap (p1 + g1) = p1 + g1 := IntWalk.i64_in _ (by omega)
          have u2 : IntKind.i64.wrap (p2 + g2) = p2 + g2 := IntWalk.i64_in _ (by omega)
          have EL := Lib.hid eL
          have EM := Lib.hid eM
          have ES := Lib.hid eS
          clear eL eM eS hgb hsb hq200
          obtain ⟨c0, c1, c2⟩ := C.out
          have zC := C.out.lt
          have x1 : w7.cell? ⟨w.heap.size + 1, 1, none⟩ = some (.int .i64 ((a : Int) + (q : Int))) := by have h : w7.cell? ⟨w.heap.size + 1, 1, none⟩ = some (.int .i64 x.B) := X.out.c 1 _ rfl; rw [HB.out] at h; exact h
          have zX := X.out.lt
          obtain ⟨v0, v1, v2, v3⟩ := V.out
          have zV := V.out.lt
          go_wp2_with fail
          refine (K3.out _ D.out).mono ?_
          rintro e w8 ⟨rfl, hb⟩
          have J := Lib.hid (hb)
          have D := Lib.hid (nextB D.out J.out)
          clear c0 c1 c2 zC x1 zX v0 v1 v2 v3 zV
          have C := Lib.hid (C.out.up J.out)
          have X := Lib.hid (X.out.up J.out)
          have V := Lib.hid (V.out.up J.out)
          clear hb
          obtain ⟨c0, c1, c2⟩ := C.out
          have zC := C.out.lt
          have x1 : w8.cell? ⟨w.heap.size + 1, 1, none⟩ = some (.int .i64 ((a : Int) + (q : Int))) := by have h : w8.cell? ⟨w.heap.size + 1, 1, none⟩ = some (.int .i64 x.B) := X.out.c 1 _ rfl; rw [HB.out] at h; exact h
          have zX := X.out.lt
          obtain ⟨v0, v1, v2, v3⟩ := V.out
          have zV := V.out.lt
          have hst := (V.out.store (p1 + g1) (p2 + g2)).up (box1 _ (.cells #[.int .i64 g1, .int .i64 g2] 31))
          have hfb : Below bs w6 (((w8.setCell ⟨bs, 0, none⟩ (.int .i64 (p1 + g1))).setCell ⟨bs, 1, none⟩ (.int .i64 (p2 + g2))).alloc (.cells #[.int .i64 g1, .int .i64 g2] 31)) := (set1 (set1 (HB7.out.trans (J.out.mono (by have := (HB7.out.size); have := HL6.out; omega))) (Nat.le_refl _) _ _) (Nat.le_refl _) _ _).alloc (by simp only [World.size_setCell]; omega) _
          have HST := Lib.hid hst
          have HFB := Lib.hid hfb
          clear hst hfb
          go_wp2_with fail
          go_roundw
          case rel => exact ⟨k + 1, by omega, by rw [EL.out], by rw [EM.out], by rw [show (a : Int) + ((k + 1 : Nat) : Int) = (a : Int) + (k : Int) + 1 by omega], by rw [ES.out]; exact HST.out, HFB.out⟩
          case measure => simp [intOf]; omega
        · obtain rfl : q = k := by omega
          have hm := HM.out
          have hls := HLST.out q (by have := HN.out; omega)
          have hk1 := HN.out
          obtain ⟨m4, m5, m6, m7, m8, m9, m10, m11, m12⟩ := hm
          have wn : IntKind.i64.wrap (((a : Int) + (q : Int)) - (a : Int)) = (q : Int) := by rw [show (((a : Int) + (q : Int)) - (a : Int)) = (q : Int) by omega]; exact IntWalk.i64_in _ (by omega)
          have q1 : 0 ≤ r1 * (q : Int) := Int.mul_nonneg (by omega) (by omega)
          have q2 : r1 * (q : Int) ≤ 2000000 * 200 := Int.mul_le_mul (by omega) (by omega) (by omega) (by omega)
          have q3 : 0 ≤ t1 * (q : Int) := Int.mul_nonneg (by omega) (by omega)
          have q4 : t1 * (q : Int) ≤ 2000000 * 200 := Int.mul_le_mul (by omega) (by omega) (by omega) (by omega)
          have q5 : 0 ≤ lstK (gapF c.d) a q * r2 := Int.mul_nonneg (by omega) (by omega)
          have q7 : 0 ≤ mstK (gapF c.d) a q * t2 := Int.mul_nonneg (by omega) (by omega)
          have q8 : mstK (gapF c.d) a q * t2 ≤ 10000 * 200 := Int.mul_le_mul (by omega) (by omega) (by omega) (by omega)
          generalize sumK (gapF c.d) a q = sm at *
          generalize lstK (gapF c.d) a q = ls at *
          generalize mstK (gapF c.d) a q = ms at *
          obtain ⟨p1, p2⟩ := sm
          simp only at m4 m5 V
          have d1 : decide (s1 < p1) = false := decide_eq_false (by omega)
          have d2 : decide (p2 < s2) = false := decide_eq_false (by omega)
          have w1' : IntKind.i64.wrap (r1 * (q : Int)) = s1 * r2 := by rw [← m6]; exact IntWalk.i64_in _ (by omega)
          have w2' : IntKind.i64.wrap (s1 * r2) = s1 * r2 := by rw [← m6]; exact IntWalk.i64_in _ (by omega)
          have w3' : IntKind.i64.wrap (t1 * (q : Int)) = s2 * t2 := by rw [← m7]; exact IntWalk.i64_in _ (by omega)
          have w4' : IntKind.i64.wrap (s2 * t2) = s2 * t2 := by rw [← m7]; exact IntWalk.i64_in _ (by omega)
          have w5' : IntKind.i64.wrap (ls * r2) = ls * r2 := IntWalk.i64_in _ (by omega)
          have w6' : IntKind.i64.wrap (ms * t2) = ms * t2 := IntWalk.i64_in _ (by omega)
          have d3 : decide (ls * r2 ≤ r1) = true := decide_eq_true m8
          have d4 : decide (t1 ≤ ms * t2) = true := decide_eq_true m9
          have hnl : ¬ ((a : Int) + (q : Int)) < ((a : Int) + (q : Int)) := by omega
          clear m4 m5 m6 m7 m8 m9 m10 m11 m12 q1 q2 q3 q4 q5 q7 q8 hls hk1 hlt hnl
          have V : Hid (Bt bs p1 p2 w7) := V
          obtain ⟨c0, c1, c2⟩ := C.out
          have zC := C.out.lt
          have x0 : w7.cell? ⟨w.heap.size + 1, 0, none⟩ = some (.int .i64 (a : Int)) := by have h : w7.cell? ⟨w.heap.size + 1, 0, none⟩ = some (.int .i64 x.A) := X.out.c 0 _ rfl; rw [HA.out] at h; exact h
          have x1 : w7.cell? ⟨w.heap.size + 1, 1, none⟩ = some (.int .i64 ((a : Int) + (q : Int))) := by have h : w7.cell? ⟨w.heap.size + 1, 1, none⟩ = some (.int .i64 x.B) := X.out.c 1 _ rfl; rw [HB.out] at h; exact h
          have zX := X.out.lt
          obtain ⟨v0, v1, v2, v3⟩ := V.out
          have zV := V.out.lt
          obtain ⟨l0, l1, l2, l3⟩ := L.out
          have zL := L.out.lt
          obtain ⟨t0, t1, t2, t3⟩ := T.out
          have zT := T.out.lt
          obtain ⟨r0, r1, r2, r3⟩ := R.out
          have zR := R.out.lt
          go_wp2_with fail
          go_ret
          exact ⟨rfl, D.out⟩
    · clear c0 c1 c2 zC x0 x1 zX
      have hn1 : (E1 != 0) = true := by simpa using hz
      obtain ⟨vd2, hv2⟩ := bool_of ((0 ≤ x.A ∧ x.A ≤ c.d.n) ∧ 0 ≤ x.B ∧ x.B ≤ c.d.n)
      obtain ⟨E2, S2, hE2⟩ := rdR_ex c.d c.m c.F vd2
      obtain ⟨⟨s1, s2⟩, hs⟩ : ∃ s : Int × Int, s = if E2 = 0 then apS (gapF c.d) S2 x.A.toNat x.B.toNat else (0, 0) := ⟨_, rfl⟩
      have K1 : Hid (∀ W, Below w.heap.size w W → Calls Try.prog 52 #[c.d.v, .slice c.MA c.m c.mc, .int .i64 x.A, .int .i64 x.B] W fun e w' => e = .returned (.tuple #[.agg #[.int .i64 0, .int .i64 0], .agg #[.int .i64 0, .int .i64 0], .int .i64 E1]) ∧ Below W.heap.size W w') := Lib.hid fun W h => by
        have k := Drift_any c.d c.MA c.m c.mc c.F x.A x.B vd1 E1 S W (CC.out W h).1 (CC.out W h).2 hv1 hE
        rw [if_neg hz, if_neg hz] at k
        exact k
      have K2 : Hid (∀ W, Below w.heap.size w W → Calls Try.prog 46 #[c.d.v, .slice c.MA c.m c.mc, .int .i64 x.A, .int .i64 x.B] W fun e w' => e = .returned (.tuple #[.agg #[.int .i64 s1, .int .i64 s2], .int .i64 E2]) ∧ Below W.heap.size W w') := Lib.hid fun W h => by
        have k := Between_any c.d c.MA c.m c.mc c.F x.A x.B vd2 E2 S2 W (CC.out W h).1 (CC.out W h).2 hv2 hE2
        rw [← hs] at k
        exact k
      clear hv1 hE hv2 hE2 hs CC AA hz
      obtain ⟨c0, c1, c2⟩ := C.out
      have zC := C.out.lt
      have x0 : w3.cell? ⟨w.heap.size + 1, 0, none⟩ = some (.int .i64 x.A) := X.out.c 0 _ rfl
      have x1 : w3.cell? ⟨w.heap.size + 1, 1, none⟩ = some (.int .i64 x.B) := X.out.c 1 _ rfl
      have zX := X.out.lt
      go_wp2_with fail
      refine (K1.out _ D.out).mono ?_
      rintro e w4 ⟨rfl, hb⟩
      have J := Lib.hid (hb)
      have D := Lib.hid (nextB D.out J.out)
      clear c0 c1 c2 zC x0 x1 zX
      have C := Lib.hid (C.out.up J.out)
      have X := Lib.hid (X.out.up J.out)
      clear hb
      obtain ⟨c0, c1, c2⟩ := C.out
      have zC := C.out.lt
      have x0 : w4.cell? ⟨w.heap.size + 1, 0, none⟩ = some (.int .i64 x.A) := X.out.c 0 _ rfl
      have x1 : w4.cell? ⟨w.heap.size + 1, 1, none⟩ = some (.int .i64 x.B) := X.out.c 1 _ rfl
      have zX := X.out.lt
      go_wp2_with fail
      refine (K2.out _ (nextB D.out (box2 w4 _ _))).mono ?_
      rintro e w5 ⟨rfl, hb⟩
      have J := Lib.hid (nextB (box2 w4 _ _) hb)
      have D := Lib.hid (nextB D.out J.out)
      clear c0 c1 c2 zC x0 x1 zX
      have C := Lib.hid (C.out.up J.out)
      have X := Lib.hid (X.out.up J.out)
      have L := Lib.hid (((Bt.new w4 63 (0) (0)).up (box1 _ _)).up hb)
      have T := Lib.hid (((Bt.new (w4.alloc (.cells #[.int .i64 (0), .int .i64 (0)] 63)) 63 (0) (0))).up hb)
      simp only [World.size_alloc] at T
      clear hb
      obtain ⟨c0, c1, c2⟩ := C.out
      have zC := C.out.lt
      have x0 : w5.cell? ⟨w.heap.size + 1, 0, none⟩ = some (.int .i64 x.A) := X.out.c 0 _ rfl
      have x1 : w5.cell? ⟨w.heap.size + 1, 1, none⟩ = some (.int .i64 x.B) := X.out.c 1 _ rfl
      have zX := X.out.lt
      obtain ⟨l0, l1, l2, l3⟩ := L.out
      have zL := L.out.lt
      obtain ⟨t0, t1, t2, t3⟩ := T.out
      have zT := T.out.lt
      go_wp2_with fail
      go_ret
      exact ⟨rfl, (nextB D.out (box1 w5 _))⟩
end Go.Proofs.Ytpikaohodieeaaa
