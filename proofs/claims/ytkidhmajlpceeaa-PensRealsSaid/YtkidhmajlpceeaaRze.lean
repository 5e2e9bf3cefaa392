/- Zeros, of both. -/
import Derived.Test.YtkidhmajlpceeaaSwg
import Derived.Test.YtkidhmajlpceeaaRf2
namespace Go.Proofs.Ytkidhmajlpceeaa
open Go.RowKit
def zerR (p : Pn) (x lo hi E : Int) : Prop :=
  (¬ p.Ok ∧ E = 30) ∨ p.Ok ∧ ((¬ (Lev x ∧ Lev lo ∧ Lev hi) ∧ E = 1) ∨ (Lev x ∧ Lev lo ∧ Lev hi) ∧ ((min p.hi (hi - x) < max p.lo (lo - x) ∧ E = 3) ∨ max p.lo (lo - x) ≤ min p.hi (hi - x) ∧ E = 0))
theorem zerR_ex (p : Pn) (x lo hi : Int) : ∃ E, zerR p x lo hi E := by
  by_cases h : p.Ok
  · by_cases h2 : Lev x ∧ Lev lo ∧ Lev hi
    · by_cases h3 : min p.hi (hi - x) < max p.lo (lo - x)
      · exact ⟨3, .inr ⟨h, .inr ⟨h2, .inl ⟨h3, rfl⟩⟩⟩⟩
      · exact ⟨0, .inr ⟨h, .inr ⟨h2, .inr ⟨by omega, rfl⟩⟩⟩⟩
    · exact ⟨1, .inr ⟨h, .inl ⟨h2, rfl⟩⟩⟩
  · exact ⟨30, .inl ⟨h, rfl⟩⟩
def zerL (p : Pn) (x lo E : Int) : Int := if E = 0 then max p.lo (lo - x) else 0
def zerH (p : Pn) (x hi E : Int) : Int := if E = 0 then min p.hi (hi - x) else 0
theorem bt3 (w : World) (p : Pn) (lo hi : Int) : HasPn p w.heap.size (((w.alloc (penO p)).alloc (.cells #[.int .i64 lo, .int .i64 hi] 23)).alloc (.cells #[.int .i64 0, .int .i64 0] 23)) ∧ Bt (w.heap.size + 1) lo hi (((w.alloc (penO p)).alloc (.cells #[.int .i64 lo, .int .i64 hi] 23)).alloc (.cells #[.int .i64 0, .int .i64 0] 23)) ∧ Bt (w.heap.size + 1 + 1) 0 0 (((w.alloc (penO p)).alloc (.cells #[.int .i64 lo, .int .i64 hi] 23)).alloc (.cells #[.int .i64 0, .int .i64 0] 23)) := by
  have h3 := Bt.new ((w.alloc (penO p)).alloc (.cells #[.int .i64 lo, .int .i64 hi] 23)) 23 0 0
  have h2 := (Bt.new (w.alloc (penO p)) 23 lo hi).up (box1 _ (.cells #[.int .i64 0, .int .i64 0] 23))
  have h1 := ((pn_new w p.b p.lo p.hi p.r).up (box1 _ (.cells #[.int .i64 lo, .int .i64 hi] 23)) (by simp)).up (box1 _ (.cells #[.int .i64 0, .int .i64 0] 23)) (by simp; omega)
  simp only [World.size_alloc] at h2 h3
  exact ⟨h1, h2, h3⟩
/-- the error that is found ahead, and what follows -/
theorem zer_err {p : Pn} {x lo hi E : Int} (h : zerR p x lo hi E) : ∃ F : Int, ((¬ p.Ok ∧ F = 30) ∨ p.Ok ∧ ((¬ (Lev x ∧ Lev lo ∧ Lev hi) ∧ F = 1) ∨ (Lev x ∧ Lev lo ∧ Lev hi) ∧ F = 0)) ∧
    ((F = 0 ∧ -200 ≤ p.lo ∧ p.hi ≤ 200 ∧ Lev x ∧ Lev lo ∧ Lev hi ∧ ((min p.hi (hi - x) < max p.lo (lo - x) ∧ E = 3) ∨ max p.lo (lo - x) ≤ min p.hi (hi - x) ∧ E = 0)) ∨ F ≠ 0 ∧ E = F ∧ E ≠ 0) := by
  rcases h with ⟨h, rfl⟩ | ⟨h, ⟨h2, rfl⟩ | ⟨h2, h3⟩⟩
  · exact ⟨30, .inl ⟨h, rfl⟩, .inr ⟨by decide, rfl, by decide⟩⟩
  · exact ⟨1, .inr ⟨h, .inl ⟨h2, rfl⟩⟩, .inr ⟨by decide, rfl, by decide⟩⟩
  · exact ⟨0, .inr ⟨h, .inr ⟨h2, rfl⟩⟩, .inl ⟨rfl, h.lo.1, h.hi.2, h2.1, h2.2.1, h2.2.2, h3⟩⟩
set_option maxRecDepth 100000 in
set_option maxHeartbeats 2000000 in
theorem Zeros_any (p : Pn) (x lo hi E : Int) (w : World) (hE : zerR p x lo hi E) :
    Calls Try.prog 44 #[p.v, .int .i64 x, .agg #[.int .i64 lo, .int .i64 hi]] w fun e w' => e = .returned (.tuple #[.agg #[.int .i64 (zerL p x lo E), .int .i64 (zerH p x hi E)], .int .i64 E]) ∧ Below w.heap.size w w' := by
  obtain ⟨F, hF, hz⟩ := zer_err hE
  have KC : Hid (∀ W N, N = W.heap.size → Calls Try.prog 65 #[p.v, litV N 3] (litB W [x, lo, hi]) fun e w' => e = .returned (.int .i64 F) ∧ Below W.heap.size W w') := Lib.hid (by
    rintro W N rfl
    have hl := lit_ints W [x, lo, hi] (by simp)
    have nx : ∀ {w' : World}, Below (litB W [x, lo, hi]).heap.size (litB W [x, lo, hi]) w' → Below W.heap.size W w' := fun h => nextB (box1 W _) h
    rcases hF with ⟨h, rfl⟩ | ⟨h, ⟨h2, rfl⟩ | ⟨h2, rfl⟩⟩
    · exact (check_bad p _ 3 3 _ h).mono fun _ _ ⟨he, hb⟩ => ⟨he, nx hb⟩
    · exact (check_arg p _ 3 3 _ _ hl h (fun h3 => h2 ((lvs_three x lo hi).1 h3))).mono fun _ _ ⟨he, hb⟩ => ⟨he, nx hb⟩
    · exact (check_ok p _ 3 3 _ _ hl h ((lvs_three x lo hi).2 h2)).mono fun _ _ ⟨he, hb⟩ => ⟨he, nx hb⟩)
  obtain ⟨b1, b2, b3⟩ := bt3 w p lo hi
  have B1 := Lib.hid b1
  have B2 := Lib.hid b2
  have B3 := Lib.hid b3
  generalize hS : zerL p x lo E = S at *
  generalize hX : zerH p x hi E = X at *
  have HS := Lib.hid hS
  have HX := Lib.hid hX
  clear hE hF b1 b2 b3 hS hX
  go_enter Try.func44, Try.ntmps44
  go_wp2_with fail
  refine (KC.out _ _ (by first | rfl | simp)).mono ?_
  rintro e w1 ⟨rfl, hb⟩
  have C1 := Lib.hid (nextB (box3 w _ _ _) hb)
  have p1 := B1.out.up hb (by simp; omega)
  have q1 := B2.out.up hb
  have r1 := B3.out.up hb
  have z1 := r1.lt
  have R1 := Lib.hid r1
  obtain ⟨x0, x1, x2, x3⟩ := p1
  obtain ⟨y0, y1, _, _⟩ := q1
  obtain ⟨a0, a1, f0, f1⟩ := r1
  clear hb KC B1 B2 B3
  rcases hz with ⟨rfl, g1, g2, l1, l2, l3, hz⟩ | ⟨h0, rfl, hE0⟩
  · have v1 : IntKind.i64.wrap (lo - x) = lo - x := IntWalk.i64_in _ (by unfold Lev at l1 l2; omega)
    have v2 : IntKind.i64.wrap (hi - x) = hi - x := IntWalk.i64_in _ (by unfold Lev at l1 l3; omega)
    have HZ := Lib.hid hz
    clear g1 g2 l1 l2 l3 hz
    rcases HZ.out with ⟨h1, rfl⟩ | ⟨h1, rfl⟩
    · have u1 : decide (min p.hi (hi - x) < max p.lo (lo - x)) = true := decide_eq_true h1
      obtain rfl : S = 0 := HS.out.symm
      obtain rfl : X = 0 := HX.out.symm
      have R2 := (R1.out.store 0 0).up (box1 _ (.cells #[.int .i64 (max p.lo (lo - x)), .int .i64 (min p.hi (hi - x))] 23))
      have g0 := R2.c0
      have g1 := R2.c1
      clear HZ h1
      generalize hmx : max p.lo (lo - x) = mx at *
      generalize hmn : min p.hi (hi - x) = mn at *
      go_wp2_with fail
      exact bodyPost_ret (v := .tuple #[.agg #[.int .i64 0, .int .i64 0], .int .i64 3]) (by simp [results, Try.results44, go_sem, g0, g1]) rfl ⟨rfl, nextB (set1 (set1 C1.out (by omega) _ _) (by omega) _ _) (box1 _ _)⟩
    · have u1 : decide (min p.hi (hi - x) < max p.lo (lo - x)) = false := decide_eq_false (by omega)
      obtain rfl : S = max p.lo (lo - x) := HS.out.symm
      obtain rfl : X = min p.hi (hi - x) := HX.out.symm
      have R2 := (R1.out.store (max p.lo (lo - x)) (min p.hi (hi - x))).up (box1 _ (.cells #[.int .i64 (max p.lo (lo - x)), .int .i64 (min p.hi (hi - x))] 23))
      have g0 := R2.c0
      have g1 := R2.c1
      clear HZ h1
      go_wp2_with fail
      exact bodyPost_ret (v := .tuple #[.agg #[.int .i64 (max p.lo (lo - x)), .int .i64 (min p.hi (hi - x))], .int .i64 0]) (by simp [results, Try.results44, go_sem, g0, g1]) rfl ⟨rfl, nextB (set1 (set1 C1.out (by omega) _ _) (by omega) _ _) (box1 _ _)⟩
  · have g0 : (E == 0) = false := by simpa using hE0
    obtain rfl : S = 0 := HS.out.symm.trans (if_neg hE0)
    obtain rfl : X = 0 := HX.out.symm.trans (if_neg hE0)
    clear h0 hE0
    go_wp2_with fail
    exact bodyPost_ret (v := .tuple #[.agg #[.int .i64 0, .int .i64 0], .int .i64 E]) (by simp [results, Try.results44, go_sem, a0, a1]) rfl ⟨rfl, set1 (set1 C1.out (by omega) _ _) (by omega) _ _⟩
set_option maxHeartbeats 1000000 in
theorem Rboth_any (a b c d : Int) (w : World) :
    Calls Try.prog 86 #[.agg #[.int .i64 a, .int .i64 b], .agg #[.int .i64 c, .int .i64 d]] w fun e w' => e = .returned (.agg #[.int .i64 (max a c), .int .i64 (min b d)]) ∧ Below w.heap.size w w' := by
  go_enter Try.func86, Try.ntmps86
  go_wp2_with fail
  exact bodyPost_ret (v := .agg #[.int .i64 (max a c), .int .i64 (min b d)]) (by simp [results, Try.results86, go_sem]) rfl ⟨rfl, box3 _ _ _ _⟩
set_option maxRecDepth 100000 in
set_option maxHeartbeats 2000000 in
theorem RZeros_any (p : Pn) (x lo hi E : Int) (w : World) (hE : zerR p x lo hi E) :
    Calls Try.prog 45 #[p.v, .int .i64 x, .agg #[.int .i64 lo, .int .i64 hi]] w fun e w' => e = .returned (.tuple #[.agg #[.int .i64 (zerL p x lo E), .int .i64 (zerH p x hi E)], .int .i64 E]) ∧ Below w.heap.size w w' := by
  have hE2 := hE
  obtain ⟨F, hF, hz⟩ := zer_err hE
  obtain ⟨b1, b2, b3⟩ := bt3 w p lo hi
  have B1 := Lib.hid b1
  have B2 := Lib.hid b2
  have B3 := Lib.hid b3
  generalize hS : zerL p x lo E = S at *
  generalize hX : zerH p x hi E = X at *
  have HS := Lib.hid hS
  have HX := Lib.hid hX
  obtain ⟨F0, hF0⟩ := chkR_ex p
  have KC := Lib.hid fun W => RCheck_any p F0 W hF0
  clear hE b1 b2 b3 hS hX
  have HF0 := Lib.hid hF0
  have HF := Lib.hid hF
  have HZ := Lib.hid hz
  clear hF hz hF0 hE2
  go_enter Try.func45, Try.ntmps45
  go_wp2_with fail
  refine (KC.out _).mono ?_
  rintro e w1 ⟨rfl, hb⟩
  have C1 := Lib.hid (nextB (box3 w _ _ _) hb)
  have p1 := B1.out.up hb (by simp; omega)
  have q1 := B2.out.up hb
  have r1 := B3.out.up hb
  have z1 := r1.lt
  have zq1 := q1.lt
  have zp1 := p1.lt
  have P1 := Lib.hid p1
  have Q1 := Lib.hid q1
  have R1 := Lib.hid r1
  obtain ⟨x0, x1, x2, x3⟩ := p1
  obtain ⟨y0, y1, _, _⟩ := q1
  obtain ⟨a0, a1, f0, f1⟩ := r1
  clear hb KC B1 B2 B3
  by_cases hp : p.Ok
  · obtain rfl : F0 = 0 := chk_ok HF0.out hp
    rcases HF.out with ⟨h, _⟩ | ⟨_, ⟨h2, rfl⟩ | ⟨h2, rfl⟩⟩
    · exact absurd hp h
    · obtain ⟨rfl, hE0⟩ : E = 1 ∧ E ≠ 0 := by
        rcases HZ.out with ⟨h, _⟩ | ⟨_, h3, h4⟩
        · cases h
        · exact ⟨h3, h4⟩
      obtain rfl : S = 0 := HS.out.symm
      obtain rfl : X = 0 := HX.out.symm
      clear HZ HF HF0 hE0
      by_cases l1 : Lev x
      · by_cases l2 : Lev lo
        · have l3 : ¬ Lev hi := fun h => h2 ⟨l1, l2, h⟩
          have K1 := Lib.hid fun W => isLevel_t W l1
          have K2 := Lib.hid fun W => isLevel_t W l2
          have K3 := Lib.hid fun W => isLevel_f W l3
          clear l1 l2 l3 h2
          go_wp2_with fail
          refine (K1.out _).mono ?_
          rintro e w' ⟨rfl, rfl⟩
          go_wp2_with fail
          refine (K2.out _).mono ?_
          rintro e w' ⟨rfl, rfl⟩
          go_wp2_with fail
          refine (K3.out _).mono ?_
          rintro e w' ⟨rfl, rfl⟩
          go_wp2_with fail
          exact bodyPost_ret (v := .tuple #[.agg #[.int .i64 0, .int .i64 0], .int .i64 1]) (by simp [results, Try.results45, go_sem, a0, a1]) rfl ⟨rfl, set1 (set1 C1.out (by omega) _ _) (by omega) _ _⟩
        · have K1 := Lib.hid fun W => isLevel_t W l1
          have K2 := Lib.hid fun W => isLevel_f W l2
          clear l1 l2 h2
          go_wp2_with fail
          refine (K1.out _).mono ?_
          rintro e w' ⟨rfl, rfl⟩
          go_wp2_with fail
          refine (K2.out _).mono ?_
          rintro e w' ⟨rfl, rfl⟩
          go_wp2_with fail
          exact bodyPost_ret (v := .tuple #[.agg #[.int .i64 0, .int .i64 0], .int .i64 1]) (by simp [results, Try.results45, go_sem, a0, a1]) rfl ⟨rfl, set1 (set1 C1.out (by omega) _ _) (by omega) _ _⟩
      · have K1 := Lib.hid fun W => isLevel_f W l1
        clear l1 h2
        go_wp2_with fail
        refine (K1.out _).mono ?_
        rintro e w' ⟨rfl, rfl⟩
        go_wp2_with fail
        exact bodyPost_ret (v := .tuple #[.agg #[.int .i64 0, .int .i64 0], .int .i64 1]) (by simp [results, Try.results45, go_sem, a0, a1]) rfl ⟨rfl, set1 (set1 C1.out (by omega) _ _) (by omega) _ _⟩
    · obtain ⟨l1, l2, l3⟩ := h2
      rcases HZ.out with ⟨_, g1, g2, _, _, _, hz⟩ | ⟨h, _⟩
      · have v1 : IntKind.i64.wrap (lo - x) = lo - x := IntWalk.i64_in _ (by unfold Lev at l1 l2; omega)
        have v2 : IntKind.i64.wrap (hi - x) = hi - x := IntWalk.i64_in _ (by unfold Lev at l1 l3; omega)
        have K1 := Lib.hid fun W => isLevel_t W l1
        have K2 := Lib.hid fun W => isLevel_t W l2
        have K3 := Lib.hid fun W => isLevel_t W l3
        have KB := Lib.hid fun W => Rboth_any p.lo p.hi (lo - x) (hi - x) W
        have HZ2 := Lib.hid hz
        clear l1 l2 l3 g1 g2 hz HZ HF HF0
        go_wp2_with fail
        refine (K1.out _).mono ?_
        rintro e w' ⟨rfl, rfl⟩
        go_wp2_with fail
        refine (K2.out _).mono ?_
        rintro e w' ⟨rfl, rfl⟩
        go_wp2_with fail
        refine (K3.out _).mono ?_
        rintro e w' ⟨rfl, rfl⟩
        go_wp2_with fail
        refine (KB.out _).mono ?_
        rintro e w2 ⟨rfl, hb⟩
        have C2 := Lib.hid (nextB C1.out hb)
        have r2 := R1.out.up hb
        have R2 := Lib.hid r2
        have z2 := r2.lt
        obtain ⟨c0, c1, g0, g1⟩ := r2
        clear hb a0 a1 f0 f1 x0 x1 x2 x3 y0 y1 KB K1 K2 K3
        rcases HZ2.out with ⟨h1, rfl⟩ | ⟨h1, rfl⟩
        · have u1 : decide (min p.hi (hi - x) < max p.lo (lo - x)) = true := decide_eq_true h1
          obtain rfl : S = 0 := HS.out.symm
          obtain rfl : X = 0 := HX.out.symm
          have R3 := (R2.out.store 0 0).up (box1 _ (.cells #[.int .i64 (max p.lo (lo - x)), .int .i64 (min p.hi (hi - x))] 23))
          have e0 := R3.c0
          have e1 := R3.c1
          clear HZ2 h1
          go_wp2_with fail
          exact bodyPost_ret (v := .tuple #[.agg #[.int .i64 0, .int .i64 0], .int .i64 3]) (by simp [results, Try.results45, go_sem, e0, e1]) rfl ⟨rfl, nextB (set1 (set1 C2.out (by omega) _ _) (by omega) _ _) (box1 _ _)⟩
        · have u1 : decide (min p.hi (hi - x) < max p.lo (lo - x)) = false := decide_eq_false (by omega)
          obtain rfl : S = max p.lo (lo - x) := HS.out.symm
          obtain rfl : X = min p.hi (hi - x) := HX.out.symm
          have R3 := (R2.out.store (max p.lo (lo - x)) (min p.hi (hi - x))).up (box1 _ (.cells #[.int .i64 (max p.lo (lo - x)), .int .i64 (min p.hi (hi - x))] 23))
          have e0 := R3.c0
          have e1 := R3.c1
          clear HZ2 h1
          go_wp2_with fail
          exact bodyPost_ret (v := .tuple #[.agg #[.int .i64 (max p.lo (lo - x)), .int .i64 (min p.hi (hi - x))], .int .i64 0]) (by simp [results, Try.results45, go_sem, e0, e1]) rfl ⟨rfl, nextB (set1 (set1 C2.out (by omega) _ _) (by omega) _ _) (box1 _ _)⟩
      · exact absurd rfl h
  · obtain rfl : F0 = 30 := chk_bad HF0.out hp
    obtain rfl : F = 30 := by
      rcases HF.out with ⟨_, h⟩ | ⟨h, _⟩
      · exact h
      · exact absurd h hp
    obtain ⟨rfl, hE0⟩ : E = 30 ∧ E ≠ 0 := by
      rcases HZ.out with ⟨h, _⟩ | ⟨_, h3, h4⟩
      · cases h
      · exact ⟨h3, h4⟩
    obtain rfl : S = 0 := HS.out.symm
    obtain rfl : X = 0 := HX.out.symm
    clear hE0 HZ HF HF0
    go_wp2_with fail
    exact bodyPost_ret (v := .tuple #[.agg #[.int .i64 0, .int .i64 0], .int .i64 30]) (by simp [results, Try.results45, go_sem, a0, a1]) rfl ⟨rfl, set1 (set1 C1.out (by omega) _ _) (by omega) _ _⟩
end Go.Proofs.Ytkidhmajlpceeaa
