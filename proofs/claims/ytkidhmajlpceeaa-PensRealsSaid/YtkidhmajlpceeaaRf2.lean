/- The specification's Starts, right, next, Step. -/
import Derived.Test.YtkidhmajlpceeaaRf1
namespace Go.Proofs.Ytkidhmajlpceeaa
open Go.RowKit
set_option maxRecDepth 100000 in
set_option maxHeartbeats 2000000 in
theorem RStarts_any (p : Pn) (r E : Int) (w : World) (hE : staR p r E) :
    Calls Try.prog 22 #[p.v, .int .i64 r] w fun e w' => e = .returned (.tuple #[.agg #[.int .i64 (staL p r E), .int .i64 (staH p r E)], .int .i64 E]) ∧ Below w.heap.size w w' := by
  rcases hE with ⟨h, rfl⟩ | ⟨h, hE⟩
  · have K := Lib.hid fun W => RCheck_any p 30 W (.inl ⟨h, rfl⟩)
    clear h
    go_enter Try.func22, Try.ntmps22
    go_wp2_with fail
    refine (K.out _).mono ?_
    rintro e w1 ⟨rfl, hb⟩
    have C1 := Lib.hid (nextB (box2 w _ _) hb)
    have r1 : Bt (w.heap.size + 1) 0 0 w1 := ((by have h := Bt.new (w.alloc (penO p)) 23 0 0; simpa only [World.size_alloc] using h : Bt (w.heap.size + 1) 0 0 _).up hb)
    have z1 := r1.lt
    obtain ⟨a0, a1, f0, f1⟩ := r1
    clear hb K
    go_wp2_with fail
    exact bodyPost_ret (v := .tuple #[.agg #[.int .i64 0, .int .i64 0], .int .i64 30]) (by simp [results, Try.results22, go_sem, a0, a1]) rfl ⟨rfl, set1 (set1 C1.out (by omega) _ _) (by omega) _ _⟩
  · have K := Lib.hid fun W => RCheck_any p 0 W (.inr ⟨h, rfl⟩)
    have hb0 := h.b
    rcases hE with ⟨h2, rfl⟩ | ⟨h2, rfl⟩
    · have KL := Lib.hid fun W => isLevel_f W h2
      clear h h2
      go_enter Try.func22, Try.ntmps22
      go_wp2_with fail
      refine (K.out _).mono ?_
      rintro e w1 ⟨rfl, hb⟩
      have C1 := Lib.hid (nextB (box2 w _ _) hb)
      have r1 : Bt (w.heap.size + 1) 0 0 w1 := ((by have h := Bt.new (w.alloc (penO p)) 23 0 0; simpa only [World.size_alloc] using h : Bt (w.heap.size + 1) 0 0 _).up hb)
      have z1 := r1.lt
      obtain ⟨a0, a1, f0, f1⟩ := r1
      clear hb K
      go_wp2_with fail
      refine (KL.out _).mono ?_
      rintro e w' ⟨rfl, rfl⟩
      go_wp2_with fail
      exact bodyPost_ret (v := .tuple #[.agg #[.int .i64 0, .int .i64 0], .int .i64 1]) (by simp [results, Try.results22, go_sem, a0, a1]) rfl ⟨rfl, set1 (set1 C1.out (by omega) _ _) (by omega) _ _⟩
    · have KL := Lib.hid fun W => isLevel_t W h2
      obtain ⟨b1, b2⟩ := hb0
      obtain ⟨l1, l2⟩ := h2
      have w1' : IntKind.i64.wrap (r - p.b) = r - p.b := IntWalk.i64_in _ (by omega)
      have w2' : IntKind.i64.wrap (r + p.b) = r + p.b := IntWalk.i64_in _ (by omega)
      have eL : staL p r 0 = r - p.b := rfl
      have eH : staH p r 0 = r + p.b := rfl
      rw [eL, eH]
      clear h eL eH
      go_enter Try.func22, Try.ntmps22
      go_wp2_with fail
      refine (K.out _).mono ?_
      rintro e w1 ⟨rfl, hb⟩
      have C1 := Lib.hid (nextB (box2 w _ _) hb)
      have r1 : Bt (w.heap.size + 1) 0 0 w1 := ((by have h := Bt.new (w.alloc (penO p)) 23 0 0; simpa only [World.size_alloc] using h : Bt (w.heap.size + 1) 0 0 _).up hb)
      have p1 : HasPn p w.heap.size w1 := ((pn_new w p.b p.lo p.hi p.r).up (box1 _ _) (by simp)).up hb (by simp only [World.size_alloc]; omega)
      have z1 := r1.lt
      have R1 := Lib.hid r1
      obtain ⟨a0, a1, f0, f1⟩ := r1
      obtain ⟨x0, x1, x2, x3⟩ := p1
      clear hb K
      go_wp2_with fail
      refine (KL.out _).mono ?_
      rintro e w' ⟨rfl, rfl⟩
      have R3 := R1.out.store (r - p.b) (r + p.b)
      have g0 := R3.c0
      have g1 := R3.c1
      go_wp2_with fail
      exact bodyPost_ret (v := .tuple #[.agg #[.int .i64 (r - p.b), .int .i64 (r + p.b)], .int .i64 0]) (by simp [results, Try.results22, go_sem, g0, g1]) rfl ⟨rfl, set1 (set1 C1.out (by omega) _ _) (by omega) _ _⟩
set_option maxRecDepth 100000 in
set_option maxHeartbeats 2000000 in
theorem right_is (p : Pn) (s r : Int) (G : Bool) (w : World) (hb : 0 ≤ p.b ∧ p.b ≤ 8) (hs : Lev s) (hr : Lev r) (hG : G = true ↔ (-p.b ≤ r - s ∧ r - s ≤ p.b)) :
    Calls Try.prog 69 #[p.v, Mo s r] w fun e w' => e = .returned (.bool G) ∧ Below w.heap.size w w' := by
  have K1 := Lib.hid fun W => isLevel_t W hs
  have K2 := Lib.hid fun W => isLevel_t W hr
  have K3 := Lib.hid fun W => within_is (n := r - s) (a := -p.b) (b := p.b) (G := G) W hG
  obtain ⟨b1, b2⟩ := hb
  obtain ⟨s1, s2⟩ := hs
  obtain ⟨r1, r2⟩ := hr
  have w1' : IntKind.i64.wrap (r - s) = r - s := IntWalk.i64_in _ (by omega)
  have w2' : IntKind.i64.wrap (-p.b) = -p.b := IntWalk.i64_in _ (by omega)
  clear hG
  go_enter Try.func69, Try.ntmps69
  go_wp2_with fail
  refine (K1.out _).mono ?_
  rintro e w' ⟨rfl, rfl⟩
  go_wp2_with fail
  refine (K2.out _).mono ?_
  rintro e w' ⟨rfl, rfl⟩
  go_wp2_with fail
  refine (K3.out _).mono ?_
  rintro e w' ⟨rfl, rfl⟩
  go_wp2_with fail
  go_ret
  exact ⟨rfl, box2 _ _ _⟩
set_option maxHeartbeats 1000000 in
theorem LazyR_any (b s r : Int) (w : World) (hb : -1000 ≤ b ∧ b ≤ 1000) (hr : -1000000 ≤ r ∧ r ≤ 1000000) :
    Calls Try.prog 62 #[.int .i64 b, .int .i64 s, .int .i64 r] w fun e w' => e = .returned (.int .i64 (lz b s r)) ∧ w = w' := by
  have w1' : IntKind.i64.wrap (r - b) = r - b := IntWalk.i64_in _ (by omega)
  have w2' : IntKind.i64.wrap (r + b) = r + b := IntWalk.i64_in _ (by omega)
  have el : lz b s r = max (r - b) (min (r + b) s) := rfl
  rw [el]
  clear el
  go_enter Try.func62, Try.ntmps62
  go_wp2_with fail
  go_ret
  exact ⟨rfl, rfl⟩
set_option maxRecDepth 100000 in
set_option maxHeartbeats 2000000 in
theorem nextR_is (p : Pn) (s r x : Int) (G : Bool) (w : World) (hb : 0 ≤ p.b ∧ p.b ≤ 8) (hp : 0 ≤ p.r ∧ p.r ≤ 12000) (hr : Sm r) (hx : Sm x) (hG : G = true ↔ (-p.r ≤ x - r ∧ x - r ≤ p.r)) :
    Calls Try.prog 68 #[p.v, Mo s r, .int .i64 x] w fun e w' => e = .returned (.tuple #[Mo (lz p.b s x) x, .bool G]) ∧ Below w.heap.size w w' := by
  have K1 := Lib.hid fun W => LazyR_any p.b s x W (by omega) (by unfold Sm at hx; omega)
  have K2 := Lib.hid fun W => within_is (n := x - r) (a := -p.r) (b := p.r) (G := G) W hG
  obtain ⟨r1, r2⟩ := hr
  obtain ⟨x1, x2⟩ := hx
  obtain ⟨q1, q2⟩ := hp
  have w1' : IntKind.i64.wrap (x - r) = x - r := IntWalk.i64_in _ (by omega)
  have w2' : IntKind.i64.wrap (-p.r) = -p.r := IntWalk.i64_in _ (by omega)
  generalize hL : lz p.b s x = L at *
  clear hG hL
  go_enter Try.func68, Try.ntmps68
  go_wp2_with fail
  refine still_tail 18 (by kernel_rfl) (by kernel_rfl) ?_
  simp only [List.take_succ_cons, List.take_zero, List.drop_succ_cons, List.drop_zero]
  repeat still_step
  still_call ((K1.out _).mono fun _ _ h => ⟨h.1, h.2.symm⟩)
  repeat still_step
  still_call ((K2.out _).mono fun _ _ h => ⟨h.1, h.2.symm⟩)
  repeat still_step
  refine wpStill_nil ?_
  go_wp2_with fail
  exact bodyPost_ret (v := .tuple #[Mo L x, .bool G]) (by simp [results, Try.results68, go_sem]) rfl ⟨rfl, (box3 _ _ _ _).drew⟩
set_option maxRecDepth 100000 in
set_option maxHeartbeats 2000000 in
theorem RStep_any (p : Pn) (s r x E : Int) (w : World) (hE : stpR p s r x E) :
    Calls Try.prog 24 #[p.v, Mo s r, .int .i64 x] w fun e w' => e = .returned (.tuple #[Mo (stpS p s x E) (stpX x E), .int .i64 E]) ∧ Below w.heap.size w w' := by
  rcases hE with ⟨h, rfl⟩ | ⟨h, hE⟩
  · have KC := Lib.hid fun W => RCheck_any p 30 W (.inl ⟨h, rfl⟩)
    clear h
    go_enter Try.func24, Try.ntmps24
    go_wp2_with fail
    refine (KC.out _).mono ?_
    rintro e w1 ⟨rfl, hb⟩
    have C1 := Lib.hid (nextB (box3 w _ _ _) hb)
    have r1 : Bt (w.heap.size + 1 + 1) 0 0 w1 := ((by have h := Bt.new ((w.alloc (penO p)).alloc (.cells #[.int .i64 s, .int .i64 r] 27)) 27 0 0; simpa only [World.size_alloc] using h : Bt (w.heap.size + 1 + 1) 0 0 _).up hb)
    have m1 : Bt (w.heap.size + 1) s r w1 := ((by have h := (Bt.new (w.alloc (penO p)) 27 s r).up (box1 _ (.cells #[.int .i64 0, .int .i64 0] 27)); simpa only [World.size_alloc] using h : Bt (w.heap.size + 1) s r _).up hb)
    have p1 : HasPn p w.heap.size w1 := ((pn_new w p.b p.lo p.hi p.r).up (box2 _ _ _) (by simp)).up hb (by simp only [World.size_alloc]; omega)
    have z1 := r1.lt
    have R1 := Lib.hid r1
    have M1 := Lib.hid m1
    have P1 := Lib.hid p1
    obtain ⟨a0, a1, f0, f1⟩ := r1
    clear hb KC m1 p1
    go_wp2_with fail
    exact bodyPost_ret (v := .tuple #[Mo 0 0, .int .i64 30]) (by simp [results, Try.results24, go_sem, a0, a1]) rfl ⟨rfl, set1 (set1 C1.out (by omega) _ _) (by omega) _ _⟩
  · have KC := Lib.hid fun W => RCheck_any p 0 W (.inr ⟨h, rfl⟩)
    rcases hE with ⟨h2, rfl⟩ | ⟨h2, hE⟩
    · by_cases hx : Lev x
      · have KX := Lib.hid fun W => isLevel_t W hx
        by_cases hs : Lev s
        · have KS := Lib.hid fun W => isLevel_t W hs
          have KR := Lib.hid fun W => isLevel_f W (fun hr => h2 ⟨hs, hr, hx⟩)
          clear h h2 hx hs
          go_enter Try.func24, Try.ntmps24
          go_wp2_with fail
          refine (KC.out _).mono ?_
          rintro e w1 ⟨rfl, hb⟩
          have C1 := Lib.hid (nextB (box3 w _ _ _) hb)
          have r1 : Bt (w.heap.size + 1 + 1) 0 0 w1 := ((by have h := Bt.new ((w.alloc (penO p)).alloc (.cells #[.int .i64 s, .int .i64 r] 27)) 27 0 0; simpa only [World.size_alloc] using h : Bt (w.heap.size + 1 + 1) 0 0 _).up hb)
          have m1 : Bt (w.heap.size + 1) s r w1 := ((by have h := (Bt.new (w.alloc (penO p)) 27 s r).up (box1 _ (.cells #[.int .i64 0, .int .i64 0] 27)); simpa only [World.size_alloc] using h : Bt (w.heap.size + 1) s r _).up hb)
          have p1 : HasPn p w.heap.size w1 := ((pn_new w p.b p.lo p.hi p.r).up (box2 _ _ _) (by simp)).up hb (by simp only [World.size_alloc]; omega)
          have z1 := r1.lt
          have R1 := Lib.hid r1
          have M1 := Lib.hid m1
          have P1 := Lib.hid p1
          obtain ⟨a0, a1, f0, f1⟩ := r1
          obtain ⟨y0, y1, _, _⟩ := m1
          clear hb KC p1
          go_wp2_with fail
          refine (KX.out _).mono ?_
          rintro e w' ⟨rfl, rfl⟩
          go_wp2_with fail
          refine (KS.out _).mono ?_
          rintro e w' ⟨rfl, rfl⟩
          go_wp2_with fail
          refine (KR.out _).mono ?_
          rintro e w' ⟨rfl, rfl⟩
          go_wp2_with fail
          exact bodyPost_ret (v := .tuple #[Mo 0 0, .int .i64 1]) (by simp [results, Try.results24, go_sem, a0, a1]) rfl ⟨rfl, set1 (set1 C1.out (by omega) _ _) (by omega) _ _⟩
        · have KS := Lib.hid fun W => isLevel_f W hs
          clear h h2 hx hs
          go_enter Try.func24, Try.ntmps24
          go_wp2_with fail
          refine (KC.out _).mono ?_
          rintro e w1 ⟨rfl, hb⟩
          have C1 := Lib.hid (nextB (box3 w _ _ _) hb)
          have r1 : Bt (w.heap.size + 1 + 1) 0 0 w1 := ((by have h := Bt.new ((w.alloc (penO p)).alloc (.cells #[.int .i64 s, .int .i64 r] 27)) 27 0 0; simpa only [World.size_alloc] using h : Bt (w.heap.size + 1 + 1) 0 0 _).up hb)
          have m1 : Bt (w.heap.size + 1) s r w1 := ((by have h := (Bt.new (w.alloc (penO p)) 27 s r).up (box1 _ (.cells #[.int .i64 0, .int .i64 0] 27)); simpa only [World.size_alloc] using h : Bt (w.heap.size + 1) s r _).up hb)
          have p1 : HasPn p w.heap.size w1 := ((pn_new w p.b p.lo p.hi p.r).up (box2 _ _ _) (by simp)).up hb (by simp only [World.size_alloc]; omega)
          have z1 := r1.lt
          have R1 := Lib.hid r1
          have M1 := Lib.hid m1
          have P1 := Lib.hid p1
          obtain ⟨a0, a1, f0, f1⟩ := r1
          obtain ⟨y0, y1, _, _⟩ := m1
          clear hb KC p1
          go_wp2_with fail
          refine (KX.out _).mono ?_
          rintro e w' ⟨rfl, rfl⟩
          go_wp2_with fail
          refine (KS.out _).mono ?_
          rintro e w' ⟨rfl, rfl⟩
          go_wp2_with fail
          exact bodyPost_ret (v := .tuple #[Mo 0 0, .int .i64 1]) (by simp [results, Try.results24, go_sem, a0, a1]) rfl ⟨rfl, set1 (set1 C1.out (by omega) _ _) (by omega) _ _⟩
      · have KX := Lib.hid fun W => isLevel_f W hx
        clear h h2 hx
        go_enter Try.func24, Try.ntmps24
        go_wp2_with fail
        refine (KC.out _).mono ?_
        rintro e w1 ⟨rfl, hb⟩
        have C1 := Lib.hid (nextB (box3 w _ _ _) hb)
        have r1 : Bt (w.heap.size + 1 + 1) 0 0 w1 := ((by have h := Bt.new ((w.alloc (penO p)).alloc (.cells #[.int .i64 s, .int .i64 r] 27)) 27 0 0; simpa only [World.size_alloc] using h : Bt (w.heap.size + 1 + 1) 0 0 _).up hb)
        have m1 : Bt (w.heap.size + 1) s r w1 := ((by have h := (Bt.new (w.alloc (penO p)) 27 s r).up (box1 _ (.cells #[.int .i64 0, .int .i64 0] 27)); simpa only [World.size_alloc] using h : Bt (w.heap.size + 1) s r _).up hb)
        have p1 : HasPn p w.heap.size w1 := ((pn_new w p.b p.lo p.hi p.r).up (box2 _ _ _) (by simp)).up hb (by simp only [World.size_alloc]; omega)
        have z1 := r1.lt
        have R1 := Lib.hid r1
        have M1 := Lib.hid m1
        have P1 := Lib.hid p1
        obtain ⟨a0, a1, f0, f1⟩ := r1
        clear hb KC m1 p1
        go_wp2_with fail
        refine (KX.out _).mono ?_
        rintro e w' ⟨rfl, rfl⟩
        go_wp2_with fail
        exact bodyPost_ret (v := .tuple #[Mo 0 0, .int .i64 1]) (by simp [results, Try.results24, go_sem, a0, a1]) rfl ⟨rfl, set1 (set1 C1.out (by omega) _ _) (by omega) _ _⟩
    · obtain ⟨hs, hr, hx⟩ := h2
      have KX := Lib.hid fun W => isLevel_t W hx
      have KS := Lib.hid fun W => isLevel_t W hs
      have KR := Lib.hid fun W => isLevel_t W hr
      obtain ⟨G1, hG1⟩ : ∃ G : Bool, G = true ↔ (-p.r ≤ x - r ∧ x - r ≤ p.r) := ⟨decide (-p.r ≤ x - r ∧ x - r ≤ p.r), decide_eq_true_iff⟩
      obtain ⟨G2, hG2⟩ : ∃ G : Bool, G = true ↔ (-p.b ≤ r - s ∧ r - s ≤ p.b) := ⟨decide (-p.b ≤ r - s ∧ r - s ≤ p.b), decide_eq_true_iff⟩
      have KN := Lib.hid fun W => nextR_is p s r x G1 W h.b h.r ⟨by have := hr.1; omega, by have := hr.2; omega⟩ ⟨by have := hx.1; omega, by have := hx.2; omega⟩ hG1
      have KG := Lib.hid fun W => right_is p s r G2 W h.b hs hr hG2
      have hz : (G1 = true ∧ G2 = true ∧ E = 0 ∧ stpS p s x E = lz p.b s x ∧ stpX x E = x) ∨ ((G2 = false ∨ G2 = true ∧ G1 = false) ∧ E = 31 ∧ stpS p s x E = 0 ∧ stpX x E = 0) := by
        rcases hE with ⟨h3, rfl⟩ | ⟨h3, rfl⟩
        · refine .inr ⟨?_, rfl, rfl, rfl⟩
          by_cases h4 : -p.b ≤ r - s ∧ r - s ≤ p.b
          · refine .inr ⟨hG2.2 h4, ?_⟩
            cases G1 with
            | false => rfl
            | true => exact absurd ⟨h4, hG1.1 rfl⟩ h3
          · refine .inl ?_
            cases G2 with
            | false => rfl
            | true => exact absurd (hG2.1 rfl) h4
        · exact .inl ⟨hG1.2 h3.2, hG2.2 h3.1, rfl, rfl, rfl⟩
      generalize hL : lz p.b s x = L at *
      generalize hS : stpS p s x E = S at *
      generalize hX : stpX x E = X at *
      clear h hs hr hx hE hG1 hG2 hL hS hX
      go_enter Try.func24, Try.ntmps24
      go_wp2_with fail
      refine (KC.out _).mono ?_
      rintro e w1 ⟨rfl, hb⟩
      have C1 := Lib.hid (nextB (box3 w _ _ _) hb)
      have r1 : Bt (w.heap.size + 1 + 1) 0 0 w1 := ((by have h := Bt.new ((w.alloc (penO p)).alloc (.cells #[.int .i64 s, .int .i64 r] 27)) 27 0 0; simpa only [World.size_alloc] using h : Bt (w.heap.size + 1 + 1) 0 0 _).up hb)
      have m1 : Bt (w.heap.size + 1) s r w1 := ((by have h := (Bt.new (w.alloc (penO p)) 27 s r).up (box1 _ (.cells #[.int .i64 0, .int .i64 0] 27)); simpa only [World.size_alloc] using h : Bt (w.heap.size + 1) s r _).up hb)
      have p1 : HasPn p w.heap.size w1 := ((pn_new w p.b p.lo p.hi p.r).up (box2 _ _ _) (by simp)).up hb (by simp only [World.size_alloc]; omega)
      have z1 := r1.lt
      have R1 := Lib.hid r1
      have M1 := Lib.hid m1
      have P1 := Lib.hid p1
      obtain ⟨y0, y1, _, _⟩ := m1
      obtain ⟨x0, x1, x2, x3⟩ := p1
      clear hb KC r1
      go_wp2_with fail
      refine (KX.out _).mono ?_
      rintro e w' ⟨rfl, rfl⟩
      go_wp2_with fail
      refine (KS.out _).mono ?_
      rintro e w' ⟨rfl, rfl⟩
      go_wp2_with fail
      refine (KR.out _).mono ?_
      rintro e w' ⟨rfl, rfl⟩
      go_wp2_with fail
      refine (KN.out _).mono ?_
      rintro e w2 ⟨rfl, hb⟩
      have R2 := Lib.hid (R1.out.up hb)
      have C2 := Lib.hid (nextB C1.out hb)
      have z2 := R2.out.lt
      have m2 := M1.out.up hb
      have p2 := P1.out.up hb (by omega)
      have zm2 := m2.lt
      have zp2 := p2.lt
      have R2' := Lib.hid (Bt.new w2 27 L x)
      have M2 := Lib.hid (m2.up (box1 w2 (.cells #[.int .i64 L, .int .i64 x] 27)))
      clear hb x0 x1 x2 x3 y0 y1
      obtain ⟨y0, y1, _, _⟩ := m2
      obtain ⟨x0, x1, x2, x3⟩ := p2
      go_wp2_with fail
      refine (KG.out _).mono ?_
      rintro e w3 ⟨rfl, hb⟩
      have C3 := Lib.hid (nextB (nextB C2.out (box1 _ _)) hb)
      have R3 := Lib.hid ((R2.out.up (box1 w2 (.cells #[.int .i64 L, .int .i64 x] 27))).up hb)
      have N3 := R2'.out.up hb
      have z3 := R3.out.lt
      have z4 := N3.lt
      obtain ⟨a0, a1, f0, f1⟩ := R3.out
      obtain ⟨n0, n1, _, _⟩ := N3
      clear hb x0 x1 x2 x3 y0 y1
      rcases hz with ⟨rfl, rfl, rfl, rfl, rfl⟩ | ⟨hz, rfl, rfl, rfl⟩
      · have g := R3.out.store S X
        have g0 := g.c0
        have g1 := g.c1
        go_wp2_with fail
        exact bodyPost_ret (v := .tuple #[Mo S X, .int .i64 0]) (by simp [results, Try.results24, go_sem, g0, g1]) rfl ⟨rfl, set1 (set1 C3.out (by omega) _ _) (by omega) _ _⟩
      · rcases hz with rfl | ⟨rfl, rfl⟩
        · go_wp2_with fail
          exact bodyPost_ret (v := .tuple #[Mo 0 0, .int .i64 31]) (by simp [results, Try.results24, go_sem, a0, a1]) rfl ⟨rfl, set1 (set1 C3.out (by omega) _ _) (by omega) _ _⟩
        · go_wp2_with fail
          exact bodyPost_ret (v := .tuple #[Mo 0 0, .int .i64 31]) (by simp [results, Try.results24, go_sem, a0, a1]) rfl ⟨rfl, set1 (set1 C3.out (by omega) _ _) (by omega) _ _⟩
end Go.Proofs.Ytkidhmajlpceeaa
