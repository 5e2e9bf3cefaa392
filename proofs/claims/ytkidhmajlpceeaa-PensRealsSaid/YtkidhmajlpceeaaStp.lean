/- Step, Starts, Swing. -/
import Derived.Test.YtkidhmajlpceeaaTnd
import Derived.Test.YtkidhmajlpceeaaPgE
namespace Go.Proofs.Ytkidhmajlpceeaa
open Go.RowKit
def stpR (p : Pn) (s r x E : Int) : Prop := (¬ p.Ok ∧ E = 30) ∨ p.Ok ∧ ((¬ (Lev s ∧ Lev r ∧ Lev x) ∧ E = 1) ∨ (Lev s ∧ Lev r ∧ Lev x) ∧ ((¬ ((-p.b ≤ r - s ∧ r - s ≤ p.b) ∧ (-p.r ≤ x - r ∧ x - r ≤ p.r)) ∧ E = 31) ∨ ((-p.b ≤ r - s ∧ r - s ≤ p.b) ∧ (-p.r ≤ x - r ∧ x - r ≤ p.r)) ∧ E = 0))
theorem stpR_ex (p : Pn) (s r x : Int) : ∃ E, stpR p s r x E := by
  by_cases h : p.Ok
  · by_cases h2 : Lev s ∧ Lev r ∧ Lev x
    · by_cases h3 : (-p.b ≤ r - s ∧ r - s ≤ p.b) ∧ (-p.r ≤ x - r ∧ x - r ≤ p.r)
      · exact ⟨0, .inr ⟨h, .inr ⟨h2, .inr ⟨h3, rfl⟩⟩⟩⟩
      · exact ⟨31, .inr ⟨h, .inr ⟨h2, .inl ⟨h3, rfl⟩⟩⟩⟩
    · exact ⟨1, .inr ⟨h, .inl ⟨h2, rfl⟩⟩⟩
  · exact ⟨30, .inl ⟨h, rfl⟩⟩
theorem lvs_three (x y z : Int) : Lvs (asZ [x, y, z]) 3 ↔ Lev x ∧ Lev y ∧ Lev z := by
  constructor
  · intro h
    exact ⟨h 0 (by omega), h 1 (by omega), h 2 (by omega)⟩
  · intro h i hi
    match i with
    | 0 => exact h.1
    | 1 => exact h.2.1
    | 2 => exact h.2.2
/-- the moment that follows, or none -/
def stpS (p : Pn) (s x E : Int) : Int := if E = 0 then lz p.b s x else 0
def stpX (x E : Int) : Int := if E = 0 then x else 0
/-- a box of two numbers -/
structure Bt (b : Nat) (x y : Int) (w : World) : Prop where
  c0 : w.cell? ⟨b, 0, none⟩ = some (.int .i64 x)
  c1 : w.cell? ⟨b, 1, none⟩ = some (.int .i64 y)
  f0 : w.frozen? ⟨b, 0, none⟩ = false
  f1 : w.frozen? ⟨b, 1, none⟩ = false
theorem Bt.lt {b : Nat} {x y : Int} {w : World} (h : Bt b x y w) : b < w.heap.size := World.block_lt_of_cell? _ _ h.c0
theorem Bt.up {b : Nat} {x y : Int} {w w' : World} (h : Bt b x y w) (hb : Below w.heap.size w w') : Bt b x y w' :=
  ⟨cell_up hb h.lt h.c0, cell_up hb h.lt h.c1, low_frozen hb h.lt h.f0, low_frozen hb h.lt h.f1⟩
theorem Bt.new (w : World) (t : TypeId) (x y : Int) : Bt w.heap.size x y (w.alloc (.cells #[.int .i64 x, .int .i64 y] t)) :=
  ⟨by go_simp, by go_simp, by unfold World.frozen?; rw [World.alloc_heap_new]; simp, by unfold World.frozen?; rw [World.alloc_heap_new]; simp⟩
theorem Bt.store {b : Nat} {x y : Int} {w : World} (h : Bt b x y w) (u v : Int) : Bt b u v ((w.setCell ⟨b, 0, none⟩ (.int .i64 u)).setCell ⟨b, 1, none⟩ (.int .i64 v)) := by
  obtain ⟨h0, h1, h2, h3⟩ := h
  exact ⟨by go_simp, by go_simp, by go_simp, by go_simp⟩
/-- a box that was laid ahead of a call, behind it -/
theorem bt_a {W w1 : World} {t : TypeId} {x y : Int} (hb : Below (W.alloc (.cells #[.int .i64 x, .int .i64 y] t)).heap.size (W.alloc (.cells #[.int .i64 x, .int .i64 y] t)) w1) :
    W.heap.size < w1.heap.size ∧ w1.cell? ⟨W.heap.size, 0, none⟩ = some (.int .i64 x) ∧ w1.cell? ⟨W.heap.size, 1, none⟩ = some (.int .i64 y) ∧ w1.frozen? ⟨W.heap.size, 0, none⟩ = false ∧ w1.frozen? ⟨W.heap.size, 1, none⟩ = false := by
  have h := (Bt.new W t x y).up hb
  exact ⟨h.lt, h.c0, h.c1, h.f0, h.f1⟩
theorem bt_d {W w1 : World} {t : TypeId} {x y : Int} (hb : Below (W.alloc (.cells #[.int .i64 x, .int .i64 y] t)).drew.heap.size (W.alloc (.cells #[.int .i64 x, .int .i64 y] t)).drew w1) :
    W.heap.size < w1.heap.size ∧ w1.cell? ⟨W.heap.size, 0, none⟩ = some (.int .i64 x) ∧ w1.cell? ⟨W.heap.size, 1, none⟩ = some (.int .i64 y) ∧ w1.frozen? ⟨W.heap.size, 0, none⟩ = false ∧ w1.frozen? ⟨W.heap.size, 1, none⟩ = false := by
  have h1 : Bt W.heap.size x y (W.alloc (.cells #[.int .i64 x, .int .i64 y] t)).drew := (Bt.new W t x y).up (Below.refl _ _).drew
  have h := h1.up hb
  exact ⟨h.lt, h.c0, h.c1, h.f0, h.f1⟩
set_option maxRecDepth 100000 in
set_option maxHeartbeats 2000000 in
theorem Step_any (p : Pn) (s r x E : Int) (w : World) (hE : stpR p s r x E) :
    Calls Try.prog 23 #[p.v, Mo s r, .int .i64 x] w fun e w' => e = .returned (.tuple #[Mo (stpS p s x E) (stpX x E), .int .i64 E]) ∧ Below w.heap.size w w' := by
  have KC : Hid (∀ W N F, ((¬ p.Ok ∧ F = 30) ∨ p.Ok ∧ ((¬ (Lev s ∧ Lev r ∧ Lev x) ∧ F = 1) ∨ (Lev s ∧ Lev r ∧ Lev x) ∧ F = 0)) → N = W.heap.size → Calls Try.prog 65 #[p.v, litV N 3] (litB W [s, r, x]) fun e w' => e = .returned (.int .i64 F) ∧ Below W.heap.size W w') := Lib.hid (by
    rintro W N F hF rfl
    have hl := lit_ints W [s, r, x] (by simp)
    have nx : ∀ {w' : World}, Below (litB W [s, r, x]).heap.size (litB W [s, r, x]) w' → Below W.heap.size W w' := fun h => nextB (box1 W _) h
    rcases hF with ⟨h, rfl⟩ | ⟨h, ⟨h2, rfl⟩ | ⟨h2, rfl⟩⟩
    · exact (check_bad p _ 3 3 _ h).mono fun _ _ ⟨he, hb⟩ => ⟨he, nx hb⟩
    · exact (check_arg p _ 3 3 _ _ hl h (fun h3 => h2 ((lvs_three s r x).1 h3))).mono fun _ _ ⟨he, hb⟩ => ⟨he, nx hb⟩
    · exact (check_ok p _ 3 3 _ _ hl h ((lvs_three s r x).2 h2)).mono fun _ _ ⟨he, hb⟩ => ⟨he, nx hb⟩)
  rcases hE with ⟨h, rfl⟩ | ⟨h, ⟨h2, rfl⟩ | ⟨h2, hE⟩⟩
  · have K := Lib.hid fun W N => KC.out W N 30 (.inl ⟨h, rfl⟩)
    clear KC h
    go_enter Try.func23, Try.ntmps23
    go_wp2_with fail
    refine (K.out _ _ (by first | rfl | simp)).mono ?_
    rintro e w1 ⟨rfl, hb⟩
    have C1 := Lib.hid (nextB (box3 w _ _ _) hb)
    have r1 : Bt (w.heap.size + 1 + 1) 0 0 w1 := ((by have h := Bt.new ((w.alloc (penO p)).alloc (.cells #[.int .i64 s, .int .i64 r] 27)) 27 0 0; simpa only [World.size_alloc] using h : Bt (w.heap.size + 1 + 1) 0 0 _).up hb)
    have z1 := r1.lt
    obtain ⟨a0, a1, f0, f1⟩ := r1
    clear hb K
    go_wp2_with fail
    exact bodyPost_ret (v := .tuple #[Mo 0 0, .int .i64 30]) (by simp [results, Try.results23, go_sem, a0, a1]) rfl ⟨rfl, set1 (set1 C1.out (by omega) _ _) (by omega) _ _⟩
  · have K := Lib.hid fun W N => KC.out W N 1 (.inr ⟨h, .inl ⟨h2, rfl⟩⟩)
    clear KC h h2
    go_enter Try.func23, Try.ntmps23
    go_wp2_with fail
    refine (K.out _ _ (by first | rfl | simp)).mono ?_
    rintro e w1 ⟨rfl, hb⟩
    have C1 := Lib.hid (nextB (box3 w _ _ _) hb)
    have r1 : Bt (w.heap.size + 1 + 1) 0 0 w1 := ((by have h := Bt.new ((w.alloc (penO p)).alloc (.cells #[.int .i64 s, .int .i64 r] 27)) 27 0 0; simpa only [World.size_alloc] using h : Bt (w.heap.size + 1 + 1) 0 0 _).up hb)
    have z1 := r1.lt
    obtain ⟨a0, a1, f0, f1⟩ := r1
    clear hb K
    go_wp2_with fail
    exact bodyPost_ret (v := .tuple #[Mo 0 0, .int .i64 1]) (by simp [results, Try.results23, go_sem, a0, a1]) rfl ⟨rfl, set1 (set1 C1.out (by omega) _ _) (by omega) _ _⟩
  · have K := Lib.hid fun W N => KC.out W N 0 (.inr ⟨h, .inr ⟨h2, rfl⟩⟩)
    obtain ⟨⟨u1, u2⟩, ⟨u3, u4⟩, ⟨u5, u6⟩⟩ := h2
    have s1 : Sm s := ⟨by omega, by omega⟩
    have s2 : Sm r := ⟨by omega, by omega⟩
    have s3 : Sm x := ⟨by omega, by omega⟩
    have KN : Hid (∀ W, Calls Try.prog 67 #[p.v, Mo s r, .int .i64 x] W fun e w' => e = .returned (.tuple #[Mo (stpS p s x E) (stpX x E), .bool (E == 0)]) ∧ Below W.heap.size W w') := Lib.hid fun W => by
      rcases hE with ⟨h3, rfl⟩ | ⟨⟨h3, h4⟩, rfl⟩
      · by_cases h4 : -p.b ≤ r - s ∧ r - s ≤ p.b
        · exact next_no2 p s r x W s1 s2 s3 h.b h.r h4 (fun h5 => h3 ⟨h4, h5⟩)
        · exact next_no1 p s r x W s1 s2 h.b h4
      · exact next_t p s r x W s1 s2 s3 h.b h.r h3 h4
    have hz : E = 0 ∨ E ≠ 0 ∧ stpS p s x E = 0 ∧ stpX x E = 0 ∧ E = 31 := by
      rcases hE with ⟨_, rfl⟩ | ⟨_, rfl⟩
      · exact .inr ⟨by decide, rfl, rfl, rfl⟩
      · exact .inl rfl
    generalize hS : stpS p s x E = S at *
    generalize hX : stpX x E = X at *
    clear KC h hE s1 s2 s3 u1 u2 u3 u4 u5 u6 hS hX
    go_enter Try.func23, Try.ntmps23
    go_wp2_with fail
    refine (K.out _ _ (by first | rfl | simp)).mono ?_
    rintro e w1 ⟨rfl, hb⟩
    have C1 := Lib.hid (nextB (box3 w _ _ _) hb)
    have r1 : Bt (w.heap.size + 1 + 1) 0 0 w1 := ((by have h := Bt.new ((w.alloc (penO p)).alloc (.cells #[.int .i64 s, .int .i64 r] 27)) 27 0 0; simpa only [World.size_alloc] using h : Bt (w.heap.size + 1 + 1) 0 0 _).up hb)
    have m1 : Bt (w.heap.size + 1) s r w1 := ((by have h := (Bt.new (w.alloc (penO p)) 27 s r).up (box1 _ (.cells #[.int .i64 0, .int .i64 0] 27)); simpa only [World.size_alloc] using h : Bt (w.heap.size + 1) s r _).up hb)
    have p1 : HasPn p w.heap.size w1 := ((pn_new w p.b p.lo p.hi p.r).up (box2 _ _ _) (by simp)).up hb (by simp only [World.size_alloc]; omega)
    have R1 := Lib.hid r1
    have z1 := r1.lt
    obtain ⟨x0, x1, x2, x3⟩ := p1
    have y0 := m1.c0
    have y1 := m1.c1
    clear hb K r1 m1
    go_wp2_with fail
    refine (KN.out _).mono ?_
    rintro e w2 ⟨rfl, hb⟩
    have C2 := Lib.hid (nextB C1.out hb)
    have r2 := R1.out.up hb
    have z2 := r2.lt
    have R2 := Lib.hid r2
    obtain ⟨a0, a1, f0, f1⟩ := r2
    clear hb KN x0 x1 x2 x3 y0 y1
    have R3 := Lib.hid ((R2.out.store S X).up (box1 _ (.cells #[.int .i64 S, .int .i64 X] 27)))
    have B3 := Lib.hid ((set1 (b := w.heap.size + 1 + 1) (set1 (b := w.heap.size + 1 + 1) C2.out (by omega) 0 (.int .i64 S)) (by omega) 1 (.int .i64 X)).alloc (by simp only [World.size_setCell]; omega) (.cells #[.int .i64 S, .int .i64 X] 27))
    rcases hz with rfl | ⟨h0, rfl, rfl, rfl⟩
    · go_wp2_with fail
      exact bodyPost_ret (v := .tuple #[Mo S X, .int .i64 0]) (by simp [results, Try.results23, go_sem, R3.out.c0, R3.out.c1]) rfl ⟨rfl, B3.out⟩
    · go_wp2_with fail
      exact bodyPost_ret (v := .tuple #[Mo 0 0, .int .i64 31]) (by simp [results, Try.results23, go_sem, R3.out.c0, R3.out.c1]) rfl ⟨rfl, B3.out⟩
end Go.Proofs.Ytkidhmajlpceeaa
