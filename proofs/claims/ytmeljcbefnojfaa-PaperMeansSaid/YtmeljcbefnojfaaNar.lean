import Derived.Test.YtmeljcbefnojfaaNrm
import Derived.Test.YtmeljcbefnojfaaOpp
namespace Go.Proofs.Ytmeljcbefnojfaa
open Go.RowKit
set_option maxHeartbeats 400000 in
theorem inside_t (a b c d : Int) (w : World) (h : c ≤ a ∧ b ≤ d) :
    Calls Try.prog 65 #[.agg #[.int .i64 a, .int .i64 b], .agg #[.int .i64 c, .int .i64 d]] w fun e w' => e = .returned (.bool true) ∧ Below w.heap.size w w' := by
  obtain ⟨h1, h2⟩ := h
  have d1 : decide (c ≤ a) = true := by simpa using h1
  have d2 : decide (b ≤ d) = true := by simpa using h2
  go_enter Try.func65, Try.ntmps65
  go_wp2_with fail
  go_ret
  exact ⟨rfl, box2 _ _ _⟩
set_option maxHeartbeats 400000 in
theorem inside_f (a b c d : Int) (w : World) (h : ¬ (c ≤ a ∧ b ≤ d)) :
    Calls Try.prog 65 #[.agg #[.int .i64 a, .int .i64 b], .agg #[.int .i64 c, .int .i64 d]] w fun e w' => e = .returned (.bool false) ∧ Below w.heap.size w w' := by
  by_cases h1 : c ≤ a
  · have h2 : ¬ b ≤ d := fun h2 => h ⟨h1, h2⟩
    have d1 : decide (c ≤ a) = true := by simpa using h1
    have d2 : decide (b ≤ d) = false := by simpa using h2
    clear h h2
    go_enter Try.func65, Try.ntmps65
    go_wp2_with fail
    go_ret
    exact ⟨rfl, box2 _ _ _⟩
  · have d1 : decide (c ≤ a) = false := by simpa using h1
    clear h h1
    go_enter Try.func65, Try.ntmps65
    go_wp2_with fail
    go_ret
    exact ⟨rfl, box2 _ _ _⟩
/-- a row of spans, or none -/
def Row0 (w w' : World) (v : Value) (l : List (Int × Int)) : Prop := (l = [] ∧ v = .slice none 0 0) ∨ (l ≠ [] ∧ Row1 w w' v l)
theorem Row0.up {w W W' : World} {v : Value} {l : List (Int × Int)} (h : Row0 w W v l) (hb : Below W.heap.size W W') : Row0 w W' v l := by
  rcases h with h | ⟨h0, h⟩
  · exact .inl h
  · exact .inr ⟨h0, h.up hb⟩
theorem row0_of {w w' : World} {v : Value} {l : List (Int × Int)} (h : RowOf w.heap.size w' v l) : Row0 w w' v l := by
  by_cases hl : l = []
  · rcases h with h | ⟨h0, _⟩
    · exact .inl h
    · exact absurd hl h0
  · exact .inr ⟨hl, row1_of hl h⟩
def MPost (w : World) (er : Int) (l : List (Int × Int)) (e : Ending) (w' : World) : Prop := ∃ v, e = .returned (.tuple #[v, .int .i64 er]) ∧ Below w.heap.size w w' ∧ Row0 w w' v l
set_option maxRecDepth 100000 in
set_option maxHeartbeats 2000000 in
theorem nar_out1 (p : Pap) (t : Pt) (al ah cl ch k c : Int) (w : World) (h1 : ¬ (p.al ≤ al ∧ ah ≤ p.ah)) :
    Calls Try.prog 13 #[p.v, t.v, .agg #[.int .i64 al, .int .i64 ah], .agg #[.int .i64 cl, .int .i64 ch], .int .i64 k, .int .i64 c] w fun e w' => e = .returned (.bool true) ∧ Below w.heap.size w w' := by
  go_enter Try.func13, Try.ntmps13
  go_wp2_with fail
  refine (awake_any _).mono ?_
  rintro e w1 ⟨rfl, hb1⟩
  have hB1_0 : HasPap (p) (w.heap.size) w1 := HasPap.up (by unfold HasPap; go_simp) hb1 (by (try simp only [World.size_alloc]); omega)
  have hB1_1 : HasPt (t) (w.heap.size + 1) w1 := HasPt.up (by unfold HasPt; go_simp) hb1 (by (try simp only [World.size_alloc]); omega)
  have hB1_2 : HasSp (al) (ah) (w.heap.size + 1 + 1) w1 := HasSp.up (by unfold HasSp; go_simp) hb1 (by (try simp only [World.size_alloc]); omega)
  have hB1_3 : HasSp (cl) (ch) (w.heap.size + 1 + 1 + 1) w1 := HasSp.up (by unfold HasSp; go_simp) hb1 (by (try simp only [World.size_alloc]); omega)
  have C1 : Below w.heap.size w w1 := by
    refine Below.trans ?_ (hb1.mono ?_)
    · repeat' (first | with_reducible exact Below.refl _ _ | with_reducible exact Below.refl _ _ | with_reducible refine set1 ?_ (by omega) _ _ | with_reducible refine Below.alloc ?_ (by (try simp only [World.size_alloc]); omega) _ | with_reducible refine below_drewN ?_ _ | with_reducible refine Below.drew ?_)
    · (try simp only [World.size_alloc]); omega
  clear hb1
  unfold HasPap at hB1_0
  obtain ⟨f1_0_0, f1_0_1, f1_0_2, f1_0_3, f1_0_4, f1_0_5, f1_0_6, f1_0_7, f1_0_8, f1_0_9⟩ := hB1_0
  have z1_0 : w.heap.size < w1.heap.size := World.block_lt_of_cell? _ _ f1_0_0
  unfold HasPt at hB1_1
  obtain ⟨f1_1_0, f1_1_1, f1_1_2⟩ := hB1_1
  have z1_1 : w.heap.size + 1 < w1.heap.size := World.block_lt_of_cell? _ _ f1_1_0
  unfold HasSp at hB1_2
  obtain ⟨f1_2_0, f1_2_1⟩ := hB1_2
  have z1_2 : w.heap.size + 1 + 1 < w1.heap.size := World.block_lt_of_cell? _ _ f1_2_0
  unfold HasSp at hB1_3
  obtain ⟨f1_3_0, f1_3_1⟩ := hB1_3
  have z1_3 : w.heap.size + 1 + 1 + 1 < w1.heap.size := World.block_lt_of_cell? _ _ f1_3_0
  have zz1 := C1.size
  go_wp2_with fail
  refine (inside_f al ah p.al p.ah _ h1).mono ?_
  rintro e w2 ⟨rfl, hb2⟩
  have hB2_0 : HasPap (p) (w.heap.size) w2 := HasPap.up (by unfold HasPap; go_simp) hb2 (by (try simp only [World.size_alloc]); omega)
  have hB2_1 : HasPt (t) (w.heap.size + 1) w2 := HasPt.up (by unfold HasPt; go_simp) hb2 (by (try simp only [World.size_alloc]); omega)
  have hB2_2 : HasSp (al) (ah) (w.heap.size + 1 + 1) w2 := HasSp.up (by unfold HasSp; go_simp) hb2 (by (try simp only [World.size_alloc]); omega)
  have hB2_3 : HasSp (cl) (ch) (w.heap.size + 1 + 1 + 1) w2 := HasSp.up (by unfold HasSp; go_simp) hb2 (by (try simp only [World.size_alloc]); omega)
  have hB2_4 : HasPap (⟨p.pitch, p.height, p.radius, p.low, p.high, p.cols, al, ah, cl, ch⟩) (w1.heap.size) w2 := HasPap.up (by unfold HasPap; go_simp) hb2 (by (try simp only [World.size_alloc]); omega)
  have hB2_5 : HasPt (⟨t.x, t.y, k⟩) (w1.heap.size + 1) w2 := HasPt.up (by unfold HasPt; go_simp) hb2 (by (try simp only [World.size_alloc]); omega)
  have C2 : Below w.heap.size w w2 := by
    refine Below.trans ?_ (hb2.mono ?_)
    · repeat' (first | with_reducible exact Below.refl _ _ | with_reducible exact C1 | with_reducible refine set1 ?_ (by omega) _ _ | with_reducible refine Below.alloc ?_ (by (try simp only [World.size_alloc]); omega) _ | with_reducible refine below_drewN ?_ _ | with_reducible refine Below.drew ?_)
    · (try simp only [World.size_alloc]); omega
  clear f1_0_0 f1_0_1 f1_0_2 f1_0_3 f1_0_4 f1_0_5 f1_0_6 f1_0_7 f1_0_8 f1_0_9 f1_1_0 f1_1_1 f1_1_2 f1_2_0 f1_2_1 f1_3_0 f1_3_1 hb2
  unfold HasPap at hB2_0
  obtain ⟨f2_0_0, f2_0_1, f2_0_2, f2_0_3, f2_0_4, f2_0_5, f2_0_6, f2_0_7, f2_0_8, f2_0_9⟩ := hB2_0
  have z2_0 : w.heap.size < w2.heap.size := World.block_lt_of_cell? _ _ f2_0_0
  unfold HasPt at hB2_1
  obtain ⟨f2_1_0, f2_1_1, f2_1_2⟩ := hB2_1
  have z2_1 : w.heap.size + 1 < w2.heap.size := World.block_lt_of_cell? _ _ f2_1_0
  unfold HasSp at hB2_2
  obtain ⟨f2_2_0, f2_2_1⟩ := hB2_2
  have z2_2 : w.heap.size + 1 + 1 < w2.heap.size := World.block_lt_of_cell? _ _ f2_2_0
  unfold HasSp at hB2_3
  obtain ⟨f2_3_0, f2_3_1⟩ := hB2_3
  have z2_3 : w.heap.size + 1 + 1 + 1 < w2.heap.size := World.block_lt_of_cell? _ _ f2_3_0
  unfold HasPap at hB2_4
  obtain ⟨f2_4_0, f2_4_1, f2_4_2, f2_4_3, f2_4_4, f2_4_5, f2_4_6, f2_4_7, f2_4_8, f2_4_9⟩ := hB2_4
  have z2_4 : w1.heap.size < w2.heap.size := World.block_lt_of_cell? _ _ f2_4_0
  unfold HasPt at hB2_5
  obtain ⟨f2_5_0, f2_5_1, f2_5_2⟩ := hB2_5
  have z2_5 : w1.heap.size + 1 < w2.heap.size := World.block_lt_of_cell? _ _ f2_5_0
  have zz2 := C2.size
  go_wp2_with fail
  go_ret
  exact ⟨rfl, by
    repeat' (first | with_reducible exact Below.refl _ _ | with_reducible exact C2 | with_reducible refine set1 ?_ (by omega) _ _ | with_reducible refine Below.alloc ?_ (by (try simp only [World.size_alloc, World.size_setCell]); omega) _ | with_reducible refine below_drewN ?_ _ | with_reducible refine Below.drew ?_)⟩
set_option maxRecDepth 100000 in
set_option maxHeartbeats 2000000 in
theorem nar_out2 (p : Pap) (t : Pt) (al ah cl ch k c : Int) (w : World) (h1 : p.al ≤ al ∧ ah ≤ p.ah) (h2 : ¬ (p.cl ≤ cl ∧ ch ≤ p.ch)) :
    Calls Try.prog 13 #[p.v, t.v, .agg #[.int .i64 al, .int .i64 ah], .agg #[.int .i64 cl, .int .i64 ch], .int .i64 k, .int .i64 c] w fun e w' => e = .returned (.bool true) ∧ Below w.heap.size w w' := by
  go_enter Try.func13, Try.ntmps13
  go_wp2_with fail
  refine (awake_any _).mono ?_
  rintro e w1 ⟨rfl, hb1⟩
  have hB1_0 : HasPap (p) (w.heap.size) w1 := HasPap.up (by unfold HasPap; go_simp) hb1 (by (try simp only [World.size_alloc]); omega)
  have hB1_1 : HasPt (t) (w.heap.size + 1) w1 := HasPt.up (by unfold HasPt; go_simp) hb1 (by (try simp only [World.size_alloc]); omega)
  have hB1_2 : HasSp (al) (ah) (w.heap.size + 1 + 1) w1 := HasSp.up (by unfold HasSp; go_simp) hb1 (by (try simp only [World.size_alloc]); omega)
  have hB1_3 : HasSp (cl) (ch) (w.heap.size + 1 + 1 + 1) w1 := HasSp.up (by unfold HasSp; go_simp) hb1 (by (try simp only [World.size_alloc]); omega)
  have C1 : Below w.heap.size w w1 := by
    refine Below.trans ?_ (hb1.mono ?_)
    · repeat' (first | with_reducible exact Below.refl _ _ | with_reducible exact Below.refl _ _ | with_reducible refine set1 ?_ (by omega) _ _ | with_reducible refine Below.alloc ?_ (by (try simp only [World.size_alloc]); omega) _ | with_reducible refine below_drewN ?_ _ | with_reducible refine Below.drew ?_)
    · (try simp only [World.size_alloc]); omega
  clear hb1
  unfold HasPap at hB1_0
  obtain ⟨f1_0_0, f1_0_1, f1_0_2, f1_0_3, f1_0_4, f1_0_5, f1_0_6, f1_0_7, f1_0_8, f1_0_9⟩ := hB1_0
  have z1_0 : w.heap.size < w1.heap.size := World.block_lt_of_cell? _ _ f1_0_0
  unfold HasPt at hB1_1
  obtain ⟨f1_1_0, f1_1_1, f1_1_2⟩ := hB1_1
  have z1_1 : w.heap.size + 1 < w1.heap.size := World.block_lt_of_cell? _ _ f1_1_0
  unfold HasSp at hB1_2
  obtain ⟨f1_2_0, f1_2_1⟩ := hB1_2
  have z1_2 : w.heap.size + 1 + 1 < w1.heap.size := World.block_lt_of_cell? _ _ f1_2_0
  unfold HasSp at hB1_3
  obtain ⟨f1_3_0, f1_3_1⟩ := hB1_3
  have z1_3 : w.heap.size + 1 + 1 + 1 < w1.heap.size := World.block_lt_of_cell? _ _ f1_3_0
  have zz1 := C1.size
  go_wp2_with fail
  refine (inside_t al ah p.al p.ah _ h1).mono ?_
  rintro e w2 ⟨rfl, hb2⟩
  have hB2_0 : HasPap (p) (w.heap.size) w2 := HasPap.up (by unfold HasPap; go_simp) hb2 (by (try simp only [World.size_alloc]); omega)
  have hB2_1 : HasPt (t) (w.heap.size + 1) w2 := HasPt.up (by unfold HasPt; go_simp) hb2 (by (try simp only [World.size_alloc]); omega)
  have hB2_2 : HasSp (al) (ah) (w.heap.size + 1 + 1) w2 := HasSp.up (by unfold HasSp; go_simp) hb2 (by (try simp only [World.size_alloc]); omega)
  have hB2_3 : HasSp (cl) (ch) (w.heap.size + 1 + 1 + 1) w2 := HasSp.up (by unfold HasSp; go_simp) hb2 (by (try simp only [World.size_alloc]); omega)
  have hB2_4 : HasPap (⟨p.pitch, p.height, p.radius, p.low, p.high, p.cols, al, ah, cl, ch⟩) (w1.heap.size) w2 := HasPap.up (by unfold HasPap; go_simp) hb2 (by (try simp only [World.size_alloc]); omega)
  have hB2_5 : HasPt (⟨t.x, t.y, k⟩) (w1.heap.size + 1) w2 := HasPt.up (by unfold HasPt; go_simp) hb2 (by (try simp only [World.size_alloc]); omega)
  have C2 : Below w.heap.size w w2 := by
    refine Below.trans ?_ (hb2.mono ?_)
    · repeat' (first | with_reducible exact Below.refl _ _ | with_reducible exact C1 | with_reducible refine set1 ?_ (by omega) _ _ | with_reducible refine Below.alloc ?_ (by (try simp only [World.size_alloc]); omega) _ | with_reducible refine below_drewN ?_ _ | with_reducible refine Below.drew ?_)
    · (try simp only [World.size_alloc]); omega
  clear f1_0_0 f1_0_1 f1_0_2 f1_0_3 f1_0_4 f1_0_5 f1_0_6 f1_0_7 f1_0_8 f1_0_9 f1_1_0 f1_1_1 f1_1_2 f1_2_0 f1_2_1 f1_3_0 f1_3_1 hb2
  unfold HasPap at hB2_0
  obtain ⟨f2_0_0, f2_0_1, f2_0_2, f2_0_3, f2_0_4, f2_0_5, f2_0_6, f2_0_7, f2_0_8, f2_0_9⟩ := hB2_0
  have z2_0 : w.heap.size < w2.heap.size := World.block_lt_of_cell? _ _ f2_0_0
  unfold HasPt at hB2_1
  obtain ⟨f2_1_0, f2_1_1, f2_1_2⟩ := hB2_1
  have z2_1 : w.heap.size + 1 < w2.heap.size := World.block_lt_of_cell? _ _ f2_1_0
  unfold HasSp at hB2_2
  obtain ⟨f2_2_0, f2_2_1⟩ := hB2_2
  have z2_2 : w.heap.size + 1 + 1 < w2.heap.size := World.block_lt_of_cell? _ _ f2_2_0
  unfold HasSp at hB2_3
  obtain ⟨f2_3_0, f2_3_1⟩ := hB2_3
  have z2_3 : w.heap.size + 1 + 1 + 1 < w2.heap.size := World.block_lt_of_cell? _ _ f2_3_0
  unfold HasPap at hB2_4
  obtain ⟨f2_4_0, f2_4_1, f2_4_2, f2_4_3, f2_4_4, f2_4_5, f2_4_6, f2_4_7, f2_4_8, f2_4_9⟩ := hB2_4
  have z2_4 : w1.heap.size < w2.heap.size := World.block_lt_of_cell? _ _ f2_4_0
  unfold HasPt at hB2_5
  obtain ⟨f2_5_0, f2_5_1, f2_5_2⟩ := hB2_5
  have z2_5 : w1.heap.size + 1 < w2.heap.size := World.block_lt_of_cell? _ _ f2_5_0
  have zz2 := C2.size
  go_wp2_with fail
  refine (inside_f cl ch p.cl p.ch _ h2).mono ?_
  rintro e w3 ⟨rfl, hb3⟩
  have hB3_0 : HasPap (p) (w.heap.size) w3 := HasPap.up (by unfold HasPap; go_simp) hb3 (by (try simp only [World.size_alloc, World.size_setCell]); omega)
  have hB3_1 : HasPt (t) (w.heap.size + 1) w3 := HasPt.up (by unfold HasPt; go_simp) hb3 (by (try simp only [World.size_alloc, World.size_setCell]); omega)
  have hB3_2 : HasSp (al) (ah) (w.heap.size + 1 + 1) w3 := HasSp.up (by unfold HasSp; go_simp) hb3 (by (try simp only [World.size_alloc, World.size_setCell]); omega)
  have hB3_3 : HasSp (cl) (ch) (w.heap.size + 1 + 1 + 1) w3 := HasSp.up (by unfold HasSp; go_simp) hb3 (by (try simp only [World.size_alloc, World.size_setCell]); omega)
  have hB3_4 : HasPap (⟨p.pitch, p.height, p.radius, p.low, p.high, p.cols, al, ah, cl, ch⟩) (w1.heap.size) w3 := HasPap.up (by unfold HasPap; go_simp) hb3 (by (try simp only [World.size_alloc, World.size_setCell]); omega)
  have hB3_5 : HasPt (⟨t.x, t.y, k⟩) (w1.heap.size + 1) w3 := HasPt.up (by unfold HasPt; go_simp) hb3 (by (try simp only [World.size_alloc, World.size_setCell]); omega)
  have C3 : Below w.heap.size w w3 := by
    refine Below.trans ?_ (hb3.mono ?_)
    · repeat' (first | with_reducible exact Below.refl _ _ | with_reducible exact C2 | with_reducible refine set1 ?_ (by omega) _ _ | with_reducible refine Below.alloc ?_ (by (try simp only [World.size_alloc, World.size_setCell]); omega) _ | with_reducible refine below_drewN ?_ _ | with_reducible refine Below.drew ?_)
    · (try simp only [World.size_alloc, World.size_setCell]); omega
  clear f2_0_0 f2_0_1 f2_0_2 f2_0_3 f2_0_4 f2_0_5 f2_0_6 f2_0_7 f2_0_8 f2_0_9 f2_1_0 f2_1_1 f2_1_2 f2_2_0 f2_2_1 f2_3_0 f2_3_1 f2_4_0 f2_4_1 f2_4_2 f2_4_3 f2_4_4 f2_4_5 f2_4_6 f2_4_7 f2_4_8 f2_4_9 f2_5_0 f2_5_1 f2_5_2 hb3
  unfold HasPap at hB3_0
  obtain ⟨f3_0_0, f3_0_1, f3_0_2, f3_0_3, f3_0_4, f3_0_5, f3_0_6, f3_0_7, f3_0_8, f3_0_9⟩ := hB3_0
  have z3_0 : w.heap.size < w3.heap.size := World.block_lt_of_cell? _ _ f3_0_0
  unfold HasPt at hB3_1
  obtain ⟨f3_1_0, f3_1_1, f3_1_2⟩ := hB3_1
  have z3_1 : w.heap.size + 1 < w3.heap.size := World.block_lt_of_cell? _ _ f3_1_0
  unfold HasSp at hB3_2
  obtain ⟨f3_2_0, f3_2_1⟩ := hB3_2
  have z3_2 : w.heap.size + 1 + 1 < w3.heap.size := World.block_lt_of_cell? _ _ f3_2_0
  unfold HasSp at hB3_3
  obtain ⟨f3_3_0, f3_3_1⟩ := hB3_3
  have z3_3 : w.heap.size + 1 + 1 + 1 < w3.heap.size := World.block_lt_of_cell? _ _ f3_3_0
  unfold HasPap at hB3_4
  obtain ⟨f3_4_0, f3_4_1, f3_4_2, f3_4_3, f3_4_4, f3_4_5, f3_4_6, f3_4_7, f3_4_8, f3_4_9⟩ := hB3_4
  have z3_4 : w1.heap.size < w3.heap.size := World.block_lt_of_cell? _ _ f3_4_0
  unfold HasPt at hB3_5
  obtain ⟨f3_5_0, f3_5_1, f3_5_2⟩ := hB3_5
  have z3_5 : w1.heap.size + 1 < w3.heap.size := World.block_lt_of_cell? _ _ f3_5_0
  have zz3 := C3.size
  go_wp2_with fail
  go_ret
  exact ⟨rfl, by
    repeat' (first | with_reducible exact Below.refl _ _ | with_reducible exact C3 | with_reducible refine set1 ?_ (by omega) _ _ | with_reducible refine Below.alloc ?_ (by (try simp only [World.size_alloc, World.size_setCell]); omega) _ | with_reducible refine below_drewN ?_ _ | with_reducible refine Below.drew ?_)⟩
set_option maxRecDepth 100000 in
set_option maxHeartbeats 2000000 in
theorem nar_out3 (p : Pap) (t : Pt) (al ah cl ch k c : Int) (w : World) (h1 : p.al ≤ al ∧ ah ≤ p.ah) (h2 : p.cl ≤ cl ∧ ch ≤ p.ch) (h3 : k > t.half) :
    Calls Try.prog 13 #[p.v, t.v, .agg #[.int .i64 al, .int .i64 ah], .agg #[.int .i64 cl, .int .i64 ch], .int .i64 k, .int .i64 c] w fun e w' => e = .returned (.bool true) ∧ Below w.heap.size w w' := by
  go_enter Try.func13, Try.ntmps13
  go_wp2_with fail
  refine (awake_any _).mono ?_
  rintro e w1 ⟨rfl, hb1⟩
  have hB1_0 : HasPap (p) (w.heap.size) w1 := HasPap.up (by unfold HasPap; go_simp) hb1 (by (try simp only [World.size_alloc]); omega)
  have hB1_1 : HasPt (t) (w.heap.size + 1) w1 := HasPt.up (by unfold HasPt; go_simp) hb1 (by (try simp only [World.size_alloc]); omega)
  have hB1_2 : HasSp (al) (ah) (w.heap.size + 1 + 1) w1 := HasSp.up (by unfold HasSp; go_simp) hb1 (by (try simp only [World.size_alloc]); omega)
  have hB1_3 : HasSp (cl) (ch) (w.heap.size + 1 + 1 + 1) w1 := HasSp.up (by unfold HasSp; go_simp) hb1 (by (try simp only [World.size_alloc]); omega)
  have C1 : Below w.heap.size w w1 := by
    refine Below.trans ?_ (hb1.mono ?_)
    · repeat' (first | with_reducible exact Below.refl _ _ | with_reducible exact Below.refl _ _ | with_reducible refine set1 ?_ (by omega) _ _ | with_reducible refine Below.alloc ?_ (by (try simp only [World.size_alloc]); omega) _ | with_reducible refine below_drewN ?_ _ | with_reducible refine Below.drew ?_)
    · (try simp only [World.size_alloc]); omega
  clear hb1
  unfold HasPap at hB1_0
  obtain ⟨f1_0_0, f1_0_1, f1_0_2, f1_0_3, f1_0_4, f1_0_5, f1_0_6, f1_0_7, f1_0_8, f1_0_9⟩ := hB1_0
  have z1_0 : w.heap.size < w1.heap.size := World.block_lt_of_cell? _ _ f1_0_0
  unfold HasPt at hB1_1
  obtain ⟨f1_1_0, f1_1_1, f1_1_2⟩ := hB1_1
  have z1_1 : w.heap.size + 1 < w1.heap.size := World.block_lt_of_cell? _ _ f1_1_0
  unfold HasSp at hB1_2
  obtain ⟨f1_2_0, f1_2_1⟩ := hB1_2
  have z1_2 : w.heap.size + 1 + 1 < w1.heap.size := World.block_lt_of_cell? _ _ f1_2_0
  unfold HasSp at hB1_3
  obtain ⟨f1_3_0, f1_3_1⟩ := hB1_3
  have z1_3 : w.heap.size + 1 + 1 + 1 < w1.heap.size := World.block_lt_of_cell? _ _ f1_3_0
  have zz1 := C1.size
  go_wp2_with fail
  refine (inside_t al ah p.al p.ah _ h1).mono ?_
  rintro e w2 ⟨rfl, hb2⟩
  have hB2_0 : HasPap (p) (w.heap.size) w2 := HasPap.up (by unfold HasPap; go_simp) hb2 (by (try simp only [World.size_alloc]); omega)
  have hB2_1 : HasPt (t) (w.heap.size + 1) w2 := HasPt.up (by unfold HasPt; go_simp) hb2 (by (try simp only [World.size_alloc]); omega)
  have hB2_2 : HasSp (al) (ah) (w.heap.size + 1 + 1) w2 := HasSp.up (by unfold HasSp; go_simp) hb2 (by (try simp only [World.size_alloc]); omega)
  have hB2_3 : HasSp (cl) (ch) (w.heap.size + 1 + 1 + 1) w2 := HasSp.up (by unfold HasSp; go_simp) hb2 (by (try simp only [World.size_alloc]); omega)
  have hB2_4 : HasPap (⟨p.pitch, p.height, p.radius, p.low, p.high, p.cols, al, ah, cl, ch⟩) (w1.heap.size) w2 := HasPap.up (by unfold HasPap; go_simp) hb2 (by (try simp only [World.size_alloc]); omega)
  have hB2_5 : HasPt (⟨t.x, t.y, k⟩) (w1.heap.size + 1) w2 := HasPt.up (by unfold HasPt; go_simp) hb2 (by (try simp only [World.size_alloc]); omega)
  have C2 : Below w.heap.size w w2 := by
    refine Below.trans ?_ (hb2.mono ?_)
    · repeat' (first | with_reducible exact Below.refl _ _ | with_reducible exact C1 | with_reducible refine set1 ?_ (by omega) _ _ | with_reducible refine Below.alloc ?_ (by (try simp only [World.size_alloc]); omega) _ | with_reducible refine below_drewN ?_ _ | with_reducible refine Below.drew ?_)
    · (try simp only [World.size_alloc]); omega
  clear f1_0_0 f1_0_1 f1_0_2 f1_0_3 f1_0_4 f1_0_5 f1_0_6 f1_0_7 f1_0_8 f1_0_9 f1_1_0 f1_1_1 f1_1_2 f1_2_0 f1_2_1 f1_3_0 f1_3_1 hb2
  unfold HasPap at hB2_0
  obtain ⟨f2_0_0, f2_0_1, f2_0_2, f2_0_3, f2_0_4, f2_0_5, f2_0_6, f2_0_7, f2_0_8, f2_0_9⟩ := hB2_0
  have z2_0 : w.heap.size < w2.heap.size := World.block_lt_of_cell? _ _ f2_0_0
  unfold HasPt at hB2_1
  obtain ⟨f2_1_0, f2_1_1, f2_1_2⟩ := hB2_1
  have z2_1 : w.heap.size + 1 < w2.heap.size := World.block_lt_of_cell? _ _ f2_1_0
  unfold HasSp at hB2_2
  obtain ⟨f2_2_0, f2_2_1⟩ := hB2_2
  have z2_2 : w.heap.size + 1 + 1 < w2.heap.size := World.block_lt_of_cell? _ _ f2_2_0
  unfold HasSp at hB2_3
  obtain ⟨f2_3_0, f2_3_1⟩ := hB2_3
  have z2_3 : w.heap.size + 1 + 1 + 1 < w2.heap.size := World.block_lt_of_cell? _ _ f2_3_0
  unfold HasPap at hB2_4
  obtain ⟨f2_4_0, f2_4_1, f2_4_2, f2_4_3, f2_4_4, f2_4_5, f2_4_6, f2_4_7, f2_4_8, f2_4_9⟩ := hB2_4
  have z2_4 : w1.heap.size < w2.heap.size := World.block_lt_of_cell? _ _ f2_4_0
  unfold HasPt at hB2_5
  obtain ⟨f2_5_0, f2_5_1, f2_5_2⟩ := hB2_5
  have z2_5 : w1.heap.size + 1 < w2.heap.size := World.block_lt_of_cell? _ _ f2_5_0
  have zz2 := C2.size
  go_wp2_with fail
  refine (inside_t cl ch p.cl p.ch _ h2).mono ?_
  rintro e w3 ⟨rfl, hb3⟩
  have hB3_0 : HasPap (p) (w.heap.size) w3 := HasPap.up (by unfold HasPap; go_simp) hb3 (by (try simp only [World.size_alloc, World.size_setCell]); omega)
  have hB3_1 : HasPt (t) (w.heap.size + 1) w3 := HasPt.up (by unfold HasPt; go_simp) hb3 (by (try simp only [World.size_alloc, World.size_setCell]); omega)
  have hB3_2 : HasSp (al) (ah) (w.heap.size + 1 + 1) w3 := HasSp.up (by unfold HasSp; go_simp) hb3 (by (try simp only [World.size_alloc, World.size_setCell]); omega)
  have hB3_3 : HasSp (cl) (ch) (w.heap.size + 1 + 1 + 1) w3 := HasSp.up (by unfold HasSp; go_simp) hb3 (by (try simp only [World.size_alloc, World.size_setCell]); omega)
  have hB3_4 : HasPap (⟨p.pitch, p.height, p.radius, p.low, p.high, p.cols, al, ah, cl, ch⟩) (w1.heap.size) w3 := HasPap.up (by unfold HasPap; go_simp) hb3 (by (try simp only [World.size_alloc, World.size_setCell]); omega)
  have hB3_5 : HasPt (⟨t.x, t.y, k⟩) (w1.heap.size + 1) w3 := HasPt.up (by unfold HasPt; go_simp) hb3 (by (try simp only [World.size_alloc, World.size_setCell]); omega)
  have C3 : Below w.heap.size w w3 := by
    refine Below.trans ?_ (hb3.mono ?_)
    · repeat' (first | with_reducible exact Below.refl _ _ | with_reducible exact C2 | with_reducible refine set1 ?_ (by omega) _ _ | with_reducible refine Below.alloc ?_ (by (try simp only [World.size_alloc, World.size_setCell]); omega) _ | with_reducible refine below_drewN ?_ _ | with_reducible refine Below.drew ?_)
    · (try simp only [World.size_alloc, World.size_setCell]); omega
  clear f2_0_0 f2_0_1 f2_0_2 f2_0_3 f2_0_4 f2_0_5 f2_0_6 f2_0_7 f2_0_8 f2_0_9 f2_1_0 f2_1_1 f2_1_2 f2_2_0 f2_2_1 f2_3_0 f2_3_1 f2_4_0 f2_4_1 f2_4_2 f2_4_3 f2_4_4 f2_4_5 f2_4_6 f2_4_7 f2_4_8 f2_4_9 f2_5_0 f2_5_1 f2_5_2 hb3
  unfold HasPap at hB3_0
  obtain ⟨f3_0_0, f3_0_1, f3_0_2, f3_0_3, f3_0_4, f3_0_5, f3_0_6, f3_0_7, f3_0_8, f3_0_9⟩ := hB3_0
  have z3_0 : w.heap.size < w3.heap.size := World.block_lt_of_cell? _ _ f3_0_0
  unfold HasPt at hB3_1
  obtain ⟨f3_1_0, f3_1_1, f3_1_2⟩ := hB3_1
  have z3_1 : w.heap.size + 1 < w3.heap.size := World.block_lt_of_cell? _ _ f3_1_0
  unfold HasSp at hB3_2
  obtain ⟨f3_2_0, f3_2_1⟩ := hB3_2
  have z3_2 : w.heap.size + 1 + 1 < w3.heap.size := World.block_lt_of_cell? _ _ f3_2_0
  unfold HasSp at hB3_3
  obtain ⟨f3_3_0, f3_3_1⟩ := hB3_3
  have z3_3 : w.heap.size + 1 + 1 + 1 < w3.heap.size := World.block_lt_of_cell? _ _ f3_3_0
  unfold HasPap at hB3_4
  obtain ⟨f3_4_0, f3_4_1, f3_4_2, f3_4_3, f3_4_4, f3_4_5, f3_4_6, f3_4_7, f3_4_8, f3_4_9⟩ := hB3_4
  have z3_4 : w1.heap.size < w3.heap.size := World.block_lt_of_cell? _ _ f3_4_0
  unfold HasPt at hB3_5
  obtain ⟨f3_5_0, f3_5_1, f3_5_2⟩ := hB3_5
  have z3_5 : w1.heap.size + 1 < w3.heap.size := World.block_lt_of_cell? _ _ f3_5_0
  have zz3 := C3.size
  go_wp2_with fail
  go_ret
  exact ⟨rfl, by
    repeat' (first | with_reducible exact Below.refl _ _ | with_reducible exact C3 | with_reducible refine set1 ?_ (by omega) _ _ | with_reducible refine Below.alloc ?_ (by (try simp only [World.size_alloc, World.size_setCell]); omega) _ | with_reducible refine below_drewN ?_ _ | with_reducible refine Below.drew ?_)⟩
set_option maxRecDepth 100000 in
set_option maxHeartbeats 2000000 in
theorem nar_err (p : Pap) (t : Pt) (al ah cl ch k c : Int) (w : World) (e1 e2 : Int) (l1 l2 : List (Int × Int)) (h1 : p.al ≤ al ∧ ah ≤ p.ah) (h2 : p.cl ≤ cl ∧ ch ≤ p.ch) (h3 : k ≤ t.half)
    (K1 : Hid (∀ w, Calls Try.prog 46 #[p.v, t.v, .int .i64 c] w (MPost w e1 l1)))
    (K2 : Hid (∀ w, Calls Try.prog 46 #[(⟨p.pitch, p.height, p.radius, p.low, p.high, p.cols, al, ah, cl, ch⟩ : Pap).v, (⟨t.x, t.y, k⟩ : Pt).v, .int .i64 c] w (MPost w e2 l2)))
    (he : e1 ≠ 0 ∨ e2 ≠ 0) :
    Calls Try.prog 13 #[p.v, t.v, .agg #[.int .i64 al, .int .i64 ah], .agg #[.int .i64 cl, .int .i64 ch], .int .i64 k, .int .i64 c] w fun e w' => e = .returned (.bool true) ∧ Below w.heap.size w w' := by
  by_cases h4 : e1 = 0
  · have d1 : (e1 != 0) = false := by simp [h4]
    have d2 : (e2 != 0) = true := by simp; omega
    clear he h4
    go_enter Try.func13, Try.ntmps13
    go_wp2_with fail
    refine (awake_any _).mono ?_
    rintro e w1 ⟨rfl, hb1⟩
    have hB1_0 : HasPap (p) (w.heap.size) w1 := HasPap.up (by unfold HasPap; go_simp) hb1 (by (try simp only [World.size_alloc]); omega)
    have hB1_1 : HasPt (t) (w.heap.size + 1) w1 := HasPt.up (by unfold HasPt; go_simp) hb1 (by (try simp only [World.size_alloc]); omega)
    have hB1_2 : HasSp (al) (ah) (w.heap.size + 1 + 1) w1 := HasSp.up (by unfold HasSp; go_simp) hb1 (by (try simp only [World.size_alloc]); omega)
    have hB1_3 : HasSp (cl) (ch) (w.heap.size + 1 + 1 + 1) w1 := HasSp.up (by unfold HasSp; go_simp) hb1 (by (try simp only [World.size_alloc]); omega)
    have C1 : Below w.heap.size w w1 := by
      refine Below.trans ?_ (hb1.mono ?_)
      · repeat' (first | with_reducible exact Below.refl _ _ | with_reducible exact Below.refl _ _ | with_reducible refine set1 ?_ (by omega) _ _ | with_reducible refine Below.alloc ?_ (by (try simp only [World.size_alloc]); omega) _ | with_reducible refine below_drewN ?_ _ | with_reducible refine Below.drew ?_)
      · (try simp only [World.size_alloc]); omega
    clear hb1
    unfold HasPap at hB1_0
    obtain ⟨f1_0_0, f1_0_1, f1_0_2, f1_0_3, f1_0_4, f1_0_5, f1_0_6, f1_0_7, f1_0_8, f1_0_9⟩ := hB1_0
    have z1_0 : w.heap.size < w1.heap.size := World.block_lt_of_cell? _ _ f1_0_0
    unfold HasPt at hB1_1
    obtain ⟨f1_1_0, f1_1_1, f1_1_2⟩ := hB1_1
    have z1_1 : w.heap.size + 1 < w1.heap.size := World.block_lt_of_cell? _ _ f1_1_0
    unfold HasSp at hB1_2
    obtain ⟨f1_2_0, f1_2_1⟩ := hB1_2
    have z1_2 : w.heap.size + 1 + 1 < w1.heap.size := World.block_lt_of_cell? _ _ f1_2_0
    unfold HasSp at hB1_3
    obtain ⟨f1_3_0, f1_3_1⟩ := hB1_3
    have z1_3 : w.heap.size + 1 + 1 + 1 < w1.heap.size := World.block_lt_of_cell? _ _ f1_3_0
    have zz1 := C1.size
    go_wp2_with fail
    refine (inside_t al ah p.al p.ah _ h1).mono ?_
    rintro e w2 ⟨rfl, hb2⟩
    have hB2_0 : HasPap (p) (w.heap.size) w2 := HasPap.up (by unfold HasPap; go_simp) hb2 (by (try simp only [World.size_alloc]); omega)
    have hB2_1 : HasPt (t) (w.heap.size + 1) w2 := HasPt.up (by unfold HasPt; go_simp) hb2 (by (try simp only [World.size_alloc]); omega)
    have hB2_2 : HasSp (al) (ah) (w.heap.size + 1 + 1) w2 := HasSp.up (by unfold HasSp; go_simp) hb2 (by (try simp only [World.size_alloc]); omega)
    have hB2_3 : HasSp (cl) (ch) (w.heap.size + 1 + 1 + 1) w2 := HasSp.up (by unfold HasSp; go_simp) hb2 (by (try simp only [World.size_alloc]); omega)
    have hB2_4 : HasPap (⟨p.pitch, p.height, p.radius, p.low, p.high, p.cols, al, ah, cl, ch⟩) (w1.heap.size) w2 := HasPap.up (by unfold HasPap; go_simp) hb2 (by (try simp only [World.size_alloc]); omega)
    have hB2_5 : HasPt (⟨t.x, t.y, k⟩) (w1.heap.size + 1) w2 := HasPt.up (by unfold HasPt; go_simp) hb2 (by (try simp only [World.size_alloc]); omega)
    have C2 : Below w.heap.size w w2 := by
      refine Below.trans ?_ (hb2.mono ?_)
      · repeat' (first | with_reducible exact Below.refl _ _ | with_reducible exact C1 | with_reducible refine set1 ?_ (by omega) _ _ | with_reducible refine Below.alloc ?_ (by (try simp only [World.size_alloc]); omega) _ | with_reducible refine below_drewN ?_ _ | with_reducible refine Below.drew ?_)
      · (try simp only [World.size_alloc]); omega
    clear f1_0_0 f1_0_1 f1_0_2 f1_0_3 f1_0_4 f1_0_5 f1_0_6 f1_0_7 f1_0_8 f1_0_9 f1_1_0 f1_1_1 f1_1_2 f1_2_0 f1_2_1 f1_3_0 f1_3_1 hb2
    unfold HasPap at hB2_0
    obtain ⟨f2_0_0, f2_0_1, f2_0_2, f2_0_3, f2_0_4, f2_0_5, f2_0_6, f2_0_7, f2_0_8, f2_0_9⟩ := hB2_0
    have z2_0 : w.heap.size < w2.heap.size := World.block_lt_of_cell? _ _ f2_0_0
    unfold HasPt at hB2_1
    obtain ⟨f2_1_0, f2_1_1, f2_1_2⟩ := hB2_1
    have z2_1 : w.heap.size + 1 < w2.heap.size := World.block_lt_of_cell? _ _ f2_1_0
    unfold HasSp at hB2_2
    obtain ⟨f2_2_0, f2_2_1⟩ := hB2_2
    have z2_2 : w.heap.size + 1 + 1 < w2.heap.size := World.block_lt_of_cell? _ _ f2_2_0
    unfold HasSp at hB2_3
    obtain ⟨f2_3_0, f2_3_1⟩ := hB2_3
    have z2_3 : w.heap.size + 1 + 1 + 1 < w2.heap.size := World.block_lt_of_cell? _ _ f2_3_0
    unfold HasPap at hB2_4
    obtain ⟨f2_4_0, f2_4_1, f2_4_2, f2_4_3, f2_4_4, f2_4_5, f2_4_6, f2_4_7, f2_4_8, f2_4_9⟩ := hB2_4
    have z2_4 : w1.heap.size < w2.heap.size := World.block_lt_of_cell? _ _ f2_4_0
    unfold HasPt at hB2_5
    obtain ⟨f2_5_0, f2_5_1, f2_5_2⟩ := hB2_5
    have z2_5 : w1.heap.size + 1 < w2.heap.size := World.block_lt_of_cell? _ _ f2_5_0
    have zz2 := C2.size
    go_wp2_with fail
    refine (inside_t cl ch p.cl p.ch _ h2).mono ?_
    rintro e w3 ⟨rfl, hb3⟩
    have hB3_0 : HasPap (p) (w.heap.size) w3 := HasPap.up (by unfold HasPap; go_simp) hb3 (by (try simp only [World.size_alloc, World.size_setCell]); omega)
    have hB3_1 : HasPt (t) (w.heap.size + 1) w3 := HasPt.up (by unfold HasPt; go_simp) hb3 (by (try simp only [World.size_alloc, World.size_setCell]); omega)
    have hB3_2 : HasSp (al) (ah) (w.heap.size + 1 + 1) w3 := HasSp.up (by unfold HasSp; go_simp) hb3 (by (try simp only [World.size_alloc, World.size_setCell]); omega)
    have hB3_3 : HasSp (cl) (ch) (w.heap.size + 1 + 1 + 1) w3 := HasSp.up (by unfold HasSp; go_simp) hb3 (by (try simp only [World.size_alloc, World.size_setCell]); omega)
    have hB3_4 : HasPap (⟨p.pitch, p.height, p.radius, p.low, p.high, p.cols, al, ah, cl, ch⟩) (w1.heap.size) w3 := HasPap.up (by unfold HasPap; go_simp) hb3 (by (try simp only [World.size_alloc, World.size_setCell]); omega)
    have hB3_5 : HasPt (⟨t.x, t.y, k⟩) (w1.heap.size + 1) w3 := HasPt.up (by unfold HasPt; go_simp) hb3 (by (try simp only [World.size_alloc, World.size_setCell]); omega)
    have C3 : Below w.heap.size w w3 := by
      refine Below.trans ?_ (hb3.mono ?_)
      · repeat' (first | with_reducible exact Below.refl _ _ | with_reducible exact C2 | with_reducible refine set1 ?_ (by omega) _ _ | with_reducible refine Below.alloc ?_ (by (try simp only [World.size_alloc, World.size_setCell]); omega) _ | with_reducible refine below_drewN ?_ _ | with_reducible refine Below.drew ?_)
      · (try simp only [World.size_alloc, World.size_setCell]); omega
    clear f2_0_0 f2_0_1 f2_0_2 f2_0_3 f2_0_4 f2_0_5 f2_0_6 f2_0_7 f2_0_8 f2_0_9 f2_1_0 f2_1_1 f2_1_2 f2_2_0 f2_2_1 f2_3_0 f2_3_1 f2_4_0 f2_4_1 f2_4_2 f2_4_3 f2_4_4 f2_4_5 f2_4_6 f2_4_7 f2_4_8 f2_4_9 f2_5_0 f2_5_1 f2_5_2 hb3
    unfold HasPap at hB3_0
    obtain ⟨f3_0_0, f3_0_1, f3_0_2, f3_0_3, f3_0_4, f3_0_5, f3_0_6, f3_0_7, f3_0_8, f3_0_9⟩ := hB3_0
    have z3_0 : w.heap.size < w3.heap.size := World.block_lt_of_cell? _ _ f3_0_0
    unfold HasPt at hB3_1
    obtain ⟨f3_1_0, f3_1_1, f3_1_2⟩ := hB3_1
    have z3_1 : w.heap.size + 1 < w3.heap.size := World.block_lt_of_cell? _ _ f3_1_0
    unfold HasSp at hB3_2
    obtain ⟨f3_2_0, f3_2_1⟩ := hB3_2
    have z3_2 : w.heap.size + 1 + 1 < w3.heap.size := World.block_lt_of_cell? _ _ f3_2_0
    unfold HasSp at hB3_3
    obtain ⟨f3_3_0, f3_3_1⟩ := hB3_3
    have z3_3 : w.heap.size + 1 + 1 + 1 < w3.heap.size := World.block_lt_of_cell? _ _ f3_3_0
    unfold HasPap at hB3_4
    obtain ⟨f3_4_0, f3_4_1, f3_4_2, f3_4_3, f3_4_4, f3_4_5, f3_4_6, f3_4_7, f3_4_8, f3_4_9⟩ := hB3_4
    have z3_4 : w1.heap.size < w3.heap.size := World.block_lt_of_cell? _ _ f3_4_0
    unfold HasPt at hB3_5
    obtain ⟨f3_5_0, f3_5_1, f3_5_2⟩ := hB3_5
    have z3_5 : w1.heap.size + 1 < w3.heap.size := World.block_lt_of_cell? _ _ f3_5_0
    have zz3 := C3.size
    go_wp2_with fail
    refine (K1.out _).mono ?_
    rintro e w4 ⟨v1, rfl, hb4, hR1⟩
    have hB4_0 : HasPap (p) (w.heap.size) w4 := HasPap.up (by unfold HasPap; go_simp) hb4 (by (try simp only [World.size_alloc, World.size_setCell]); omega)
    have hB4_1 : HasPt (t) (w.heap.size + 1) w4 := HasPt.up (by unfold HasPt; go_simp) hb4 (by (try simp only [World.size_alloc, World.size_setCell]); omega)
    have hB4_2 : HasSp (al) (ah) (w.heap.size + 1 + 1) w4 := HasSp.up (by unfold HasSp; go_simp) hb4 (by (try simp only [World.size_alloc, World.size_setCell]); omega)
    have hB4_3 : HasSp (cl) (ch) (w.heap.size + 1 + 1 + 1) w4 := HasSp.up (by unfold HasSp; go_simp) hb4 (by (try simp only [World.size_alloc, World.size_setCell]); omega)
    have hB4_4 : HasPap (⟨p.pitch, p.height, p.radius, p.low, p.high, p.cols, al, ah, cl, ch⟩) (w1.heap.size) w4 := HasPap.up (by unfold HasPap; go_simp) hb4 (by (try simp only [World.size_alloc, World.size_setCell]); omega)
    have hB4_5 : HasPt (⟨t.x, t.y, k⟩) (w1.heap.size + 1) w4 := HasPt.up (by unfold HasPt; go_simp) hb4 (by (try simp only [World.size_alloc, World.size_setCell]); omega)
    have C4 : Below w.heap.size w w4 := by
      refine Below.trans ?_ (hb4.mono ?_)
      · repeat' (first | with_reducible exact Below.refl _ _ | with_reducible exact C3 | with_reducible refine set1 ?_ (by omega) _ _ | with_reducible refine Below.alloc ?_ (by (try simp only [World.size_alloc, World.size_setCell]); omega) _ | with_reducible refine below_drewN ?_ _ | with_reducible refine Below.drew ?_)
      · (try simp only [World.size_alloc, World.size_setCell]); omega
    clear f3_0_0 f3_0_1 f3_0_2 f3_0_3 f3_0_4 f3_0_5 f3_0_6 f3_0_7 f3_0_8 f3_0_9 f3_1_0 f3_1_1 f3_1_2 f3_2_0 f3_2_1 f3_3_0 f3_3_1 f3_4_0 f3_4_1 f3_4_2 f3_4_3 f3_4_4 f3_4_5 f3_4_6 f3_4_7 f3_4_8 f3_4_9 f3_5_0 f3_5_1 f3_5_2 hb4
    unfold HasPap at hB4_0
    obtain ⟨f4_0_0, f4_0_1, f4_0_2, f4_0_3, f4_0_4, f4_0_5, f4_0_6, f4_0_7, f4_0_8, f4_0_9⟩ := hB4_0
    have z4_0 : w.heap.size < w4.heap.size := World.block_lt_of_cell? _ _ f4_0_0
    unfold HasPt at hB4_1
    obtain ⟨f4_1_0, f4_1_1, f4_1_2⟩ := hB4_1
    have z4_1 : w.heap.size + 1 < w4.heap.size := World.block_lt_of_cell? _ _ f4_1_0
    unfold HasSp at hB4_2
    obtain ⟨f4_2_0, f4_2_1⟩ := hB4_2
    have z4_2 : w.heap.size + 1 + 1 < w4.heap.size := World.block_lt_of_cell? _ _ f4_2_0
    unfold HasSp at hB4_3
    obtain ⟨f4_3_0, f4_3_1⟩ := hB4_3
    have z4_3 : w.heap.size + 1 + 1 + 1 < w4.heap.size := World.block_lt_of_cell? _ _ f4_3_0
    unfold HasPap at hB4_4
    obtain ⟨f4_4_0, f4_4_1, f4_4_2, f4_4_3, f4_4_4, f4_4_5, f4_4_6, f4_4_7, f4_4_8, f4_4_9⟩ := hB4_4
    have z4_4 : w1.heap.size < w4.heap.size := World.block_lt_of_cell? _ _ f4_4_0
    unfold HasPt at hB4_5
    obtain ⟨f4_5_0, f4_5_1, f4_5_2⟩ := hB4_5
    have z4_5 : w1.heap.size + 1 < w4.heap.size := World.block_lt_of_cell? _ _ f4_5_0
    have zz4 := C4.size
    go_wp2_with fail
    refine (K2.out _).mono ?_
    rintro e w5 ⟨v2, rfl, hb5, hR2⟩
    have hB5_0 : HasPap (p) (w.heap.size) w5 := HasPap.up (by unfold HasPap; go_simp) hb5 (by (try simp only [World.size_alloc, World.size_setCell]); omega)
    have hB5_1 : HasPt (t) (w.heap.size + 1) w5 := HasPt.up (by unfold HasPt; go_simp) hb5 (by (try simp only [World.size_alloc, World.size_setCell]); omega)
    have hB5_2 : HasSp (al) (ah) (w.heap.size + 1 + 1) w5 := HasSp.up (by unfold HasSp; go_simp) hb5 (by (try simp only [World.size_alloc, World.size_setCell]); omega)
    have hB5_3 : HasSp (cl) (ch) (w.heap.size + 1 + 1 + 1) w5 := HasSp.up (by unfold HasSp; go_simp) hb5 (by (try simp only [World.size_alloc, World.size_setCell]); omega)
    have hB5_4 : HasPap (⟨p.pitch, p.height, p.radius, p.low, p.high, p.cols, al, ah, cl, ch⟩) (w1.heap.size) w5 := HasPap.up (by unfold HasPap; go_simp) hb5 (by (try simp only [World.size_alloc, World.size_setCell]); omega)
    have hB5_5 : HasPt (⟨t.x, t.y, k⟩) (w1.heap.size + 1) w5 := HasPt.up (by unfold HasPt; go_simp) hb5 (by (try simp only [World.size_alloc, World.size_setCell]); omega)
    have C5 : Below w.heap.size w w5 := by
      refine Below.trans ?_ (hb5.mono ?_)
      · repeat' (first | with_reducible exact Below.refl _ _ | with_reducible exact C4 | with_reducible refine set1 ?_ (by omega) _ _ | with_reducible refine Below.alloc ?_ (by (try simp only [World.size_alloc, World.size_setCell]); omega) _ | with_reducible refine below_drewN ?_ _ | with_reducible refine Below.drew ?_)
      · (try simp only [World.size_alloc, World.size_setCell]); omega
    clear f4_0_0 f4_0_1 f4_0_2 f4_0_3 f4_0_4 f4_0_5 f4_0_6 f4_0_7 f4_0_8 f4_0_9 f4_1_0 f4_1_1 f4_1_2 f4_2_0 f4_2_1 f4_3_0 f4_3_1 f4_4_0 f4_4_1 f4_4_2 f4_4_3 f4_4_4 f4_4_5 f4_4_6 f4_4_7 f4_4_8 f4_4_9 f4_5_0 f4_5_1 f4_5_2 hb5
    unfold HasPap at hB5_0
    obtain ⟨f5_0_0, f5_0_1, f5_0_2, f5_0_3, f5_0_4, f5_0_5, f5_0_6, f5_0_7, f5_0_8, f5_0_9⟩ := hB5_0
    have z5_0 : w.heap.size < w5.heap.size := World.block_lt_of_cell? _ _ f5_0_0
    unfold HasPt at hB5_1
    obtain ⟨f5_1_0, f5_1_1, f5_1_2⟩ := hB5_1
    have z5_1 : w.heap.size + 1 < w5.heap.size := World.block_lt_of_cell? _ _ f5_1_0
    unfold HasSp at hB5_2
    obtain ⟨f5_2_0, f5_2_1⟩ := hB5_2
    have z5_2 : w.heap.size + 1 + 1 < w5.heap.size := World.block_lt_of_cell? _ _ f5_2_0
    unfold HasSp at hB5_3
    obtain ⟨f5_3_0, f5_3_1⟩ := hB5_3
    have z5_3 : w.heap.size + 1 + 1 + 1 < w5.heap.size := World.block_lt_of_cell? _ _ f5_3_0
    unfold HasPap at hB5_4
    obtain ⟨f5_4_0, f5_4_1, f5_4_2, f5_4_3, f5_4_4, f5_4_5, f5_4_6, f5_4_7, f5_4_8, f5_4_9⟩ := hB5_4
    have z5_4 : w1.heap.size < w5.heap.size := World.block_lt_of_cell? _ _ f5_4_0
    unfold HasPt at hB5_5
    obtain ⟨f5_5_0, f5_5_1, f5_5_2⟩ := hB5_5
    have z5_5 : w1.heap.size + 1 < w5.heap.size := World.block_lt_of_cell? _ _ f5_5_0
    have zz5 := C5.size
    go_wp2_with fail
    go_ret
    exact ⟨rfl, by
      repeat' (first | with_reducible exact Below.refl _ _ | with_reducible exact C5 | with_reducible refine set1 ?_ (by omega) _ _ | with_reducible refine Below.alloc ?_ (by (try simp only [World.size_alloc, World.size_setCell]); omega) _ | with_reducible refine below_drewN ?_ _ | with_reducible refine Below.drew ?_)⟩
  · have d1 : (e1 != 0) = true := by simp [h4]
    clear he h4
    go_enter Try.func13, Try.ntmps13
    go_wp2_with fail
    refine (awake_any _).mono ?_
    rintro e w1 ⟨rfl, hb1⟩
    have hB1_0 : HasPap (p) (w.heap.size) w1 := HasPap.up (by unfold HasPap; go_simp) hb1 (by (try simp only [World.size_alloc]); omega)
    have hB1_1 : HasPt (t) (w.heap.size + 1) w1 := HasPt.up (by unfold HasPt; go_simp) hb1 (by (try simp only [World.size_alloc]); omega)
    have hB1_2 : HasSp (al) (ah) (w.heap.size + 1 + 1) w1 := HasSp.up (by unfold HasSp; go_simp) hb1 (by (try simp only [World.size_alloc]); omega)
    have hB1_3 : HasSp (cl) (ch) (w.heap.size + 1 + 1 + 1) w1 := HasSp.up (by unfold HasSp; go_simp) hb1 (by (try simp only [World.size_alloc]); omega)
    have C1 : Below w.heap.size w w1 := by
      refine Below.trans ?_ (hb1.mono ?_)
      · repeat' (first | with_reducible exact Below.refl _ _ | with_reducible exact Below.refl _ _ | with_reducible refine set1 ?_ (by omega) _ _ | with_reducible refine Below.alloc ?_ (by (try simp only [World.size_alloc]); omega) _ | with_reducible refine below_drewN ?_ _ | with_reducible refine Below.drew ?_)
      · (try simp only [World.size_alloc]); omega
    clear hb1
    unfold HasPap at hB1_0
    obtain ⟨f1_0_0, f1_0_1, f1_0_2, f1_0_3, f1_0_4, f1_0_5, f1_0_6, f1_0_7, f1_0_8, f1_0_9⟩ := hB1_0
    have z1_0 : w.heap.size < w1.heap.size := World.block_lt_of_cell? _ _ f1_0_0
    unfold HasPt at hB1_1
    obtain ⟨f1_1_0, f1_1_1, f1_1_2⟩ := hB1_1
    have z1_1 : w.heap.size + 1 < w1.heap.size := World.block_lt_of_cell? _ _ f1_1_0
    unfold HasSp at hB1_2
    obtain ⟨f1_2_0, f1_2_1⟩ := hB1_2
    have z1_2 : w.heap.size + 1 + 1 < w1.heap.size := World.block_lt_of_cell? _ _ f1_2_0
    unfold HasSp at hB1_3
    obtain ⟨f1_3_0, f1_3_1⟩ := hB1_3
    have z1_3 : w.heap.size + 1 + 1 + 1 < w1.heap.size := World.block_lt_of_cell? _ _ f1_3_0
    have zz1 := C1.size
    go_wp2_with fail
    refine (inside_t al ah p.al p.ah _ h1).mono ?_
    rintro e w2 ⟨rfl, hb2⟩
    have hB2_0 : HasPap (p) (w.heap.size) w2 := HasPap.up (by unfold HasPap; go_simp) hb2 (by (try simp only [World.size_alloc]); omega)
    have hB2_1 : HasPt (t) (w.heap.size + 1) w2 := HasPt.up (by unfold HasPt; go_simp) hb2 (by (try simp only [World.size_alloc]); omega)
    have hB2_2 : HasSp (al) (ah) (w.heap.size + 1 + 1) w2 := HasSp.up (by unfold HasSp; go_simp) hb2 (by (try simp only [World.size_alloc]); omega)
    have hB2_3 : HasSp (cl) (ch) (w.heap.size + 1 + 1 + 1) w2 := HasSp.up (by unfold HasSp; go_simp) hb2 (by (try simp only [World.size_alloc]); omega)
    have hB2_4 : HasPap (⟨p.pitch, p.height, p.radius, p.low, p.high, p.cols, al, ah, cl, ch⟩) (w1.heap.size) w2 := HasPap.up (by unfold HasPap; go_simp) hb2 (by (try simp only [World.size_alloc]); omega)
    have hB2_5 : HasPt (⟨t.x, t.y, k⟩) (w1.heap.size + 1) w2 := HasPt.up (by unfold HasPt; go_simp) hb2 (by (try simp only [World.size_alloc]); omega)
    have C2 : Below w.heap.size w w2 := by
      refine Below.trans ?_ (hb2.mono ?_)
      · repeat' (first | with_reducible exact Below.refl _ _ | with_reducible exact C1 | with_reducible refine set1 ?_ (by omega) _ _ | with_reducible refine Below.alloc ?_ (by (try simp only [World.size_alloc]); omega) _ | with_reducible refine below_drewN ?_ _ | with_reducible refine Below.drew ?_)
      · (try simp only [World.size_alloc]); omega
    clear f1_0_0 f1_0_1 f1_0_2 f1_0_3 f1_0_4 f1_0_5 f1_0_6 f1_0_7 f1_0_8 f1_0_9 f1_1_0 f1_1_1 f1_1_2 f1_2_0 f1_2_1 f1_3_0 f1_3_1 hb2
    unfold HasPap at hB2_0
    obtain ⟨f2_0_0, f2_0_1, f2_0_2, f2_0_3, f2_0_4, f2_0_5, f2_0_6, f2_0_7, f2_0_8, f2_0_9⟩ := hB2_0
    have z2_0 : w.heap.size < w2.heap.size := World.block_lt_of_cell? _ _ f2_0_0
    unfold HasPt at hB2_1
    obtain ⟨f2_1_0, f2_1_1, f2_1_2⟩ := hB2_1
    have z2_1 : w.heap.size + 1 < w2.heap.size := World.block_lt_of_cell? _ _ f2_1_0
    unfold HasSp at hB2_2
    obtain ⟨f2_2_0, f2_2_1⟩ := hB2_2
    have z2_2 : w.heap.size + 1 + 1 < w2.heap.size := World.block_lt_of_cell? _ _ f2_2_0
    unfold HasSp at hB2_3
    obtain ⟨f2_3_0, f2_3_1⟩ := hB2_3
    have z2_3 : w.heap.size + 1 + 1 + 1 < w2.heap.size := World.block_lt_of_cell? _ _ f2_3_0
    unfold HasPap at hB2_4
    obtain ⟨f2_4_0, f2_4_1, f2_4_2, f2_4_3, f2_4_4, f2_4_5, f2_4_6, f2_4_7, f2_4_8, f2_4_9⟩ := hB2_4
    have z2_4 : w1.heap.size < w2.heap.size := World.block_lt_of_cell? _ _ f2_4_0
    unfold HasPt at hB2_5
    obtain ⟨f2_5_0, f2_5_1, f2_5_2⟩ := hB2_5
    have z2_5 : w1.heap.size + 1 < w2.heap.size := World.block_lt_of_cell? _ _ f2_5_0
    have zz2 := C2.size
    go_wp2_with fail
    refine (inside_t cl ch p.cl p.ch _ h2).mono ?_
    rintro e w3 ⟨rfl, hb3⟩
    have hB3_0 : HasPap (p) (w.heap.size) w3 := HasPap.up (by unfold HasPap; go_simp) hb3 (by (try simp only [World.size_alloc, World.size_setCell]); omega)
    have hB3_1 : HasPt (t) (w.heap.size + 1) w3 := HasPt.up (by unfold HasPt; go_simp) hb3 (by (try simp only [World.size_alloc, World.size_setCell]); omega)
    have hB3_2 : HasSp (al) (ah) (w.heap.size + 1 + 1) w3 := HasSp.up (by unfold HasSp; go_simp) hb3 (by (try simp only [World.size_alloc, World.size_setCell]); omega)
    have hB3_3 : HasSp (cl) (ch) (w.heap.size + 1 + 1 + 1) w3 := HasSp.up (by unfold HasSp; go_simp) hb3 (by (try simp only [World.size_alloc, World.size_setCell]); omega)
    have hB3_4 : HasPap (⟨p.pitch, p.height, p.radius, p.low, p.high, p.cols, al, ah, cl, ch⟩) (w1.heap.size) w3 := HasPap.up (by unfold HasPap; go_simp) hb3 (by (try simp only [World.size_alloc, World.size_setCell]); omega)
    have hB3_5 : HasPt (⟨t.x, t.y, k⟩) (w1.heap.size + 1) w3 := HasPt.up (by unfold HasPt; go_simp) hb3 (by (try simp only [World.size_alloc, World.size_setCell]); omega)
    have C3 : Below w.heap.size w w3 := by
      refine Below.trans ?_ (hb3.mono ?_)
      · repeat' (first | with_reducible exact Below.refl _ _ | with_reducible exact C2 | with_reducible refine set1 ?_ (by omega) _ _ | with_reducible refine Below.alloc ?_ (by (try simp only [World.size_alloc, World.size_setCell]); omega) _ | with_reducible refine below_drewN ?_ _ | with_reducible refine Below.drew ?_)
      · (try simp only [World.size_alloc, World.size_setCell]); omega
    clear f2_0_0 f2_0_1 f2_0_2 f2_0_3 f2_0_4 f2_0_5 f2_0_6 f2_0_7 f2_0_8 f2_0_9 f2_1_0 f2_1_1 f2_1_2 f2_2_0 f2_2_1 f2_3_0 f2_3_1 f2_4_0 f2_4_1 f2_4_2 f2_4_3 f2_4_4 f2_4_5 f2_4_6 f2_4_7 f2_4_8 f2_4_9 f2_5_0 f2_5_1 f2_5_2 hb3
    unfold HasPap at hB3_0
    obtain ⟨f3_0_0, f3_0_1, f3_0_2, f3_0_3, f3_0_4, f3_0_5, f3_0_6, f3_0_7, f3_0_8, f3_0_9⟩ := hB3_0
    have z3_0 : w.heap.size < w3.heap.size := World.block_lt_of_cell? _ _ f3_0_0
    unfold HasPt at hB3_1
    obtain ⟨f3_1_0, f3_1_1, f3_1_2⟩ := hB3_1
    have z3_1 : w.heap.size + 1 < w3.heap.size := World.block_lt_of_cell? _ _ f3_1_0
    unfold HasSp at hB3_2
    obtain ⟨f3_2_0, f3_2_1⟩ := hB3_2
    have z3_2 : w.heap.size + 1 + 1 < w3.heap.size := World.block_lt_of_cell? _ _ f3_2_0
    unfold HasSp at hB3_3
    obtain ⟨f3_3_0, f3_3_1⟩ := hB3_3
    have z3_3 : w.heap.size + 1 + 1 + 1 < w3.heap.size := World.block_lt_of_cell? _ _ f3_3_0
    unfold HasPap at hB3_4
    obtain ⟨f3_4_0, f3_4_1, f3_4_2, f3_4_3, f3_4_4, f3_4_5, f3_4_6, f3_4_7, f3_4_8, f3_4_9⟩ := hB3_4
    have z3_4 : w1.heap.size < w3.heap.size := World.block_lt_of_cell? _ _ f3_4_0
    unfold HasPt at hB3_5
    obtain ⟨f3_5_0, f3_5_1, f3_5_2⟩ := hB3_5
    have z3_5 : w1.heap.size + 1 < w3.heap.size := World.block_lt_of_cell? _ _ f3_5_0
    have zz3 := C3.size
    go_wp2_with fail
    refine (K1.out _).mono ?_
    rintro e w4 ⟨v1, rfl, hb4, hR1⟩
    have hB4_0 : HasPap (p) (w.heap.size) w4 := HasPap.up (by unfold HasPap; go_simp) hb4 (by (try simp only [World.size_alloc, World.size_setCell]); omega)
    have hB4_1 : HasPt (t) (w.heap.size + 1) w4 := HasPt.up (by unfold HasPt; go_simp) hb4 (by (try simp only [World.size_alloc, World.size_setCell]); omega)
    have hB4_2 : HasSp (al) (ah) (w.heap.size + 1 + 1) w4 := HasSp.up (by unfold HasSp; go_simp) hb4 (by (try simp only [World.size_alloc, World.size_setCell]); omega)
    have hB4_3 : HasSp (cl) (ch) (w.heap.size + 1 + 1 + 1) w4 := HasSp.up (by unfold HasSp; go_simp) hb4 (by (try simp only [World.size_alloc, World.size_setCell]); omega)
    have hB4_4 : HasPap (⟨p.pitch, p.height, p.radius, p.low, p.high, p.cols, al, ah, cl, ch⟩) (w1.heap.size) w4 := HasPap.up (by unfold HasPap; go_simp) hb4 (by (try simp only [World.size_alloc, World.size_setCell]); omega)
    have hB4_5 : HasPt (⟨t.x, t.y, k⟩) (w1.heap.size + 1) w4 := HasPt.up (by unfold HasPt; go_simp) hb4 (by (try simp only [World.size_alloc, World.size_setCell]); omega)
    have C4 : Below w.heap.size w w4 := by
      refine Below.trans ?_ (hb4.mono ?_)
      · repeat' (first | with_reducible exact Below.refl _ _ | with_reducible exact C3 | with_reducible refine set1 ?_ (by omega) _ _ | with_reducible refine Below.alloc ?_ (by (try simp only [World.size_alloc, World.size_setCell]); omega) _ | with_reducible refine below_drewN ?_ _ | with_reducible refine Below.drew ?_)
      · (try simp only [World.size_alloc, World.size_setCell]); omega
    clear f3_0_0 f3_0_1 f3_0_2 f3_0_3 f3_0_4 f3_0_5 f3_0_6 f3_0_7 f3_0_8 f3_0_9 f3_1_0 f3_1_1 f3_1_2 f3_2_0 f3_2_1 f3_3_0 f3_3_1 f3_4_0 f3_4_1 f3_4_2 f3_4_3 f3_4_4 f3_4_5 f3_4_6 f3_4_7 f3_4_8 f3_4_9 f3_5_0 f3_5_1 f3_5_2 hb4
    unfold HasPap at hB4_0
    obtain ⟨f4_0_0, f4_0_1, f4_0_2, f4_0_3, f4_0_4, f4_0_5, f4_0_6, f4_0_7, f4_0_8, f4_0_9⟩ := hB4_0
    have z4_0 : w.heap.size < w4.heap.size := World.block_lt_of_cell? _ _ f4_0_0
    unfold HasPt at hB4_1
    obtain ⟨f4_1_0, f4_1_1, f4_1_2⟩ := hB4_1
    have z4_1 : w.heap.size + 1 < w4.heap.size := World.block_lt_of_cell? _ _ f4_1_0
    unfold HasSp at hB4_2
    obtain ⟨f4_2_0, f4_2_1⟩ := hB4_2
    have z4_2 : w.heap.size + 1 + 1 < w4.heap.size := World.block_lt_of_cell? _ _ f4_2_0
    unfold HasSp at hB4_3
    obtain ⟨f4_3_0, f4_3_1⟩ := hB4_3
    have z4_3 : w.heap.size + 1 + 1 + 1 < w4.heap.size := World.block_lt_of_cell? _ _ f4_3_0
    unfold HasPap at hB4_4
    obtain ⟨f4_4_0, f4_4_1, f4_4_2, f4_4_3, f4_4_4, f4_4_5, f4_4_6, f4_4_7, f4_4_8, f4_4_9⟩ := hB4_4
    have z4_4 : w1.heap.size < w4.heap.size := World.block_lt_of_cell? _ _ f4_4_0
    unfold HasPt at hB4_5
    obtain ⟨f4_5_0, f4_5_1, f4_5_2⟩ := hB4_5
    have z4_5 : w1.heap.size + 1 < w4.heap.size := World.block_lt_of_cell? _ _ f4_5_0
    have zz4 := C4.size
    go_wp2_with fail
    refine (K2.out _).mono ?_
    rintro e w5 ⟨v2, rfl, hb5, hR2⟩
    have hB5_0 : HasPap (p) (w.heap.size) w5 := HasPap.up (by unfold HasPap; go_simp) hb5 (by (try simp only [World.size_alloc, World.size_setCell]); omega)
    have hB5_1 : HasPt (t) (w.heap.size + 1) w5 := HasPt.up (by unfold HasPt; go_simp) hb5 (by (try simp only [World.size_alloc, World.size_setCell]); omega)
    have hB5_2 : HasSp (al) (ah) (w.heap.size + 1 + 1) w5 := HasSp.up (by unfold HasSp; go_simp) hb5 (by (try simp only [World.size_alloc, World.size_setCell]); omega)
    have hB5_3 : HasSp (cl) (ch) (w.heap.size + 1 + 1 + 1) w5 := HasSp.up (by unfold HasSp; go_simp) hb5 (by (try simp only [World.size_alloc, World.size_setCell]); omega)
    have hB5_4 : HasPap (⟨p.pitch, p.height, p.radius, p.low, p.high, p.cols, al, ah, cl, ch⟩) (w1.heap.size) w5 := HasPap.up (by unfold HasPap; go_simp) hb5 (by (try simp only [World.size_alloc, World.size_setCell]); omega)
    have hB5_5 : HasPt (⟨t.x, t.y, k⟩) (w1.heap.size + 1) w5 := HasPt.up (by unfold HasPt; go_simp) hb5 (by (try simp only [World.size_alloc, World.size_setCell]); omega)
    have C5 : Below w.heap.size w w5 := by
      refine Below.trans ?_ (hb5.mono ?_)
      · repeat' (first | with_reducible exact Below.refl _ _ | with_reducible exact C4 | with_reducible refine set1 ?_ (by omega) _ _ | with_reducible refine Below.alloc ?_ (by (try simp only [World.size_alloc, World.size_setCell]); omega) _ | with_reducible refine below_drewN ?_ _ | with_reducible refine Below.drew ?_)
      · (try simp only [World.size_alloc, World.size_setCell]); omega
    clear f4_0_0 f4_0_1 f4_0_2 f4_0_3 f4_0_4 f4_0_5 f4_0_6 f4_0_7 f4_0_8 f4_0_9 f4_1_0 f4_1_1 f4_1_2 f4_2_0 f4_2_1 f4_3_0 f4_3_1 f4_4_0 f4_4_1 f4_4_2 f4_4_3 f4_4_4 f4_4_5 f4_4_6 f4_4_7 f4_4_8 f4_4_9 f4_5_0 f4_5_1 f4_5_2 hb5
    unfold HasPap at hB5_0
    obtain ⟨f5_0_0, f5_0_1, f5_0_2, f5_0_3, f5_0_4, f5_0_5, f5_0_6, f5_0_7, f5_0_8, f5_0_9⟩ := hB5_0
    have z5_0 : w.heap.size < w5.heap.size := World.block_lt_of_cell? _ _ f5_0_0
    unfold HasPt at hB5_1
    obtain ⟨f5_1_0, f5_1_1, f5_1_2⟩ := hB5_1
    have z5_1 : w.heap.size + 1 < w5.heap.size := World.block_lt_of_cell? _ _ f5_1_0
    unfold HasSp at hB5_2
    obtain ⟨f5_2_0, f5_2_1⟩ := hB5_2
    have z5_2 : w.heap.size + 1 + 1 < w5.heap.size := World.block_lt_of_cell? _ _ f5_2_0
    unfold HasSp at hB5_3
    obtain ⟨f5_3_0, f5_3_1⟩ := hB5_3
    have z5_3 : w.heap.size + 1 + 1 + 1 < w5.heap.size := World.block_lt_of_cell? _ _ f5_3_0
    unfold HasPap at hB5_4
    obtain ⟨f5_4_0, f5_4_1, f5_4_2, f5_4_3, f5_4_4, f5_4_5, f5_4_6, f5_4_7, f5_4_8, f5_4_9⟩ := hB5_4
    have z5_4 : w1.heap.size < w5.heap.size := World.block_lt_of_cell? _ _ f5_4_0
    unfold HasPt at hB5_5
    obtain ⟨f5_5_0, f5_5_1, f5_5_2⟩ := hB5_5
    have z5_5 : w1.heap.size + 1 < w5.heap.size := World.block_lt_of_cell? _ _ f5_5_0
    have zz5 := C5.size
    go_wp2_with fail
    go_ret
    exact ⟨rfl, by
      repeat' (first | with_reducible exact Below.refl _ _ | with_reducible exact C5 | with_reducible refine set1 ?_ (by omega) _ _ | with_reducible refine Below.alloc ?_ (by (try simp only [World.size_alloc, World.size_setCell]); omega) _ | with_reducible refine below_drewN ?_ _ | with_reducible refine Below.drew ?_)⟩
/-- one of the spans holds a span -/
def anyC (l : List (Int × Int)) (s : Int × Int) : Bool := l.any fun a => decide (a.1 ≤ s.1 ∧ s.2 ≤ a.2)
theorem anyC_succ {l : List (Int × Int)} {k : Nat} {a s : Int × Int} (h : l[k]? = some a) : anyC (l.take (k + 1)) s = (anyC (l.take k) s || decide (a.1 ≤ s.1 ∧ s.2 ≤ a.2)) := by
  unfold anyC
  rw [List.take_add_one, h]
  simp
theorem anyC_cov {l l' : List (Int × Int)} {k : Nat} {s : Int × Int} (hc : Cov l l') (h : l'[k]? = some s) : anyC l s = true := by
  obtain ⟨a, ha, hs⟩ := hc s (List.mem_of_getElem? h)
  unfold anyC
  exact List.any_eq_true.2 ⟨a, ha, by simpa using hs⟩
set_option maxRecDepth 100000 in
set_option maxHeartbeats 2000000 in
theorem nar_nil (p : Pap) (t : Pt) (al ah cl ch k c : Int) (w : World) (l1 l2 : List (Int × Int)) (c1 c2 d1 d2 e3 e4 : Int) (h1 : p.al ≤ al ∧ ah ≤ p.ah) (h2 : p.cl ≤ cl ∧ ch ≤ p.ch) (h3 : k ≤ t.half)
    (K1 : Hid (∀ w, Calls Try.prog 46 #[p.v, t.v, .int .i64 c] w (MPost w 0 l1)))
    (K2 : Hid (∀ w, Calls Try.prog 46 #[(⟨p.pitch, p.height, p.radius, p.low, p.high, p.cols, al, ah, cl, ch⟩ : Pap).v, (⟨t.x, t.y, k⟩ : Pt).v, .int .i64 c] w (MPost w 0 l2)))
    (K3 : Hid (∀ w, Calls Try.prog 36 #[p.v, t.v] w fun e w' => e = .returned (.tuple #[.agg #[.int .i64 c1, .int .i64 c2], .int .i64 e3]) ∧ Below w.heap.size w w'))
    (K4 : Hid (∀ w, Calls Try.prog 36 #[(⟨p.pitch, p.height, p.radius, p.low, p.high, p.cols, al, ah, cl, ch⟩ : Pap).v, (⟨t.x, t.y, k⟩ : Pt).v] w fun e w' => e = .returned (.tuple #[.agg #[.int .i64 d1, .int .i64 d2], .int .i64 e4]) ∧ Below w.heap.size w w'))
    (HH : Hid (e4 = 0 → e3 = 0 ∧ c1 ≤ d1 ∧ d2 ≤ c2))
    (hl : l2 = []) :
    Calls Try.prog 13 #[p.v, t.v, .agg #[.int .i64 al, .int .i64 ah], .agg #[.int .i64 cl, .int .i64 ch], .int .i64 k, .int .i64 c] w fun e w' => e = .returned (.bool true) ∧ Below w.heap.size w w' := by
  go_enter Try.func13, Try.ntmps13
  go_wp2_with fail
  refine (awake_any _).mono ?_
  rintro e w1 ⟨rfl, hb1⟩
  have hB1_0 : HasPap (p) (w.heap.size) w1 := HasPap.up (by unfold HasPap; go_simp) hb1 (by (try simp only [World.size_alloc]); omega)
  have hB1_1 : HasPt (t) (w.heap.size + 1) w1 := HasPt.up (by unfold HasPt; go_simp) hb1 (by (try simp only [World.size_alloc]); omega)
  have hB1_2 : HasSp (al) (ah) (w.heap.size + 1 + 1) w1 := HasSp.up (by unfold HasSp; go_simp) hb1 (by (try simp only [World.size_alloc]); omega)
  have hB1_3 : HasSp (cl) (ch) (w.heap.size + 1 + 1 + 1) w1 := HasSp.up (by unfold HasSp; go_simp) hb1 (by (try simp only [World.size_alloc]); omega)
  have C1 : Below w.heap.size w w1 := by
    refine Below.trans ?_ (hb1.mono ?_)
    · repeat' (first | with_reducible exact Below.refl _ _ | with_reducible exact Below.refl _ _ | with_reducible refine set1 ?_ (by omega) _ _ | with_reducible refine Below.alloc ?_ (by (try simp only [World.size_alloc]); omega) _ | with_reducible refine below_drewN ?_ _ | with_reducible refine Below.drew ?_)
    · (try simp only [World.size_alloc]); omega
  clear hb1
  unfold HasPap at hB1_0
  obtain ⟨f1_0_0, f1_0_1, f1_0_2, f1_0_3, f1_0_4, f1_0_5, f1_0_6, f1_0_7, f1_0_8, f1_0_9⟩ := hB1_0
  have z1_0 : w.heap.size < w1.heap.size := World.block_lt_of_cell? _ _ f1_0_0
  unfold HasPt at hB1_1
  obtain ⟨f1_1_0, f1_1_1, f1_1_2⟩ := hB1_1
  have z1_1 : w.heap.size + 1 < w1.heap.size := World.block_lt_of_cell? _ _ f1_1_0
  unfold HasSp at hB1_2
  obtain ⟨f1_2_0, f1_2_1⟩ := hB1_2
  have z1_2 : w.heap.size + 1 + 1 < w1.heap.size := World.block_lt_of_cell? _ _ f1_2_0
  unfold HasSp at hB1_3
  obtain ⟨f1_3_0, f1_3_1⟩ := hB1_3
  have z1_3 : w.heap.size + 1 + 1 + 1 < w1.heap.size := World.block_lt_of_cell? _ _ f1_3_0
  have zz1 := C1.size
  go_wp2_with fail
  refine (inside_t al ah p.al p.ah _ h1).mono ?_
  rintro e w2 ⟨rfl, hb2⟩
  have hB2_0 : HasPap (p) (w.heap.size) w2 := HasPap.up (by unfold HasPap; go_simp) hb2 (by (try simp only [World.size_alloc]); omega)
  have hB2_1 : HasPt (t) (w.heap.size + 1) w2 := HasPt.up (by unfold HasPt; go_simp) hb2 (by (try simp only [World.size_alloc]); omega)
  have hB2_2 : HasSp (al) (ah) (w.heap.size + 1 + 1) w2 := HasSp.up (by unfold HasSp; go_simp) hb2 (by (try simp only [World.size_alloc]); omega)
  have hB2_3 : HasSp (cl) (ch) (w.heap.size + 1 + 1 + 1) w2 := HasSp.up (by unfold HasSp; go_simp) hb2 (by (try simp only [World.size_alloc]); omega)
  have hB2_4 : HasPap (⟨p.pitch, p.height, p.radius, p.low, p.high, p.cols, al, ah, cl, ch⟩) (w1.heap.size) w2 := HasPap.up (by unfold HasPap; go_simp) hb2 (by (try simp only [World.size_alloc]); omega)
  have hB2_5 : HasPt (⟨t.x, t.y, k⟩) (w1.heap.size + 1) w2 := HasPt.up (by unfold HasPt; go_simp) hb2 (by (try simp only [World.size_alloc]); omega)
  have C2 : Below w.heap.size w w2 := by
    refine Below.trans ?_ (hb2.mono ?_)
    · repeat' (first | with_reducible exact Below.refl _ _ | with_reducible exact C1 | with_reducible refine set1 ?_ (by omega) _ _ | with_reducible refine Below.alloc ?_ (by (try simp only [World.size_alloc]); omega) _ | with_reducible refine below_drewN ?_ _ | with_reducible refine Below.drew ?_)
    · (try simp only [World.size_alloc]); omega
  clear f1_0_0 f1_0_1 f1_0_2 f1_0_3 f1_0_4 f1_0_5 f1_0_6 f1_0_7 f1_0_8 f1_0_9 f1_1_0 f1_1_1 f1_1_2 f1_2_0 f1_2_1 f1_3_0 f1_3_1 hb2
  unfold HasPap at hB2_0
  obtain ⟨f2_0_0, f2_0_1, f2_0_2, f2_0_3, f2_0_4, f2_0_5, f2_0_6, f2_0_7, f2_0_8, f2_0_9⟩ := hB2_0
  have z2_0 : w.heap.size < w2.heap.size := World.block_lt_of_cell? _ _ f2_0_0
  unfold HasPt at hB2_1
  obtain ⟨f2_1_0, f2_1_1, f2_1_2⟩ := hB2_1
  have z2_1 : w.heap.size + 1 < w2.heap.size := World.block_lt_of_cell? _ _ f2_1_0
  unfold HasSp at hB2_2
  obtain ⟨f2_2_0, f2_2_1⟩ := hB2_2
  have z2_2 : w.heap.size + 1 + 1 < w2.heap.size := World.block_lt_of_cell? _ _ f2_2_0
  unfold HasSp at hB2_3
  obtain ⟨f2_3_0, f2_3_1⟩ := hB2_3
  have z2_3 : w.heap.size + 1 + 1 + 1 < w2.heap.size := World.block_lt_of_cell? _ _ f2_3_0
  unfold HasPap at hB2_4
  obtain ⟨f2_4_0, f2_4_1, f2_4_2, f2_4_3, f2_4_4, f2_4_5, f2_4_6, f2_4_7, f2_4_8, f2_4_9⟩ := hB2_4
  have z2_4 : w1.heap.size < w2.heap.size := World.block_lt_of_cell? _ _ f2_4_0
  unfold HasPt at hB2_5
  obtain ⟨f2_5_0, f2_5_1, f2_5_2⟩ := hB2_5
  have z2_5 : w1.heap.size + 1 < w2.heap.size := World.block_lt_of_cell? _ _ f2_5_0
  have zz2 := C2.size
  go_wp2_with fail
  refine (inside_t cl ch p.cl p.ch _ h2).mono ?_
  rintro e w3 ⟨rfl, hb3⟩
  have hB3_0 : HasPap (p) (w.heap.size) w3 := HasPap.up (by unfold HasPap; go_simp) hb3 (by (try simp only [World.size_alloc, World.size_setCell]); omega)
  have hB3_1 : HasPt (t) (w.heap.size + 1) w3 := HasPt.up (by unfold HasPt; go_simp) hb3 (by (try simp only [World.size_alloc, World.size_setCell]); omega)
  have hB3_2 : HasSp (al) (ah) (w.heap.size + 1 + 1) w3 := HasSp.up (by unfold HasSp; go_simp) hb3 (by (try simp only [World.size_alloc, World.size_setCell]); omega)
  have hB3_3 : HasSp (cl) (ch) (w.heap.size + 1 + 1 + 1) w3 := HasSp.up (by unfold HasSp; go_simp) hb3 (by (try simp only [World.size_alloc, World.size_setCell]); omega)
  have hB3_4 : HasPap (⟨p.pitch, p.height, p.radius, p.low, p.high, p.cols, al, ah, cl, ch⟩) (w1.heap.size) w3 := HasPap.up (by unfold HasPap; go_simp) hb3 (by (try simp only [World.size_alloc, World.size_setCell]); omega)
  have hB3_5 : HasPt (⟨t.x, t.y, k⟩) (w1.heap.size + 1) w3 := HasPt.up (by unfold HasPt; go_simp) hb3 (by (try simp only [World.size_alloc, World.size_setCell]); omega)
  have C3 : Below w.heap.size w w3 := by
    refine Below.trans ?_ (hb3.mono ?_)
    · repeat' (first | with_reducible exact Below.refl _ _ | with_reducible exact C2 | with_reducible refine set1 ?_ (by omega) _ _ | with_reducible refine Below.alloc ?_ (by (try simp only [World.size_alloc, World.size_setCell]); omega) _ | with_reducible refine below_drewN ?_ _ | with_reducible refine Below.drew ?_)
    · (try simp only [World.size_alloc, World.size_setCell]); omega
  clear f2_0_0 f2_0_1 f2_0_2 f2_0_3 f2_0_4 f2_0_5 f2_0_6 f2_0_7 f2_0_8 f2_0_9 f2_1_0 f2_1_1 f2_1_2 f2_2_0 f2_2_1 f2_3_0 f2_3_1 f2_4_0 f2_4_1 f2_4_2 f2_4_3 f2_4_4 f2_4_5 f2_4_6 f2_4_7 f2_4_8 f2_4_9 f2_5_0 f2_5_1 f2_5_2 hb3
  unfold HasPap at hB3_0
  obtain ⟨f3_0_0, f3_0_1, f3_0_2, f3_0_3, f3_0_4, f3_0_5, f3_0_6, f3_0_7, f3_0_8, f3_0_9⟩ := hB3_0
  have z3_0 : w.heap.size < w3.heap.size := World.block_lt_of_cell? _ _ f3_0_0
  unfold HasPt at hB3_1
  obtain ⟨f3_1_0, f3_1_1, f3_1_2⟩ := hB3_1
  have z3_1 : w.heap.size + 1 < w3.heap.size := World.block_lt_of_cell? _ _ f3_1_0
  unfold HasSp at hB3_2
  obtain ⟨f3_2_0, f3_2_1⟩ := hB3_2
  have z3_2 : w.heap.size + 1 + 1 < w3.heap.size := World.block_lt_of_cell? _ _ f3_2_0
  unfold HasSp at hB3_3
  obtain ⟨f3_3_0, f3_3_1⟩ := hB3_3
  have z3_3 : w.heap.size + 1 + 1 + 1 < w3.heap.size := World.block_lt_of_cell? _ _ f3_3_0
  unfold HasPap at hB3_4
  obtain ⟨f3_4_0, f3_4_1, f3_4_2, f3_4_3, f3_4_4, f3_4_5, f3_4_6, f3_4_7, f3_4_8, f3_4_9⟩ := hB3_4
  have z3_4 : w1.heap.size < w3.heap.size := World.block_lt_of_cell? _ _ f3_4_0
  unfold HasPt at hB3_5
  obtain ⟨f3_5_0, f3_5_1, f3_5_2⟩ := hB3_5
  have z3_5 : w1.heap.size + 1 < w3.heap.size := World.block_lt_of_cell? _ _ f3_5_0
  have zz3 := C3.size
  go_wp2_with fail
  refine (K1.out _).mono ?_
  rintro e w4 ⟨v1, rfl, hb4, hR1⟩
  have hB4_0 : HasPap (p) (w.heap.size) w4 := HasPap.up (by unfold HasPap; go_simp) hb4 (by (try simp only [World.size_alloc, World.size_setCell]); omega)
  have hB4_1 : HasPt (t) (w.heap.size + 1) w4 := HasPt.up (by unfold HasPt; go_simp) hb4 (by (try simp only [World.size_alloc, World.size_setCell]); omega)
  have hB4_2 : HasSp (al) (ah) (w.heap.size + 1 + 1) w4 := HasSp.up (by unfold HasSp; go_simp) hb4 (by (try simp only [World.size_alloc, World.size_setCell]); omega)
  have hB4_3 : HasSp (cl) (ch) (w.heap.size + 1 + 1 + 1) w4 := HasSp.up (by unfold HasSp; go_simp) hb4 (by (try simp only [World.size_alloc, World.size_setCell]); omega)
  have hB4_4 : HasPap (⟨p.pitch, p.height, p.radius, p.low, p.high, p.cols, al, ah, cl, ch⟩) (w1.heap.size) w4 := HasPap.up (by unfold HasPap; go_simp) hb4 (by (try simp only [World.size_alloc, World.size_setCell]); omega)
  have hB4_5 : HasPt (⟨t.x, t.y, k⟩) (w1.heap.size + 1) w4 := HasPt.up (by unfold HasPt; go_simp) hb4 (by (try simp only [World.size_alloc, World.size_setCell]); omega)
  have C4 : Below w.heap.size w w4 := by
    refine Below.trans ?_ (hb4.mono ?_)
    · repeat' (first | with_reducible exact Below.refl _ _ | with_reducible exact C3 | with_reducible refine set1 ?_ (by omega) _ _ | with_reducible refine Below.alloc ?_ (by (try simp only [World.size_alloc, World.size_setCell]); omega) _ | with_reducible refine below_drewN ?_ _ | with_reducible refine Below.drew ?_)
    · (try simp only [World.size_alloc, World.size_setCell]); omega
  clear f3_0_0 f3_0_1 f3_0_2 f3_0_3 f3_0_4 f3_0_5 f3_0_6 f3_0_7 f3_0_8 f3_0_9 f3_1_0 f3_1_1 f3_1_2 f3_2_0 f3_2_1 f3_3_0 f3_3_1 f3_4_0 f3_4_1 f3_4_2 f3_4_3 f3_4_4 f3_4_5 f3_4_6 f3_4_7 f3_4_8 f3_4_9 f3_5_0 f3_5_1 f3_5_2 hb4
  unfold HasPap at hB4_0
  obtain ⟨f4_0_0, f4_0_1, f4_0_2, f4_0_3, f4_0_4, f4_0_5, f4_0_6, f4_0_7, f4_0_8, f4_0_9⟩ := hB4_0
  have z4_0 : w.heap.size < w4.heap.size := World.block_lt_of_cell? _ _ f4_0_0
  unfold HasPt at hB4_1
  obtain ⟨f4_1_0, f4_1_1, f4_1_2⟩ := hB4_1
  have z4_1 : w.heap.size + 1 < w4.heap.size := World.block_lt_of_cell? _ _ f4_1_0
  unfold HasSp at hB4_2
  obtain ⟨f4_2_0, f4_2_1⟩ := hB4_2
  have z4_2 : w.heap.size + 1 + 1 < w4.heap.size := World.block_lt_of_cell? _ _ f4_2_0
  unfold HasSp at hB4_3
  obtain ⟨f4_3_0, f4_3_1⟩ := hB4_3
  have z4_3 : w.heap.size + 1 + 1 + 1 < w4.heap.size := World.block_lt_of_cell? _ _ f4_3_0
  unfold HasPap at hB4_4
  obtain ⟨f4_4_0, f4_4_1, f4_4_2, f4_4_3, f4_4_4, f4_4_5, f4_4_6, f4_4_7, f4_4_8, f4_4_9⟩ := hB4_4
  have z4_4 : w1.heap.size < w4.heap.size := World.block_lt_of_cell? _ _ f4_4_0
  unfold HasPt at hB4_5
  obtain ⟨f4_5_0, f4_5_1, f4_5_2⟩ := hB4_5
  have z4_5 : w1.heap.size + 1 < w4.heap.size := World.block_lt_of_cell? _ _ f4_5_0
  have zz4 := C4.size
  go_wp2_with fail
  refine (K2.out _).mono ?_
  rintro e w5 ⟨v2, rfl, hb5, hR2⟩
  have hB5_0 : HasPap (p) (w.heap.size) w5 := HasPap.up (by unfold HasPap; go_simp) hb5 (by (try simp only [World.size_alloc, World.size_setCell]); omega)
  have hB5_1 : HasPt (t) (w.heap.size + 1) w5 := HasPt.up (by unfold HasPt; go_simp) hb5 (by (try simp only [World.size_alloc, World.size_setCell]); omega)
  have hB5_2 : HasSp (al) (ah) (w.heap.size + 1 + 1) w5 := HasSp.up (by unfold HasSp; go_simp) hb5 (by (try simp only [World.size_alloc, World.size_setCell]); omega)
  have hB5_3 : HasSp (cl) (ch) (w.heap.size + 1 + 1 + 1) w5 := HasSp.up (by unfold HasSp; go_simp) hb5 (by (try simp only [World.size_alloc, World.size_setCell]); omega)
  have hB5_4 : HasPap (⟨p.pitch, p.height, p.radius, p.low, p.high, p.cols, al, ah, cl, ch⟩) (w1.heap.size) w5 := HasPap.up (by unfold HasPap; go_simp) hb5 (by (try simp only [World.size_alloc, World.size_setCell]); omega)
  have hB5_5 : HasPt (⟨t.x, t.y, k⟩) (w1.heap.size + 1) w5 := HasPt.up (by unfold HasPt; go_simp) hb5 (by (try simp only [World.size_alloc, World.size_setCell]); omega)
  have C5 : Below w.heap.size w w5 := by
    refine Below.trans ?_ (hb5.mono ?_)
    · repeat' (first | with_reducible exact Below.refl _ _ | with_reducible exact C4 | with_reducible refine set1 ?_ (by omega) _ _ | with_reducible refine Below.alloc ?_ (by (try simp only [World.size_alloc, World.size_setCell]); omega) _ | with_reducible refine below_drewN ?_ _ | with_reducible refine Below.drew ?_)
    · (try simp only [World.size_alloc, World.size_setCell]); omega
  have hR1' := hR1.up hb5
  clear hR1
  clear f4_0_0 f4_0_1 f4_0_2 f4_0_3 f4_0_4 f4_0_5 f4_0_6 f4_0_7 f4_0_8 f4_0_9 f4_1_0 f4_1_1 f4_1_2 f4_2_0 f4_2_1 f4_3_0 f4_3_1 f4_4_0 f4_4_1 f4_4_2 f4_4_3 f4_4_4 f4_4_5 f4_4_6 f4_4_7 f4_4_8 f4_4_9 f4_5_0 f4_5_1 f4_5_2 hb5
  unfold HasPap at hB5_0
  obtain ⟨f5_0_0, f5_0_1, f5_0_2, f5_0_3, f5_0_4, f5_0_5, f5_0_6, f5_0_7, f5_0_8, f5_0_9⟩ := hB5_0
  have z5_0 : w.heap.size < w5.heap.size := World.block_lt_of_cell? _ _ f5_0_0
  unfold HasPt at hB5_1
  obtain ⟨f5_1_0, f5_1_1, f5_1_2⟩ := hB5_1
  have z5_1 : w.heap.size + 1 < w5.heap.size := World.block_lt_of_cell? _ _ f5_1_0
  unfold HasSp at hB5_2
  obtain ⟨f5_2_0, f5_2_1⟩ := hB5_2
  have z5_2 : w.heap.size + 1 + 1 < w5.heap.size := World.block_lt_of_cell? _ _ f5_2_0
  unfold HasSp at hB5_3
  obtain ⟨f5_3_0, f5_3_1⟩ := hB5_3
  have z5_3 : w.heap.size + 1 + 1 + 1 < w5.heap.size := World.block_lt_of_cell? _ _ f5_3_0
  unfold HasPap at hB5_4
  obtain ⟨f5_4_0, f5_4_1, f5_4_2, f5_4_3, f5_4_4, f5_4_5, f5_4_6, f5_4_7, f5_4_8, f5_4_9⟩ := hB5_4
  have z5_4 : w1.heap.size < w5.heap.size := World.block_lt_of_cell? _ _ f5_4_0
  unfold HasPt at hB5_5
  obtain ⟨f5_5_0, f5_5_1, f5_5_2⟩ := hB5_5
  have z5_5 : w1.heap.size + 1 < w5.heap.size := World.block_lt_of_cell? _ _ f5_5_0
  have zz5 := C5.size
  go_wp2_with fail
  rcases hR2 with ⟨_, rfl⟩ | ⟨hne, _⟩
  case inr => exact absurd hl hne
  clear hR1' hl
  go_wp2_with fail
  go_loopw [20] (fun i wr => i = .int .i64 0 ∧ Below w5.heap.size w5 wr) (fun _ _ => 0)
  case atStart => exact ⟨rfl, Below.refl _ _⟩
  case round =>
    obtain ⟨rfl, hB⟩ := hrel
    by_cases hh : e4 = 0
    · obtain ⟨he3, hin⟩ := HH.out hh
      have d4 : (e4 != 0) = false := by simp [hh]
      have d3 : (e3 == 0) = true := by simp [he3]
      clear hh he3
      have hT0 : HasPap (p) (w.heap.size) wr := HasPap.up (by unfold HasPap; exact ⟨f5_0_0, f5_0_1, f5_0_2, f5_0_3, f5_0_4, f5_0_5, f5_0_6, f5_0_7, f5_0_8, f5_0_9⟩) hB (by omega)
      have hT1 : HasPt (t) (w.heap.size + 1) wr := HasPt.up (by unfold HasPt; exact ⟨f5_1_0, f5_1_1, f5_1_2⟩) hB (by omega)
      have hT2 : HasSp (al) (ah) (w.heap.size + 1 + 1) wr := HasSp.up (by unfold HasSp; exact ⟨f5_2_0, f5_2_1⟩) hB (by omega)
      have hT3 : HasSp (cl) (ch) (w.heap.size + 1 + 1 + 1) wr := HasSp.up (by unfold HasSp; exact ⟨f5_3_0, f5_3_1⟩) hB (by omega)
      have hT4 : HasPap (⟨p.pitch, p.height, p.radius, p.low, p.high, p.cols, al, ah, cl, ch⟩) (w1.heap.size) wr := HasPap.up (by unfold HasPap; exact ⟨f5_4_0, f5_4_1, f5_4_2, f5_4_3, f5_4_4, f5_4_5, f5_4_6, f5_4_7, f5_4_8, f5_4_9⟩) hB (by omega)
      have hT5 : HasPt (⟨t.x, t.y, k⟩) (w1.heap.size + 1) wr := HasPt.up (by unfold HasPt; exact ⟨f5_5_0, f5_5_1, f5_5_2⟩) hB (by omega)
      clear f5_0_0 f5_0_1 f5_0_2 f5_0_3 f5_0_4 f5_0_5 f5_0_6 f5_0_7 f5_0_8 f5_0_9 f5_1_0 f5_1_1 f5_1_2 f5_2_0 f5_2_1 f5_3_0 f5_3_1 f5_4_0 f5_4_1 f5_4_2 f5_4_3 f5_4_4 f5_4_5 f5_4_6 f5_4_7 f5_4_8 f5_4_9 f5_5_0 f5_5_1 f5_5_2
      unfold HasPap at hT0
      obtain ⟨f10_0_0, f10_0_1, f10_0_2, f10_0_3, f10_0_4, f10_0_5, f10_0_6, f10_0_7, f10_0_8, f10_0_9⟩ := hT0
      have z10_0 : w.heap.size < wr.heap.size := World.block_lt_of_cell? _ _ f10_0_0
      unfold HasPt at hT1
      obtain ⟨f10_1_0, f10_1_1, f10_1_2⟩ := hT1
      have z10_1 : w.heap.size + 1 < wr.heap.size := World.block_lt_of_cell? _ _ f10_1_0
      unfold HasSp at hT2
      obtain ⟨f10_2_0, f10_2_1⟩ := hT2
      have z10_2 : w.heap.size + 1 + 1 < wr.heap.size := World.block_lt_of_cell? _ _ f10_2_0
      unfold HasSp at hT3
      obtain ⟨f10_3_0, f10_3_1⟩ := hT3
      have z10_3 : w.heap.size + 1 + 1 + 1 < wr.heap.size := World.block_lt_of_cell? _ _ f10_3_0
      unfold HasPap at hT4
      obtain ⟨f10_4_0, f10_4_1, f10_4_2, f10_4_3, f10_4_4, f10_4_5, f10_4_6, f10_4_7, f10_4_8, f10_4_9⟩ := hT4
      have z10_4 : w1.heap.size < wr.heap.size := World.block_lt_of_cell? _ _ f10_4_0
      unfold HasPt at hT5
      obtain ⟨f10_5_0, f10_5_1, f10_5_2⟩ := hT5
      have z10_5 : w1.heap.size + 1 < wr.heap.size := World.block_lt_of_cell? _ _ f10_5_0
      have C10 : Below w.heap.size w wr := C5.trans (hB.mono C5.size)
      have zz10 := C10.size
      clear hB
      go_wp2_with fail
      refine (K3.out _).mono ?_
      rintro e w11 ⟨rfl, hb11⟩
      have hB11_0 : HasPap (p) (w.heap.size) w11 := HasPap.up (by unfold HasPap; go_simp) hb11 (by (try simp only [World.size_alloc, World.size_setCell]); omega)
      have hB11_1 : HasPt (t) (w.heap.size + 1) w11 := HasPt.up (by unfold HasPt; go_simp) hb11 (by (try simp only [World.size_alloc, World.size_setCell]); omega)
      have hB11_2 : HasSp (al) (ah) (w.heap.size + 1 + 1) w11 := HasSp.up (by unfold HasSp; go_simp) hb11 (by (try simp only [World.size_alloc, World.size_setCell]); omega)
      have hB11_3 : HasSp (cl) (ch) (w.heap.size + 1 + 1 + 1) w11 := HasSp.up (by unfold HasSp; go_simp) hb11 (by (try simp only [World.size_alloc, World.size_setCell]); omega)
      have hB11_4 : HasPap (⟨p.pitch, p.height, p.radius, p.low, p.high, p.cols, al, ah, cl, ch⟩) (w1.heap.size) w11 := HasPap.up (by unfold HasPap; go_simp) hb11 (by (try simp only [World.size_alloc, World.size_setCell]); omega)
      have hB11_5 : HasPt (⟨t.x, t.y, k⟩) (w1.heap.size + 1) w11 := HasPt.up (by unfold HasPt; go_simp) hb11 (by (try simp only [World.size_alloc, World.size_setCell]); omega)
      have C11 : Below w.heap.size w w11 := by
        refine Below.trans ?_ (hb11.mono ?_)
        · repeat' (first | with_reducible exact Below.refl _ _ | with_reducible exact C10 | with_reducible refine set1 ?_ (by omega) _ _ | with_reducible refine Below.alloc ?_ (by (try simp only [World.size_alloc, World.size_setCell]); omega) _ | with_reducible refine below_drewN ?_ _ | with_reducible refine Below.drew ?_)
        · (try simp only [World.size_alloc, World.size_setCell]); omega
      clear f10_0_0 f10_0_1 f10_0_2 f10_0_3 f10_0_4 f10_0_5 f10_0_6 f10_0_7 f10_0_8 f10_0_9 f10_1_0 f10_1_1 f10_1_2 f10_2_0 f10_2_1 f10_3_0 f10_3_1 f10_4_0 f10_4_1 f10_4_2 f10_4_3 f10_4_4 f10_4_5 f10_4_6 f10_4_7 f10_4_8 f10_4_9 f10_5_0 f10_5_1 f10_5_2 hb11
      unfold HasPap at hB11_0
      obtain ⟨f11_0_0, f11_0_1, f11_0_2, f11_0_3, f11_0_4, f11_0_5, f11_0_6, f11_0_7, f11_0_8, f11_0_9⟩ := hB11_0
      have z11_0 : w.heap.size < w11.heap.size := World.block_lt_of_cell? _ _ f11_0_0
      unfold HasPt at hB11_1
      obtain ⟨f11_1_0, f11_1_1, f11_1_2⟩ := hB11_1
      have z11_1 : w.heap.size + 1 < w11.heap.size := World.block_lt_of_cell? _ _ f11_1_0
      unfold HasSp at hB11_2
      obtain ⟨f11_2_0, f11_2_1⟩ := hB11_2
      have z11_2 : w.heap.size + 1 + 1 < w11.heap.size := World.block_lt_of_cell? _ _ f11_2_0
      unfold HasSp at hB11_3
      obtain ⟨f11_3_0, f11_3_1⟩ := hB11_3
      have z11_3 : w.heap.size + 1 + 1 + 1 < w11.heap.size := World.block_lt_of_cell? _ _ f11_3_0
      unfold HasPap at hB11_4
      obtain ⟨f11_4_0, f11_4_1, f11_4_2, f11_4_3, f11_4_4, f11_4_5, f11_4_6, f11_4_7, f11_4_8, f11_4_9⟩ := hB11_4
      have z11_4 : w1.heap.size < w11.heap.size := World.block_lt_of_cell? _ _ f11_4_0
      unfold HasPt at hB11_5
      obtain ⟨f11_5_0, f11_5_1, f11_5_2⟩ := hB11_5
      have z11_5 : w1.heap.size + 1 < w11.heap.size := World.block_lt_of_cell? _ _ f11_5_0
      have zz11 := C11.size
      go_wp2_with fail
      refine (K4.out _).mono ?_
      rintro e w12 ⟨rfl, hb12⟩
      have hB12_0 : HasPap (p) (w.heap.size) w12 := HasPap.up (by unfold HasPap; go_simp) hb12 (by (try simp only [World.size_alloc]); omega)
      have hB12_1 : HasPt (t) (w.heap.size + 1) w12 := HasPt.up (by unfold HasPt; go_simp) hb12 (by (try simp only [World.size_alloc]); omega)
      have hB12_2 : HasSp (al) (ah) (w.heap.size + 1 + 1) w12 := HasSp.up (by unfold HasSp; go_simp) hb12 (by (try simp only [World.size_alloc]); omega)
      have hB12_3 : HasSp (cl) (ch) (w.heap.size + 1 + 1 + 1) w12 := HasSp.up (by unfold HasSp; go_simp) hb12 (by (try simp only [World.size_alloc]); omega)
      have hB12_4 : HasPap (⟨p.pitch, p.height, p.radius, p.low, p.high, p.cols, al, ah, cl, ch⟩) (w1.heap.size) w12 := HasPap.up (by unfold HasPap; go_simp) hb12 (by (try simp only [World.size_alloc]); omega)
      have hB12_5 : HasPt (⟨t.x, t.y, k⟩) (w1.heap.size + 1) w12 := HasPt.up (by unfold HasPt; go_simp) hb12 (by (try simp only [World.size_alloc]); omega)
      have hB12_6 : HasSp (c1) (c2) (w11.heap.size) w12 := HasSp.up (by unfold HasSp; go_simp) hb12 (by (try simp only [World.size_alloc]); omega)
      have C12 : Below w.heap.size w w12 := by
        refine Below.trans ?_ (hb12.mono ?_)
        · repeat' (first | with_reducible exact Below.refl _ _ | with_reducible exact C11 | with_reducible refine set1 ?_ (by omega) _ _ | with_reducible refine Below.alloc ?_ (by (try simp only [World.size_alloc, World.size_setCell]); omega) _ | with_reducible refine below_drewN ?_ _ | with_reducible refine Below.drew ?_)
        · (try simp only [World.size_alloc]); omega
      clear f11_0_0 f11_0_1 f11_0_2 f11_0_3 f11_0_4 f11_0_5 f11_0_6 f11_0_7 f11_0_8 f11_0_9 f11_1_0 f11_1_1 f11_1_2 f11_2_0 f11_2_1 f11_3_0 f11_3_1 f11_4_0 f11_4_1 f11_4_2 f11_4_3 f11_4_4 f11_4_5 f11_4_6 f11_4_7 f11_4_8 f11_4_9 f11_5_0 f11_5_1 f11_5_2 hb12
      unfold HasPap at hB12_0
      obtain ⟨f12_0_0, f12_0_1, f12_0_2, f12_0_3, f12_0_4, f12_0_5, f12_0_6, f12_0_7, f12_0_8, f12_0_9⟩ := hB12_0
      have z12_0 : w.heap.size < w12.heap.size := World.block_lt_of_cell? _ _ f12_0_0
      unfold HasPt at hB12_1
      obtain ⟨f12_1_0, f12_1_1, f12_1_2⟩ := hB12_1
      have z12_1 : w.heap.size + 1 < w12.heap.size := World.block_lt_of_cell? _ _ f12_1_0
      unfold HasSp at hB12_2
      obtain ⟨f12_2_0, f12_2_1⟩ := hB12_2
      have z12_2 : w.heap.size + 1 + 1 < w12.heap.size := World.block_lt_of_cell? _ _ f12_2_0
      unfold HasSp at hB12_3
      obtain ⟨f12_3_0, f12_3_1⟩ := hB12_3
      have z12_3 : w.heap.size + 1 + 1 + 1 < w12.heap.size := World.block_lt_of_cell? _ _ f12_3_0
      unfold HasPap at hB12_4
      obtain ⟨f12_4_0, f12_4_1, f12_4_2, f12_4_3, f12_4_4, f12_4_5, f12_4_6, f12_4_7, f12_4_8, f12_4_9⟩ := hB12_4
      have z12_4 : w1.heap.size < w12.heap.size := World.block_lt_of_cell? _ _ f12_4_0
      unfold HasPt at hB12_5
      obtain ⟨f12_5_0, f12_5_1, f12_5_2⟩ := hB12_5
      have z12_5 : w1.heap.size + 1 < w12.heap.size := World.block_lt_of_cell? _ _ f12_5_0
      unfold HasSp at hB12_6
      obtain ⟨f12_6_0, f12_6_1⟩ := hB12_6
      have z12_6 : w11.heap.size < w12.heap.size := World.block_lt_of_cell? _ _ f12_6_0
      have zz12 := C12.size
      go_wp2_with fail
      refine (inside_t d1 d2 c1 c2 _ hin).mono ?_
      rintro e w13 ⟨rfl, hb13⟩
      have hB13_0 : HasPap (p) (w.heap.size) w13 := HasPap.up (by unfold HasPap; go_simp) hb13 (by (try simp only [World.size_alloc]); omega)
      have hB13_1 : HasPt (t) (w.heap.size + 1) w13 := HasPt.up (by unfold HasPt; go_simp) hb13 (by (try simp only [World.size_alloc]); omega)
      have hB13_2 : HasSp (al) (ah) (w.heap.size + 1 + 1) w13 := HasSp.up (by unfold HasSp; go_simp) hb13 (by (try simp only [World.size_alloc]); omega)
      have hB13_3 : HasSp (cl) (ch) (w.heap.size + 1 + 1 + 1) w13 := HasSp.up (by unfold HasSp; go_simp) hb13 (by (try simp only [World.size_alloc]); omega)
      have hB13_4 : HasPap (⟨p.pitch, p.height, p.radius, p.low, p.high, p.cols, al, ah, cl, ch⟩) (w1.heap.size) w13 := HasPap.up (by unfold HasPap; go_simp) hb13 (by (try simp only [World.size_alloc]); omega)
      have hB13_5 : HasPt (⟨t.x, t.y, k⟩) (w1.heap.size + 1) w13 := HasPt.up (by unfold HasPt; go_simp) hb13 (by (try simp only [World.size_alloc]); omega)
      have hB13_6 : HasSp (c1) (c2) (w11.heap.size) w13 := HasSp.up (by unfold HasSp; go_simp) hb13 (by (try simp only [World.size_alloc]); omega)
      have hB13_7 : HasSp (d1) (d2) (w12.heap.size) w13 := HasSp.up (by unfold HasSp; go_simp) hb13 (by (try simp only [World.size_alloc]); omega)
      have C13 : Below w.heap.size w w13 := by
        refine Below.trans ?_ (hb13.mono ?_)
        · repeat' (first | with_reducible exact Below.refl _ _ | with_reducible exact C12 | with_reducible refine set1 ?_ (by omega) _ _ | with_reducible refine Below.alloc ?_ (by (try simp only [World.size_alloc, World.size_setCell]); omega) _ | with_reducible refine below_drewN ?_ _ | with_reducible refine Below.drew ?_)
        · (try simp only [World.size_alloc]); omega
      clear f12_0_0 f12_0_1 f12_0_2 f12_0_3 f12_0_4 f12_0_5 f12_0_6 f12_0_7 f12_0_8 f12_0_9 f12_1_0 f12_1_1 f12_1_2 f12_2_0 f12_2_1 f12_3_0 f12_3_1 f12_4_0 f12_4_1 f12_4_2 f12_4_3 f12_4_4 f12_4_5 f12_4_6 f12_4_7 f12_4_8 f12_4_9 f12_5_0 f12_5_1 f12_5_2 f12_6_0 f12_6_1 hb13
      unfold HasPap at hB13_0
      obtain ⟨f13_0_0, f13_0_1, f13_0_2, f13_0_3, f13_0_4, f13_0_5, f13_0_6, f13_0_7, f13_0_8, f13_0_9⟩ := hB13_0
      have z13_0 : w.heap.size < w13.heap.size := World.block_lt_of_cell? _ _ f13_0_0
      unfold HasPt at hB13_1
      obtain ⟨f13_1_0, f13_1_1, f13_1_2⟩ := hB13_1
      have z13_1 : w.heap.size + 1 < w13.heap.size := World.block_lt_of_cell? _ _ f13_1_0
      unfold HasSp at hB13_2
      obtain ⟨f13_2_0, f13_2_1⟩ := hB13_2
      have z13_2 : w.heap.size + 1 + 1 < w13.heap.size := World.block_lt_of_cell? _ _ f13_2_0
      unfold HasSp at hB13_3
      obtain ⟨f13_3_0, f13_3_1⟩ := hB13_3
      have z13_3 : w.heap.size + 1 + 1 + 1 < w13.heap.size := World.block_lt_of_cell? _ _ f13_3_0
      unfold HasPap at hB13_4
      obtain ⟨f13_4_0, f13_4_1, f13_4_2, f13_4_3, f13_4_4, f13_4_5, f13_4_6, f13_4_7, f13_4_8, f13_4_9⟩ := hB13_4
      have z13_4 : w1.heap.size < w13.heap.size := World.block_lt_of_cell? _ _ f13_4_0
      unfold HasPt at hB13_5
      obtain ⟨f13_5_0, f13_5_1, f13_5_2⟩ := hB13_5
      have z13_5 : w1.heap.size + 1 < w13.heap.size := World.block_lt_of_cell? _ _ f13_5_0
      unfold HasSp at hB13_6
      obtain ⟨f13_6_0, f13_6_1⟩ := hB13_6
      have z13_6 : w11.heap.size < w13.heap.size := World.block_lt_of_cell? _ _ f13_6_0
      unfold HasSp at hB13_7
      obtain ⟨f13_7_0, f13_7_1⟩ := hB13_7
      have z13_7 : w12.heap.size < w13.heap.size := World.block_lt_of_cell? _ _ f13_7_0
      have zz13 := C13.size
      go_wp2_with fail
      go_ret
      exact ⟨rfl, by
        repeat' (first | with_reducible exact Below.refl _ _ | with_reducible exact C13 | with_reducible refine set1 ?_ (by omega) _ _ | with_reducible refine Below.alloc ?_ (by (try simp only [World.size_alloc, World.size_setCell]); omega) _ | with_reducible refine below_drewN ?_ _ | with_reducible refine Below.drew ?_)⟩
    · have d4 : (e4 != 0) = true := by simp [hh]
      clear hh
      have hT0 : HasPap (p) (w.heap.size) wr := HasPap.up (by unfold HasPap; exact ⟨f5_0_0, f5_0_1, f5_0_2, f5_0_3, f5_0_4, f5_0_5, f5_0_6, f5_0_7, f5_0_8, f5_0_9⟩) hB (by omega)
      have hT1 : HasPt (t) (w.heap.size + 1) wr := HasPt.up (by unfold HasPt; exact ⟨f5_1_0, f5_1_1, f5_1_2⟩) hB (by omega)
      have hT2 : HasSp (al) (ah) (w.heap.size + 1 + 1) wr := HasSp.up (by unfold HasSp; exact ⟨f5_2_0, f5_2_1⟩) hB (by omega)
      have hT3 : HasSp (cl) (ch) (w.heap.size + 1 + 1 + 1) wr := HasSp.up (by unfold HasSp; exact ⟨f5_3_0, f5_3_1⟩) hB (by omega)
      have hT4 : HasPap (⟨p.pitch, p.height, p.radius, p.low, p.high, p.cols, al, ah, cl, ch⟩) (w1.heap.size) wr := HasPap.up (by unfold HasPap; exact ⟨f5_4_0, f5_4_1, f5_4_2, f5_4_3, f5_4_4, f5_4_5, f5_4_6, f5_4_7, f5_4_8, f5_4_9⟩) hB (by omega)
      have hT5 : HasPt (⟨t.x, t.y, k⟩) (w1.heap.size + 1) wr := HasPt.up (by unfold HasPt; exact ⟨f5_5_0, f5_5_1, f5_5_2⟩) hB (by omega)
      clear f5_0_0 f5_0_1 f5_0_2 f5_0_3 f5_0_4 f5_0_5 f5_0_6 f5_0_7 f5_0_8 f5_0_9 f5_1_0 f5_1_1 f5_1_2 f5_2_0 f5_2_1 f5_3_0 f5_3_1 f5_4_0 f5_4_1 f5_4_2 f5_4_3 f5_4_4 f5_4_5 f5_4_6 f5_4_7 f5_4_8 f5_4_9 f5_5_0 f5_5_1 f5_5_2
      unfold HasPap at hT0
      obtain ⟨f10_0_0, f10_0_1, f10_0_2, f10_0_3, f10_0_4, f10_0_5, f10_0_6, f10_0_7, f10_0_8, f10_0_9⟩ := hT0
      have z10_0 : w.heap.size < wr.heap.size := World.block_lt_of_cell? _ _ f10_0_0
      unfold HasPt at hT1
      obtain ⟨f10_1_0, f10_1_1, f10_1_2⟩ := hT1
      have z10_1 : w.heap.size + 1 < wr.heap.size := World.block_lt_of_cell? _ _ f10_1_0
      unfold HasSp at hT2
      obtain ⟨f10_2_0, f10_2_1⟩ := hT2
      have z10_2 : w.heap.size + 1 + 1 < wr.heap.size := World.block_lt_of_cell? _ _ f10_2_0
      unfold HasSp at hT3
      obtain ⟨f10_3_0, f10_3_1⟩ := hT3
      have z10_3 : w.heap.size + 1 + 1 + 1 < wr.heap.size := World.block_lt_of_cell? _ _ f10_3_0
      unfold HasPap at hT4
      obtain ⟨f10_4_0, f10_4_1, f10_4_2, f10_4_3, f10_4_4, f10_4_5, f10_4_6, f10_4_7, f10_4_8, f10_4_9⟩ := hT4
      have z10_4 : w1.heap.size < wr.heap.size := World.block_lt_of_cell? _ _ f10_4_0
      unfold HasPt at hT5
      obtain ⟨f10_5_0, f10_5_1, f10_5_2⟩ := hT5
      have z10_5 : w1.heap.size + 1 < wr.heap.size := World.block_lt_of_cell? _ _ f10_5_0
      have C10 : Below w.heap.size w wr := C5.trans (hB.mono C5.size)
      have zz10 := C10.size
      clear hB
      go_wp2_with fail
      refine (K3.out _).mono ?_
      rintro e w11 ⟨rfl, hb11⟩
      have hB11_0 : HasPap (p) (w.heap.size) w11 := HasPap.up (by unfold HasPap; go_simp) hb11 (by (try simp only [World.size_alloc, World.size_setCell]); omega)
      have hB11_1 : HasPt (t) (w.heap.size + 1) w11 := HasPt.up (by unfold HasPt; go_simp) hb11 (by (try simp only [World.size_alloc, World.size_setCell]); omega)
      have hB11_2 : HasSp (al) (ah) (w.heap.size + 1 + 1) w11 := HasSp.up (by unfold HasSp; go_simp) hb11 (by (try simp only [World.size_alloc, World.size_setCell]); omega)
      have hB11_3 : HasSp (cl) (ch) (w.heap.size + 1 + 1 + 1) w11 := HasSp.up (by unfold HasSp; go_simp) hb11 (by (try simp only [World.size_alloc, World.size_setCell]); omega)
      have hB11_4 : HasPap (⟨p.pitch, p.height, p.radius, p.low, p.high, p.cols, al, ah, cl, ch⟩) (w1.heap.size) w11 := HasPap.up (by unfold HasPap; go_simp) hb11 (by (try simp only [World.size_alloc, World.size_setCell]); omega)
      have hB11_5 : HasPt (⟨t.x, t.y, k⟩) (w1.heap.size + 1) w11 := HasPt.up (by unfold HasPt; go_simp) hb11 (by (try simp only [World.size_alloc, World.size_setCell]); omega)
      have C11 : Below w.heap.size w w11 := by
        refine Below.trans ?_ (hb11.mono ?_)
        · repeat' (first | with_reducible exact Below.refl _ _ | with_reducible exact C10 | with_reducible refine set1 ?_ (by omega) _ _ | with_reducible refine Below.alloc ?_ (by (try simp only [World.size_alloc, World.size_setCell]); omega) _ | with_reducible refine below_drewN ?_ _ | with_reducible refine Below.drew ?_)
        · (try simp only [World.size_alloc, World.size_setCell]); omega
      clear f10_0_0 f10_0_1 f10_0_2 f10_0_3 f10_0_4 f10_0_5 f10_0_6 f10_0_7 f10_0_8 f10_0_9 f10_1_0 f10_1_1 f10_1_2 f10_2_0 f10_2_1 f10_3_0 f10_3_1 f10_4_0 f10_4_1 f10_4_2 f10_4_3 f10_4_4 f10_4_5 f10_4_6 f10_4_7 f10_4_8 f10_4_9 f10_5_0 f10_5_1 f10_5_2 hb11
      unfold HasPap at hB11_0
      obtain ⟨f11_0_0, f11_0_1, f11_0_2, f11_0_3, f11_0_4, f11_0_5, f11_0_6, f11_0_7, f11_0_8, f11_0_9⟩ := hB11_0
      have z11_0 : w.heap.size < w11.heap.size := World.block_lt_of_cell? _ _ f11_0_0
      unfold HasPt at hB11_1
      obtain ⟨f11_1_0, f11_1_1, f11_1_2⟩ := hB11_1
      have z11_1 : w.heap.size + 1 < w11.heap.size := World.block_lt_of_cell? _ _ f11_1_0
      unfold HasSp at hB11_2
      obtain ⟨f11_2_0, f11_2_1⟩ := hB11_2
      have z11_2 : w.heap.size + 1 + 1 < w11.heap.size := World.block_lt_of_cell? _ _ f11_2_0
      unfold HasSp at hB11_3
      obtain ⟨f11_3_0, f11_3_1⟩ := hB11_3
      have z11_3 : w.heap.size + 1 + 1 + 1 < w11.heap.size := World.block_lt_of_cell? _ _ f11_3_0
      unfold HasPap at hB11_4
      obtain ⟨f11_4_0, f11_4_1, f11_4_2, f11_4_3, f11_4_4, f11_4_5, f11_4_6, f11_4_7, f11_4_8, f11_4_9⟩ := hB11_4
      have z11_4 : w1.heap.size < w11.heap.size := World.block_lt_of_cell? _ _ f11_4_0
      unfold HasPt at hB11_5
      obtain ⟨f11_5_0, f11_5_1, f11_5_2⟩ := hB11_5
      have z11_5 : w1.heap.size + 1 < w11.heap.size := World.block_lt_of_cell? _ _ f11_5_0
      have zz11 := C11.size
      go_wp2_with fail
      refine (K4.out _).mono ?_
      rintro e w12 ⟨rfl, hb12⟩
      have hB12_0 : HasPap (p) (w.heap.size) w12 := HasPap.up (by unfold HasPap; go_simp) hb12 (by (try simp only [World.size_alloc]); omega)
      have hB12_1 : HasPt (t) (w.heap.size + 1) w12 := HasPt.up (by unfold HasPt; go_simp) hb12 (by (try simp only [World.size_alloc]); omega)
      have hB12_2 : HasSp (al) (ah) (w.heap.size + 1 + 1) w12 := HasSp.up (by unfold HasSp; go_simp) hb12 (by (try simp only [World.size_alloc]); omega)
      have hB12_3 : HasSp (cl) (ch) (w.heap.size + 1 + 1 + 1) w12 := HasSp.up (by unfold HasSp; go_simp) hb12 (by (try simp only [World.size_alloc]); omega)
      have hB12_4 : HasPap (⟨p.pitch, p.height, p.radius, p.low, p.high, p.cols, al, ah, cl, ch⟩) (w1.heap.size) w12 := HasPap.up (by unfold HasPap; go_simp) hb12 (by (try simp only [World.size_alloc]); omega)
      have hB12_5 : HasPt (⟨t.x, t.y, k⟩) (w1.heap.size + 1) w12 := HasPt.up (by unfold HasPt; go_simp) hb12 (by (try simp only [World.size_alloc]); omega)
      have hB12_6 : HasSp (c1) (c2) (w11.heap.size) w12 := HasSp.up (by unfold HasSp; go_simp) hb12 (by (try simp only [World.size_alloc]); omega)
      have C12 : Below w.heap.size w w12 := by
        refine Below.trans ?_ (hb12.mono ?_)
        · repeat' (first | with_reducible exact Below.refl _ _ | with_reducible exact C11 | with_reducible refine set1 ?_ (by omega) _ _ | with_reducible refine Below.alloc ?_ (by (try simp only [World.size_alloc, World.size_setCell]); omega) _ | with_reducible refine below_drewN ?_ _ | with_reducible refine Below.drew ?_)
        · (try simp only [World.size_alloc]); omega
      clear f11_0_0 f11_0_1 f11_0_2 f11_0_3 f11_0_4 f11_0_5 f11_0_6 f11_0_7 f11_0_8 f11_0_9 f11_1_0 f11_1_1 f11_1_2 f11_2_0 f11_2_1 f11_3_0 f11_3_1 f11_4_0 f11_4_1 f11_4_2 f11_4_3 f11_4_4 f11_4_5 f11_4_6 f11_4_7 f11_4_8 f11_4_9 f11_5_0 f11_5_1 f11_5_2 hb12
      unfold HasPap at hB12_0
      obtain ⟨f12_0_0, f12_0_1, f12_0_2, f12_0_3, f12_0_4, f12_0_5, f12_0_6, f12_0_7, f12_0_8, f12_0_9⟩ := hB12_0
      have z12_0 : w.heap.size < w12.heap.size := World.block_lt_of_cell? _ _ f12_0_0
      unfold HasPt at hB12_1
      obtain ⟨f12_1_0, f12_1_1, f12_1_2⟩ := hB12_1
      have z12_1 : w.heap.size + 1 < w12.heap.size := World.block_lt_of_cell? _ _ f12_1_0
      unfold HasSp at hB12_2
      obtain ⟨f12_2_0, f12_2_1⟩ := hB12_2
      have z12_2 : w.heap.size + 1 + 1 < w12.heap.size := World.block_lt_of_cell? _ _ f12_2_0
      unfold HasSp at hB12_3
      obtain ⟨f12_3_0, f12_3_1⟩ := hB12_3
      have z12_3 : w.heap.size + 1 + 1 + 1 < w12.heap.size := World.block_lt_of_cell? _ _ f12_3_0
      unfold HasPap at hB12_4
      obtain ⟨f12_4_0, f12_4_1, f12_4_2, f12_4_3, f12_4_4, f12_4_5, f12_4_6, f12_4_7, f12_4_8, f12_4_9⟩ := hB12_4
      have z12_4 : w1.heap.size < w12.heap.size := World.block_lt_of_cell? _ _ f12_4_0
      unfold HasPt at hB12_5
      obtain ⟨f12_5_0, f12_5_1, f12_5_2⟩ := hB12_5
      have z12_5 : w1.heap.size + 1 < w12.heap.size := World.block_lt_of_cell? _ _ f12_5_0
      unfold HasSp at hB12_6
      obtain ⟨f12_6_0, f12_6_1⟩ := hB12_6
      have z12_6 : w11.heap.size < w12.heap.size := World.block_lt_of_cell? _ _ f12_6_0
      have zz12 := C12.size
      go_wp2_with fail
      go_ret
      exact ⟨rfl, by
        repeat' (first | with_reducible exact Below.refl _ _ | with_reducible exact C12 | with_reducible refine set1 ?_ (by omega) _ _ | with_reducible refine Below.alloc ?_ (by (try simp only [World.size_alloc, World.size_setCell]); omega) _ | with_reducible refine below_drewN ?_ _ | with_reducible refine Below.drew ?_)⟩
set_option maxRecDepth 100000 in
set_option maxHeartbeats 2000000 in
theorem nar_row (p : Pap) (t : Pt) (al ah cl ch k c : Int) (w : World) (l1 l2 : List (Int × Int)) (c1 c2 d1 d2 e3 e4 : Int) (h1 : p.al ≤ al ∧ ah ≤ p.ah) (h2 : p.cl ≤ cl ∧ ch ≤ p.ch) (h3 : k ≤ t.half)
    (K1 : Hid (∀ w, Calls Try.prog 46 #[p.v, t.v, .int .i64 c] w (MPost w 0 l1)))
    (K2 : Hid (∀ w, Calls Try.prog 46 #[(⟨p.pitch, p.height, p.radius, p.low, p.high, p.cols, al, ah, cl, ch⟩ : Pap).v, (⟨t.x, t.y, k⟩ : Pt).v, .int .i64 c] w (MPost w 0 l2)))
    (K3 : Hid (∀ w, Calls Try.prog 36 #[p.v, t.v] w fun e w' => e = .returned (.tuple #[.agg #[.int .i64 c1, .int .i64 c2], .int .i64 e3]) ∧ Below w.heap.size w w'))
    (K4 : Hid (∀ w, Calls Try.prog 36 #[(⟨p.pitch, p.height, p.radius, p.low, p.high, p.cols, al, ah, cl, ch⟩ : Pap).v, (⟨t.x, t.y, k⟩ : Pt).v] w fun e w' => e = .returned (.tuple #[.agg #[.int .i64 d1, .int .i64 d2], .int .i64 e4]) ∧ Below w.heap.size w w'))
    (HH : Hid (e4 = 0 → e3 = 0 ∧ c1 ≤ d1 ∧ d2 ≤ c2))
    (hl : l2 ≠ []) (hc : Cov l1 l2) :
    Calls Try.prog 13 #[p.v, t.v, .agg #[.int .i64 al, .int .i64 ah], .agg #[.int .i64 cl, .int .i64 ch], .int .i64 k, .int .i64 c] w fun e w' => e = .returned (.bool true) ∧ Below w.heap.size w w' := by
  have HC := Lib.hid hc
  clear hc
  go_enter Try.func13, Try.ntmps13
  go_wp2_with fail
  refine (awake_any _).mono ?_
  rintro e w1 ⟨rfl, hb1⟩
  have hB1_0 : HasPap (p) (w.heap.size) w1 := HasPap.up (by unfold HasPap; go_simp) hb1 (by (try simp only [World.size_alloc]); omega)
  have hB1_1 : HasPt (t) (w.heap.size + 1) w1 := HasPt.up (by unfold HasPt; go_simp) hb1 (by (try simp only [World.size_alloc]); omega)
  have hB1_2 : HasSp (al) (ah) (w.heap.size + 1 + 1) w1 := HasSp.up (by unfold HasSp; go_simp) hb1 (by (try simp only [World.size_alloc]); omega)
  have hB1_3 : HasSp (cl) (ch) (w.heap.size + 1 + 1 + 1) w1 := HasSp.up (by unfold HasSp; go_simp) hb1 (by (try simp only [World.size_alloc]); omega)
  have C1 : Below w.heap.size w w1 := by
    refine Below.trans ?_ (hb1.mono ?_)
    · repeat' (first | with_reducible exact Below.refl _ _ | with_reducible exact Below.refl _ _ | with_reducible refine set1 ?_ (by omega) _ _ | with_reducible refine Below.alloc ?_ (by (try simp only [World.size_alloc]); omega) _ | with_reducible refine below_drewN ?_ _ | with_reducible refine Below.drew ?_)
    · (try simp only [World.size_alloc]); omega
  clear hb1
  unfold HasPap at hB1_0
  obtain ⟨f1_0_0, f1_0_1, f1_0_2, f1_0_3, f1_0_4, f1_0_5, f1_0_6, f1_0_7, f1_0_8, f1_0_9⟩ := hB1_0
  have z1_0 : w.heap.size < w1.heap.size := World.block_lt_of_cell? _ _ f1_0_0
  unfold HasPt at hB1_1
  obtain ⟨f1_1_0, f1_1_1, f1_1_2⟩ := hB1_1
  have z1_1 : w.heap.size + 1 < w1.heap.size := World.block_lt_of_cell? _ _ f1_1_0
  unfold HasSp at hB1_2
  obtain ⟨f1_2_0, f1_2_1⟩ := hB1_2
  have z1_2 : w.heap.size + 1 + 1 < w1.heap.size := World.block_lt_of_cell? _ _ f1_2_0
  unfold HasSp at hB1_3
  obtain ⟨f1_3_0, f1_3_1⟩ := hB1_3
  have z1_3 : w.heap.size + 1 + 1 + 1 < w1.heap.size := World.block_lt_of_cell? _ _ f1_3_0
  have zz1 := C1.size
  go_wp2_with fail
  refine (inside_t al ah p.al p.ah _ h1).mono ?_
  rintro e w2 ⟨rfl, hb2⟩
  have hB2_0 : HasPap (p) (w.heap.size) w2 := HasPap.up (by unfold HasPap; go_simp) hb2 (by (try simp only [World.size_alloc]); omega)
  have hB2_1 : HasPt (t) (w.heap.size + 1) w2 := HasPt.up (by unfold HasPt; go_simp) hb2 (by (try simp only [World.size_alloc]); omega)
  have hB2_2 : HasSp (al) (ah) (w.heap.size + 1 + 1) w2 := HasSp.up (by unfold HasSp; go_simp) hb2 (by (try simp only [World.size_alloc]); omega)
  have hB2_3 : HasSp (cl) (ch) (w.heap.size + 1 + 1 + 1) w2 := HasSp.up (by unfold HasSp; go_simp) hb2 (by (try simp only [World.size_alloc]); omega)
  have hB2_4 : HasPap (⟨p.pitch, p.height, p.radius, p.low, p.high, p.cols, al, ah, cl, ch⟩) (w1.heap.size) w2 := HasPap.up (by unfold HasPap; go_simp) hb2 (by (try simp only [World.size_alloc]); omega)
  have hB2_5 : HasPt (⟨t.x, t.y, k⟩) (w1.heap.size + 1) w2 := HasPt.up (by unfold HasPt; go_simp) hb2 (by (try simp only [World.size_alloc]); omega)
  have C2 : Below w.heap.size w w2 := by
    refine Below.trans ?_ (hb2.mono ?_)
    · repeat' (first | with_reducible exact Below.refl _ _ | with_reducible exact C1 | with_reducible refine set1 ?_ (by omega) _ _ | with_reducible refine Below.alloc ?_ (by (try simp only [World.size_alloc]); omega) _ | with_reducible refine below_drewN ?_ _ | with_reducible refine Below.drew ?_)
    · (try simp only [World.size_alloc]); omega
  clear f1_0_0 f1_0_1 f1_0_2 f1_0_3 f1_0_4 f1_0_5 f1_0_6 f1_0_7 f1_0_8 f1_0_9 f1_1_0 f1_1_1 f1_1_2 f1_2_0 f1_2_1 f1_3_0 f1_3_1 hb2
  unfold HasPap at hB2_0
  obtain ⟨f2_0_0, f2_0_1, f2_0_2, f2_0_3, f2_0_4, f2_0_5, f2_0_6, f2_0_7, f2_0_8, f2_0_9⟩ := hB2_0
  have z2_0 : w.heap.size < w2.heap.size := World.block_lt_of_cell? _ _ f2_0_0
  unfold HasPt at hB2_1
  obtain ⟨f2_1_0, f2_1_1, f2_1_2⟩ := hB2_1
  have z2_1 : w.heap.size + 1 < w2.heap.size := World.block_lt_of_cell? _ _ f2_1_0
  unfold HasSp at hB2_2
  obtain ⟨f2_2_0, f2_2_1⟩ := hB2_2
  have z2_2 : w.heap.size + 1 + 1 < w2.heap.size := World.block_lt_of_cell? _ _ f2_2_0
  unfold HasSp at hB2_3
  obtain ⟨f2_3_0, f2_3_1⟩ := hB2_3
  have z2_3 : w.heap.size + 1 + 1 + 1 < w2.heap.size := World.block_lt_of_cell? _ _ f2_3_0
  unfold HasPap at hB2_4
  obtain ⟨f2_4_0, f2_4_1, f2_4_2, f2_4_3, f2_4_4, f2_4_5, f2_4_6, f2_4_7, f2_4_8, f2_4_9⟩ := hB2_4
  have z2_4 : w1.heap.size < w2.heap.size := World.block_lt_of_cell? _ _ f2_4_0
  unfold HasPt at hB2_5
  obtain ⟨f2_5_0, f2_5_1, f2_5_2⟩ := hB2_5
  have z2_5 : w1.heap.size + 1 < w2.heap.size := World.block_lt_of_cell? _ _ f2_5_0
  have zz2 := C2.size
  go_wp2_with fail
  refine (inside_t cl ch p.cl p.ch _ h2).mono ?_
  rintro e w3 ⟨rfl, hb3⟩
  have hB3_0 : HasPap (p) (w.heap.size) w3 := HasPap.up (by unfold HasPap; go_simp) hb3 (by (try simp only [World.size_alloc, World.size_setCell]); omega)
  have hB3_1 : HasPt (t) (w.heap.size + 1) w3 := HasPt.up (by unfold HasPt; go_simp) hb3 (by (try simp only [World.size_alloc, World.size_setCell]); omega)
  have hB3_2 : HasSp (al) (ah) (w.heap.size + 1 + 1) w3 := HasSp.up (by unfold HasSp; go_simp) hb3 (by (try simp only [World.size_alloc, World.size_setCell]); omega)
  have hB3_3 : HasSp (cl) (ch) (w.heap.size + 1 + 1 + 1) w3 := HasSp.up (by unfold HasSp; go_simp) hb3 (by (try simp only [World.size_alloc, World.size_setCell]); omega)
  have hB3_4 : HasPap (⟨p.pitch, p.height, p.radius, p.low, p.high, p.cols, al, ah, cl, ch⟩) (w1.heap.size) w3 := HasPap.up (by unfold HasPap; go_simp) hb3 (by (try simp only [World.size_alloc, World.size_setCell]); omega)
  have hB3_5 : HasPt (⟨t.x, t.y, k⟩) (w1.heap.size + 1) w3 := HasPt.up (by unfold HasPt; go_simp) hb3 (by (try simp only [World.size_alloc, World.size_setCell]); omega)
  have C3 : Below w.heap.size w w3 := by
    refine Below.trans ?_ (hb3.mono ?_)
    · repeat' (first | with_reducible exact Below.refl _ _ | with_reducible exact C2 | with_reducible refine set1 ?_ (by omega) _ _ | with_reducible refine Below.alloc ?_ (by (try simp only [World.size_alloc, World.size_setCell]); omega) _ | with_reducible refine below_drewN ?_ _ | with_reducible refine Below.drew ?_)
    · (try simp only [World.size_alloc, World.size_setCell]); omega
  clear f2_0_0 f2_0_1 f2_0_2 f2_0_3 f2_0_4 f2_0_5 f2_0_6 f2_0_7 f2_0_8 f2_0_9 f2_1_0 f2_1_1 f2_1_2 f2_2_0 f2_2_1 f2_3_0 f2_3_1 f2_4_0 f2_4_1 f2_4_2 f2_4_3 f2_4_4 f2_4_5 f2_4_6 f2_4_7 f2_4_8 f2_4_9 f2_5_0 f2_5_1 f2_5_2 hb3
  unfold HasPap at hB3_0
  obtain ⟨f3_0_0, f3_0_1, f3_0_2, f3_0_3, f3_0_4, f3_0_5, f3_0_6, f3_0_7, f3_0_8, f3_0_9⟩ := hB3_0
  have z3_0 : w.heap.size < w3.heap.size := World.block_lt_of_cell? _ _ f3_0_0
  unfold HasPt at hB3_1
  obtain ⟨f3_1_0, f3_1_1, f3_1_2⟩ := hB3_1
  have z3_1 : w.heap.size + 1 < w3.heap.size := World.block_lt_of_cell? _ _ f3_1_0
  unfold HasSp at hB3_2
  obtain ⟨f3_2_0, f3_2_1⟩ := hB3_2
  have z3_2 : w.heap.size + 1 + 1 < w3.heap.size := World.block_lt_of_cell? _ _ f3_2_0
  unfold HasSp at hB3_3
  obtain ⟨f3_3_0, f3_3_1⟩ := hB3_3
  have z3_3 : w.heap.size + 1 + 1 + 1 < w3.heap.size := World.block_lt_of_cell? _ _ f3_3_0
  unfold HasPap at hB3_4
  obtain ⟨f3_4_0, f3_4_1, f3_4_2, f3_4_3, f3_4_4, f3_4_5, f3_4_6, f3_4_7, f3_4_8, f3_4_9⟩ := hB3_4
  have z3_4 : w1.heap.size < w3.heap.size := World.block_lt_of_cell? _ _ f3_4_0
  unfold HasPt at hB3_5
  obtain ⟨f3_5_0, f3_5_1, f3_5_2⟩ := hB3_5
  have z3_5 : w1.heap.size + 1 < w3.heap.size := World.block_lt_of_cell? _ _ f3_5_0
  have zz3 := C3.size
  go_wp2_with fail
  refine (K1.out _).mono ?_
  rintro e w4 ⟨v1, rfl, hb4, hR1⟩
  have hB4_0 : HasPap (p) (w.heap.size) w4 := HasPap.up (by unfold HasPap; go_simp) hb4 (by (try simp only [World.size_alloc, World.size_setCell]); omega)
  have hB4_1 : HasPt (t) (w.heap.size + 1) w4 := HasPt.up (by unfold HasPt; go_simp) hb4 (by (try simp only [World.size_alloc, World.size_setCell]); omega)
  have hB4_2 : HasSp (al) (ah) (w.heap.size + 1 + 1) w4 := HasSp.up (by unfold HasSp; go_simp) hb4 (by (try simp only [World.size_alloc, World.size_setCell]); omega)
  have hB4_3 : HasSp (cl) (ch) (w.heap.size + 1 + 1 + 1) w4 := HasSp.up (by unfold HasSp; go_simp) hb4 (by (try simp only [World.size_alloc, World.size_setCell]); omega)
  have hB4_4 : HasPap (⟨p.pitch, p.height, p.radius, p.low, p.high, p.cols, al, ah, cl, ch⟩) (w1.heap.size) w4 := HasPap.up (by unfold HasPap; go_simp) hb4 (by (try simp only [World.size_alloc, World.size_setCell]); omega)
  have hB4_5 : HasPt (⟨t.x, t.y, k⟩) (w1.heap.size + 1) w4 := HasPt.up (by unfold HasPt; go_simp) hb4 (by (try simp only [World.size_alloc, World.size_setCell]); omega)
  have C4 : Below w.heap.size w w4 := by
    refine Below.trans ?_ (hb4.mono ?_)
    · repeat' (first | with_reducible exact Below.refl _ _ | with_reducible exact C3 | with_reducible refine set1 ?_ (by omega) _ _ | with_reducible refine Below.alloc ?_ (by (try simp only [World.size_alloc, World.size_setCell]); omega) _ | with_reducible refine below_drewN ?_ _ | with_reducible refine Below.drew ?_)
    · (try simp only [World.size_alloc, World.size_setCell]); omega
  clear f3_0_0 f3_0_1 f3_0_2 f3_0_3 f3_0_4 f3_0_5 f3_0_6 f3_0_7 f3_0_8 f3_0_9 f3_1_0 f3_1_1 f3_1_2 f3_2_0 f3_2_1 f3_3_0 f3_3_1 f3_4_0 f3_4_1 f3_4_2 f3_4_3 f3_4_4 f3_4_5 f3_4_6 f3_4_7 f3_4_8 f3_4_9 f3_5_0 f3_5_1 f3_5_2 hb4
  unfold HasPap at hB4_0
  obtain ⟨f4_0_0, f4_0_1, f4_0_2, f4_0_3, f4_0_4, f4_0_5, f4_0_6, f4_0_7, f4_0_8, f4_0_9⟩ := hB4_0
  have z4_0 : w.heap.size < w4.heap.size := World.block_lt_of_cell? _ _ f4_0_0
  unfold HasPt at hB4_1
  obtain ⟨f4_1_0, f4_1_1, f4_1_2⟩ := hB4_1
  have z4_1 : w.heap.size + 1 < w4.heap.size := World.block_lt_of_cell? _ _ f4_1_0
  unfold HasSp at hB4_2
  obtain ⟨f4_2_0, f4_2_1⟩ := hB4_2
  have z4_2 : w.heap.size + 1 + 1 < w4.heap.size := World.block_lt_of_cell? _ _ f4_2_0
  unfold HasSp at hB4_3
  obtain ⟨f4_3_0, f4_3_1⟩ := hB4_3
  have z4_3 : w.heap.size + 1 + 1 + 1 < w4.heap.size := World.block_lt_of_cell? _ _ f4_3_0
  unfold HasPap at hB4_4
  obtain ⟨f4_4_0, f4_4_1, f4_4_2, f4_4_3, f4_4_4, f4_4_5, f4_4_6, f4_4_7, f4_4_8, f4_4_9⟩ := hB4_4
  have z4_4 : w1.heap.size < w4.heap.size := World.block_lt_of_cell? _ _ f4_4_0
  unfold HasPt at hB4_5
  obtain ⟨f4_5_0, f4_5_1, f4_5_2⟩ := hB4_5
  have z4_5 : w1.heap.size + 1 < w4.heap.size := World.block_lt_of_cell? _ _ f4_5_0
  have zz4 := C4.size
  go_wp2_with fail
  refine (K2.out _).mono ?_
  rintro e w5 ⟨v2, rfl, hb5, hR2⟩
  have hB5_0 : HasPap (p) (w.heap.size) w5 := HasPap.up (by unfold HasPap; go_simp) hb5 (by (try simp only [World.size_alloc, World.size_setCell]); omega)
  have hB5_1 : HasPt (t) (w.heap.size + 1) w5 := HasPt.up (by unfold HasPt; go_simp) hb5 (by (try simp only [World.size_alloc, World.size_setCell]); omega)
  have hB5_2 : HasSp (al) (ah) (w.heap.size + 1 + 1) w5 := HasSp.up (by unfold HasSp; go_simp) hb5 (by (try simp only [World.size_alloc, World.size_setCell]); omega)
  have hB5_3 : HasSp (cl) (ch) (w.heap.size + 1 + 1 + 1) w5 := HasSp.up (by unfold HasSp; go_simp) hb5 (by (try simp only [World.size_alloc, World.size_setCell]); omega)
  have hB5_4 : HasPap (⟨p.pitch, p.height, p.radius, p.low, p.high, p.cols, al, ah, cl, ch⟩) (w1.heap.size) w5 := HasPap.up (by unfold HasPap; go_simp) hb5 (by (try simp only [World.size_alloc, World.size_setCell]); omega)
  have hB5_5 : HasPt (⟨t.x, t.y, k⟩) (w1.heap.size + 1) w5 := HasPt.up (by unfold HasPt; go_simp) hb5 (by (try simp only [World.size_alloc, World.size_setCell]); omega)
  have C5 : Below w.heap.size w w5 := by
    refine Below.trans ?_ (hb5.mono ?_)
    · repeat' (first | with_reducible exact Below.refl _ _ | with_reducible exact C4 | with_reducible refine set1 ?_ (by omega) _ _ | with_reducible refine Below.alloc ?_ (by (try simp only [World.size_alloc, World.size_setCell]); omega) _ | with_reducible refine below_drewN ?_ _ | with_reducible refine Below.drew ?_)
    · (try simp only [World.size_alloc, World.size_setCell]); omega
  have hR1' := hR1.up hb5
  clear hR1
  clear f4_0_0 f4_0_1 f4_0_2 f4_0_3 f4_0_4 f4_0_5 f4_0_6 f4_0_7 f4_0_8 f4_0_9 f4_1_0 f4_1_1 f4_1_2 f4_2_0 f4_2_1 f4_3_0 f4_3_1 f4_4_0 f4_4_1 f4_4_2 f4_4_3 f4_4_4 f4_4_5 f4_4_6 f4_4_7 f4_4_8 f4_4_9 f4_5_0 f4_5_1 f4_5_2 hb5
  unfold HasPap at hB5_0
  obtain ⟨f5_0_0, f5_0_1, f5_0_2, f5_0_3, f5_0_4, f5_0_5, f5_0_6, f5_0_7, f5_0_8, f5_0_9⟩ := hB5_0
  have z5_0 : w.heap.size < w5.heap.size := World.block_lt_of_cell? _ _ f5_0_0
  unfold HasPt at hB5_1
  obtain ⟨f5_1_0, f5_1_1, f5_1_2⟩ := hB5_1
  have z5_1 : w.heap.size + 1 < w5.heap.size := World.block_lt_of_cell? _ _ f5_1_0
  unfold HasSp at hB5_2
  obtain ⟨f5_2_0, f5_2_1⟩ := hB5_2
  have z5_2 : w.heap.size + 1 + 1 < w5.heap.size := World.block_lt_of_cell? _ _ f5_2_0
  unfold HasSp at hB5_3
  obtain ⟨f5_3_0, f5_3_1⟩ := hB5_3
  have z5_3 : w.heap.size + 1 + 1 + 1 < w5.heap.size := World.block_lt_of_cell? _ _ f5_3_0
  unfold HasPap at hB5_4
  obtain ⟨f5_4_0, f5_4_1, f5_4_2, f5_4_3, f5_4_4, f5_4_5, f5_4_6, f5_4_7, f5_4_8, f5_4_9⟩ := hB5_4
  have z5_4 : w1.heap.size < w5.heap.size := World.block_lt_of_cell? _ _ f5_4_0
  unfold HasPt at hB5_5
  obtain ⟨f5_5_0, f5_5_1, f5_5_2⟩ := hB5_5
  have z5_5 : w1.heap.size + 1 < w5.heap.size := World.block_lt_of_cell? _ _ f5_5_0
  have zz5 := C5.size
  go_wp2_with fail
  rcases hR2 with ⟨hne, _⟩ | ⟨_, hR2⟩
  · exact absurd hne hl
  rcases hR1' with ⟨hne, _⟩ | ⟨_, hR1⟩
  · exfalso
    obtain ⟨s, hs⟩ := List.exists_mem_of_ne_nil _ hl
    obtain ⟨a, ha, _⟩ := HC.out s hs
    rw [hne] at ha; cases ha
  obtain ⟨g1, cap1, rfl, _, x1, y1, _, H1⟩ := hR1
  obtain ⟨g2, cap2, rfl, _, x2, y2, _, H2⟩ := hR2
  have H1 := Lib.hid H1
  have H2 := Lib.hid H2
  generalize hn1 : l1.length = n1 at *
  generalize hn2 : l2.length = n2 at *
  have N1 := Lib.hid hn1
  have N2 := Lib.hid hn2
  clear hn1 hn2 hl
  have m1 : n1 ≤ 9223372036854775807 := by have := y1; unfold maxLen at *; omega
  have m2 : n2 ≤ 9223372036854775807 := by have := y2; unfold maxLen at *; omega
  go_wp2_with fail
  go_loopw [20] (fun i wr => ∃ k0 : Nat, k0 ≤ n2 ∧ i = .int .i64 k0 ∧ Below w5.heap.size w5 wr) (fun i _ => n2 - (intOf i).toNat)
  case atStart => exact ⟨0, Nat.zero_le _, rfl, Below.refl _ _⟩
  case round =>
    obtain ⟨k0, hk, rfl, hB⟩ := hrel
    by_cases hlt : k0 < n2
    · have hs : l2[k0]? = some (l2[k0]'(by rw [N2.out]; exact hlt)) := List.getElem?_eq_getElem _
      generalize l2[k0]'(by rw [N2.out]; exact hlt) = s at hs
      have HA := Lib.hid (anyC_cov HC.out hs)
      obtain ⟨b0, b1⟩ := H2.out k0 s hs
      clear hs
      have hki : (k0 : Int) < (n2 : Int) := by omega
      have hk0 : (0 : Int) ≤ (k0 : Int) := by omega
      obtain ⟨wo, rfl⟩ : ∃ wo : World, wo = wr := ⟨_, rfl⟩
      go_wp2_with fail
      go_loopw [21, 22] (fun hd kk wi => ∃ k1 : Nat, k1 ≤ n1 ∧ kk = .int .i64 k1 ∧ hd = .bool (anyC (l1.take k1) s) ∧ Below w5.heap.size w5 wi) (fun _ kk _ => n1 - (intOf kk).toNat)
      case atStart => exact ⟨0, Nat.zero_le _, rfl, by simp [anyC], hB⟩
      case round =>
        obtain ⟨k1, hk1, rfl, rfl, hBi⟩ := hrel
        by_cases hlt1 : k1 < n1
        · have ha : l1[k1]? = some (l1[k1]'(by rw [N1.out]; exact hlt1)) := List.getElem?_eq_getElem _
          generalize l1[k1]'(by rw [N1.out]; exact hlt1) = a at ha
          have HS1 := Lib.hid (anyC_succ (s := s) ha)
          obtain ⟨a0, a1⟩ := H1.out k1 a ha
          clear ha
          have a0' := cell_up hBi x1 a0
          have a1' := cell_up hBi x1 a1
          have b0' := cell_up hBi x2 b0
          have b1' := cell_up hBi x2 b1
          have zi := hBi.size
          clear a0 a1 b0 b1
          have hk1i : (k1 : Int) < (n1 : Int) := by omega
          have hk10 : (0 : Int) ≤ (k1 : Int) := by omega
          generalize hv : anyC (l1.take k1) s = v
          rw [hv] at HS1
          clear hv
          cases v
          · go_wp2_with fail
            refine still_tail 10 (by kernel_rfl) (by kernel_rfl) ?_
            simp only [List.take_succ_cons, List.take_zero, List.drop_succ_cons, List.drop_zero]
            repeat still_step
            refine wpStill_nil ?_
            go_wp2_with fail
            by_cases hin : a.1 ≤ s.1 ∧ s.2 ≤ a.2
            · refine (inside_t _ _ _ _ _ hin).mono ?_
              rintro e wj ⟨rfl, hbj⟩
              have hj := hBi.drew.trans (hbj.mono (by simp only [World.size_drew]; omega))
              clear hbj
              go_wp2_with fail
              exact ⟨⟨k1 + 1, by omega, by go_num, by rw [HS1.out, decide_eq_true hin]; rfl, hj⟩, by simp [intOf]; omega⟩
            · refine (inside_f _ _ _ _ _ hin).mono ?_
              rintro e wj ⟨rfl, hbj⟩
              have hj := hBi.drew.trans (hbj.mono (by simp only [World.size_drew]; omega))
              clear hbj
              go_wp2_with fail
              exact ⟨⟨k1 + 1, by omega, by go_num, by rw [HS1.out, decide_eq_false hin]; rfl, hj⟩, by simp [intOf]; omega⟩
          · go_wp2_with fail
            go_quiet (fail)
            go_wp2_with fail
            exact ⟨⟨k1 + 1, by omega, by go_num, by rw [HS1.out]; rfl, below_drewN hBi _⟩, by simp [intOf]; omega⟩
        · obtain rfl : k1 = n1 := by omega
          have hf : anyC (l1.take k1) s = true := by rw [List.take_of_length_le (by rw [N1.out]; exact Nat.le_refl _)]; exact HA.out
          rw [hf]
          clear hf
          go_wp2_with fail
          exact ⟨⟨k0 + 1, by omega, by go_num, hBi⟩, by simp [intOf]; omega⟩
    · clear H1 H2 HC
      by_cases hh : e4 = 0
      · obtain ⟨he3, hin⟩ := HH.out hh
        have d4 : (e4 != 0) = false := by simp [hh]
        have d3 : (e3 == 0) = true := by simp [he3]
        clear hh he3
        have hT0 : HasPap (p) (w.heap.size) wr := HasPap.up (by unfold HasPap; exact ⟨f5_0_0, f5_0_1, f5_0_2, f5_0_3, f5_0_4, f5_0_5, f5_0_6, f5_0_7, f5_0_8, f5_0_9⟩) hB (by omega)
        have hT1 : HasPt (t) (w.heap.size + 1) wr := HasPt.up (by unfold HasPt; exact ⟨f5_1_0, f5_1_1, f5_1_2⟩) hB (by omega)
        have hT2 : HasSp (al) (ah) (w.heap.size + 1 + 1) wr := HasSp.up (by unfold HasSp; exact ⟨f5_2_0, f5_2_1⟩) hB (by omega)
        have hT3 : HasSp (cl) (ch) (w.heap.size + 1 + 1 + 1) wr := HasSp.up (by unfold HasSp; exact ⟨f5_3_0, f5_3_1⟩) hB (by omega)
        have hT4 : HasPap (⟨p.pitch, p.height, p.radius, p.low, p.high, p.cols, al, ah, cl, ch⟩) (w1.heap.size) wr := HasPap.up (by unfold HasPap; exact ⟨f5_4_0, f5_4_1, f5_4_2, f5_4_3, f5_4_4, f5_4_5, f5_4_6, f5_4_7, f5_4_8, f5_4_9⟩) hB (by omega)
        have hT5 : HasPt (⟨t.x, t.y, k⟩) (w1.heap.size + 1) wr := HasPt.up (by unfold HasPt; exact ⟨f5_5_0, f5_5_1, f5_5_2⟩) hB (by omega)
        clear f5_0_0 f5_0_1 f5_0_2 f5_0_3 f5_0_4 f5_0_5 f5_0_6 f5_0_7 f5_0_8 f5_0_9 f5_1_0 f5_1_1 f5_1_2 f5_2_0 f5_2_1 f5_3_0 f5_3_1 f5_4_0 f5_4_1 f5_4_2 f5_4_3 f5_4_4 f5_4_5 f5_4_6 f5_4_7 f5_4_8 f5_4_9 f5_5_0 f5_5_1 f5_5_2
        unfold HasPap at hT0
        obtain ⟨f10_0_0, f10_0_1, f10_0_2, f10_0_3, f10_0_4, f10_0_5, f10_0_6, f10_0_7, f10_0_8, f10_0_9⟩ := hT0
        have z10_0 : w.heap.size < wr.heap.size := World.block_lt_of_cell? _ _ f10_0_0
        unfold HasPt at hT1
        obtain ⟨f10_1_0, f10_1_1, f10_1_2⟩ := hT1
        have z10_1 : w.heap.size + 1 < wr.heap.size := World.block_lt_of_cell? _ _ f10_1_0
        unfold HasSp at hT2
        obtain ⟨f10_2_0, f10_2_1⟩ := hT2
        have z10_2 : w.heap.size + 1 + 1 < wr.heap.size := World.block_lt_of_cell? _ _ f10_2_0
        unfold HasSp at hT3
        obtain ⟨f10_3_0, f10_3_1⟩ := hT3
        have z10_3 : w.heap.size + 1 + 1 + 1 < wr.heap.size := World.block_lt_of_cell? _ _ f10_3_0
        unfold HasPap at hT4
        obtain ⟨f10_4_0, f10_4_1, f10_4_2, f10_4_3, f10_4_4, f10_4_5, f10_4_6, f10_4_7, f10_4_8, f10_4_9⟩ := hT4
        have z10_4 : w1.heap.size < wr.heap.size := World.block_lt_of_cell? _ _ f10_4_0
        unfold HasPt at hT5
        obtain ⟨f10_5_0, f10_5_1, f10_5_2⟩ := hT5
        have z10_5 : w1.heap.size + 1 < wr.heap.size := World.block_lt_of_cell? _ _ f10_5_0
        have C10 : Below w.heap.size w wr := C5.trans (hB.mono C5.size)
        have zz10 := C10.size
        clear hB
        go_wp2_with fail
        refine (K3.out _).mono ?_
        rintro e w11 ⟨rfl, hb11⟩
        have hB11_0 : HasPap (p) (w.heap.size) w11 := HasPap.up (by unfold HasPap; go_simp) hb11 (by (try simp only [World.size_alloc, World.size_setCell]); omega)
        have hB11_1 : HasPt (t) (w.heap.size + 1) w11 := HasPt.up (by unfold HasPt; go_simp) hb11 (by (try simp only [World.size_alloc, World.size_setCell]); omega)
        have hB11_2 : HasSp (al) (ah) (w.heap.size + 1 + 1) w11 := HasSp.up (by unfold HasSp; go_simp) hb11 (by (try simp only [World.size_alloc, World.size_setCell]); omega)
        have hB11_3 : HasSp (cl) (ch) (w.heap.size + 1 + 1 + 1) w11 := HasSp.up (by unfold HasSp; go_simp) hb11 (by (try simp only [World.size_alloc, World.size_setCell]); omega)
        have hB11_4 : HasPap (⟨p.pitch, p.height, p.radius, p.low, p.high, p.cols, al, ah, cl, ch⟩) (w1.heap.size) w11 := HasPap.up (by unfold HasPap; go_simp) hb11 (by (try simp only [World.size_alloc, World.size_setCell]); omega)
        have hB11_5 : HasPt (⟨t.x, t.y, k⟩) (w1.heap.size + 1) w11 := HasPt.up (by unfold HasPt; go_simp) hb11 (by (try simp only [World.size_alloc, World.size_setCell]); omega)
        have C11 : Below w.heap.size w w11 := by
          refine Below.trans ?_ (hb11.mono ?_)
          · repeat' (first | with_reducible exact Below.refl _ _ | with_reducible exact C10 | with_reducible refine set1 ?_ (by omega) _ _ | with_reducible refine Below.alloc ?_ (by (try simp only [World.size_alloc, World.size_setCell]); omega) _ | with_reducible refine below_drewN ?_ _ | with_reducible refine Below.drew ?_)
          · (try simp only [World.size_alloc, World.size_setCell]); omega
        clear f10_0_0 f10_0_1 f10_0_2 f10_0_3 f10_0_4 f10_0_5 f10_0_6 f10_0_7 f10_0_8 f10_0_9 f10_1_0 f10_1_1 f10_1_2 f10_2_0 f10_2_1 f10_3_0 f10_3_1 f10_4_0 f10_4_1 f10_4_2 f10_4_3 f10_4_4 f10_4_5 f10_4_6 f10_4_7 f10_4_8 f10_4_9 f10_5_0 f10_5_1 f10_5_2 hb11
        unfold HasPap at hB11_0
        obtain ⟨f11_0_0, f11_0_1, f11_0_2, f11_0_3, f11_0_4, f11_0_5, f11_0_6, f11_0_7, f11_0_8, f11_0_9⟩ := hB11_0
        have z11_0 : w.heap.size < w11.heap.size := World.block_lt_of_cell? _ _ f11_0_0
        unfold HasPt at hB11_1
        obtain ⟨f11_1_0, f11_1_1, f11_1_2⟩ := hB11_1
        have z11_1 : w.heap.size + 1 < w11.heap.size := World.block_lt_of_cell? _ _ f11_1_0
        unfold HasSp at hB11_2
        obtain ⟨f11_2_0, f11_2_1⟩ := hB11_2
        have z11_2 : w.heap.size + 1 + 1 < w11.heap.size := World.block_lt_of_cell? _ _ f11_2_0
        unfold HasSp at hB11_3
        obtain ⟨f11_3_0, f11_3_1⟩ := hB11_3
        have z11_3 : w.heap.size + 1 + 1 + 1 < w11.heap.size := World.block_lt_of_cell? _ _ f11_3_0
        unfold HasPap at hB11_4
        obtain ⟨f11_4_0, f11_4_1, f11_4_2, f11_4_3, f11_4_4, f11_4_5, f11_4_6, f11_4_7, f11_4_8, f11_4_9⟩ := hB11_4
        have z11_4 : w1.heap.size < w11.heap.size := World.block_lt_of_cell? _ _ f11_4_0
        unfold HasPt at hB11_5
        obtain ⟨f11_5_0, f11_5_1, f11_5_2⟩ := hB11_5
        have z11_5 : w1.heap.size + 1 < w11.heap.size := World.block_lt_of_cell? _ _ f11_5_0
        have zz11 := C11.size
        go_wp2_with fail
        refine (K4.out _).mono ?_
        rintro e w12 ⟨rfl, hb12⟩
        have hB12_0 : HasPap (p) (w.heap.size) w12 := HasPap.up (by unfold HasPap; go_simp) hb12 (by (try simp only [World.size_alloc]); omega)
        have hB12_1 : HasPt (t) (w.heap.size + 1) w12 := HasPt.up (by unfold HasPt; go_simp) hb12 (by (try simp only [World.size_alloc]); omega)
        have hB12_2 : HasSp (al) (ah) (w.heap.size + 1 + 1) w12 := HasSp.up (by unfold HasSp; go_simp) hb12 (by (try simp only [World.size_alloc]); omega)
        have hB12_3 : HasSp (cl) (ch) (w.heap.size + 1 + 1 + 1) w12 := HasSp.up (by unfold HasSp; go_simp) hb12 (by (try simp only [World.size_alloc]); omega)
        have hB12_4 : HasPap (⟨p.pitch, p.height, p.radius, p.low, p.high, p.cols, al, ah, cl, ch⟩) (w1.heap.size) w12 := HasPap.up (by unfold HasPap; go_simp) hb12 (by (try simp only [World.size_alloc]); omega)
        have hB12_5 : HasPt (⟨t.x, t.y, k⟩) (w1.heap.size + 1) w12 := HasPt.up (by unfold HasPt; go_simp) hb12 (by (try simp only [World.size_alloc]); omega)
        have hB12_6 : HasSp (c1) (c2) (w11.heap.size) w12 := HasSp.up (by unfold HasSp; go_simp) hb12 (by (try simp only [World.size_alloc]); omega)
        have C12 : Below w.heap.size w w12 := by
          refine Below.trans ?_ (hb12.mono ?_)
          · repeat' (first | with_reducible exact Below.refl _ _ | with_reducible exact C11 | with_reducible refine set1 ?_ (by omega) _ _ | with_reducible refine Below.alloc ?_ (by (try simp only [World.size_alloc, World.size_setCell]); omega) _ | with_reducible refine below_drewN ?_ _ | with_reducible refine Below.drew ?_)
          · (try simp only [World.size_alloc]); omega
        clear f11_0_0 f11_0_1 f11_0_2 f11_0_3 f11_0_4 f11_0_5 f11_0_6 f11_0_7 f11_0_8 f11_0_9 f11_1_0 f11_1_1 f11_1_2 f11_2_0 f11_2_1 f11_3_0 f11_3_1 f11_4_0 f11_4_1 f11_4_2 f11_4_3 f11_4_4 f11_4_5 f11_4_6 f11_4_7 f11_4_8 f11_4_9 f11_5_0 f11_5_1 f11_5_2 hb12
        unfold HasPap at hB12_0
        obtain ⟨f12_0_0, f12_0_1, f12_0_2, f12_0_3, f12_0_4, f12_0_5, f12_0_6, f12_0_7, f12_0_8, f12_0_9⟩ := hB12_0
        have z12_0 : w.heap.size < w12.heap.size := World.block_lt_of_cell? _ _ f12_0_0
        unfold HasPt at hB12_1
        obtain ⟨f12_1_0, f12_1_1, f12_1_2⟩ := hB12_1
        have z12_1 : w.heap.size + 1 < w12.heap.size := World.block_lt_of_cell? _ _ f12_1_0
        unfold HasSp at hB12_2
        obtain ⟨f12_2_0, f12_2_1⟩ := hB12_2
        have z12_2 : w.heap.size + 1 + 1 < w12.heap.size := World.block_lt_of_cell? _ _ f12_2_0
        unfold HasSp at hB12_3
        obtain ⟨f12_3_0, f12_3_1⟩ := hB12_3
        have z12_3 : w.heap.size + 1 + 1 + 1 < w12.heap.size := World.block_lt_of_cell? _ _ f12_3_0
        unfold HasPap at hB12_4
        obtain ⟨f12_4_0, f12_4_1, f12_4_2, f12_4_3, f12_4_4, f12_4_5, f12_4_6, f12_4_7, f12_4_8, f12_4_9⟩ := hB12_4
        have z12_4 : w1.heap.size < w12.heap.size := World.block_lt_of_cell? _ _ f12_4_0
        unfold HasPt at hB12_5
        obtain ⟨f12_5_0, f12_5_1, f12_5_2⟩ := hB12_5
        have z12_5 : w1.heap.size + 1 < w12.heap.size := World.block_lt_of_cell? _ _ f12_5_0
        unfold HasSp at hB12_6
        obtain ⟨f12_6_0, f12_6_1⟩ := hB12_6
        have z12_6 : w11.heap.size < w12.heap.size := World.block_lt_of_cell? _ _ f12_6_0
        have zz12 := C12.size
        go_wp2_with fail
        refine (inside_t d1 d2 c1 c2 _ hin).mono ?_
        rintro e w13 ⟨rfl, hb13⟩
        have hB13_0 : HasPap (p) (w.heap.size) w13 := HasPap.up (by unfold HasPap; go_simp) hb13 (by (try simp only [World.size_alloc]); omega)
        have hB13_1 : HasPt (t) (w.heap.size + 1) w13 := HasPt.up (by unfold HasPt; go_simp) hb13 (by (try simp only [World.size_alloc]); omega)
        have hB13_2 : HasSp (al) (ah) (w.heap.size + 1 + 1) w13 := HasSp.up (by unfold HasSp; go_simp) hb13 (by (try simp only [World.size_alloc]); omega)
        have hB13_3 : HasSp (cl) (ch) (w.heap.size + 1 + 1 + 1) w13 := HasSp.up (by unfold HasSp; go_simp) hb13 (by (try simp only [World.size_alloc]); omega)
        have hB13_4 : HasPap (⟨p.pitch, p.height, p.radius, p.low, p.high, p.cols, al, ah, cl, ch⟩) (w1.heap.size) w13 := HasPap.up (by unfold HasPap; go_simp) hb13 (by (try simp only [World.size_alloc]); omega)
        have hB13_5 : HasPt (⟨t.x, t.y, k⟩) (w1.heap.size + 1) w13 := HasPt.up (by unfold HasPt; go_simp) hb13 (by (try simp only [World.size_alloc]); omega)
        have hB13_6 : HasSp (c1) (c2) (w11.heap.size) w13 := HasSp.up (by unfold HasSp; go_simp) hb13 (by (try simp only [World.size_alloc]); omega)
        have hB13_7 : HasSp (d1) (d2) (w12.heap.size) w13 := HasSp.up (by unfold HasSp; go_simp) hb13 (by (try simp only [World.size_alloc]); omega)
        have C13 : Below w.heap.size w w13 := by
          refine Below.trans ?_ (hb13.mono ?_)
          · repeat' (first | with_reducible exact Below.refl _ _ | with_reducible exact C12 | with_reducible refine set1 ?_ (by omega) _ _ | with_reducible refine Below.alloc ?_ (by (try simp only [World.size_alloc, World.size_setCell]); omega) _ | with_reducible refine below_drewN ?_ _ | with_reducible refine Below.drew ?_)
          · (try simp only [World.size_alloc]); omega
        clear f12_0_0 f12_0_1 f12_0_2 f12_0_3 f12_0_4 f12_0_5 f12_0_6 f12_0_7 f12_0_8 f12_0_9 f12_1_0 f12_1_1 f12_1_2 f12_2_0 f12_2_1 f12_3_0 f12_3_1 f12_4_0 f12_4_1 f12_4_2 f12_4_3 f12_4_4 f12_4_5 f12_4_6 f12_4_7 f12_4_8 f12_4_9 f12_5_0 f12_5_1 f12_5_2 f12_6_0 f12_6_1 hb13
        unfold HasPap at hB13_0
        obtain ⟨f13_0_0, f13_0_1, f13_0_2, f13_0_3, f13_0_4, f13_0_5, f13_0_6, f13_0_7, f13_0_8, f13_0_9⟩ := hB13_0
        have z13_0 : w.heap.size < w13.heap.size := World.block_lt_of_cell? _ _ f13_0_0
        unfold HasPt at hB13_1
        obtain ⟨f13_1_0, f13_1_1, f13_1_2⟩ := hB13_1
        have z13_1 : w.heap.size + 1 < w13.heap.size := World.block_lt_of_cell? _ _ f13_1_0
        unfold HasSp at hB13_2
        obtain ⟨f13_2_0, f13_2_1⟩ := hB13_2
        have z13_2 : w.heap.size + 1 + 1 < w13.heap.size := World.block_lt_of_cell? _ _ f13_2_0
        unfold HasSp at hB13_3
        obtain ⟨f13_3_0, f13_3_1⟩ := hB13_3
        have z13_3 : w.heap.size + 1 + 1 + 1 < w13.heap.size := World.block_lt_of_cell? _ _ f13_3_0
        unfold HasPap at hB13_4
        obtain ⟨f13_4_0, f13_4_1, f13_4_2, f13_4_3, f13_4_4, f13_4_5, f13_4_6, f13_4_7, f13_4_8, f13_4_9⟩ := hB13_4
        have z13_4 : w1.heap.size < w13.heap.size := World.block_lt_of_cell? _ _ f13_4_0
        unfold HasPt at hB13_5
        obtain ⟨f13_5_0, f13_5_1, f13_5_2⟩ := hB13_5
        have z13_5 : w1.heap.size + 1 < w13.heap.size := World.block_lt_of_cell? _ _ f13_5_0
        unfold HasSp at hB13_6
        obtain ⟨f13_6_0, f13_6_1⟩ := hB13_6
        have z13_6 : w11.heap.size < w13.heap.size := World.block_lt_of_cell? _ _ f13_6_0
        unfold HasSp at hB13_7
        obtain ⟨f13_7_0, f13_7_1⟩ := hB13_7
        have z13_7 : w12.heap.size < w13.heap.size := World.block_lt_of_cell? _ _ f13_7_0
        have zz13 := C13.size
        go_wp2_with fail
        go_ret
        exact ⟨rfl, by
          repeat' (first | with_reducible exact Below.refl _ _ | with_reducible exact C13 | with_reducible refine set1 ?_ (by omega) _ _ | with_reducible refine Below.alloc ?_ (by (try simp only [World.size_alloc, World.size_setCell]); omega) _ | with_reducible refine below_drewN ?_ _ | with_reducible refine Below.drew ?_)⟩
      · have d4 : (e4 != 0) = true := by simp [hh]
        clear hh
        have hT0 : HasPap (p) (w.heap.size) wr := HasPap.up (by unfold HasPap; exact ⟨f5_0_0, f5_0_1, f5_0_2, f5_0_3, f5_0_4, f5_0_5, f5_0_6, f5_0_7, f5_0_8, f5_0_9⟩) hB (by omega)
        have hT1 : HasPt (t) (w.heap.size + 1) wr := HasPt.up (by unfold HasPt; exact ⟨f5_1_0, f5_1_1, f5_1_2⟩) hB (by omega)
        have hT2 : HasSp (al) (ah) (w.heap.size + 1 + 1) wr := HasSp.up (by unfold HasSp; exact ⟨f5_2_0, f5_2_1⟩) hB (by omega)
        have hT3 : HasSp (cl) (ch) (w.heap.size + 1 + 1 + 1) wr := HasSp.up (by unfold HasSp; exact ⟨f5_3_0, f5_3_1⟩) hB (by omega)
        have hT4 : HasPap (⟨p.pitch, p.height, p.radius, p.low, p.high, p.cols, al, ah, cl, ch⟩) (w1.heap.size) wr := HasPap.up (by unfold HasPap; exact ⟨f5_4_0, f5_4_1, f5_4_2, f5_4_3, f5_4_4, f5_4_5, f5_4_6, f5_4_7, f5_4_8, f5_4_9⟩) hB (by omega)
        have hT5 : HasPt (⟨t.x, t.y, k⟩) (w1.heap.size + 1) wr := HasPt.up (by unfold HasPt; exact ⟨f5_5_0, f5_5_1, f5_5_2⟩) hB (by omega)
        clear f5_0_0 f5_0_1 f5_0_2 f5_0_3 f5_0_4 f5_0_5 f5_0_6 f5_0_7 f5_0_8 f5_0_9 f5_1_0 f5_1_1 f5_1_2 f5_2_0 f5_2_1 f5_3_0 f5_3_1 f5_4_0 f5_4_1 f5_4_2 f5_4_3 f5_4_4 f5_4_5 f5_4_6 f5_4_7 f5_4_8 f5_4_9 f5_5_0 f5_5_1 f5_5_2
        unfold HasPap at hT0
        obtain ⟨f10_0_0, f10_0_1, f10_0_2, f10_0_3, f10_0_4, f10_0_5, f10_0_6, f10_0_7, f10_0_8, f10_0_9⟩ := hT0
        have z10_0 : w.heap.size < wr.heap.size := World.block_lt_of_cell? _ _ f10_0_0
        unfold HasPt at hT1
        obtain ⟨f10_1_0, f10_1_1, f10_1_2⟩ := hT1
        have z10_1 : w.heap.size + 1 < wr.heap.size := World.block_lt_of_cell? _ _ f10_1_0
        unfold HasSp at hT2
        obtain ⟨f10_2_0, f10_2_1⟩ := hT2
        have z10_2 : w.heap.size + 1 + 1 < wr.heap.size := World.block_lt_of_cell? _ _ f10_2_0
        unfold HasSp at hT3
        obtain ⟨f10_3_0, f10_3_1⟩ := hT3
        have z10_3 : w.heap.size + 1 + 1 + 1 < wr.heap.size := World.block_lt_of_cell? _ _ f10_3_0
        unfold HasPap at hT4
        obtain ⟨f10_4_0, f10_4_1, f10_4_2, f10_4_3, f10_4_4, f10_4_5, f10_4_6, f10_4_7, f10_4_8, f10_4_9⟩ := hT4
        have z10_4 : w1.heap.size < wr.heap.size := World.block_lt_of_cell? _ _ f10_4_0
        unfold HasPt at hT5
        obtain ⟨f10_5_0, f10_5_1, f10_5_2⟩ := hT5
        have z10_5 : w1.heap.size + 1 < wr.heap.size := World.block_lt_of_cell? _ _ f10_5_0
        have C10 : Below w.heap.size w wr := C5.trans (hB.mono C5.size)
        have zz10 := C10.size
        clear hB
        go_wp2_with fail
        refine (K3.out _).mono ?_
        rintro e w11 ⟨rfl, hb11⟩
        have hB11_0 : HasPap (p) (w.heap.size) w11 := HasPap.up (by unfold HasPap; go_simp) hb11 (by (try simp only [World.size_alloc, World.size_setCell]); omega)
        have hB11_1 : HasPt (t) (w.heap.size + 1) w11 := HasPt.up (by unfold HasPt; go_simp) hb11 (by (try simp only [World.size_alloc, World.size_setCell]); omega)
        have hB11_2 : HasSp (al) (ah) (w.heap.size + 1 + 1) w11 := HasSp.up (by unfold HasSp; go_simp) hb11 (by (try simp only [World.size_alloc, World.size_setCell]); omega)
        have hB11_3 : HasSp (cl) (ch) (w.heap.size + 1 + 1 + 1) w11 := HasSp.up (by unfold HasSp; go_simp) hb11 (by (try simp only [World.size_alloc, World.size_setCell]); omega)
        have hB11_4 : HasPap (⟨p.pitch, p.height, p.radius, p.low, p.high, p.cols, al, ah, cl, ch⟩) (w1.heap.size) w11 := HasPap.up (by unfold HasPap; go_simp) hb11 (by (try simp only [World.size_alloc, World.size_setCell]); omega)
        have hB11_5 : HasPt (⟨t.x, t.y, k⟩) (w1.heap.size + 1) w11 := HasPt.up (by unfold HasPt; go_simp) hb11 (by (try simp only [World.size_alloc, World.size_setCell]); omega)
        have C11 : Below w.heap.size w w11 := by
          refine Below.trans ?_ (hb11.mono ?_)
          · repeat' (first | with_reducible exact Below.refl _ _ | with_reducible exact C10 | with_reducible refine set1 ?_ (by omega) _ _ | with_reducible refine Below.alloc ?_ (by (try simp only [World.size_alloc, World.size_setCell]); omega) _ | with_reducible refine below_drewN ?_ _ | with_reducible refine Below.drew ?_)
          · (try simp only [World.size_alloc, World.size_setCell]); omega
        clear f10_0_0 f10_0_1 f10_0_2 f10_0_3 f10_0_4 f10_0_5 f10_0_6 f10_0_7 f10_0_8 f10_0_9 f10_1_0 f10_1_1 f10_1_2 f10_2_0 f10_2_1 f10_3_0 f10_3_1 f10_4_0 f10_4_1 f10_4_2 f10_4_3 f10_4_4 f10_4_5 f10_4_6 f10_4_7 f10_4_8 f10_4_9 f10_5_0 f10_5_1 f10_5_2 hb11
        unfold HasPap at hB11_0
        obtain ⟨f11_0_0, f11_0_1, f11_0_2, f11_0_3, f11_0_4, f11_0_5, f11_0_6, f11_0_7, f11_0_8, f11_0_9⟩ := hB11_0
        have z11_0 : w.heap.size < w11.heap.size := World.block_lt_of_cell? _ _ f11_0_0
        unfold HasPt at hB11_1
        obtain ⟨f11_1_0, f11_1_1, f11_1_2⟩ := hB11_1
        have z11_1 : w.heap.size + 1 < w11.heap.size := World.block_lt_of_cell? _ _ f11_1_0
        unfold HasSp at hB11_2
        obtain ⟨f11_2_0, f11_2_1⟩ := hB11_2
        have z11_2 : w.heap.size + 1 + 1 < w11.heap.size := World.block_lt_of_cell? _ _ f11_2_0
        unfold HasSp at hB11_3
        obtain ⟨f11_3_0, f11_3_1⟩ := hB11_3
        have z11_3 : w.heap.size + 1 + 1 + 1 < w11.heap.size := World.block_lt_of_cell? _ _ f11_3_0
        unfold HasPap at hB11_4
        obtain ⟨f11_4_0, f11_4_1, f11_4_2, f11_4_3, f11_4_4, f11_4_5, f11_4_6, f11_4_7, f11_4_8, f11_4_9⟩ := hB11_4
        have z11_4 : w1.heap.size < w11.heap.size := World.block_lt_of_cell? _ _ f11_4_0
        unfold HasPt at hB11_5
        obtain ⟨f11_5_0, f11_5_1, f11_5_2⟩ := hB11_5
        have z11_5 : w1.heap.size + 1 < w11.heap.size := World.block_lt_of_cell? _ _ f11_5_0
        have zz11 := C11.size
        go_wp2_with fail
        refine (K4.out _).mono ?_
        rintro e w12 ⟨rfl, hb12⟩
        have hB12_0 : HasPap (p) (w.heap.size) w12 := HasPap.up (by unfold HasPap; go_simp) hb12 (by (try simp only [World.size_alloc]); omega)
        have hB12_1 : HasPt (t) (w.heap.size + 1) w12 := HasPt.up (by unfold HasPt; go_simp) hb12 (by (try simp only [World.size_alloc]); omega)
        have hB12_2 : HasSp (al) (ah) (w.heap.size + 1 + 1) w12 := HasSp.up (by unfold HasSp; go_simp) hb12 (by (try simp only [World.size_alloc]); omega)
        have hB12_3 : HasSp (cl) (ch) (w.heap.size + 1 + 1 + 1) w12 := HasSp.up (by unfold HasSp; go_simp) hb12 (by (try simp only [World.size_alloc]); omega)
        have hB12_4 : HasPap (⟨p.pitch, p.height, p.radius, p.low, p.high, p.cols, al, ah, cl, ch⟩) (w1.heap.size) w12 := HasPap.up (by unfold HasPap; go_simp) hb12 (by (try simp only [World.size_alloc]); omega)
        have hB12_5 : HasPt (⟨t.x, t.y, k⟩) (w1.heap.size + 1) w12 := HasPt.up (by unfold HasPt; go_simp) hb12 (by (try simp only [World.size_alloc]); omega)
        have hB12_6 : HasSp (c1) (c2) (w11.heap.size) w12 := HasSp.up (by unfold HasSp; go_simp) hb12 (by (try simp only [World.size_alloc]); omega)
        have C12 : Below w.heap.size w w12 := by
          refine Below.trans ?_ (hb12.mono ?_)
          · repeat' (first | with_reducible exact Below.refl _ _ | with_reducible exact C11 | with_reducible refine set1 ?_ (by omega) _ _ | with_reducible refine Below.alloc ?_ (by (try simp only [World.size_alloc, World.size_setCell]); omega) _ | with_reducible refine below_drewN ?_ _ | with_reducible refine Below.drew ?_)
          · (try simp only [World.size_alloc]); omega
        clear f11_0_0 f11_0_1 f11_0_2 f11_0_3 f11_0_4 f11_0_5 f11_0_6 f11_0_7 f11_0_8 f11_0_9 f11_1_0 f11_1_1 f11_1_2 f11_2_0 f11_2_1 f11_3_0 f11_3_1 f11_4_0 f11_4_1 f11_4_2 f11_4_3 f11_4_4 f11_4_5 f11_4_6 f11_4_7 f11_4_8 f11_4_9 f11_5_0 f11_5_1 f11_5_2 hb12
        unfold HasPap at hB12_0
        obtain ⟨f12_0_0, f12_0_1, f12_0_2, f12_0_3, f12_0_4, f12_0_5, f12_0_6, f12_0_7, f12_0_8, f12_0_9⟩ := hB12_0
        have z12_0 : w.heap.size < w12.heap.size := World.block_lt_of_cell? _ _ f12_0_0
        unfold HasPt at hB12_1
        obtain ⟨f12_1_0, f12_1_1, f12_1_2⟩ := hB12_1
        have z12_1 : w.heap.size + 1 < w12.heap.size := World.block_lt_of_cell? _ _ f12_1_0
        unfold HasSp at hB12_2
        obtain ⟨f12_2_0, f12_2_1⟩ := hB12_2
        have z12_2 : w.heap.size + 1 + 1 < w12.heap.size := World.block_lt_of_cell? _ _ f12_2_0
        unfold HasSp at hB12_3
        obtain ⟨f12_3_0, f12_3_1⟩ := hB12_3
        have z12_3 : w.heap.size + 1 + 1 + 1 < w12.heap.size := World.block_lt_of_cell? _ _ f12_3_0
        unfold HasPap at hB12_4
        obtain ⟨f12_4_0, f12_4_1, f12_4_2, f12_4_3, f12_4_4, f12_4_5, f12_4_6, f12_4_7, f12_4_8, f12_4_9⟩ := hB12_4
        have z12_4 : w1.heap.size < w12.heap.size := World.block_lt_of_cell? _ _ f12_4_0
        unfold HasPt at hB12_5
        obtain ⟨f12_5_0, f12_5_1, f12_5_2⟩ := hB12_5
        have z12_5 : w1.heap.size + 1 < w12.heap.size := World.block_lt_of_cell? _ _ f12_5_0
        unfold HasSp at hB12_6
        obtain ⟨f12_6_0, f12_6_1⟩ := hB12_6
        have z12_6 : w11.heap.size < w12.heap.size := World.block_lt_of_cell? _ _ f12_6_0
        have zz12 := C12.size
        go_wp2_with fail
        go_ret
        exact ⟨rfl, by
          repeat' (first | with_reducible exact Below.refl _ _ | with_reducible exact C12 | with_reducible refine set1 ?_ (by omega) _ _ | with_reducible refine Below.alloc ?_ (by (try simp only [World.size_alloc, World.size_setCell]); omega) _ | with_reducible refine below_drewN ?_ _ | with_reducible refine Below.drew ?_)⟩

end Go.Proofs.Ytmeljcbefnojfaa
