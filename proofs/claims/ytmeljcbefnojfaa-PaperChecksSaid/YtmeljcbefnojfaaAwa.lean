import Derived.Test.YtmeljcbefnojfaaAwk
namespace Go.Proofs.Ytmeljcbefnojfaa
open Go.RowKit
theorem Row1.up {w W W' : World} {v : Value} {l : List (Int × Int)} (h : Row1 w W v l) (hb : Below W.heap.size W W') : Row1 w W' v l := by
  obtain ⟨g, cap, h1, h2, h3, h4, h5, h6⟩ := h
  exact ⟨g, cap, h1, h2, Nat.lt_of_lt_of_le h3 hb.size, h4, h5, fun i s hs => ⟨cell_up hb h3 (h6 i s hs).1, cell_up hb h3 (h6 i s hs).2⟩⟩
theorem Row1.drewN {w W : World} {v : Value} {l : List (Int × Int)} (h : Row1 w W v l) (n : Nat) : Row1 w (W.drewN n) v l := h.up (below_drewN (Below.refl _ _) n)
/-- SameSpans of a row and one that has just been laid -/
theorem same_row (w W : World) (v : Value) (l : List (Int × Int)) (g2 : Nat) (hn : l.length ≤ 1000) (h : Row1 w W v l) (h2 : ∀ i s, l[i]? = some s → W.cell? ⟨g2, i * 2, none⟩ = some (.int .i64 s.1) ∧ W.cell? ⟨g2, i * 2 + 1, none⟩ = some (.int .i64 s.2)) :
    Calls Try.prog 52 #[v, .slice (some ⟨g2, 0, none⟩) l.length l.length] W fun e w' => e = .returned (.bool true) ∧ ∃ q, w' = W.drewN q := by
  obtain ⟨g, cap, rfl, _, h3, h4, h5, h6⟩ := h
  exact SameSpans_true l g g2 cap l.length W hn h4 (Nat.le_refl _) h6 h2
set_option maxRecDepth 100000 in
set_option maxHeartbeats 4000000 in
theorem awake_any (w : World) : Calls Try.prog 18 #[] w fun e w' => e = .returned (.bool true) ∧ Below w.heap.size w w' := by
  go_enter Try.func18, Try.ntmps18
  go_wp2_with fail
  refine (sample_any _).mono ?_
  rintro e w1 ⟨rfl, hb1⟩
  go_wp2_with fail
  refine (aw_arc _).mono ?_
  rintro e w2 ⟨rfl, hb2⟩
  have s2 := hb2.size
  simp only [World.size_alloc] at s2
  have hP2 : HasPap P0 w1.heap.size w2 := HasPap.up (by unfold HasPap; go_simp) hb2 (by simp only [World.size_alloc]; omega)
  have C2 : Below w.heap.size w w2 := hb1.trans (((box1 w1 _).trans (hb2.mono (by simp only [World.size_alloc]; omega))).mono hb1.size)
  obtain ⟨p0, p1, p2, p3, p4, p5, p6, p7, p8, p9⟩ := hP2
  clear hb1 hb2
  go_wp2_with fail
  refine (aw_hts _).mono ?_
  rintro e w3 ⟨rfl, hb3⟩
  have s3 := hb3.size
  have C3 : Below w.heap.size w w3 := C2.trans (hb3.mono C2.size)
  have hP3 : HasPap P0 w1.heap.size w3 := HasPap.up ⟨p0, p1, p2, p3, p4, p5, p6, p7, p8, p9⟩ hb3 (by omega)
  clear p0 p1 p2 p3 p4 p5 p6 p7 p8 p9 hb3
  obtain ⟨p0, p1, p2, p3, p4, p5, p6, p7, p8, p9⟩ := hP3
  have z3 : w1.heap.size < w3.heap.size := by omega
  go_wp2_with fail
  refine (aw_col _).mono ?_
  rintro e w4 ⟨rfl, hb4⟩
  have s4 := hb4.size
  simp only [World.size_alloc] at s4
  have C4 : Below w.heap.size w w4 := C3.trans (((box1 w3 _).trans (hb4.mono (by simp only [World.size_alloc]; omega))).mono C3.size)
  have hP4 : HasPap P0 w1.heap.size w4 := HasPap.up (by unfold HasPap; go_simp) hb4 (by simp only [World.size_alloc]; omega)
  have a40 : w4.cell? ⟨w3.heap.size, 0, none⟩ = some (.int .i64 250) := cell_up hb4 (by simp only [World.size_alloc]; omega) (by go_simp)
  have a41 : w4.cell? ⟨w3.heap.size, 1, none⟩ = some (.int .i64 250) := cell_up hb4 (by simp only [World.size_alloc]; omega) (by go_simp)
  clear p0 p1 p2 p3 p4 p5 p6 p7 p8 p9 hb4
  obtain ⟨p0, p1, p2, p3, p4, p5, p6, p7, p8, p9⟩ := hP4
  have z4 : w1.heap.size < w4.heap.size := by omega
  go_wp2_with fail
  refine (aw_m0 _).mono ?_
  rintro e w5 ⟨v, rfl, hb5, hr5⟩
  have s5 := hb5.size
  simp only [World.size_alloc] at s5
  have C5 : Below w.heap.size w w5 := C4.trans (((box1 w4 _).trans (hb5.mono (by simp only [World.size_alloc]; omega))).mono C4.size)
  have hP5 : HasPap P0 w1.heap.size w5 := HasPap.up (by unfold HasPap; go_simp) hb5 (by simp only [World.size_alloc]; omega)
  have b40 : w5.cell? ⟨w3.heap.size, 0, none⟩ = some (.int .i64 250) := cell_up hb5 (by simp only [World.size_alloc]; omega) (cell_up (box1 w4 _) (by omega) a40)
  have b41 : w5.cell? ⟨w3.heap.size, 1, none⟩ = some (.int .i64 250) := cell_up hb5 (by simp only [World.size_alloc]; omega) (cell_up (box1 w4 _) (by omega) a41)
  have b60 : w5.cell? ⟨w4.heap.size, 0, none⟩ = some (.int .i64 0) := cell_up hb5 (by simp only [World.size_alloc]; omega) (by go_simp)
  have b61 : w5.cell? ⟨w4.heap.size, 1, none⟩ = some (.int .i64 1) := cell_up hb5 (by simp only [World.size_alloc]; omega) (by go_simp)
  clear p0 p1 p2 p3 p4 p5 p6 p7 p8 p9 hb5 a40 a41
  obtain ⟨p0, p1, p2, p3, p4, p5, p6, p7, p8, p9⟩ := hP5
  have z5 : w1.heap.size < w5.heap.size := by omega
  have HR5 := Lib.hid hr5
  clear hr5
  go_wp2_with fail
  refine (aw_cal _).mono ?_
  rintro e w6 ⟨rfl, hb6⟩
  have s6 := hb6.size
  simp only [World.size_alloc] at s6
  have A56 : Below w5.heap.size w5 w6 := (box1 w5 _).trans (hb6.mono (by simp only [World.size_alloc]; omega))
  have C6 : Below w.heap.size w w6 := C5.trans (A56.mono C5.size)
  have hP6 : HasPap P0 w1.heap.size w6 := HasPap.up ⟨p0, p1, p2, p3, p4, p5, p6, p7, p8, p9⟩ A56 z5
  have c40 := cell_up A56 (by omega) b40
  have c41 := cell_up A56 (by omega) b41
  have c60 := cell_up A56 (by omega) b60
  have c61 := cell_up A56 (by omega) b61
  have HR6 := Lib.hid (HR5.out.up A56)
  clear p0 p1 p2 p3 p4 p5 p6 p7 p8 p9 hb6 A56 b40 b41 b60 b61
  obtain ⟨p0, p1, p2, p3, p4, p5, p6, p7, p8, p9⟩ := hP6
  have z6 : w1.heap.size < w6.heap.size := by omega
  go_wp2_with fail
  refine (aw_m2 _).mono ?_
  rintro e w7 ⟨v2, rfl, hb7, hr7⟩
  have s7 := hb7.size
  simp only [World.size_alloc] at s7
  have A67 : Below w6.heap.size w6 w7 := (box2 w6 _ _).trans (hb7.mono (by simp only [World.size_alloc]; omega))
  have C7 : Below w.heap.size w w7 := C6.trans (A67.mono C6.size)
  have d40 := cell_up A67 (by omega) c40
  have d41 := cell_up A67 (by omega) c41
  have d60 := cell_up A67 (by omega) c60
  have d61 := cell_up A67 (by omega) c61
  have e6 : w7.cell? ⟨w6.heap.size, 6, none⟩ = some (.int .i64 947) := cell_up hb7 (by simp only [World.size_alloc]; omega) (by go_simp)
  have e7 : w7.cell? ⟨w6.heap.size, 7, none⟩ = some (.int .i64 952) := cell_up hb7 (by simp only [World.size_alloc]; omega) (by go_simp)
  have HR7 := Lib.hid (HR6.out.up A67)
  have HS7 := Lib.hid hr7
  clear p0 p1 p2 p3 p4 p5 p6 p7 p8 p9 hb7 A67 c40 c41 c60 c61 hr7
  have y1 : w6.heap.size < w7.heap.size := by omega
  have y2 : w3.heap.size < w7.heap.size := by omega
  have y3 : w4.heap.size < w7.heap.size := by omega
  go_wp2_with fail
  refine (same_row _ _ v [(9895, 9905)] w7.heap.size (by decide) (HR7.out.up (box1 w7 _)) (fun i s hs => by
    match i, hs with
    | 0, hs => simp at hs; subst hs; exact ⟨by go_simp, by go_simp⟩
    | i + 1, hs => simp at hs)).mono ?_
  rintro e w8 ⟨rfl, q1, rfl⟩
  go_wp2_with fail
  refine (same_row _ _ v2 [(10054, 10055), (10145, 10155)] (w7.heap.size + 1) (by decide) ((HS7.out.up (box1 w7 (.cells #[.int .i64 9895, .int .i64 9905] 23))).drewN q1 |>.up (box1 _ _)) (fun i s hs => by
    match i, hs with
    | 0, hs => simp at hs; subst hs; exact ⟨by go_simp, by go_simp⟩
    | 1, hs => simp at hs; subst hs; exact ⟨by go_simp, by go_simp⟩
    | i + 2, hs => simp at hs)).mono ?_
  rintro e w9 ⟨rfl, q2, rfl⟩
  go_wp2_with fail
  go_ret
  refine ⟨rfl, below_drewN ?_ _⟩
  exact (below_drewN (C7.alloc C7.size _) _).alloc (by have := C7.size; simp only [World.heap_drewN, World.size_alloc]; omega) _
end Go.Proofs.Ytmeljcbefnojfaa
