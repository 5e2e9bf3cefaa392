import Derived.Test.YtmeljcbefnojfaaPle
namespace Go.Proofs.Ytmeljcbefnojfaa
open Go.RowKit
set_option maxHeartbeats 1000000 in
theorem RColumns_err (p : Pap) (t : Pt) (w : World) (h : ptE p t ≠ 0) :
    Calls Try.prog 37 #[p.v, t.v] w fun e w' => e = .returned (.tuple #[.agg #[.int .i64 (0), .int .i64 (0)], .int .i64 (ptE p t)]) ∧ Below w.heap.size w w' := by
  have d : (ptE p t == 0) = false := by simpa using h
  have d' : (ptE p t != 0) = true := by simpa using h
  clear h
  go_enter Try.func37, Try.ntmps37
  go_wp2_with fail
  refine (rcheck_any p t _).mono ?_
  rintro e w1 ⟨rfl, hb1⟩
  have hB1_0 : HasPap (p) (w.heap.size) w1 := HasPap.up (by unfold HasPap; go_simp) hb1 (by (try simp only [World.size_alloc]); omega)
  have hB1_1 : HasPt (t) (w.heap.size + 1) w1 := HasPt.up (by unfold HasPt; go_simp) hb1 (by (try simp only [World.size_alloc]); omega)
  have hB1_2 : HasSp (0) (0) (w.heap.size + 1 + 1) w1 := HasSp.up (by unfold HasSp; go_simp) hb1 (by (try simp only [World.size_alloc]); omega)
  have g1_2_0 : w1.frozen? ⟨w.heap.size + 1 + 1, 0, none⟩ = false := low_frozen hb1 (by (try simp only [World.size_alloc]); omega) (by go_simp)
  have g1_2_1 : w1.frozen? ⟨w.heap.size + 1 + 1, 1, none⟩ = false := low_frozen hb1 (by (try simp only [World.size_alloc]); omega) (by go_simp)
  have C1 : Below w.heap.size w w1 := by
    refine Below.trans ?_ (hb1.mono ?_)
    · repeat' (first | with_reducible exact Below.refl _ _ | with_reducible exact Below.refl _ _ | with_reducible refine set1 ?_ (by omega) _ _ | with_reducible refine Below.alloc ?_ (by (try simp only [World.size_alloc]); omega) _ | with_reducible refine below_drewN ?_ _ | with_reducible refine Below.drew ?_)
    · (try simp only [World.size_alloc]); omega
  clear hb1
  unfold HasPap at hB1_0
  obtain ⟨f1_0_0, f1_0_1, f1_0_2, f1_0_3, f1_0_4, f1_0_5, f1_0_6, f1_0_7, f1_0_8, f1_0_9⟩ := hB1_0
  have z1_0 : w.heap.size < w1.heap.size := World.block_lt_of_cell? _ _ f1_0_0
  unfold HasPt at hB1_1
  obtain ⟨f1_1_0, f1_1_1, f1_1_2⟩ := hB1_1
  have z1_1 : w.heap.size + 1 < w1.heap.size := World.block_lt_of_cell? _ _ f1_1_0
  unfold HasSp at hB1_2
  obtain ⟨f1_2_0, f1_2_1⟩ := hB1_2
  have z1_2 : w.heap.size + 1 + 1 < w1.heap.size := World.block_lt_of_cell? _ _ f1_2_0
  have zz1 := C1.size
  go_wp2_with fail
  refine bodyPost_ret (v := .tuple #[.agg #[.int .i64 (0), .int .i64 (0)], .int .i64 (ptE p t)]) ?_ rfl ⟨rfl, ?_⟩
  · simp [results, Try.results37, go_sem, f1_2_0, f1_2_1]
  · repeat' (first | with_reducible exact Below.refl _ _ | with_reducible exact C1 | with_reducible refine set1 ?_ (by omega) _ _ | with_reducible refine Below.alloc ?_ (by (try simp only [World.size_alloc, World.size_setCell]); omega) _ | with_reducible refine below_drewN ?_ _ | with_reducible refine Below.drew ?_)
set_option maxHeartbeats 1000000 in
theorem RColumns_none1 (p : Pap) (t : Pt) (w : World) (h : p.Ok) (ht : t.Ok) (hn : hLo p t > p.height) :
    Calls Try.prog 37 #[p.v, t.v] w fun e w' => e = .returned (.tuple #[.agg #[.int .i64 (0), .int .i64 (0)], .int .i64 (3)]) ∧ Below w.heap.size w w' := by
  go_enter Try.func37, Try.ntmps37
  go_wp2_with fail
  refine (rcheck_ok p t _ h ht).mono ?_
  rintro e w1 ⟨rfl, hb1⟩
  have hB1_0 : HasPap (p) (w.heap.size) w1 := HasPap.up (by unfold HasPap; go_simp) hb1 (by (try simp only [World.size_alloc]); omega)
  have hB1_1 : HasPt (t) (w.heap.size + 1) w1 := HasPt.up (by unfold HasPt; go_simp) hb1 (by (try simp only [World.size_alloc]); omega)
  have hB1_2 : HasSp (0) (0) (w.heap.size + 1 + 1) w1 := HasSp.up (by unfold HasSp; go_simp) hb1 (by (try simp only [World.size_alloc]); omega)
  have g1_2_0 : w1.frozen? ⟨w.heap.size + 1 + 1, 0, none⟩ = false := low_frozen hb1 (by (try simp only [World.size_alloc]); omega) (by go_simp)
  have g1_2_1 : w1.frozen? ⟨w.heap.size + 1 + 1, 1, none⟩ = false := low_frozen hb1 (by (try simp only [World.size_alloc]); omega) (by go_simp)
  have C1 : Below w.heap.size w w1 := by
    refine Below.trans ?_ (hb1.mono ?_)
    · repeat' (first | with_reducible exact Below.refl _ _ | with_reducible exact Below.refl _ _ | with_reducible refine set1 ?_ (by omega) _ _ | with_reducible refine Below.alloc ?_ (by (try simp only [World.size_alloc]); omega) _ | with_reducible refine below_drewN ?_ _ | with_reducible refine Below.drew ?_)
    · (try simp only [World.size_alloc]); omega
  clear hb1
  unfold HasPap at hB1_0
  obtain ⟨f1_0_0, f1_0_1, f1_0_2, f1_0_3, f1_0_4, f1_0_5, f1_0_6, f1_0_7, f1_0_8, f1_0_9⟩ := hB1_0
  have z1_0 : w.heap.size < w1.heap.size := World.block_lt_of_cell? _ _ f1_0_0
  unfold HasPt at hB1_1
  obtain ⟨f1_1_0, f1_1_1, f1_1_2⟩ := hB1_1
  have z1_1 : w.heap.size + 1 < w1.heap.size := World.block_lt_of_cell? _ _ f1_1_0
  unfold HasSp at hB1_2
  obtain ⟨f1_2_0, f1_2_1⟩ := hB1_2
  have z1_2 : w.heap.size + 1 + 1 < w1.heap.size := World.block_lt_of_cell? _ _ f1_2_0
  have zz1 := C1.size
  go_wp2_with fail
  refine (rcolumns_none p t _ h ht hn).mono ?_
  rintro e w2 ⟨rfl, hb2⟩
  have hB2_0 : HasPap (p) (w.heap.size) w2 := HasPap.up (by unfold HasPap; go_simp) hb2 (by (try simp only [World.size_alloc, World.size_setCell]); omega)
  have hB2_1 : HasPt (t) (w.heap.size + 1) w2 := HasPt.up (by unfold HasPt; go_simp) hb2 (by (try simp only [World.size_alloc, World.size_setCell]); omega)
  have hB2_2 : HasSp (0) (0) (w.heap.size + 1 + 1) w2 := HasSp.up (by unfold HasSp; go_simp) hb2 (by (try simp only [World.size_alloc, World.size_setCell]); omega)
  have g2_2_0 : w2.frozen? ⟨w.heap.size + 1 + 1, 0, none⟩ = false := low_frozen hb2 (by (try simp only [World.size_alloc, World.size_setCell]); omega) (by go_simp)
  have g2_2_1 : w2.frozen? ⟨w.heap.size + 1 + 1, 1, none⟩ = false := low_frozen hb2 (by (try simp only [World.size_alloc, World.size_setCell]); omega) (by go_simp)
  have C2 : Below w.heap.size w w2 := by
    refine Below.trans ?_ (hb2.mono ?_)
    · repeat' (first | with_reducible exact Below.refl _ _ | with_reducible exact C1 | with_reducible refine set1 ?_ (by omega) _ _ | with_reducible refine Below.alloc ?_ (by (try simp only [World.size_alloc, World.size_setCell]); omega) _ | with_reducible refine below_drewN ?_ _ | with_reducible refine Below.drew ?_)
    · (try simp only [World.size_alloc, World.size_setCell]); omega
  clear g1_2_0 g1_2_1 f1_0_0 f1_0_1 f1_0_2 f1_0_3 f1_0_4 f1_0_5 f1_0_6 f1_0_7 f1_0_8 f1_0_9 f1_1_0 f1_1_1 f1_1_2 f1_2_0 f1_2_1 hb2
  unfold HasPap at hB2_0
  obtain ⟨f2_0_0, f2_0_1, f2_0_2, f2_0_3, f2_0_4, f2_0_5, f2_0_6, f2_0_7, f2_0_8, f2_0_9⟩ := hB2_0
  have z2_0 : w.heap.size < w2.heap.size := World.block_lt_of_cell? _ _ f2_0_0
  unfold HasPt at hB2_1
  obtain ⟨f2_1_0, f2_1_1, f2_1_2⟩ := hB2_1
  have z2_1 : w.heap.size + 1 < w2.heap.size := World.block_lt_of_cell? _ _ f2_1_0
  unfold HasSp at hB2_2
  obtain ⟨f2_2_0, f2_2_1⟩ := hB2_2
  have z2_2 : w.heap.size + 1 + 1 < w2.heap.size := World.block_lt_of_cell? _ _ f2_2_0
  have zz2 := C2.size
  go_wp2_with fail
  refine bodyPost_ret (v := .tuple #[.agg #[.int .i64 (0), .int .i64 (0)], .int .i64 (3)]) ?_ rfl ⟨rfl, ?_⟩
  · simp [results, Try.results37, go_sem, f2_2_0, f2_2_1, z2_2]
  · repeat' (first | with_reducible exact Below.refl _ _ | with_reducible exact C2 | with_reducible refine set1 ?_ (by omega) _ _ | with_reducible refine Below.alloc ?_ (by (try simp only [World.size_setCell]); omega) _ | with_reducible refine below_drewN ?_ _ | with_reducible refine Below.drew ?_)
set_option maxHeartbeats 1000000 in
theorem RColumns_none2 (p : Pap) (t : Pt) (w : World) (h : p.Ok) (ht : t.Ok) (hn : hLo p t ≤ p.height) (hc : cLo p t > cHi p t) :
    Calls Try.prog 37 #[p.v, t.v] w fun e w' => e = .returned (.tuple #[.agg #[.int .i64 (0), .int .i64 (0)], .int .i64 (3)]) ∧ Below w.heap.size w w' := by
  have d : decide (cLo p t > cHi p t) = true := by simp; omega
  go_enter Try.func37, Try.ntmps37
  go_wp2_with fail
  refine (rcheck_ok p t _ h ht).mono ?_
  rintro e w1 ⟨rfl, hb1⟩
  have hB1_0 : HasPap (p) (w.heap.size) w1 := HasPap.up (by unfold HasPap; go_simp) hb1 (by (try simp only [World.size_alloc]); omega)
  have hB1_1 : HasPt (t) (w.heap.size + 1) w1 := HasPt.up (by unfold HasPt; go_simp) hb1 (by (try simp only [World.size_alloc]); omega)
  have hB1_2 : HasSp (0) (0) (w.heap.size + 1 + 1) w1 := HasSp.up (by unfold HasSp; go_simp) hb1 (by (try simp only [World.size_alloc]); omega)
  have g1_2_0 : w1.frozen? ⟨w.heap.size + 1 + 1, 0, none⟩ = false := low_frozen hb1 (by (try simp only [World.size_alloc]); omega) (by go_simp)
  have g1_2_1 : w1.frozen? ⟨w.heap.size + 1 + 1, 1, none⟩ = false := low_frozen hb1 (by (try simp only [World.size_alloc]); omega) (by go_simp)
  have C1 : Below w.heap.size w w1 := by
    refine Below.trans ?_ (hb1.mono ?_)
    · repeat' (first | with_reducible exact Below.refl _ _ | with_reducible exact Below.refl _ _ | with_reducible refine set1 ?_ (by omega) _ _ | with_reducible refine Below.alloc ?_ (by (try simp only [World.size_alloc]); omega) _ | with_reducible refine below_drewN ?_ _ | with_reducible refine Below.drew ?_)
    · (try simp only [World.size_alloc]); omega
  clear hb1
  unfold HasPap at hB1_0
  obtain ⟨f1_0_0, f1_0_1, f1_0_2, f1_0_3, f1_0_4, f1_0_5, f1_0_6, f1_0_7, f1_0_8, f1_0_9⟩ := hB1_0
  have z1_0 : w.heap.size < w1.heap.size := World.block_lt_of_cell? _ _ f1_0_0
  unfold HasPt at hB1_1
  obtain ⟨f1_1_0, f1_1_1, f1_1_2⟩ := hB1_1
  have z1_1 : w.heap.size + 1 < w1.heap.size := World.block_lt_of_cell? _ _ f1_1_0
  unfold HasSp at hB1_2
  obtain ⟨f1_2_0, f1_2_1⟩ := hB1_2
  have z1_2 : w.heap.size + 1 + 1 < w1.heap.size := World.block_lt_of_cell? _ _ f1_2_0
  have zz1 := C1.size
  go_wp2_with fail
  refine (rcolumns_some p t _ h ht hn).mono ?_
  rintro e w2 ⟨rfl, hb2⟩
  have hB2_0 : HasPap (p) (w.heap.size) w2 := HasPap.up (by unfold HasPap; go_simp) hb2 (by (try simp only [World.size_alloc, World.size_setCell]); omega)
  have hB2_1 : HasPt (t) (w.heap.size + 1) w2 := HasPt.up (by unfold HasPt; go_simp) hb2 (by (try simp only [World.size_alloc, World.size_setCell]); omega)
  have hB2_2 : HasSp (0) (0) (w.heap.size + 1 + 1) w2 := HasSp.up (by unfold HasSp; go_simp) hb2 (by (try simp only [World.size_alloc, World.size_setCell]); omega)
  have g2_2_0 : w2.frozen? ⟨w.heap.size + 1 + 1, 0, none⟩ = false := low_frozen hb2 (by (try simp only [World.size_alloc, World.size_setCell]); omega) (by go_simp)
  have g2_2_1 : w2.frozen? ⟨w.heap.size + 1 + 1, 1, none⟩ = false := low_frozen hb2 (by (try simp only [World.size_alloc, World.size_setCell]); omega) (by go_simp)
  have C2 : Below w.heap.size w w2 := by
    refine Below.trans ?_ (hb2.mono ?_)
    · repeat' (first | with_reducible exact Below.refl _ _ | with_reducible exact C1 | with_reducible refine set1 ?_ (by omega) _ _ | with_reducible refine Below.alloc ?_ (by (try simp only [World.size_alloc, World.size_setCell]); omega) _ | with_reducible refine below_drewN ?_ _ | with_reducible refine Below.drew ?_)
    · (try simp only [World.size_alloc, World.size_setCell]); omega
  clear g1_2_0 g1_2_1 f1_0_0 f1_0_1 f1_0_2 f1_0_3 f1_0_4 f1_0_5 f1_0_6 f1_0_7 f1_0_8 f1_0_9 f1_1_0 f1_1_1 f1_1_2 f1_2_0 f1_2_1 hb2
  unfold HasPap at hB2_0
  obtain ⟨f2_0_0, f2_0_1, f2_0_2, f2_0_3, f2_0_4, f2_0_5, f2_0_6, f2_0_7, f2_0_8, f2_0_9⟩ := hB2_0
  have z2_0 : w.heap.size < w2.heap.size := World.block_lt_of_cell? _ _ f2_0_0
  unfold HasPt at hB2_1
  obtain ⟨f2_1_0, f2_1_1, f2_1_2⟩ := hB2_1
  have z2_1 : w.heap.size + 1 < w2.heap.size := World.block_lt_of_cell? _ _ f2_1_0
  unfold HasSp at hB2_2
  obtain ⟨f2_2_0, f2_2_1⟩ := hB2_2
  have z2_2 : w.heap.size + 1 + 1 < w2.heap.size := World.block_lt_of_cell? _ _ f2_2_0
  have zz2 := C2.size
  go_wp2_with fail
  refine bodyPost_ret (v := .tuple #[.agg #[.int .i64 (0), .int .i64 (0)], .int .i64 (3)]) ?_ rfl ⟨rfl, ?_⟩
  · simp [results, Try.results37, go_sem, f2_2_0, f2_2_1, z2_2]
  · repeat' (first | with_reducible exact Below.refl _ _ | with_reducible exact C2 | with_reducible refine set1 ?_ (by omega) _ _ | with_reducible refine Below.alloc ?_ (by (try simp only [World.size_setCell]); omega) _ | with_reducible refine below_drewN ?_ _ | with_reducible refine Below.drew ?_)
set_option maxHeartbeats 1000000 in
theorem RColumns_some (p : Pap) (t : Pt) (w : World) (h : p.Ok) (ht : t.Ok) (hn : hLo p t ≤ p.height) (hc : cLo p t ≤ cHi p t) :
    Calls Try.prog 37 #[p.v, t.v] w fun e w' => e = .returned (.tuple #[.agg #[.int .i64 (cLo p t), .int .i64 (cHi p t)], .int .i64 (0)]) ∧ Below w.heap.size w w' := by
  have d : decide (cLo p t > cHi p t) = false := by simp; omega
  go_enter Try.func37, Try.ntmps37
  go_wp2_with fail
  refine (rcheck_ok p t _ h ht).mono ?_
  rintro e w1 ⟨rfl, hb1⟩
  have hB1_0 : HasPap (p) (w.heap.size) w1 := HasPap.up (by unfold HasPap; go_simp) hb1 (by (try simp only [World.size_alloc]); omega)
  have hB1_1 : HasPt (t) (w.heap.size + 1) w1 := HasPt.up (by unfold HasPt; go_simp) hb1 (by (try simp only [World.size_alloc]); omega)
  have hB1_2 : HasSp (0) (0) (w.heap.size + 1 + 1) w1 := HasSp.up (by unfold HasSp; go_simp) hb1 (by (try simp only [World.size_alloc]); omega)
  have g1_2_0 : w1.frozen? ⟨w.heap.size + 1 + 1, 0, none⟩ = false := low_frozen hb1 (by (try simp only [World.size_alloc]); omega) (by go_simp)
  have g1_2_1 : w1.frozen? ⟨w.heap.size + 1 + 1, 1, none⟩ = false := low_frozen hb1 (by (try simp only [World.size_alloc]); omega) (by go_simp)
  have C1 : Below w.heap.size w w1 := by
    refine Below.trans ?_ (hb1.mono ?_)
    · repeat' (first | with_reducible exact Below.refl _ _ | with_reducible exact Below.refl _ _ | with_reducible refine set1 ?_ (by omega) _ _ | with_reducible refine Below.alloc ?_ (by (try simp only [World.size_alloc]); omega) _ | with_reducible refine below_drewN ?_ _ | with_reducible refine Below.drew ?_)
    · (try simp only [World.size_alloc]); omega
  clear hb1
  unfold HasPap at hB1_0
  obtain ⟨f1_0_0, f1_0_1, f1_0_2, f1_0_3, f1_0_4, f1_0_5, f1_0_6, f1_0_7, f1_0_8, f1_0_9⟩ := hB1_0
  have z1_0 : w.heap.size < w1.heap.size := World.block_lt_of_cell? _ _ f1_0_0
  unfold HasPt at hB1_1
  obtain ⟨f1_1_0, f1_1_1, f1_1_2⟩ := hB1_1
  have z1_1 : w.heap.size + 1 < w1.heap.size := World.block_lt_of_cell? _ _ f1_1_0
  unfold HasSp at hB1_2
  obtain ⟨f1_2_0, f1_2_1⟩ := hB1_2
  have z1_2 : w.heap.size + 1 + 1 < w1.heap.size := World.block_lt_of_cell? _ _ f1_2_0
  have zz1 := C1.size
  go_wp2_with fail
  refine (rcolumns_some p t _ h ht hn).mono ?_
  rintro e w2 ⟨rfl, hb2⟩
  have hB2_0 : HasPap (p) (w.heap.size) w2 := HasPap.up (by unfold HasPap; go_simp) hb2 (by (try simp only [World.size_alloc, World.size_setCell]); omega)
  have hB2_1 : HasPt (t) (w.heap.size + 1) w2 := HasPt.up (by unfold HasPt; go_simp) hb2 (by (try simp only [World.size_alloc, World.size_setCell]); omega)
  have hB2_2 : HasSp (0) (0) (w.heap.size + 1 + 1) w2 := HasSp.up (by unfold HasSp; go_simp) hb2 (by (try simp only [World.size_alloc, World.size_setCell]); omega)
  have g2_2_0 : w2.frozen? ⟨w.heap.size + 1 + 1, 0, none⟩ = false := low_frozen hb2 (by (try simp only [World.size_alloc, World.size_setCell]); omega) (by go_simp)
  have g2_2_1 : w2.frozen? ⟨w.heap.size + 1 + 1, 1, none⟩ = false := low_frozen hb2 (by (try simp only [World.size_alloc, World.size_setCell]); omega) (by go_simp)
  have C2 : Below w.heap.size w w2 := by
    refine Below.trans ?_ (hb2.mono ?_)
    · repeat' (first | with_reducible exact Below.refl _ _ | with_reducible exact C1 | with_reducible refine set1 ?_ (by omega) _ _ | with_reducible refine Below.alloc ?_ (by (try simp only [World.size_alloc, World.size_setCell]); omega) _ | with_reducible refine below_drewN ?_ _ | with_reducible refine Below.drew ?_)
    · (try simp only [World.size_alloc, World.size_setCell]); omega
  clear g1_2_0 g1_2_1 f1_0_0 f1_0_1 f1_0_2 f1_0_3 f1_0_4 f1_0_5 f1_0_6 f1_0_7 f1_0_8 f1_0_9 f1_1_0 f1_1_1 f1_1_2 f1_2_0 f1_2_1 hb2
  unfold HasPap at hB2_0
  obtain ⟨f2_0_0, f2_0_1, f2_0_2, f2_0_3, f2_0_4, f2_0_5, f2_0_6, f2_0_7, f2_0_8, f2_0_9⟩ := hB2_0
  have z2_0 : w.heap.size < w2.heap.size := World.block_lt_of_cell? _ _ f2_0_0
  unfold HasPt at hB2_1
  obtain ⟨f2_1_0, f2_1_1, f2_1_2⟩ := hB2_1
  have z2_1 : w.heap.size + 1 < w2.heap.size := World.block_lt_of_cell? _ _ f2_1_0
  unfold HasSp at hB2_2
  obtain ⟨f2_2_0, f2_2_1⟩ := hB2_2
  have z2_2 : w.heap.size + 1 + 1 < w2.heap.size := World.block_lt_of_cell? _ _ f2_2_0
  have zz2 := C2.size
  go_wp2_with fail
  refine bodyPost_ret (v := .tuple #[.agg #[.int .i64 (cLo p t), .int .i64 (cHi p t)], .int .i64 (0)]) ?_ rfl ⟨rfl, ?_⟩
  · simp [results, Try.results37, go_sem, f2_2_0, f2_2_1, z2_2]
  · repeat' (first | with_reducible exact Below.refl _ _ | with_reducible exact C2 | with_reducible refine set1 ?_ (by omega) _ _ | with_reducible refine Below.alloc ?_ (by (try simp only [World.size_setCell]); omega) _ | with_reducible refine below_drewN ?_ _ | with_reducible refine Below.drew ?_)
theorem RColumns_any (p : Pap) (t : Pt) (w : World) :
    Calls Try.prog 37 #[p.v, t.v] w fun e w' => e = .returned (.tuple #[.agg #[.int .i64 (clLo p t), .int .i64 (clHi p t)], .int .i64 (clE p t)]) ∧ Below w.heap.size w w' := by
  by_cases h : ptE p t = 0
  · obtain ⟨hp, ht⟩ := ptE_iff.1 h
    by_cases hc : ColSome p t
    · have e0 : clE p t = 0 := by unfold clE; rw [if_pos h, if_pos hc]
      have e1 : clLo p t = cLo p t := by unfold clLo; rw [if_pos e0]
      have e2 : clHi p t = cHi p t := by unfold clHi; rw [if_pos e0]
      rw [e0, e1, e2]; exact RColumns_some p t w hp ht hc.1 hc.2
    · have e0 : clE p t = 3 := by unfold clE; rw [if_pos h, if_neg hc]
      have e1 : clLo p t = 0 := by unfold clLo; rw [if_neg (by rw [e0]; decide)]
      have e2 : clHi p t = 0 := by unfold clHi; rw [if_neg (by rw [e0]; decide)]
      rw [e0, e1, e2]
      by_cases h1 : hLo p t ≤ p.height
      · exact RColumns_none2 p t w hp ht h1 (Int.not_le.1 fun h2 => hc ⟨h1, h2⟩)
      · exact RColumns_none1 p t w hp ht (Int.not_le.1 h1)
  · have e0 : clE p t = ptE p t := by unfold clE; rw [if_neg h]
    have e1 : clLo p t = 0 := by unfold clLo; rw [if_neg (by rw [e0]; exact h)]
    have e2 : clHi p t = 0 := by unfold clHi; rw [if_neg (by rw [e0]; exact h)]
    rw [e0, e1, e2]; exact RColumns_err p t w h
open Classical in
noncomputable def lsE (p : Pap) (t : Pt) : Int := if ptE p t = 0 then (if hLo p t ≤ p.height then 0 else 3) else ptE p t
open Classical in
noncomputable def lsLo (p : Pap) (t : Pt) : Int := if lsE p t = 0 then lev p (hLo p t) else 0
open Classical in
noncomputable def lsHi (p : Pap) (t : Pt) : Int := if lsE p t = 0 then lev p (hHi p t) else 0
set_option maxHeartbeats 1000000 in
theorem PLevels_err (p : Pap) (t : Pt) (w : World) (h : ptE p t ≠ 0) :
    Calls Try.prog 38 #[p.v, t.v] w fun e w' => e = .returned (.tuple #[.agg #[.int .i64 (0), .int .i64 (0)], .int .i64 (ptE p t)]) ∧ Below w.heap.size w w' := by
  have d : (ptE p t == 0) = false := by simpa using h
  have d' : (ptE p t != 0) = true := by simpa using h
  clear h
  go_enter Try.func38, Try.ntmps38
  go_wp2_with fail
  refine (check_any p t _).mono ?_
  rintro e w1 ⟨rfl, hb1⟩
  have hB1_0 : HasPap (p) (w.heap.size) w1 := HasPap.up (by unfold HasPap; go_simp) hb1 (by (try simp only [World.size_alloc]); omega)
  have hB1_1 : HasPt (t) (w.heap.size + 1) w1 := HasPt.up (by unfold HasPt; go_simp) hb1 (by (try simp only [World.size_alloc]); omega)
  have hB1_2 : HasSp (0) (0) (w.heap.size + 1 + 1) w1 := HasSp.up (by unfold HasSp; go_simp) hb1 (by (try simp only [World.size_alloc]); omega)
  have g1_2_0 : w1.frozen? ⟨w.heap.size + 1 + 1, 0, none⟩ = false := low_frozen hb1 (by (try simp only [World.size_alloc]); omega) (by go_simp)
  have g1_2_1 : w1.frozen? ⟨w.heap.size + 1 + 1, 1, none⟩ = false := low_frozen hb1 (by (try simp only [World.size_alloc]); omega) (by go_simp)
  have C1 : Below w.heap.size w w1 := by
    refine Below.trans ?_ (hb1.mono ?_)
    · repeat' (first | with_reducible exact Below.refl _ _ | with_reducible exact Below.refl _ _ | with_reducible refine set1 ?_ (by omega) _ _ | with_reducible refine Below.alloc ?_ (by (try simp only [World.size_alloc]); omega) _ | with_reducible refine below_drewN ?_ _ | with_reducible refine Below.drew ?_)
    · (try simp only [World.size_alloc]); omega
  clear hb1
  unfold HasPap at hB1_0
  obtain ⟨f1_0_0, f1_0_1, f1_0_2, f1_0_3, f1_0_4, f1_0_5, f1_0_6, f1_0_7, f1_0_8, f1_0_9⟩ := hB1_0
  have z1_0 : w.heap.size < w1.heap.size := World.block_lt_of_cell? _ _ f1_0_0
  unfold HasPt at hB1_1
  obtain ⟨f1_1_0, f1_1_1, f1_1_2⟩ := hB1_1
  have z1_1 : w.heap.size + 1 < w1.heap.size := World.block_lt_of_cell? _ _ f1_1_0
  unfold HasSp at hB1_2
  obtain ⟨f1_2_0, f1_2_1⟩ := hB1_2
  have z1_2 : w.heap.size + 1 + 1 < w1.heap.size := World.block_lt_of_cell? _ _ f1_2_0
  have zz1 := C1.size
  go_wp2_with fail
  refine bodyPost_ret (v := .tuple #[.agg #[.int .i64 (0), .int .i64 (0)], .int .i64 (ptE p t)]) ?_ rfl ⟨rfl, ?_⟩
  · simp [results, Try.results38, go_sem, f1_2_0, f1_2_1]
  · repeat' (first | with_reducible exact Below.refl _ _ | with_reducible exact C1 | with_reducible refine set1 ?_ (by omega) _ _ | with_reducible refine Below.alloc ?_ (by (try simp only [World.size_alloc, World.size_setCell]); omega) _ | with_reducible refine below_drewN ?_ _ | with_reducible refine Below.drew ?_)
set_option maxHeartbeats 1000000 in
theorem PLevels_none (p : Pap) (t : Pt) (w : World) (h : p.Ok) (ht : t.Ok) (hn : hLo p t > p.height) :
    Calls Try.prog 38 #[p.v, t.v] w fun e w' => e = .returned (.tuple #[.agg #[.int .i64 (0), .int .i64 (0)], .int .i64 (3)]) ∧ Below w.heap.size w w' := by
  go_enter Try.func38, Try.ntmps38
  go_wp2_with fail
  refine (check_ok p t _ h ht).mono ?_
  rintro e w1 ⟨rfl, hb1⟩
  have hB1_0 : HasPap (p) (w.heap.size) w1 := HasPap.up (by unfold HasPap; go_simp) hb1 (by (try simp only [World.size_alloc]); omega)
  have hB1_1 : HasPt (t) (w.heap.size + 1) w1 := HasPt.up (by unfold HasPt; go_simp) hb1 (by (try simp only [World.size_alloc]); omega)
  have hB1_2 : HasSp (0) (0) (w.heap.size + 1 + 1) w1 := HasSp.up (by unfold HasSp; go_simp) hb1 (by (try simp only [World.size_alloc]); omega)
  have g1_2_0 : w1.frozen? ⟨w.heap.size + 1 + 1, 0, none⟩ = false := low_frozen hb1 (by (try simp only [World.size_alloc]); omega) (by go_simp)
  have g1_2_1 : w1.frozen? ⟨w.heap.size + 1 + 1, 1, none⟩ = false := low_frozen hb1 (by (try simp only [World.size_alloc]); omega) (by go_simp)
  have C1 : Below w.heap.size w w1 := by
    refine Below.trans ?_ (hb1.mono ?_)
    · repeat' (first | with_reducible exact Below.refl _ _ | with_reducible exact Below.refl _ _ | with_reducible refine set1 ?_ (by omega) _ _ | with_reducible refine Below.alloc ?_ (by (try simp only [World.size_alloc]); omega) _ | with_reducible refine below_drewN ?_ _ | with_reducible refine Below.drew ?_)
    · (try simp only [World.size_alloc]); omega
  clear hb1
  unfold HasPap at hB1_0
  obtain ⟨f1_0_0, f1_0_1, f1_0_2, f1_0_3, f1_0_4, f1_0_5, f1_0_6, f1_0_7, f1_0_8, f1_0_9⟩ := hB1_0
  have z1_0 : w.heap.size < w1.heap.size := World.block_lt_of_cell? _ _ f1_0_0
  unfold HasPt at hB1_1
  obtain ⟨f1_1_0, f1_1_1, f1_1_2⟩ := hB1_1
  have z1_1 : w.heap.size + 1 < w1.heap.size := World.block_lt_of_cell? _ _ f1_1_0
  unfold HasSp at hB1_2
  obtain ⟨f1_2_0, f1_2_1⟩ := hB1_2
  have z1_2 : w.heap.size + 1 + 1 < w1.heap.size := World.block_lt_of_cell? _ _ f1_2_0
  have zz1 := C1.size
  go_wp2_with fail
  refine (heightsOf_none p t _ h ht hn).mono ?_
  rintro e w2 ⟨rfl, hb2⟩
  have hB2_0 : HasPap (p) (w.heap.size) w2 := HasPap.up (by unfold HasPap; go_simp) hb2 (by (try simp only [World.size_alloc, World.size_setCell]); omega)
  have hB2_1 : HasPt (t) (w.heap.size + 1) w2 := HasPt.up (by unfold HasPt; go_simp) hb2 (by (try simp only [World.size_alloc, World.size_setCell]); omega)
  have hB2_2 : HasSp (0) (0) (w.heap.size + 1 + 1) w2 := HasSp.up (by unfold HasSp; go_simp) hb2 (by (try simp only [World.size_alloc, World.size_setCell]); omega)
  have g2_2_0 : w2.frozen? ⟨w.heap.size + 1 + 1, 0, none⟩ = false := low_frozen hb2 (by (try simp only [World.size_alloc, World.size_setCell]); omega) (by go_simp)
  have g2_2_1 : w2.frozen? ⟨w.heap.size + 1 + 1, 1, none⟩ = false := low_frozen hb2 (by (try simp only [World.size_alloc, World.size_setCell]); omega) (by go_simp)
  have C2 : Below w.heap.size w w2 := by
    refine Below.trans ?_ (hb2.mono ?_)
    · repeat' (first | with_reducible exact Below.refl _ _ | with_reducible exact C1 | with_reducible refine set1 ?_ (by omega) _ _ | with_reducible refine Below.alloc ?_ (by (try simp only [World.size_alloc, World.size_setCell]); omega) _ | with_reducible refine below_drewN ?_ _ | with_reducible refine Below.drew ?_)
    · (try simp only [World.size_alloc, World.size_setCell]); omega
  clear g1_2_0 g1_2_1 f1_0_0 f1_0_1 f1_0_2 f1_0_3 f1_0_4 f1_0_5 f1_0_6 f1_0_7 f1_0_8 f1_0_9 f1_1_0 f1_1_1 f1_1_2 f1_2_0 f1_2_1 hb2
  unfold HasPap at hB2_0
  obtain ⟨f2_0_0, f2_0_1, f2_0_2, f2_0_3, f2_0_4, f2_0_5, f2_0_6, f2_0_7, f2_0_8, f2_0_9⟩ := hB2_0
  have z2_0 : w.heap.size < w2.heap.size := World.block_lt_of_cell? _ _ f2_0_0
  unfold HasPt at hB2_1
  obtain ⟨f2_1_0, f2_1_1, f2_1_2⟩ := hB2_1
  have z2_1 : w.heap.size + 1 < w2.heap.size := World.block_lt_of_cell? _ _ f2_1_0
  unfold HasSp at hB2_2
  obtain ⟨f2_2_0, f2_2_1⟩ := hB2_2
  have z2_2 : w.heap.size + 1 + 1 < w2.heap.size := World.block_lt_of_cell? _ _ f2_2_0
  have zz2 := C2.size
  go_wp2_with fail
  refine bodyPost_ret (v := .tuple #[.agg #[.int .i64 (0), .int .i64 (0)], .int .i64 (3)]) ?_ rfl ⟨rfl, ?_⟩
  · simp [results, Try.results38, go_sem, f2_2_0, f2_2_1, z2_2]
  · repeat' (first | with_reducible exact Below.refl _ _ | with_reducible exact C2 | with_reducible refine set1 ?_ (by omega) _ _ | with_reducible refine Below.alloc ?_ (by (try simp only [World.size_setCell]); omega) _ | with_reducible refine below_drewN ?_ _ | with_reducible refine Below.drew ?_)
set_option maxHeartbeats 1000000 in
theorem PLevels_some (p : Pap) (t : Pt) (w : World) (h : p.Ok) (ht : t.Ok) (hn : hLo p t ≤ p.height) :
    Calls Try.prog 38 #[p.v, t.v] w fun e w' => e = .returned (.tuple #[.agg #[.int .i64 (lev p (hLo p t)), .int .i64 (lev p (hHi p t))], .int .i64 (0)]) ∧ Below w.heap.size w w' := by
  have hh : 0 ≤ acrossLo p t ∧ acrossLo p t ≤ min (acrossHi p t) p.height ∧ min (acrossHi p t) p.height ≤ p.height := h_bd h ht hn
  go_enter Try.func38, Try.ntmps38
  go_wp2_with fail
  refine (check_ok p t _ h ht).mono ?_
  rintro e w1 ⟨rfl, hb1⟩
  have hB1_0 : HasPap (p) (w.heap.size) w1 := HasPap.up (by unfold HasPap; go_simp) hb1 (by (try simp only [World.size_alloc]); omega)
  have hB1_1 : HasPt (t) (w.heap.size + 1) w1 := HasPt.up (by unfold HasPt; go_simp) hb1 (by (try simp only [World.size_alloc]); omega)
  have hB1_2 : HasSp (0) (0) (w.heap.size + 1 + 1) w1 := HasSp.up (by unfold HasSp; go_simp) hb1 (by (try simp only [World.size_alloc]); omega)
  have g1_2_0 : w1.frozen? ⟨w.heap.size + 1 + 1, 0, none⟩ = false := low_frozen hb1 (by (try simp only [World.size_alloc]); omega) (by go_simp)
  have g1_2_1 : w1.frozen? ⟨w.heap.size + 1 + 1, 1, none⟩ = false := low_frozen hb1 (by (try simp only [World.size_alloc]); omega) (by go_simp)
  have C1 : Below w.heap.size w w1 := by
    refine Below.trans ?_ (hb1.mono ?_)
    · repeat' (first | with_reducible exact Below.refl _ _ | with_reducible exact Below.refl _ _ | with_reducible refine set1 ?_ (by omega) _ _ | with_reducible refine Below.alloc ?_ (by (try simp only [World.size_alloc]); omega) _ | with_reducible refine below_drewN ?_ _ | with_reducible refine Below.drew ?_)
    · (try simp only [World.size_alloc]); omega
  clear hb1
  unfold HasPap at hB1_0
  obtain ⟨f1_0_0, f1_0_1, f1_0_2, f1_0_3, f1_0_4, f1_0_5, f1_0_6, f1_0_7, f1_0_8, f1_0_9⟩ := hB1_0
  have z1_0 : w.heap.size < w1.heap.size := World.block_lt_of_cell? _ _ f1_0_0
  unfold HasPt at hB1_1
  obtain ⟨f1_1_0, f1_1_1, f1_1_2⟩ := hB1_1
  have z1_1 : w.heap.size + 1 < w1.heap.size := World.block_lt_of_cell? _ _ f1_1_0
  unfold HasSp at hB1_2
  obtain ⟨f1_2_0, f1_2_1⟩ := hB1_2
  have z1_2 : w.heap.size + 1 + 1 < w1.heap.size := World.block_lt_of_cell? _ _ f1_2_0
  have zz1 := C1.size
  go_wp2_with fail
  refine (heightsOf_some p t _ h ht hn).mono ?_
  rintro e w2 ⟨rfl, hb2⟩
  have hB2_0 : HasPap (p) (w.heap.size) w2 := HasPap.up (by unfold HasPap; go_simp) hb2 (by (try simp only [World.size_alloc, World.size_setCell]); omega)
  have hB2_1 : HasPt (t) (w.heap.size + 1) w2 := HasPt.up (by unfold HasPt; go_simp) hb2 (by (try simp only [World.size_alloc, World.size_setCell]); omega)
  have hB2_2 : HasSp (0) (0) (w.heap.size + 1 + 1) w2 := HasSp.up (by unfold HasSp; go_simp) hb2 (by (try simp only [World.size_alloc, World.size_setCell]); omega)
  have g2_2_0 : w2.frozen? ⟨w.heap.size + 1 + 1, 0, none⟩ = false := low_frozen hb2 (by (try simp only [World.size_alloc, World.size_setCell]); omega) (by go_simp)
  have g2_2_1 : w2.frozen? ⟨w.heap.size + 1 + 1, 1, none⟩ = false := low_frozen hb2 (by (try simp only [World.size_alloc, World.size_setCell]); omega) (by go_simp)
  have C2 : Below w.heap.size w w2 := by
    refine Below.trans ?_ (hb2.mono ?_)
    · repeat' (first | with_reducible exact Below.refl _ _ | with_reducible exact C1 | with_reducible refine set1 ?_ (by omega) _ _ | with_reducible refine Below.alloc ?_ (by (try simp only [World.size_alloc, World.size_setCell]); omega) _ | with_reducible refine below_drewN ?_ _ | with_reducible refine Below.drew ?_)
    · (try simp only [World.size_alloc, World.size_setCell]); omega
  clear g1_2_0 g1_2_1 f1_0_0 f1_0_1 f1_0_2 f1_0_3 f1_0_4 f1_0_5 f1_0_6 f1_0_7 f1_0_8 f1_0_9 f1_1_0 f1_1_1 f1_1_2 f1_2_0 f1_2_1 hb2
  unfold HasPap at hB2_0
  obtain ⟨f2_0_0, f2_0_1, f2_0_2, f2_0_3, f2_0_4, f2_0_5, f2_0_6, f2_0_7, f2_0_8, f2_0_9⟩ := hB2_0
  have z2_0 : w.heap.size < w2.heap.size := World.block_lt_of_cell? _ _ f2_0_0
  unfold HasPt at hB2_1
  obtain ⟨f2_1_0, f2_1_1, f2_1_2⟩ := hB2_1
  have z2_1 : w.heap.size + 1 < w2.heap.size := World.block_lt_of_cell? _ _ f2_1_0
  unfold HasSp at hB2_2
  obtain ⟨f2_2_0, f2_2_1⟩ := hB2_2
  have z2_2 : w.heap.size + 1 + 1 < w2.heap.size := World.block_lt_of_cell? _ _ f2_2_0
  have zz2 := C2.size
  go_wp2_with fail
  refine (levelsOf_any p (acrossLo p t) (min (acrossHi p t) p.height) _ h (by omega) (by omega)).mono ?_
  rintro e w3 ⟨rfl, hb3⟩
  have hB3_0 : HasPap (p) (w.heap.size) w3 := HasPap.up (by unfold HasPap; go_simp) hb3 (by (try simp only [World.size_alloc]); omega)
  have hB3_1 : HasPt (t) (w.heap.size + 1) w3 := HasPt.up (by unfold HasPt; go_simp) hb3 (by (try simp only [World.size_alloc]); omega)
  have hB3_2 : HasSp (0) (0) (w.heap.size + 1 + 1) w3 := HasSp.up (by unfold HasSp; go_simp) hb3 (by (try simp only [World.size_alloc]); omega)
  have g3_2_0 : w3.frozen? ⟨w.heap.size + 1 + 1, 0, none⟩ = false := low_frozen hb3 (by (try simp only [World.size_alloc]); omega) (by go_simp)
  have g3_2_1 : w3.frozen? ⟨w.heap.size + 1 + 1, 1, none⟩ = false := low_frozen hb3 (by (try simp only [World.size_alloc]); omega) (by go_simp)
  have hB3_3 : HasSp (acrossLo p t) (min (acrossHi p t) p.height) (w2.heap.size) w3 := HasSp.up (by unfold HasSp; go_simp) hb3 (by (try simp only [World.size_alloc]); omega)
  have C3 : Below w.heap.size w w3 := by
    refine Below.trans ?_ (hb3.mono ?_)
    · repeat' (first | with_reducible exact Below.refl _ _ | with_reducible exact C2 | with_reducible refine set1 ?_ (by omega) _ _ | with_reducible refine Below.alloc ?_ (by (try simp only [World.size_alloc, World.size_setCell]); omega) _ | with_reducible refine below_drewN ?_ _ | with_reducible refine Below.drew ?_)
    · (try simp only [World.size_alloc]); omega
  clear g2_2_0 g2_2_1 f2_0_0 f2_0_1 f2_0_2 f2_0_3 f2_0_4 f2_0_5 f2_0_6 f2_0_7 f2_0_8 f2_0_9 f2_1_0 f2_1_1 f2_1_2 f2_2_0 f2_2_1 hb3
  unfold HasPap at hB3_0
  obtain ⟨f3_0_0, f3_0_1, f3_0_2, f3_0_3, f3_0_4, f3_0_5, f3_0_6, f3_0_7, f3_0_8, f3_0_9⟩ := hB3_0
  have z3_0 : w.heap.size < w3.heap.size := World.block_lt_of_cell? _ _ f3_0_0
  unfold HasPt at hB3_1
  obtain ⟨f3_1_0, f3_1_1, f3_1_2⟩ := hB3_1
  have z3_1 : w.heap.size + 1 < w3.heap.size := World.block_lt_of_cell? _ _ f3_1_0
  unfold HasSp at hB3_2
  obtain ⟨f3_2_0, f3_2_1⟩ := hB3_2
  have z3_2 : w.heap.size + 1 + 1 < w3.heap.size := World.block_lt_of_cell? _ _ f3_2_0
  unfold HasSp at hB3_3
  obtain ⟨f3_3_0, f3_3_1⟩ := hB3_3
  have z3_3 : w2.heap.size < w3.heap.size := World.block_lt_of_cell? _ _ f3_3_0
  have zz3 := C3.size
  go_wp2_with fail
  refine bodyPost_ret (v := .tuple #[.agg #[.int .i64 (lev p (hLo p t)), .int .i64 (lev p (hHi p t))], .int .i64 (0)]) ?_ rfl ⟨rfl, ?_⟩
  · simp [results, Try.results38, go_sem, f3_2_0, f3_2_1, hLo, hHi]
  · repeat' (first | with_reducible exact Below.refl _ _ | with_reducible exact C3 | with_reducible refine set1 ?_ (by omega) _ _ | with_reducible refine Below.alloc ?_ (by (try simp only [World.size_alloc, World.size_setCell]); omega) _ | with_reducible refine below_drewN ?_ _ | with_reducible refine Below.drew ?_)
theorem PLevels_any (p : Pap) (t : Pt) (w : World) :
    Calls Try.prog 38 #[p.v, t.v] w fun e w' => e = .returned (.tuple #[.agg #[.int .i64 (lsLo p t), .int .i64 (lsHi p t)], .int .i64 (lsE p t)]) ∧ Below w.heap.size w w' := by
  by_cases h : ptE p t = 0
  · obtain ⟨hp, ht⟩ := ptE_iff.1 h
    by_cases hc : hLo p t ≤ p.height
    · have e0 : lsE p t = 0 := by unfold lsE; rw [if_pos h, if_pos hc]
      have e1 : lsLo p t = lev p (hLo p t) := by unfold lsLo; rw [if_pos e0]
      have e2 : lsHi p t = lev p (hHi p t) := by unfold lsHi; rw [if_pos e0]
      rw [e0, e1, e2]; exact PLevels_some p t w hp ht hc
    · have e0 : lsE p t = 3 := by unfold lsE; rw [if_pos h, if_neg hc]
      have e1 : lsLo p t = 0 := by unfold lsLo; rw [if_neg (by rw [e0]; decide)]
      have e2 : lsHi p t = 0 := by unfold lsHi; rw [if_neg (by rw [e0]; decide)]
      rw [e0, e1, e2]; exact PLevels_none p t w hp ht (Int.not_le.1 hc)
  · have e0 : lsE p t = ptE p t := by unfold lsE; rw [if_neg h]
    have e1 : lsLo p t = 0 := by unfold lsLo; rw [if_neg (by rw [e0]; exact h)]
    have e2 : lsHi p t = 0 := by unfold lsHi; rw [if_neg (by rw [e0]; exact h)]
    rw [e0, e1, e2]; exact PLevels_err p t w h
set_option maxHeartbeats 1000000 in
theorem RLevels_err (p : Pap) (t : Pt) (w : World) (h : ptE p t ≠ 0) :
    Calls Try.prog 39 #[p.v, t.v] w fun e w' => e = .returned (.tuple #[.agg #[.int .i64 (0), .int .i64 (0)], .int .i64 (ptE p t)]) ∧ Below w.heap.size w w' := by
  have d : (ptE p t == 0) = false := by simpa using h
  have d' : (ptE p t != 0) = true := by simpa using h
  clear h
  go_enter Try.func39, Try.ntmps39
  go_wp2_with fail
  refine (rcheck_any p t _).mono ?_
  rintro e w1 ⟨rfl, hb1⟩
  have hB1_0 : HasPap (p) (w.heap.size) w1 := HasPap.up (by unfold HasPap; go_simp) hb1 (by (try simp only [World.size_alloc]); omega)
  have hB1_1 : HasPt (t) (w.heap.size + 1) w1 := HasPt.up (by unfold HasPt; go_simp) hb1 (by (try simp only [World.size_alloc]); omega)
  have hB1_2 : HasSp (0) (0) (w.heap.size + 1 + 1) w1 := HasSp.up (by unfold HasSp; go_simp) hb1 (by (try simp only [World.size_alloc]); omega)
  have g1_2_0 : w1.frozen? ⟨w.heap.size + 1 + 1, 0, none⟩ = false := low_frozen hb1 (by (try simp only [World.size_alloc]); omega) (by go_simp)
  have g1_2_1 : w1.frozen? ⟨w.heap.size + 1 + 1, 1, none⟩ = false := low_frozen hb1 (by (try simp only [World.size_alloc]); omega) (by go_simp)
  have C1 : Below w.heap.size w w1 := by
    refine Below.trans ?_ (hb1.mono ?_)
    · repeat' (first | with_reducible exact Below.refl _ _ | with_reducible exact Below.refl _ _ | with_reducible refine set1 ?_ (by omega) _ _ | with_reducible refine Below.alloc ?_ (by (try simp only [World.size_alloc]); omega) _ | with_reducible refine below_drewN ?_ _ | with_reducible refine Below.drew ?_)
    · (try simp only [World.size_alloc]); omega
  clear hb1
  unfold HasPap at hB1_0
  obtain ⟨f1_0_0, f1_0_1, f1_0_2, f1_0_3, f1_0_4, f1_0_5, f1_0_6, f1_0_7, f1_0_8, f1_0_9⟩ := hB1_0
  have z1_0 : w.heap.size < w1.heap.size := World.block_lt_of_cell? _ _ f1_0_0
  unfold HasPt at hB1_1
  obtain ⟨f1_1_0, f1_1_1, f1_1_2⟩ := hB1_1
  have z1_1 : w.heap.size + 1 < w1.heap.size := World.block_lt_of_cell? _ _ f1_1_0
  unfold HasSp at hB1_2
  obtain ⟨f1_2_0, f1_2_1⟩ := hB1_2
  have z1_2 : w.heap.size + 1 + 1 < w1.heap.size := World.block_lt_of_cell? _ _ f1_2_0
  have zz1 := C1.size
  go_wp2_with fail
  refine bodyPost_ret (v := .tuple #[.agg #[.int .i64 (0), .int .i64 (0)], .int .i64 (ptE p t)]) ?_ rfl ⟨rfl, ?_⟩
  · simp [results, Try.results39, go_sem, f1_2_0, f1_2_1]
  · repeat' (first | with_reducible exact Below.refl _ _ | with_reducible exact C1 | with_reducible refine set1 ?_ (by omega) _ _ | with_reducible refine Below.alloc ?_ (by (try simp only [World.size_alloc, World.size_setCell]); omega) _ | with_reducible refine below_drewN ?_ _ | with_reducible refine Below.drew ?_)
set_option maxHeartbeats 1000000 in
theorem RLevels_none (p : Pap) (t : Pt) (w : World) (h : p.Ok) (ht : t.Ok) (hn : hLo p t > p.height) :
    Calls Try.prog 39 #[p.v, t.v] w fun e w' => e = .returned (.tuple #[.agg #[.int .i64 (0), .int .i64 (0)], .int .i64 (3)]) ∧ Below w.heap.size w w' := by
  have hn' := hts_no hn
  go_enter Try.func39, Try.ntmps39
  go_wp2_with fail
  refine (rcheck_ok p t _ h ht).mono ?_
  rintro e w1 ⟨rfl, hb1⟩
  have hB1_0 : HasPap (p) (w.heap.size) w1 := HasPap.up (by unfold HasPap; go_simp) hb1 (by (try simp only [World.size_alloc]); omega)
  have hB1_1 : HasPt (t) (w.heap.size + 1) w1 := HasPt.up (by unfold HasPt; go_simp) hb1 (by (try simp only [World.size_alloc]); omega)
  have hB1_2 : HasSp (0) (0) (w.heap.size + 1 + 1) w1 := HasSp.up (by unfold HasSp; go_simp) hb1 (by (try simp only [World.size_alloc]); omega)
  have g1_2_0 : w1.frozen? ⟨w.heap.size + 1 + 1, 0, none⟩ = false := low_frozen hb1 (by (try simp only [World.size_alloc]); omega) (by go_simp)
  have g1_2_1 : w1.frozen? ⟨w.heap.size + 1 + 1, 1, none⟩ = false := low_frozen hb1 (by (try simp only [World.size_alloc]); omega) (by go_simp)
  have C1 : Below w.heap.size w w1 := by
    refine Below.trans ?_ (hb1.mono ?_)
    · repeat' (first | with_reducible exact Below.refl _ _ | with_reducible exact Below.refl _ _ | with_reducible refine set1 ?_ (by omega) _ _ | with_reducible refine Below.alloc ?_ (by (try simp only [World.size_alloc]); omega) _ | with_reducible refine below_drewN ?_ _ | with_reducible refine Below.drew ?_)
    · (try simp only [World.size_alloc]); omega
  clear hb1
  unfold HasPap at hB1_0
  obtain ⟨f1_0_0, f1_0_1, f1_0_2, f1_0_3, f1_0_4, f1_0_5, f1_0_6, f1_0_7, f1_0_8, f1_0_9⟩ := hB1_0
  have z1_0 : w.heap.size < w1.heap.size := World.block_lt_of_cell? _ _ f1_0_0
  unfold HasPt at hB1_1
  obtain ⟨f1_1_0, f1_1_1, f1_1_2⟩ := hB1_1
  have z1_1 : w.heap.size + 1 < w1.heap.size := World.block_lt_of_cell? _ _ f1_1_0
  unfold HasSp at hB1_2
  obtain ⟨f1_2_0, f1_2_1⟩ := hB1_2
  have z1_2 : w.heap.size + 1 + 1 < w1.heap.size := World.block_lt_of_cell? _ _ f1_2_0
  have zz1 := C1.size
  go_wp2_with fail
  refine (rheights_any p t _ h ht).mono ?_
  rintro e w2 ⟨rfl, hb2⟩
  have hB2_0 : HasPap (p) (w.heap.size) w2 := HasPap.up (by unfold HasPap; go_simp) hb2 (by (try simp only [World.size_alloc, World.size_setCell]); omega)
  have hB2_1 : HasPt (t) (w.heap.size + 1) w2 := HasPt.up (by unfold HasPt; go_simp) hb2 (by (try simp only [World.size_alloc, World.size_setCell]); omega)
  have hB2_2 : HasSp (0) (0) (w.heap.size + 1 + 1) w2 := HasSp.up (by unfold HasSp; go_simp) hb2 (by (try simp only [World.size_alloc, World.size_setCell]); omega)
  have g2_2_0 : w2.frozen? ⟨w.heap.size + 1 + 1, 0, none⟩ = false := low_frozen hb2 (by (try simp only [World.size_alloc, World.size_setCell]); omega) (by go_simp)
  have g2_2_1 : w2.frozen? ⟨w.heap.size + 1 + 1, 1, none⟩ = false := low_frozen hb2 (by (try simp only [World.size_alloc, World.size_setCell]); omega) (by go_simp)
  have C2 : Below w.heap.size w w2 := by
    refine Below.trans ?_ (hb2.mono ?_)
    · repeat' (first | with_reducible exact Below.refl _ _ | with_reducible exact C1 | with_reducible refine set1 ?_ (by omega) _ _ | with_reducible refine Below.alloc ?_ (by (try simp only [World.size_alloc, World.size_setCell]); omega) _ | with_reducible refine below_drewN ?_ _ | with_reducible refine Below.drew ?_)
    · (try simp only [World.size_alloc, World.size_setCell]); omega
  clear g1_2_0 g1_2_1 f1_0_0 f1_0_1 f1_0_2 f1_0_3 f1_0_4 f1_0_5 f1_0_6 f1_0_7 f1_0_8 f1_0_9 f1_1_0 f1_1_1 f1_1_2 f1_2_0 f1_2_1 hb2
  unfold HasPap at hB2_0
  obtain ⟨f2_0_0, f2_0_1, f2_0_2, f2_0_3, f2_0_4, f2_0_5, f2_0_6, f2_0_7, f2_0_8, f2_0_9⟩ := hB2_0
  have z2_0 : w.heap.size < w2.heap.size := World.block_lt_of_cell? _ _ f2_0_0
  unfold HasPt at hB2_1
  obtain ⟨f2_1_0, f2_1_1, f2_1_2⟩ := hB2_1
  have z2_1 : w.heap.size + 1 < w2.heap.size := World.block_lt_of_cell? _ _ f2_1_0
  unfold HasSp at hB2_2
  obtain ⟨f2_2_0, f2_2_1⟩ := hB2_2
  have z2_2 : w.heap.size + 1 + 1 < w2.heap.size := World.block_lt_of_cell? _ _ f2_2_0
  have zz2 := C2.size
  go_wp2_with fail
  refine bodyPost_ret (v := .tuple #[.agg #[.int .i64 (0), .int .i64 (0)], .int .i64 (3)]) ?_ rfl ⟨rfl, ?_⟩
  · simp [results, Try.results39, go_sem, f2_2_0, f2_2_1, z2_2]
  · repeat' (first | with_reducible exact Below.refl _ _ | with_reducible exact C2 | with_reducible refine set1 ?_ (by omega) _ _ | with_reducible refine Below.alloc ?_ (by (try simp only [World.size_setCell]); omega) _ | with_reducible refine below_drewN ?_ _ | with_reducible refine Below.drew ?_)
set_option maxHeartbeats 2000000 in
theorem RLevels_some (p : Pap) (t : Pt) (w : World) (h : p.Ok) (ht : t.Ok) (hn : hLo p t ≤ p.height) :
    Calls Try.prog 39 #[p.v, t.v] w fun e w' => e = .returned (.tuple #[.agg #[.int .i64 (lev p (hLo p t)), .int .i64 (lev p (hHi p t))], .int .i64 (0)]) ∧ Below w.heap.size w w' := by
  have hh := h_bd h ht hn
  have A : ∀ y w, 0 ≤ y ∧ y ≤ p.height → Calls Try.prog 91 #[p.v, .int .i64 y] w fun e w' => e = .returned (.int .i64 (lev p y)) ∧ Below w.heap.size w w' := fun y w hy => rlevel_any p y w h hy
  have HL := Lib.hid A
  clear A
  go_enter Try.func39, Try.ntmps39
  go_wp2_with fail
  refine (rcheck_ok p t _ h ht).mono ?_
  rintro e w1 ⟨rfl, hb1⟩
  have hB1_0 : HasPap (p) (w.heap.size) w1 := HasPap.up (by unfold HasPap; go_simp) hb1 (by (try simp only [World.size_alloc]); omega)
  have hB1_1 : HasPt (t) (w.heap.size + 1) w1 := HasPt.up (by unfold HasPt; go_simp) hb1 (by (try simp only [World.size_alloc]); omega)
  have hB1_2 : HasSp (0) (0) (w.heap.size + 1 + 1) w1 := HasSp.up (by unfold HasSp; go_simp) hb1 (by (try simp only [World.size_alloc]); omega)
  have g1_2_0 : w1.frozen? ⟨w.heap.size + 1 + 1, 0, none⟩ = false := low_frozen hb1 (by (try simp only [World.size_alloc]); omega) (by go_simp)
  have g1_2_1 : w1.frozen? ⟨w.heap.size + 1 + 1, 1, none⟩ = false := low_frozen hb1 (by (try simp only [World.size_alloc]); omega) (by go_simp)
  have C1 : Below w.heap.size w w1 := by
    refine Below.trans ?_ (hb1.mono ?_)
    · repeat' (first | with_reducible exact Below.refl _ _ | with_reducible exact Below.refl _ _ | with_reducible refine set1 ?_ (by omega) _ _ | with_reducible refine Below.alloc ?_ (by (try simp only [World.size_alloc]); omega) _ | with_reducible refine below_drewN ?_ _ | with_reducible refine Below.drew ?_)
    · (try simp only [World.size_alloc]); omega
  clear hb1
  unfold HasPap at hB1_0
  obtain ⟨f1_0_0, f1_0_1, f1_0_2, f1_0_3, f1_0_4, f1_0_5, f1_0_6, f1_0_7, f1_0_8, f1_0_9⟩ := hB1_0
  have z1_0 : w.heap.size < w1.heap.size := World.block_lt_of_cell? _ _ f1_0_0
  unfold HasPt at hB1_1
  obtain ⟨f1_1_0, f1_1_1, f1_1_2⟩ := hB1_1
  have z1_1 : w.heap.size + 1 < w1.heap.size := World.block_lt_of_cell? _ _ f1_1_0
  unfold HasSp at hB1_2
  obtain ⟨f1_2_0, f1_2_1⟩ := hB1_2
  have z1_2 : w.heap.size + 1 + 1 < w1.heap.size := World.block_lt_of_cell? _ _ f1_2_0
  have zz1 := C1.size
  go_wp2_with fail
  refine (rheights_any p t _ h ht).mono ?_
  rintro e w2 ⟨rfl, hb2⟩
  have hB2_0 : HasPap (p) (w.heap.size) w2 := HasPap.up (by unfold HasPap; go_simp) hb2 (by (try simp only [World.size_alloc, World.size_setCell]); omega)
  have hB2_1 : HasPt (t) (w.heap.size + 1) w2 := HasPt.up (by unfold HasPt; go_simp) hb2 (by (try simp only [World.size_alloc, World.size_setCell]); omega)
  have hB2_2 : HasSp (0) (0) (w.heap.size + 1 + 1) w2 := HasSp.up (by unfold HasSp; go_simp) hb2 (by (try simp only [World.size_alloc, World.size_setCell]); omega)
  have g2_2_0 : w2.frozen? ⟨w.heap.size + 1 + 1, 0, none⟩ = false := low_frozen hb2 (by (try simp only [World.size_alloc, World.size_setCell]); omega) (by go_simp)
  have g2_2_1 : w2.frozen? ⟨w.heap.size + 1 + 1, 1, none⟩ = false := low_frozen hb2 (by (try simp only [World.size_alloc, World.size_setCell]); omega) (by go_simp)
  have C2 : Below w.heap.size w w2 := by
    refine Below.trans ?_ (hb2.mono ?_)
    · repeat' (first | with_reducible exact Below.refl _ _ | with_reducible exact C1 | with_reducible refine set1 ?_ (by omega) _ _ | with_reducible refine Below.alloc ?_ (by (try simp only [World.size_alloc, World.size_setCell]); omega) _ | with_reducible refine below_drewN ?_ _ | with_reducible refine Below.drew ?_)
    · (try simp only [World.size_alloc, World.size_setCell]); omega
  clear g1_2_0 g1_2_1 f1_0_0 f1_0_1 f1_0_2 f1_0_3 f1_0_4 f1_0_5 f1_0_6 f1_0_7 f1_0_8 f1_0_9 f1_1_0 f1_1_1 f1_1_2 f1_2_0 f1_2_1 hb2
  unfold HasPap at hB2_0
  obtain ⟨f2_0_0, f2_0_1, f2_0_2, f2_0_3, f2_0_4, f2_0_5, f2_0_6, f2_0_7, f2_0_8, f2_0_9⟩ := hB2_0
  have z2_0 : w.heap.size < w2.heap.size := World.block_lt_of_cell? _ _ f2_0_0
  unfold HasPt at hB2_1
  obtain ⟨f2_1_0, f2_1_1, f2_1_2⟩ := hB2_1
  have z2_1 : w.heap.size + 1 < w2.heap.size := World.block_lt_of_cell? _ _ f2_1_0
  unfold HasSp at hB2_2
  obtain ⟨f2_2_0, f2_2_1⟩ := hB2_2
  have z2_2 : w.heap.size + 1 + 1 < w2.heap.size := World.block_lt_of_cell? _ _ f2_2_0
  have zz2 := C2.size
  go_wp2_with fail
  have hB : Below w.heap.size w (w2.alloc (.cells #[.int .i64 (hLo p t), .int .i64 (hHi p t)] 23)) := C2.alloc C2.size _
  go_region_held3 (fun w' => w'.cell? ⟨w.heap.size, 0, none⟩ = some (.int .i64 p.pitch) ∧ w'.cell? ⟨w.heap.size, 1, none⟩ = some (.int .i64 p.height) ∧ w'.cell? ⟨w.heap.size, 2, none⟩ = some (.int .i64 p.radius) ∧ w'.cell? ⟨w.heap.size, 3, none⟩ = some (.int .i64 p.low) ∧ w'.cell? ⟨w.heap.size, 4, none⟩ = some (.int .i64 p.high) ∧ w'.cell? ⟨w.heap.size, 5, none⟩ = some (.int .i64 p.cols) ∧ w'.cell? ⟨w.heap.size, 6, none⟩ = some (.int .i64 p.al) ∧ w'.cell? ⟨w.heap.size, 7, none⟩ = some (.int .i64 p.ah) ∧ w'.cell? ⟨w.heap.size, 8, none⟩ = some (.int .i64 p.cl) ∧ w'.cell? ⟨w.heap.size, 9, none⟩ = some (.int .i64 p.ch) ∧ w'.cell? ⟨w2.heap.size, 0, none⟩ = some (.int .i64 (hLo p t)) ∧ w'.cell? ⟨w2.heap.size, 1, none⟩ = some (.int .i64 (hHi p t)) ∧ w'.cell? ⟨w.heap.size + 1 + 1, 0, none⟩ = some (cellAt w' (w.heap.size + 1 + 1) 0) ∧ w'.cell? ⟨w.heap.size + 1 + 1, 1, none⟩ = some (cellAt w' (w.heap.size + 1 + 1) 1) ∧ w'.frozen? ⟨w.heap.size + 1 + 1, 0, none⟩ = false ∧ w'.frozen? ⟨w.heap.size + 1 + 1, 1, none⟩ = false ∧ Below w.heap.size w w' ∧ w2.heap.size + 1 ≤ w'.heap.size)
    (first | (go_split_ands; (repeat' apply And.intro); all_goals first | assumption | (go_simp; done) | (unfold cellAt; go_simp; done) | exact hB.drew | ((try simp only [World.size_drew, World.size_alloc]); omega)) | (go_split_ands; (repeat' apply And.intro); all_goals first | exact cell_up hb (by (try simp only [World.size_drew, World.size_alloc]); omega) (by assumption) | exact frozen_up hb (by (try simp only [World.size_drew, World.size_alloc]); omega) (by assumption) | exact cellAt_ok (cell_up hb (by (try simp only [World.size_drew, World.size_alloc]); omega) (by assumption)) | exact Below.trans (by assumption) (hb.mono (by (try simp only [World.size_drew, World.size_alloc]); omega)) | (have := hb.size; (try simp only [World.size_drew, World.size_alloc] at this); omega)) | (go_split_ands; (repeat' apply And.intro); all_goals first | assumption | exact set1 (set1 (by assumption) (by omega) _ _) (by omega) _ _ | (go_simp; done) | (unfold cellAt; go_simp; done)))
    ((go_at_call 91; refine (HL.out _ _ (by omega)).mono ?_; rintro e w3 ⟨rfl, hb⟩))
  all_goals
    go_wp2_with fail
    rename_i hS
    obtain ⟨-, -, -, -, -, -, -, -, -, -, -, -, s0, s1, -, -, hBB, -⟩ := hS
    obtain ⟨t0, t1, -⟩ := two_cells s0 s1
    refine bodyPost_ret (v := .tuple #[.agg #[.int .i64 (lev p (hLo p t)), .int .i64 (lev p (hHi p t))], .int .i64 (0)]) ?_ rfl ⟨rfl, hBB⟩
    clear s0 s1
    simp [results, Try.results39, go_sem, t0, t1]
theorem RLevels_any (p : Pap) (t : Pt) (w : World) :
    Calls Try.prog 39 #[p.v, t.v] w fun e w' => e = .returned (.tuple #[.agg #[.int .i64 (lsLo p t), .int .i64 (lsHi p t)], .int .i64 (lsE p t)]) ∧ Below w.heap.size w w' := by
  by_cases h : ptE p t = 0
  · obtain ⟨hp, ht⟩ := ptE_iff.1 h
    by_cases hc : hLo p t ≤ p.height
    · have e0 : lsE p t = 0 := by unfold lsE; rw [if_pos h, if_pos hc]
      have e1 : lsLo p t = lev p (hLo p t) := by unfold lsLo; rw [if_pos e0]
      have e2 : lsHi p t = lev p (hHi p t) := by unfold lsHi; rw [if_pos e0]
      rw [e0, e1, e2]; exact RLevels_some p t w hp ht hc
    · have e0 : lsE p t = 3 := by unfold lsE; rw [if_pos h, if_neg hc]
      have e1 : lsLo p t = 0 := by unfold lsLo; rw [if_neg (by rw [e0]; decide)]
      have e2 : lsHi p t = 0 := by unfold lsHi; rw [if_neg (by rw [e0]; decide)]
      rw [e0, e1, e2]; exact RLevels_none p t w hp ht (Int.not_le.1 hc)
  · have e0 : lsE p t = ptE p t := by unfold lsE; rw [if_neg h]
    have e1 : lsLo p t = 0 := by unfold lsLo; rw [if_neg (by rw [e0]; exact h)]
    have e2 : lsHi p t = 0 := by unfold lsHi; rw [if_neg (by rw [e0]; exact h)]
    rw [e0, e1, e2]; exact RLevels_err p t w h
end Go.Proofs.Ytmeljcbefnojfaa
