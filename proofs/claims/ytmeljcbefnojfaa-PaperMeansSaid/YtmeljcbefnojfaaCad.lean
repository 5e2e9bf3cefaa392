import Derived.Test.YtmeljcbefnojfaaShk
import Derived.Test.YtmeljcbefnojfaaRpt
namespace Go.Proofs.Ytmeljcbefnojfaa
open Go.RowKit
open Classical in
/-- the error of Calibrate, and what it returns -/
noncomputable def caE (p : Pap) (x y : Int) (t : Pt) : Int := if ptE p t = 0 then (if -1 ≤ x ∧ x ≤ 800000 then (if -1 ≤ y ∧ y ≤ 800000 then (if CalOk (calP p x y t) then 0 else 3) else 1) else 1) else ptE p t
open Classical in
noncomputable def caP (p : Pap) (x y : Int) (t : Pt) : Pap := if caE p x y t = 0 then calP p x y t else zeroP
set_option maxHeartbeats 1000000 in
theorem PCal_err (p : Pap) (x y : Int) (t : Pt) (w : World) (h : ptE p t ≠ 0) :
    Calls Try.prog 50 #[p.v, .int .i64 x, .int .i64 y, t.v] w fun e w' => e = .returned (.tuple #[zeroP.v, .int .i64 (ptE p t)]) ∧ Below w.heap.size w w' := by
  have d : (ptE p t == 0) = false := by simpa using h
  have d' : (ptE p t != 0) = true := by simpa using h
  clear h
  go_enter Try.func50, Try.ntmps50
  go_wp2_with fail
  refine (check_any p t _).mono ?_
  rintro e w1 ⟨rfl, hb1⟩
  have hB1_0 : HasPap (p) (w.heap.size) w1 := HasPap.up (by unfold HasPap; go_simp) hb1 (by (try simp only [World.size_alloc]); omega)
  have g1_0_0 : w1.frozen? ⟨w.heap.size, 0, none⟩ = false := low_frozen hb1 (by (try simp only [World.size_alloc]); omega) (by go_simp)
  have g1_0_1 : w1.frozen? ⟨w.heap.size, 1, none⟩ = false := low_frozen hb1 (by (try simp only [World.size_alloc]); omega) (by go_simp)
  have g1_0_2 : w1.frozen? ⟨w.heap.size, 2, none⟩ = false := low_frozen hb1 (by (try simp only [World.size_alloc]); omega) (by go_simp)
  have g1_0_3 : w1.frozen? ⟨w.heap.size, 3, none⟩ = false := low_frozen hb1 (by (try simp only [World.size_alloc]); omega) (by go_simp)
  have g1_0_4 : w1.frozen? ⟨w.heap.size, 4, none⟩ = false := low_frozen hb1 (by (try simp only [World.size_alloc]); omega) (by go_simp)
  have g1_0_5 : w1.frozen? ⟨w.heap.size, 5, none⟩ = false := low_frozen hb1 (by (try simp only [World.size_alloc]); omega) (by go_simp)
  have g1_0_6 : w1.frozen? ⟨w.heap.size, 6, none⟩ = false := low_frozen hb1 (by (try simp only [World.size_alloc]); omega) (by go_simp)
  have g1_0_7 : w1.frozen? ⟨w.heap.size, 7, none⟩ = false := low_frozen hb1 (by (try simp only [World.size_alloc]); omega) (by go_simp)
  have g1_0_8 : w1.frozen? ⟨w.heap.size, 8, none⟩ = false := low_frozen hb1 (by (try simp only [World.size_alloc]); omega) (by go_simp)
  have g1_0_9 : w1.frozen? ⟨w.heap.size, 9, none⟩ = false := low_frozen hb1 (by (try simp only [World.size_alloc]); omega) (by go_simp)
  have hB1_1 : HasPt (t) (w.heap.size + 1) w1 := HasPt.up (by unfold HasPt; go_simp) hb1 (by (try simp only [World.size_alloc]); omega)
  have hB1_2 : HasPap (⟨0, 0, 0, 0, 0, 0, 0, 0, 0, 0⟩ : Pap) (w.heap.size + 1 + 1) w1 := HasPap.up (by unfold HasPap; go_simp) hb1 (by (try simp only [World.size_alloc]); omega)
  have g1_2_0 : w1.frozen? ⟨w.heap.size + 1 + 1, 0, none⟩ = false := low_frozen hb1 (by (try simp only [World.size_alloc]); omega) (by go_simp)
  have g1_2_1 : w1.frozen? ⟨w.heap.size + 1 + 1, 1, none⟩ = false := low_frozen hb1 (by (try simp only [World.size_alloc]); omega) (by go_simp)
  have g1_2_2 : w1.frozen? ⟨w.heap.size + 1 + 1, 2, none⟩ = false := low_frozen hb1 (by (try simp only [World.size_alloc]); omega) (by go_simp)
  have g1_2_3 : w1.frozen? ⟨w.heap.size + 1 + 1, 3, none⟩ = false := low_frozen hb1 (by (try simp only [World.size_alloc]); omega) (by go_simp)
  have g1_2_4 : w1.frozen? ⟨w.heap.size + 1 + 1, 4, none⟩ = false := low_frozen hb1 (by (try simp only [World.size_alloc]); omega) (by go_simp)
  have g1_2_5 : w1.frozen? ⟨w.heap.size + 1 + 1, 5, none⟩ = false := low_frozen hb1 (by (try simp only [World.size_alloc]); omega) (by go_simp)
  have g1_2_6 : w1.frozen? ⟨w.heap.size + 1 + 1, 6, none⟩ = false := low_frozen hb1 (by (try simp only [World.size_alloc]); omega) (by go_simp)
  have g1_2_7 : w1.frozen? ⟨w.heap.size + 1 + 1, 7, none⟩ = false := low_frozen hb1 (by (try simp only [World.size_alloc]); omega) (by go_simp)
  have g1_2_8 : w1.frozen? ⟨w.heap.size + 1 + 1, 8, none⟩ = false := low_frozen hb1 (by (try simp only [World.size_alloc]); omega) (by go_simp)
  have g1_2_9 : w1.frozen? ⟨w.heap.size + 1 + 1, 9, none⟩ = false := low_frozen hb1 (by (try simp only [World.size_alloc]); omega) (by go_simp)
  have C1 : Below w.heap.size w w1 := by
    refine Below.trans ?_ (hb1.mono ?_)
    · repeat' (first | with_reducible exact Below.refl _ _ | with_reducible exact Below.refl _ _ | with_reducible refine set1 ?_ (by omega) _ _ | with_reducible refine Below.alloc ?_ (by (try simp only [World.size_alloc]); omega) _ | with_reducible refine below_drewN ?_ _ | with_reducible refine Below.drew ?_)
    · (try simp only [World.size_alloc]); omega
  clear hb1
  unfold HasPap at hB1_0
  obtain ⟨f1_0_0, f1_0_1, f1_0_2, f1_0_3, f1_0_4, f1_0_5, f1_0_6, f1_0_7, f1_0_8, f1_0_9⟩ := hB1_0
  have z1_0 : w.heap.size < w1.heap.size := World.block_lt_of_cell? _ _ f1_0_0
  unfold HasPt at hB1_1
  obtain ⟨f1_1_0, f1_1_1, f1_1_2⟩ := hB1_1
  have z1_1 : w.heap.size + 1 < w1.heap.size := World.block_lt_of_cell? _ _ f1_1_0
  unfold HasPap at hB1_2
  obtain ⟨f1_2_0, f1_2_1, f1_2_2, f1_2_3, f1_2_4, f1_2_5, f1_2_6, f1_2_7, f1_2_8, f1_2_9⟩ := hB1_2
  have z1_2 : w.heap.size + 1 + 1 < w1.heap.size := World.block_lt_of_cell? _ _ f1_2_0
  have zz1 := C1.size
  go_wp2_with fail
  refine bodyPost_ret (v := .tuple #[zeroP.v, .int .i64 (ptE p t)]) ?_ rfl ⟨rfl, ?_⟩
  · simp [results, Try.results50, go_sem, zeroP, f1_2_0, f1_2_1, f1_2_2, f1_2_3, f1_2_4, f1_2_5, f1_2_6, f1_2_7, f1_2_8, f1_2_9]
  · repeat' (first | with_reducible exact Below.refl _ _ | with_reducible exact C1 | with_reducible refine set1 ?_ (by omega) _ _ | with_reducible refine Below.alloc ?_ (by (try simp only [World.size_alloc, World.size_setCell]); omega) _ | with_reducible refine below_drewN ?_ _ | with_reducible refine Below.drew ?_)
set_option maxHeartbeats 1000000 in
theorem PCal_arg1 (p : Pap) (x y : Int) (t : Pt) (w : World) (h : p.Ok) (ht : t.Ok) (hx : ¬ (-1 ≤ x ∧ x ≤ 800000)) :
    Calls Try.prog 50 #[p.v, .int .i64 x, .int .i64 y, t.v] w fun e w' => e = .returned (.tuple #[zeroP.v, .int .i64 1]) ∧ Below w.heap.size w w' := by
  go_enter Try.func50, Try.ntmps50
  go_wp2_with fail
  refine (check_ok p t _ h ht).mono ?_
  rintro e w1 ⟨rfl, hb1⟩
  have hB1_0 : HasPap (p) (w.heap.size) w1 := HasPap.up (by unfold HasPap; go_simp) hb1 (by (try simp only [World.size_alloc]); omega)
  have g1_0_0 : w1.frozen? ⟨w.heap.size, 0, none⟩ = false := low_frozen hb1 (by (try simp only [World.size_alloc]); omega) (by go_simp)
  have g1_0_1 : w1.frozen? ⟨w.heap.size, 1, none⟩ = false := low_frozen hb1 (by (try simp only [World.size_alloc]); omega) (by go_simp)
  have g1_0_2 : w1.frozen? ⟨w.heap.size, 2, none⟩ = false := low_frozen hb1 (by (try simp only [World.size_alloc]); omega) (by go_simp)
  have g1_0_3 : w1.frozen? ⟨w.heap.size, 3, none⟩ = false := low_frozen hb1 (by (try simp only [World.size_alloc]); omega) (by go_simp)
  have g1_0_4 : w1.frozen? ⟨w.heap.size, 4, none⟩ = false := low_frozen hb1 (by (try simp only [World.size_alloc]); omega) (by go_simp)
  have g1_0_5 : w1.frozen? ⟨w.heap.size, 5, none⟩ = false := low_frozen hb1 (by (try simp only [World.size_alloc]); omega) (by go_simp)
  have g1_0_6 : w1.frozen? ⟨w.heap.size, 6, none⟩ = false := low_frozen hb1 (by (try simp only [World.size_alloc]); omega) (by go_simp)
  have g1_0_7 : w1.frozen? ⟨w.heap.size, 7, none⟩ = false := low_frozen hb1 (by (try simp only [World.size_alloc]); omega) (by go_simp)
  have g1_0_8 : w1.frozen? ⟨w.heap.size, 8, none⟩ = false := low_frozen hb1 (by (try simp only [World.size_alloc]); omega) (by go_simp)
  have g1_0_9 : w1.frozen? ⟨w.heap.size, 9, none⟩ = false := low_frozen hb1 (by (try simp only [World.size_alloc]); omega) (by go_simp)
  have hB1_1 : HasPt (t) (w.heap.size + 1) w1 := HasPt.up (by unfold HasPt; go_simp) hb1 (by (try simp only [World.size_alloc]); omega)
  have hB1_2 : HasPap (⟨0, 0, 0, 0, 0, 0, 0, 0, 0, 0⟩ : Pap) (w.heap.size + 1 + 1) w1 := HasPap.up (by unfold HasPap; go_simp) hb1 (by (try simp only [World.size_alloc]); omega)
  have g1_2_0 : w1.frozen? ⟨w.heap.size + 1 + 1, 0, none⟩ = false := low_frozen hb1 (by (try simp only [World.size_alloc]); omega) (by go_simp)
  have g1_2_1 : w1.frozen? ⟨w.heap.size + 1 + 1, 1, none⟩ = false := low_frozen hb1 (by (try simp only [World.size_alloc]); omega) (by go_simp)
  have g1_2_2 : w1.frozen? ⟨w.heap.size + 1 + 1, 2, none⟩ = false := low_frozen hb1 (by (try simp only [World.size_alloc]); omega) (by go_simp)
  have g1_2_3 : w1.frozen? ⟨w.heap.size + 1 + 1, 3, none⟩ = false := low_frozen hb1 (by (try simp only [World.size_alloc]); omega) (by go_simp)
  have g1_2_4 : w1.frozen? ⟨w.heap.size + 1 + 1, 4, none⟩ = false := low_frozen hb1 (by (try simp only [World.size_alloc]); omega) (by go_simp)
  have g1_2_5 : w1.frozen? ⟨w.heap.size + 1 + 1, 5, none⟩ = false := low_frozen hb1 (by (try simp only [World.size_alloc]); omega) (by go_simp)
  have g1_2_6 : w1.frozen? ⟨w.heap.size + 1 + 1, 6, none⟩ = false := low_frozen hb1 (by (try simp only [World.size_alloc]); omega) (by go_simp)
  have g1_2_7 : w1.frozen? ⟨w.heap.size + 1 + 1, 7, none⟩ = false := low_frozen hb1 (by (try simp only [World.size_alloc]); omega) (by go_simp)
  have g1_2_8 : w1.frozen? ⟨w.heap.size + 1 + 1, 8, none⟩ = false := low_frozen hb1 (by (try simp only [World.size_alloc]); omega) (by go_simp)
  have g1_2_9 : w1.frozen? ⟨w.heap.size + 1 + 1, 9, none⟩ = false := low_frozen hb1 (by (try simp only [World.size_alloc]); omega) (by go_simp)
  have C1 : Below w.heap.size w w1 := by
    refine Below.trans ?_ (hb1.mono ?_)
    · repeat' (first | with_reducible exact Below.refl _ _ | with_reducible exact Below.refl _ _ | with_reducible refine set1 ?_ (by omega) _ _ | with_reducible refine Below.alloc ?_ (by (try simp only [World.size_alloc]); omega) _ | with_reducible refine below_drewN ?_ _ | with_reducible refine Below.drew ?_)
    · (try simp only [World.size_alloc]); omega
  clear hb1
  unfold HasPap at hB1_0
  obtain ⟨f1_0_0, f1_0_1, f1_0_2, f1_0_3, f1_0_4, f1_0_5, f1_0_6, f1_0_7, f1_0_8, f1_0_9⟩ := hB1_0
  have z1_0 : w.heap.size < w1.heap.size := World.block_lt_of_cell? _ _ f1_0_0
  unfold HasPt at hB1_1
  obtain ⟨f1_1_0, f1_1_1, f1_1_2⟩ := hB1_1
  have z1_1 : w.heap.size + 1 < w1.heap.size := World.block_lt_of_cell? _ _ f1_1_0
  unfold HasPap at hB1_2
  obtain ⟨f1_2_0, f1_2_1, f1_2_2, f1_2_3, f1_2_4, f1_2_5, f1_2_6, f1_2_7, f1_2_8, f1_2_9⟩ := hB1_2
  have z1_2 : w.heap.size + 1 + 1 < w1.heap.size := World.block_lt_of_cell? _ _ f1_2_0
  have zz1 := C1.size
  go_wp2_with fail
  refine (between_f _ _ _ _ hx).mono ?_
  rintro e w' ⟨rfl, rfl⟩
  go_wp2_with fail
  refine bodyPost_ret (v := .tuple #[zeroP.v, .int .i64 1]) ?_ rfl ⟨rfl, ?_⟩
  · simp [results, Try.results50, go_sem, zeroP, f1_2_0, f1_2_1, f1_2_2, f1_2_3, f1_2_4, f1_2_5, f1_2_6, f1_2_7, f1_2_8, f1_2_9]
  · repeat' (first | with_reducible exact Below.refl _ _ | with_reducible exact C1 | with_reducible refine set1 ?_ (by omega) _ _ | with_reducible refine Below.alloc ?_ (by (try simp only [World.size_alloc, World.size_setCell]); omega) _ | with_reducible refine below_drewN ?_ _ | with_reducible refine Below.drew ?_)
set_option maxHeartbeats 1000000 in
theorem PCal_arg2 (p : Pap) (x y : Int) (t : Pt) (w : World) (h : p.Ok) (ht : t.Ok) (hx : -1 ≤ x ∧ x ≤ 800000) (hy : ¬ (-1 ≤ y ∧ y ≤ 800000)) :
    Calls Try.prog 50 #[p.v, .int .i64 x, .int .i64 y, t.v] w fun e w' => e = .returned (.tuple #[zeroP.v, .int .i64 1]) ∧ Below w.heap.size w w' := by
  go_enter Try.func50, Try.ntmps50
  go_wp2_with fail
  refine (check_ok p t _ h ht).mono ?_
  rintro e w1 ⟨rfl, hb1⟩
  have hB1_0 : HasPap (p) (w.heap.size) w1 := HasPap.up (by unfold HasPap; go_simp) hb1 (by (try simp only [World.size_alloc]); omega)
  have g1_0_0 : w1.frozen? ⟨w.heap.size, 0, none⟩ = false := low_frozen hb1 (by (try simp only [World.size_alloc]); omega) (by go_simp)
  have g1_0_1 : w1.frozen? ⟨w.heap.size, 1, none⟩ = false := low_frozen hb1 (by (try simp only [World.size_alloc]); omega) (by go_simp)
  have g1_0_2 : w1.frozen? ⟨w.heap.size, 2, none⟩ = false := low_frozen hb1 (by (try simp only [World.size_alloc]); omega) (by go_simp)
  have g1_0_3 : w1.frozen? ⟨w.heap.size, 3, none⟩ = false := low_frozen hb1 (by (try simp only [World.size_alloc]); omega) (by go_simp)
  have g1_0_4 : w1.frozen? ⟨w.heap.size, 4, none⟩ = false := low_frozen hb1 (by (try simp only [World.size_alloc]); omega) (by go_simp)
  have g1_0_5 : w1.frozen? ⟨w.heap.size, 5, none⟩ = false := low_frozen hb1 (by (try simp only [World.size_alloc]); omega) (by go_simp)
  have g1_0_6 : w1.frozen? ⟨w.heap.size, 6, none⟩ = false := low_frozen hb1 (by (try simp only [World.size_alloc]); omega) (by go_simp)
  have g1_0_7 : w1.frozen? ⟨w.heap.size, 7, none⟩ = false := low_frozen hb1 (by (try simp only [World.size_alloc]); omega) (by go_simp)
  have g1_0_8 : w1.frozen? ⟨w.heap.size, 8, none⟩ = false := low_frozen hb1 (by (try simp only [World.size_alloc]); omega) (by go_simp)
  have g1_0_9 : w1.frozen? ⟨w.heap.size, 9, none⟩ = false := low_frozen hb1 (by (try simp only [World.size_alloc]); omega) (by go_simp)
  have hB1_1 : HasPt (t) (w.heap.size + 1) w1 := HasPt.up (by unfold HasPt; go_simp) hb1 (by (try simp only [World.size_alloc]); omega)
  have hB1_2 : HasPap (⟨0, 0, 0, 0, 0, 0, 0, 0, 0, 0⟩ : Pap) (w.heap.size + 1 + 1) w1 := HasPap.up (by unfold HasPap; go_simp) hb1 (by (try simp only [World.size_alloc]); omega)
  have g1_2_0 : w1.frozen? ⟨w.heap.size + 1 + 1, 0, none⟩ = false := low_frozen hb1 (by (try simp only [World.size_alloc]); omega) (by go_simp)
  have g1_2_1 : w1.frozen? ⟨w.heap.size + 1 + 1, 1, none⟩ = false := low_frozen hb1 (by (try simp only [World.size_alloc]); omega) (by go_simp)
  have g1_2_2 : w1.frozen? ⟨w.heap.size + 1 + 1, 2, none⟩ = false := low_frozen hb1 (by (try simp only [World.size_alloc]); omega) (by go_simp)
  have g1_2_3 : w1.frozen? ⟨w.heap.size + 1 + 1, 3, none⟩ = false := low_frozen hb1 (by (try simp only [World.size_alloc]); omega) (by go_simp)
  have g1_2_4 : w1.frozen? ⟨w.heap.size + 1 + 1, 4, none⟩ = false := low_frozen hb1 (by (try simp only [World.size_alloc]); omega) (by go_simp)
  have g1_2_5 : w1.frozen? ⟨w.heap.size + 1 + 1, 5, none⟩ = false := low_frozen hb1 (by (try simp only [World.size_alloc]); omega) (by go_simp)
  have g1_2_6 : w1.frozen? ⟨w.heap.size + 1 + 1, 6, none⟩ = false := low_frozen hb1 (by (try simp only [World.size_alloc]); omega) (by go_simp)
  have g1_2_7 : w1.frozen? ⟨w.heap.size + 1 + 1, 7, none⟩ = false := low_frozen hb1 (by (try simp only [World.size_alloc]); omega) (by go_simp)
  have g1_2_8 : w1.frozen? ⟨w.heap.size + 1 + 1, 8, none⟩ = false := low_frozen hb1 (by (try simp only [World.size_alloc]); omega) (by go_simp)
  have g1_2_9 : w1.frozen? ⟨w.heap.size + 1 + 1, 9, none⟩ = false := low_frozen hb1 (by (try simp only [World.size_alloc]); omega) (by go_simp)
  have C1 : Below w.heap.size w w1 := by
    refine Below.trans ?_ (hb1.mono ?_)
    · repeat' (first | with_reducible exact Below.refl _ _ | with_reducible exact Below.refl _ _ | with_reducible refine set1 ?_ (by omega) _ _ | with_reducible refine Below.alloc ?_ (by (try simp only [World.size_alloc]); omega) _ | with_reducible refine below_drewN ?_ _ | with_reducible refine Below.drew ?_)
    · (try simp only [World.size_alloc]); omega
  clear hb1
  unfold HasPap at hB1_0
  obtain ⟨f1_0_0, f1_0_1, f1_0_2, f1_0_3, f1_0_4, f1_0_5, f1_0_6, f1_0_7, f1_0_8, f1_0_9⟩ := hB1_0
  have z1_0 : w.heap.size < w1.heap.size := World.block_lt_of_cell? _ _ f1_0_0
  unfold HasPt at hB1_1
  obtain ⟨f1_1_0, f1_1_1, f1_1_2⟩ := hB1_1
  have z1_1 : w.heap.size + 1 < w1.heap.size := World.block_lt_of_cell? _ _ f1_1_0
  unfold HasPap at hB1_2
  obtain ⟨f1_2_0, f1_2_1, f1_2_2, f1_2_3, f1_2_4, f1_2_5, f1_2_6, f1_2_7, f1_2_8, f1_2_9⟩ := hB1_2
  have z1_2 : w.heap.size + 1 + 1 < w1.heap.size := World.block_lt_of_cell? _ _ f1_2_0
  have zz1 := C1.size
  go_wp2_with fail
  refine (between_t _ _ _ _ hx).mono ?_
  rintro e w' ⟨rfl, rfl⟩
  go_wp2_with fail
  refine (between_f _ _ _ _ hy).mono ?_
  rintro e w' ⟨rfl, rfl⟩
  go_wp2_with fail
  refine bodyPost_ret (v := .tuple #[zeroP.v, .int .i64 1]) ?_ rfl ⟨rfl, ?_⟩
  · simp [results, Try.results50, go_sem, zeroP, f1_2_0, f1_2_1, f1_2_2, f1_2_3, f1_2_4, f1_2_5, f1_2_6, f1_2_7, f1_2_8, f1_2_9]
  · repeat' (first | with_reducible exact Below.refl _ _ | with_reducible exact C1 | with_reducible refine set1 ?_ (by omega) _ _ | with_reducible refine Below.alloc ?_ (by (try simp only [World.size_alloc, World.size_setCell]); omega) _ | with_reducible refine below_drewN ?_ _ | with_reducible refine Below.drew ?_)
set_option maxRecDepth 100000 in
set_option maxHeartbeats 2000000 in
theorem PCal_none1 (p : Pap) (x y : Int) (t : Pt) (w : World) (h : p.Ok) (ht : t.Ok) (hx : -1 ≤ x ∧ x ≤ 800000) (hy : -1 ≤ y ∧ y ≤ 800000) (hq : knLo p.al x t.x t.half > knHi p.ah x t.x t.half) :
    Calls Try.prog 50 #[p.v, .int .i64 x, .int .i64 y, t.v] w fun e w' => e = .returned (.tuple #[zeroP.v, .int .i64 3]) ∧ Below w.heap.size w w' := by
  have d1 : decide (knLo p.al x t.x t.half > knHi p.ah x t.x t.half) = true := by simp; omega
  have hh := ht.half
  have htx := ht.x
  have hty := ht.y
  go_enter Try.func50, Try.ntmps50
  go_wp2_with fail
  refine (check_ok p t _ h ht).mono ?_
  rintro e w1 ⟨rfl, hb1⟩
  have hB1_0 : HasPap (p) (w.heap.size) w1 := HasPap.up (by unfold HasPap; go_simp) hb1 (by (try simp only [World.size_alloc]); omega)
  have g1_0_0 : w1.frozen? ⟨w.heap.size, 0, none⟩ = false := low_frozen hb1 (by (try simp only [World.size_alloc]); omega) (by go_simp)
  have g1_0_1 : w1.frozen? ⟨w.heap.size, 1, none⟩ = false := low_frozen hb1 (by (try simp only [World.size_alloc]); omega) (by go_simp)
  have g1_0_2 : w1.frozen? ⟨w.heap.size, 2, none⟩ = false := low_frozen hb1 (by (try simp only [World.size_alloc]); omega) (by go_simp)
  have g1_0_3 : w1.frozen? ⟨w.heap.size, 3, none⟩ = false := low_frozen hb1 (by (try simp only [World.size_alloc]); omega) (by go_simp)
  have g1_0_4 : w1.frozen? ⟨w.heap.size, 4, none⟩ = false := low_frozen hb1 (by (try simp only [World.size_alloc]); omega) (by go_simp)
  have g1_0_5 : w1.frozen? ⟨w.heap.size, 5, none⟩ = false := low_frozen hb1 (by (try simp only [World.size_alloc]); omega) (by go_simp)
  have g1_0_6 : w1.frozen? ⟨w.heap.size, 6, none⟩ = false := low_frozen hb1 (by (try simp only [World.size_alloc]); omega) (by go_simp)
  have g1_0_7 : w1.frozen? ⟨w.heap.size, 7, none⟩ = false := low_frozen hb1 (by (try simp only [World.size_alloc]); omega) (by go_simp)
  have g1_0_8 : w1.frozen? ⟨w.heap.size, 8, none⟩ = false := low_frozen hb1 (by (try simp only [World.size_alloc]); omega) (by go_simp)
  have g1_0_9 : w1.frozen? ⟨w.heap.size, 9, none⟩ = false := low_frozen hb1 (by (try simp only [World.size_alloc]); omega) (by go_simp)
  have hB1_1 : HasPt (t) (w.heap.size + 1) w1 := HasPt.up (by unfold HasPt; go_simp) hb1 (by (try simp only [World.size_alloc]); omega)
  have hB1_2 : HasPap (⟨0, 0, 0, 0, 0, 0, 0, 0, 0, 0⟩ : Pap) (w.heap.size + 1 + 1) w1 := HasPap.up (by unfold HasPap; go_simp) hb1 (by (try simp only [World.size_alloc]); omega)
  have g1_2_0 : w1.frozen? ⟨w.heap.size + 1 + 1, 0, none⟩ = false := low_frozen hb1 (by (try simp only [World.size_alloc]); omega) (by go_simp)
  have g1_2_1 : w1.frozen? ⟨w.heap.size + 1 + 1, 1, none⟩ = false := low_frozen hb1 (by (try simp only [World.size_alloc]); omega) (by go_simp)
  have g1_2_2 : w1.frozen? ⟨w.heap.size + 1 + 1, 2, none⟩ = false := low_frozen hb1 (by (try simp only [World.size_alloc]); omega) (by go_simp)
  have g1_2_3 : w1.frozen? ⟨w.heap.size + 1 + 1, 3, none⟩ = false := low_frozen hb1 (by (try simp only [World.size_alloc]); omega) (by go_simp)
  have g1_2_4 : w1.frozen? ⟨w.heap.size + 1 + 1, 4, none⟩ = false := low_frozen hb1 (by (try simp only [World.size_alloc]); omega) (by go_simp)
  have g1_2_5 : w1.frozen? ⟨w.heap.size + 1 + 1, 5, none⟩ = false := low_frozen hb1 (by (try simp only [World.size_alloc]); omega) (by go_simp)
  have g1_2_6 : w1.frozen? ⟨w.heap.size + 1 + 1, 6, none⟩ = false := low_frozen hb1 (by (try simp only [World.size_alloc]); omega) (by go_simp)
  have g1_2_7 : w1.frozen? ⟨w.heap.size + 1 + 1, 7, none⟩ = false := low_frozen hb1 (by (try simp only [World.size_alloc]); omega) (by go_simp)
  have g1_2_8 : w1.frozen? ⟨w.heap.size + 1 + 1, 8, none⟩ = false := low_frozen hb1 (by (try simp only [World.size_alloc]); omega) (by go_simp)
  have g1_2_9 : w1.frozen? ⟨w.heap.size + 1 + 1, 9, none⟩ = false := low_frozen hb1 (by (try simp only [World.size_alloc]); omega) (by go_simp)
  have C1 : Below w.heap.size w w1 := by
    refine Below.trans ?_ (hb1.mono ?_)
    · repeat' (first | with_reducible exact Below.refl _ _ | with_reducible exact Below.refl _ _ | with_reducible refine set1 ?_ (by omega) _ _ | with_reducible refine Below.alloc ?_ (by (try simp only [World.size_alloc]); omega) _ | with_reducible refine below_drewN ?_ _ | with_reducible refine Below.drew ?_)
    · (try simp only [World.size_alloc]); omega
  clear hb1
  unfold HasPap at hB1_0
  obtain ⟨f1_0_0, f1_0_1, f1_0_2, f1_0_3, f1_0_4, f1_0_5, f1_0_6, f1_0_7, f1_0_8, f1_0_9⟩ := hB1_0
  have z1_0 : w.heap.size < w1.heap.size := World.block_lt_of_cell? _ _ f1_0_0
  unfold HasPt at hB1_1
  obtain ⟨f1_1_0, f1_1_1, f1_1_2⟩ := hB1_1
  have z1_1 : w.heap.size + 1 < w1.heap.size := World.block_lt_of_cell? _ _ f1_1_0
  unfold HasPap at hB1_2
  obtain ⟨f1_2_0, f1_2_1, f1_2_2, f1_2_3, f1_2_4, f1_2_5, f1_2_6, f1_2_7, f1_2_8, f1_2_9⟩ := hB1_2
  have z1_2 : w.heap.size + 1 + 1 < w1.heap.size := World.block_lt_of_cell? _ _ f1_2_0
  have zz1 := C1.size
  go_wp2_with fail
  refine (between_t _ _ _ _ hx).mono ?_
  rintro e w' ⟨rfl, rfl⟩
  go_wp2_with fail
  refine (between_t _ _ _ _ hy).mono ?_
  rintro e w' ⟨rfl, rfl⟩
  go_wp2_with fail
  refine (calibrated_any _ _ _ _ _ _ hx htx hh).mono ?_
  rintro e w2 ⟨rfl, hb2⟩
  have hB2_0 : HasPap (p) (w.heap.size) w2 := HasPap.up (by unfold HasPap; go_simp) hb2 (by (try simp only [World.size_alloc, World.size_setCell]); omega)
  have g2_0_0 : w2.frozen? ⟨w.heap.size, 0, none⟩ = false := low_frozen hb2 (by (try simp only [World.size_alloc, World.size_setCell]); omega) (by go_simp)
  have g2_0_1 : w2.frozen? ⟨w.heap.size, 1, none⟩ = false := low_frozen hb2 (by (try simp only [World.size_alloc, World.size_setCell]); omega) (by go_simp)
  have g2_0_2 : w2.frozen? ⟨w.heap.size, 2, none⟩ = false := low_frozen hb2 (by (try simp only [World.size_alloc, World.size_setCell]); omega) (by go_simp)
  have g2_0_3 : w2.frozen? ⟨w.heap.size, 3, none⟩ = false := low_frozen hb2 (by (try simp only [World.size_alloc, World.size_setCell]); omega) (by go_simp)
  have g2_0_4 : w2.frozen? ⟨w.heap.size, 4, none⟩ = false := low_frozen hb2 (by (try simp only [World.size_alloc, World.size_setCell]); omega) (by go_simp)
  have g2_0_5 : w2.frozen? ⟨w.heap.size, 5, none⟩ = false := low_frozen hb2 (by (try simp only [World.size_alloc, World.size_setCell]); omega) (by go_simp)
  have g2_0_6 : w2.frozen? ⟨w.heap.size, 6, none⟩ = false := low_frozen hb2 (by (try simp only [World.size_alloc, World.size_setCell]); omega) (by go_simp)
  have g2_0_7 : w2.frozen? ⟨w.heap.size, 7, none⟩ = false := low_frozen hb2 (by (try simp only [World.size_alloc, World.size_setCell]); omega) (by go_simp)
  have g2_0_8 : w2.frozen? ⟨w.heap.size, 8, none⟩ = false := low_frozen hb2 (by (try simp only [World.size_alloc, World.size_setCell]); omega) (by go_simp)
  have g2_0_9 : w2.frozen? ⟨w.heap.size, 9, none⟩ = false := low_frozen hb2 (by (try simp only [World.size_alloc, World.size_setCell]); omega) (by go_simp)
  have hB2_1 : HasPt (t) (w.heap.size + 1) w2 := HasPt.up (by unfold HasPt; go_simp) hb2 (by (try simp only [World.size_alloc, World.size_setCell]); omega)
  have hB2_2 : HasPap (⟨0, 0, 0, 0, 0, 0, 0, 0, 0, 0⟩ : Pap) (w.heap.size + 1 + 1) w2 := HasPap.up (by unfold HasPap; go_simp) hb2 (by (try simp only [World.size_alloc, World.size_setCell]); omega)
  have g2_2_0 : w2.frozen? ⟨w.heap.size + 1 + 1, 0, none⟩ = false := low_frozen hb2 (by (try simp only [World.size_alloc, World.size_setCell]); omega) (by go_simp)
  have g2_2_1 : w2.frozen? ⟨w.heap.size + 1 + 1, 1, none⟩ = false := low_frozen hb2 (by (try simp only [World.size_alloc, World.size_setCell]); omega) (by go_simp)
  have g2_2_2 : w2.frozen? ⟨w.heap.size + 1 + 1, 2, none⟩ = false := low_frozen hb2 (by (try simp only [World.size_alloc, World.size_setCell]); omega) (by go_simp)
  have g2_2_3 : w2.frozen? ⟨w.heap.size + 1 + 1, 3, none⟩ = false := low_frozen hb2 (by (try simp only [World.size_alloc, World.size_setCell]); omega) (by go_simp)
  have g2_2_4 : w2.frozen? ⟨w.heap.size + 1 + 1, 4, none⟩ = false := low_frozen hb2 (by (try simp only [World.size_alloc, World.size_setCell]); omega) (by go_simp)
  have g2_2_5 : w2.frozen? ⟨w.heap.size + 1 + 1, 5, none⟩ = false := low_frozen hb2 (by (try simp only [World.size_alloc, World.size_setCell]); omega) (by go_simp)
  have g2_2_6 : w2.frozen? ⟨w.heap.size + 1 + 1, 6, none⟩ = false := low_frozen hb2 (by (try simp only [World.size_alloc, World.size_setCell]); omega) (by go_simp)
  have g2_2_7 : w2.frozen? ⟨w.heap.size + 1 + 1, 7, none⟩ = false := low_frozen hb2 (by (try simp only [World.size_alloc, World.size_setCell]); omega) (by go_simp)
  have g2_2_8 : w2.frozen? ⟨w.heap.size + 1 + 1, 8, none⟩ = false := low_frozen hb2 (by (try simp only [World.size_alloc, World.size_setCell]); omega) (by go_simp)
  have g2_2_9 : w2.frozen? ⟨w.heap.size + 1 + 1, 9, none⟩ = false := low_frozen hb2 (by (try simp only [World.size_alloc, World.size_setCell]); omega) (by go_simp)
  have C2 : Below w.heap.size w w2 := by
    refine Below.trans ?_ (hb2.mono ?_)
    · repeat' (first | with_reducible exact Below.refl _ _ | with_reducible exact C1 | with_reducible refine set1 ?_ (by omega) _ _ | with_reducible refine Below.alloc ?_ (by (try simp only [World.size_alloc, World.size_setCell]); omega) _ | with_reducible refine below_drewN ?_ _ | with_reducible refine Below.drew ?_)
    · (try simp only [World.size_alloc, World.size_setCell]); omega
  clear g1_0_0 g1_0_1 g1_0_2 g1_0_3 g1_0_4 g1_0_5 g1_0_6 g1_0_7 g1_0_8 g1_0_9 g1_2_0 g1_2_1 g1_2_2 g1_2_3 g1_2_4 g1_2_5 g1_2_6 g1_2_7 g1_2_8 g1_2_9 f1_0_0 f1_0_1 f1_0_2 f1_0_3 f1_0_4 f1_0_5 f1_0_6 f1_0_7 f1_0_8 f1_0_9 f1_1_0 f1_1_1 f1_1_2 f1_2_0 f1_2_1 f1_2_2 f1_2_3 f1_2_4 f1_2_5 f1_2_6 f1_2_7 f1_2_8 f1_2_9 hb2
  unfold HasPap at hB2_0
  obtain ⟨f2_0_0, f2_0_1, f2_0_2, f2_0_3, f2_0_4, f2_0_5, f2_0_6, f2_0_7, f2_0_8, f2_0_9⟩ := hB2_0
  have z2_0 : w.heap.size < w2.heap.size := World.block_lt_of_cell? _ _ f2_0_0
  unfold HasPt at hB2_1
  obtain ⟨f2_1_0, f2_1_1, f2_1_2⟩ := hB2_1
  have z2_1 : w.heap.size + 1 < w2.heap.size := World.block_lt_of_cell? _ _ f2_1_0
  unfold HasPap at hB2_2
  obtain ⟨f2_2_0, f2_2_1, f2_2_2, f2_2_3, f2_2_4, f2_2_5, f2_2_6, f2_2_7, f2_2_8, f2_2_9⟩ := hB2_2
  have z2_2 : w.heap.size + 1 + 1 < w2.heap.size := World.block_lt_of_cell? _ _ f2_2_0
  have zz2 := C2.size
  go_wp2_with fail
  refine (calibrated_any _ _ _ _ _ _ hy hty hh).mono ?_
  rintro e w3 ⟨rfl, hb3⟩
  have hB3_0 : HasPap (⟨p.pitch, p.height, p.radius, p.low, p.high, p.cols, knLo p.al x t.x t.half, knHi p.ah x t.x t.half, p.cl, p.ch⟩ : Pap) (w.heap.size) w3 := HasPap.up (by unfold HasPap; go_simp) hb3 (by (try simp only [World.size_setCell]); omega)
  have g3_0_0 : w3.frozen? ⟨w.heap.size, 0, none⟩ = false := low_frozen hb3 (by (try simp only [World.size_setCell]); omega) (by go_simp)
  have g3_0_1 : w3.frozen? ⟨w.heap.size, 1, none⟩ = false := low_frozen hb3 (by (try simp only [World.size_setCell]); omega) (by go_simp)
  have g3_0_2 : w3.frozen? ⟨w.heap.size, 2, none⟩ = false := low_frozen hb3 (by (try simp only [World.size_setCell]); omega) (by go_simp)
  have g3_0_3 : w3.frozen? ⟨w.heap.size, 3, none⟩ = false := low_frozen hb3 (by (try simp only [World.size_setCell]); omega) (by go_simp)
  have g3_0_4 : w3.frozen? ⟨w.heap.size, 4, none⟩ = false := low_frozen hb3 (by (try simp only [World.size_setCell]); omega) (by go_simp)
  have g3_0_5 : w3.frozen? ⟨w.heap.size, 5, none⟩ = false := low_frozen hb3 (by (try simp only [World.size_setCell]); omega) (by go_simp)
  have g3_0_6 : w3.frozen? ⟨w.heap.size, 6, none⟩ = false := low_frozen hb3 (by (try simp only [World.size_setCell]); omega) (by go_simp)
  have g3_0_7 : w3.frozen? ⟨w.heap.size, 7, none⟩ = false := low_frozen hb3 (by (try simp only [World.size_setCell]); omega) (by go_simp)
  have g3_0_8 : w3.frozen? ⟨w.heap.size, 8, none⟩ = false := low_frozen hb3 (by (try simp only [World.size_setCell]); omega) (by go_simp)
  have g3_0_9 : w3.frozen? ⟨w.heap.size, 9, none⟩ = false := low_frozen hb3 (by (try simp only [World.size_setCell]); omega) (by go_simp)
  have hB3_1 : HasPt (t) (w.heap.size + 1) w3 := HasPt.up (by unfold HasPt; go_simp) hb3 (by (try simp only [World.size_setCell]); omega)
  have hB3_2 : HasPap (⟨0, 0, 0, 0, 0, 0, 0, 0, 0, 0⟩ : Pap) (w.heap.size + 1 + 1) w3 := HasPap.up (by unfold HasPap; go_simp) hb3 (by (try simp only [World.size_setCell]); omega)
  have g3_2_0 : w3.frozen? ⟨w.heap.size + 1 + 1, 0, none⟩ = false := low_frozen hb3 (by (try simp only [World.size_setCell]); omega) (by go_simp)
  have g3_2_1 : w3.frozen? ⟨w.heap.size + 1 + 1, 1, none⟩ = false := low_frozen hb3 (by (try simp only [World.size_setCell]); omega) (by go_simp)
  have g3_2_2 : w3.frozen? ⟨w.heap.size + 1 + 1, 2, none⟩ = false := low_frozen hb3 (by (try simp only [World.size_setCell]); omega) (by go_simp)
  have g3_2_3 : w3.frozen? ⟨w.heap.size + 1 + 1, 3, none⟩ = false := low_frozen hb3 (by (try simp only [World.size_setCell]); omega) (by go_simp)
  have g3_2_4 : w3.frozen? ⟨w.heap.size + 1 + 1, 4, none⟩ = false := low_frozen hb3 (by (try simp only [World.size_setCell]); omega) (by go_simp)
  have g3_2_5 : w3.frozen? ⟨w.heap.size + 1 + 1, 5, none⟩ = false := low_frozen hb3 (by (try simp only [World.size_setCell]); omega) (by go_simp)
  have g3_2_6 : w3.frozen? ⟨w.heap.size + 1 + 1, 6, none⟩ = false := low_frozen hb3 (by (try simp only [World.size_setCell]); omega) (by go_simp)
  have g3_2_7 : w3.frozen? ⟨w.heap.size + 1 + 1, 7, none⟩ = false := low_frozen hb3 (by (try simp only [World.size_setCell]); omega) (by go_simp)
  have g3_2_8 : w3.frozen? ⟨w.heap.size + 1 + 1, 8, none⟩ = false := low_frozen hb3 (by (try simp only [World.size_setCell]); omega) (by go_simp)
  have g3_2_9 : w3.frozen? ⟨w.heap.size + 1 + 1, 9, none⟩ = false := low_frozen hb3 (by (try simp only [World.size_setCell]); omega) (by go_simp)
  have C3 : Below w.heap.size w w3 := by
    refine Below.trans ?_ (hb3.mono ?_)
    · repeat' (first | with_reducible exact Below.refl _ _ | with_reducible exact C2 | with_reducible refine set1 ?_ (by omega) _ _ | with_reducible refine Below.alloc ?_ (by (try simp only [World.size_alloc, World.size_setCell]); omega) _ | with_reducible refine below_drewN ?_ _ | with_reducible refine Below.drew ?_)
    · (try simp only [World.size_setCell]); omega
  clear g2_0_0 g2_0_1 g2_0_2 g2_0_3 g2_0_4 g2_0_5 g2_0_6 g2_0_7 g2_0_8 g2_0_9 g2_2_0 g2_2_1 g2_2_2 g2_2_3 g2_2_4 g2_2_5 g2_2_6 g2_2_7 g2_2_8 g2_2_9 f2_0_0 f2_0_1 f2_0_2 f2_0_3 f2_0_4 f2_0_5 f2_0_6 f2_0_7 f2_0_8 f2_0_9 f2_1_0 f2_1_1 f2_1_2 f2_2_0 f2_2_1 f2_2_2 f2_2_3 f2_2_4 f2_2_5 f2_2_6 f2_2_7 f2_2_8 f2_2_9 hb3
  unfold HasPap at hB3_0
  obtain ⟨f3_0_0, f3_0_1, f3_0_2, f3_0_3, f3_0_4, f3_0_5, f3_0_6, f3_0_7, f3_0_8, f3_0_9⟩ := hB3_0
  have z3_0 : w.heap.size < w3.heap.size := World.block_lt_of_cell? _ _ f3_0_0
  unfold HasPt at hB3_1
  obtain ⟨f3_1_0, f3_1_1, f3_1_2⟩ := hB3_1
  have z3_1 : w.heap.size + 1 < w3.heap.size := World.block_lt_of_cell? _ _ f3_1_0
  unfold HasPap at hB3_2
  obtain ⟨f3_2_0, f3_2_1, f3_2_2, f3_2_3, f3_2_4, f3_2_5, f3_2_6, f3_2_7, f3_2_8, f3_2_9⟩ := hB3_2
  have z3_2 : w.heap.size + 1 + 1 < w3.heap.size := World.block_lt_of_cell? _ _ f3_2_0
  have zz3 := C3.size
  go_wp2_with fail
  refine bodyPost_ret (v := .tuple #[zeroP.v, .int .i64 3]) ?_ rfl ⟨rfl, ?_⟩
  · simp [results, Try.results50, go_sem, zeroP, f3_2_0, f3_2_1, f3_2_2, f3_2_3, f3_2_4, f3_2_5, f3_2_6, f3_2_7, f3_2_8, f3_2_9]
  · repeat' (first | with_reducible exact Below.refl _ _ | with_reducible exact C3 | with_reducible refine set1 ?_ (by omega) _ _ | with_reducible refine Below.alloc ?_ (by (try simp only [World.size_alloc, World.size_setCell]); omega) _ | with_reducible refine below_drewN ?_ _ | with_reducible refine Below.drew ?_)
set_option maxRecDepth 100000 in
set_option maxHeartbeats 2000000 in
theorem PCal_none2 (p : Pap) (x y : Int) (t : Pt) (w : World) (h : p.Ok) (ht : t.Ok) (hx : -1 ≤ x ∧ x ≤ 800000) (hy : -1 ≤ y ∧ y ≤ 800000) (hq : knLo p.al x t.x t.half ≤ knHi p.ah x t.x t.half) (hr : knLo p.cl y t.y t.half > knHi p.ch y t.y t.half) :
    Calls Try.prog 50 #[p.v, .int .i64 x, .int .i64 y, t.v] w fun e w' => e = .returned (.tuple #[zeroP.v, .int .i64 3]) ∧ Below w.heap.size w w' := by
  have d1 : decide (knLo p.al x t.x t.half > knHi p.ah x t.x t.half) = false := by simp; omega
  have d2 : decide (knLo p.cl y t.y t.half > knHi p.ch y t.y t.half) = true := by simp; omega
  have hh := ht.half
  have htx := ht.x
  have hty := ht.y
  go_enter Try.func50, Try.ntmps50
  go_wp2_with fail
  refine (check_ok p t _ h ht).mono ?_
  rintro e w1 ⟨rfl, hb1⟩
  have hB1_0 : HasPap (p) (w.heap.size) w1 := HasPap.up (by unfold HasPap; go_simp) hb1 (by (try simp only [World.size_alloc]); omega)
  have g1_0_0 : w1.frozen? ⟨w.heap.size, 0, none⟩ = false := low_frozen hb1 (by (try simp only [World.size_alloc]); omega) (by go_simp)
  have g1_0_1 : w1.frozen? ⟨w.heap.size, 1, none⟩ = false := low_frozen hb1 (by (try simp only [World.size_alloc]); omega) (by go_simp)
  have g1_0_2 : w1.frozen? ⟨w.heap.size, 2, none⟩ = false := low_frozen hb1 (by (try simp only [World.size_alloc]); omega) (by go_simp)
  have g1_0_3 : w1.frozen? ⟨w.heap.size, 3, none⟩ = false := low_frozen hb1 (by (try simp only [World.size_alloc]); omega) (by go_simp)
  have g1_0_4 : w1.frozen? ⟨w.heap.size, 4, none⟩ = false := low_frozen hb1 (by (try simp only [World.size_alloc]); omega) (by go_simp)
  have g1_0_5 : w1.frozen? ⟨w.heap.size, 5, none⟩ = false := low_frozen hb1 (by (try simp only [World.size_alloc]); omega) (by go_simp)
  have g1_0_6 : w1.frozen? ⟨w.heap.size, 6, none⟩ = false := low_frozen hb1 (by (try simp only [World.size_alloc]); omega) (by go_simp)
  have g1_0_7 : w1.frozen? ⟨w.heap.size, 7, none⟩ = false := low_frozen hb1 (by (try simp only [World.size_alloc]); omega) (by go_simp)
  have g1_0_8 : w1.frozen? ⟨w.heap.size, 8, none⟩ = false := low_frozen hb1 (by (try simp only [World.size_alloc]); omega) (by go_simp)
  have g1_0_9 : w1.frozen? ⟨w.heap.size, 9, none⟩ = false := low_frozen hb1 (by (try simp only [World.size_alloc]); omega) (by go_simp)
  have hB1_1 : HasPt (t) (w.heap.size + 1) w1 := HasPt.up (by unfold HasPt; go_simp) hb1 (by (try simp only [World.size_alloc]); omega)
  have hB1_2 : HasPap (⟨0, 0, 0, 0, 0, 0, 0, 0, 0, 0⟩ : Pap) (w.heap.size + 1 + 1) w1 := HasPap.up (by unfold HasPap; go_simp) hb1 (by (try simp only [World.size_alloc]); omega)
  have g1_2_0 : w1.frozen? ⟨w.heap.size + 1 + 1, 0, none⟩ = false := low_frozen hb1 (by (try simp only [World.size_alloc]); omega) (by go_simp)
  have g1_2_1 : w1.frozen? ⟨w.heap.size + 1 + 1, 1, none⟩ = false := low_frozen hb1 (by (try simp only [World.size_alloc]); omega) (by go_simp)
  have g1_2_2 : w1.frozen? ⟨w.heap.size + 1 + 1, 2, none⟩ = false := low_frozen hb1 (by (try simp only [World.size_alloc]); omega) (by go_simp)
  have g1_2_3 : w1.frozen? ⟨w.heap.size + 1 + 1, 3, none⟩ = false := low_frozen hb1 (by (try simp only [World.size_alloc]); omega) (by go_simp)
  have g1_2_4 : w1.frozen? ⟨w.heap.size + 1 + 1, 4, none⟩ = false := low_frozen hb1 (by (try simp only [World.size_alloc]); omega) (by go_simp)
  have g1_2_5 : w1.frozen? ⟨w.heap.size + 1 + 1, 5, none⟩ = false := low_frozen hb1 (by (try simp only [World.size_alloc]); omega) (by go_simp)
  have g1_2_6 : w1.frozen? ⟨w.heap.size + 1 + 1, 6, none⟩ = false := low_frozen hb1 (by (try simp only [World.size_alloc]); omega) (by go_simp)
  have g1_2_7 : w1.frozen? ⟨w.heap.size + 1 + 1, 7, none⟩ = false := low_frozen hb1 (by (try simp only [World.size_alloc]); omega) (by go_simp)
  have g1_2_8 : w1.frozen? ⟨w.heap.size + 1 + 1, 8, none⟩ = false := low_frozen hb1 (by (try simp only [World.size_alloc]); omega) (by go_simp)
  have g1_2_9 : w1.frozen? ⟨w.heap.size + 1 + 1, 9, none⟩ = false := low_frozen hb1 (by (try simp only [World.size_alloc]); omega) (by go_simp)
  have C1 : Below w.heap.size w w1 := by
    refine Below.trans ?_ (hb1.mono ?_)
    · repeat' (first | with_reducible exact Below.refl _ _ | with_reducible exact Below.refl _ _ | with_reducible refine set1 ?_ (by omega) _ _ | with_reducible refine Below.alloc ?_ (by (try simp only [World.size_alloc]); omega) _ | with_reducible refine below_drewN ?_ _ | with_reducible refine Below.drew ?_)
    · (try simp only [World.size_alloc]); omega
  clear hb1
  unfold HasPap at hB1_0
  obtain ⟨f1_0_0, f1_0_1, f1_0_2, f1_0_3, f1_0_4, f1_0_5, f1_0_6, f1_0_7, f1_0_8, f1_0_9⟩ := hB1_0
  have z1_0 : w.heap.size < w1.heap.size := World.block_lt_of_cell? _ _ f1_0_0
  unfold HasPt at hB1_1
  obtain ⟨f1_1_0, f1_1_1, f1_1_2⟩ := hB1_1
  have z1_1 : w.heap.size + 1 < w1.heap.size := World.block_lt_of_cell? _ _ f1_1_0
  unfold HasPap at hB1_2
  obtain ⟨f1_2_0, f1_2_1, f1_2_2, f1_2_3, f1_2_4, f1_2_5, f1_2_6, f1_2_7, f1_2_8, f1_2_9⟩ := hB1_2
  have z1_2 : w.heap.size + 1 + 1 < w1.heap.size := World.block_lt_of_cell? _ _ f1_2_0
  have zz1 := C1.size
  go_wp2_with fail
  refine (between_t _ _ _ _ hx).mono ?_
  rintro e w' ⟨rfl, rfl⟩
  go_wp2_with fail
  refine (between_t _ _ _ _ hy).mono ?_
  rintro e w' ⟨rfl, rfl⟩
  go_wp2_with fail
  refine (calibrated_any _ _ _ _ _ _ hx htx hh).mono ?_
  rintro e w2 ⟨rfl, hb2⟩
  have hB2_0 : HasPap (p) (w.heap.size) w2 := HasPap.up (by unfold HasPap; go_simp) hb2 (by (try simp only [World.size_alloc, World.size_setCell]); omega)
  have g2_0_0 : w2.frozen? ⟨w.heap.size, 0, none⟩ = false := low_frozen hb2 (by (try simp only [World.size_alloc, World.size_setCell]); omega) (by go_simp)
  have g2_0_1 : w2.frozen? ⟨w.heap.size, 1, none⟩ = false := low_frozen hb2 (by (try simp only [World.size_alloc, World.size_setCell]); omega) (by go_simp)
  have g2_0_2 : w2.frozen? ⟨w.heap.size, 2, none⟩ = false := low_frozen hb2 (by (try simp only [World.size_alloc, World.size_setCell]); omega) (by go_simp)
  have g2_0_3 : w2.frozen? ⟨w.heap.size, 3, none⟩ = false := low_frozen hb2 (by (try simp only [World.size_alloc, World.size_setCell]); omega) (by go_simp)
  have g2_0_4 : w2.frozen? ⟨w.heap.size, 4, none⟩ = false := low_frozen hb2 (by (try simp only [World.size_alloc, World.size_setCell]); omega) (by go_simp)
  have g2_0_5 : w2.frozen? ⟨w.heap.size, 5, none⟩ = false := low_frozen hb2 (by (try simp only [World.size_alloc, World.size_setCell]); omega) (by go_simp)
  have g2_0_6 : w2.frozen? ⟨w.heap.size, 6, none⟩ = false := low_frozen hb2 (by (try simp only [World.size_alloc, World.size_setCell]); omega) (by go_simp)
  have g2_0_7 : w2.frozen? ⟨w.heap.size, 7, none⟩ = false := low_frozen hb2 (by (try simp only [World.size_alloc, World.size_setCell]); omega) (by go_simp)
  have g2_0_8 : w2.frozen? ⟨w.heap.size, 8, none⟩ = false := low_frozen hb2 (by (try simp only [World.size_alloc, World.size_setCell]); omega) (by go_simp)
  have g2_0_9 : w2.frozen? ⟨w.heap.size, 9, none⟩ = false := low_frozen hb2 (by (try simp only [World.size_alloc, World.size_setCell]); omega) (by go_simp)
  have hB2_1 : HasPt (t) (w.heap.size + 1) w2 := HasPt.up (by unfold HasPt; go_simp) hb2 (by (try simp only [World.size_alloc, World.size_setCell]); omega)
  have hB2_2 : HasPap (⟨0, 0, 0, 0, 0, 0, 0, 0, 0, 0⟩ : Pap) (w.heap.size + 1 + 1) w2 := HasPap.up (by unfold HasPap; go_simp) hb2 (by (try simp only [World.size_alloc, World.size_setCell]); omega)
  have g2_2_0 : w2.frozen? ⟨w.heap.size + 1 + 1, 0, none⟩ = false := low_frozen hb2 (by (try simp only [World.size_alloc, World.size_setCell]); omega) (by go_simp)
  have g2_2_1 : w2.frozen? ⟨w.heap.size + 1 + 1, 1, none⟩ = false := low_frozen hb2 (by (try simp only [World.size_alloc, World.size_setCell]); omega) (by go_simp)
  have g2_2_2 : w2.frozen? ⟨w.heap.size + 1 + 1, 2, none⟩ = false := low_frozen hb2 (by (try simp only [World.size_alloc, World.size_setCell]); omega) (by go_simp)
  have g2_2_3 : w2.frozen? ⟨w.heap.size + 1 + 1, 3, none⟩ = false := low_frozen hb2 (by (try simp only [World.size_alloc, World.size_setCell]); omega) (by go_simp)
  have g2_2_4 : w2.frozen? ⟨w.heap.size + 1 + 1, 4, none⟩ = false := low_frozen hb2 (by (try simp only [World.size_alloc, World.size_setCell]); omega) (by go_simp)
  have g2_2_5 : w2.frozen? ⟨w.heap.size + 1 + 1, 5, none⟩ = false := low_frozen hb2 (by (try simp only [World.size_alloc, World.size_setCell]); omega) (by go_simp)
  have g2_2_6 : w2.frozen? ⟨w.heap.size + 1 + 1, 6, none⟩ = false := low_frozen hb2 (by (try simp only [World.size_alloc, World.size_setCell]); omega) (by go_simp)
  have g2_2_7 : w2.frozen? ⟨w.heap.size + 1 + 1, 7, none⟩ = false := low_frozen hb2 (by (try simp only [World.size_alloc, World.size_setCell]); omega) (by go_simp)
  have g2_2_8 : w2.frozen? ⟨w.heap.size + 1 + 1, 8, none⟩ = false := low_frozen hb2 (by (try simp only [World.size_alloc, World.size_setCell]); omega) (by go_simp)
  have g2_2_9 : w2.frozen? ⟨w.heap.size + 1 + 1, 9, none⟩ = false := low_frozen hb2 (by (try simp only [World.size_alloc, World.size_setCell]); omega) (by go_simp)
  have C2 : Below w.heap.size w w2 := by
    refine Below.trans ?_ (hb2.mono ?_)
    · repeat' (first | with_reducible exact Below.refl _ _ | with_reducible exact C1 | with_reducible refine set1 ?_ (by omega) _ _ | with_reducible refine Below.alloc ?_ (by (try simp only [World.size_alloc, World.size_setCell]); omega) _ | with_reducible refine below_drewN ?_ _ | with_reducible refine Below.drew ?_)
    · (try simp only [World.size_alloc, World.size_setCell]); omega
  clear g1_0_0 g1_0_1 g1_0_2 g1_0_3 g1_0_4 g1_0_5 g1_0_6 g1_0_7 g1_0_8 g1_0_9 g1_2_0 g1_2_1 g1_2_2 g1_2_3 g1_2_4 g1_2_5 g1_2_6 g1_2_7 g1_2_8 g1_2_9 f1_0_0 f1_0_1 f1_0_2 f1_0_3 f1_0_4 f1_0_5 f1_0_6 f1_0_7 f1_0_8 f1_0_9 f1_1_0 f1_1_1 f1_1_2 f1_2_0 f1_2_1 f1_2_2 f1_2_3 f1_2_4 f1_2_5 f1_2_6 f1_2_7 f1_2_8 f1_2_9 hb2
  unfold HasPap at hB2_0
  obtain ⟨f2_0_0, f2_0_1, f2_0_2, f2_0_3, f2_0_4, f2_0_5, f2_0_6, f2_0_7, f2_0_8, f2_0_9⟩ := hB2_0
  have z2_0 : w.heap.size < w2.heap.size := World.block_lt_of_cell? _ _ f2_0_0
  unfold HasPt at hB2_1
  obtain ⟨f2_1_0, f2_1_1, f2_1_2⟩ := hB2_1
  have z2_1 : w.heap.size + 1 < w2.heap.size := World.block_lt_of_cell? _ _ f2_1_0
  unfold HasPap at hB2_2
  obtain ⟨f2_2_0, f2_2_1, f2_2_2, f2_2_3, f2_2_4, f2_2_5, f2_2_6, f2_2_7, f2_2_8, f2_2_9⟩ := hB2_2
  have z2_2 : w.heap.size + 1 + 1 < w2.heap.size := World.block_lt_of_cell? _ _ f2_2_0
  have zz2 := C2.size
  go_wp2_with fail
  refine (calibrated_any _ _ _ _ _ _ hy hty hh).mono ?_
  rintro e w3 ⟨rfl, hb3⟩
  have hB3_0 : HasPap (⟨p.pitch, p.height, p.radius, p.low, p.high, p.cols, knLo p.al x t.x t.half, knHi p.ah x t.x t.half, p.cl, p.ch⟩ : Pap) (w.heap.size) w3 := HasPap.up (by unfold HasPap; go_simp) hb3 (by (try simp only [World.size_setCell]); omega)
  have g3_0_0 : w3.frozen? ⟨w.heap.size, 0, none⟩ = false := low_frozen hb3 (by (try simp only [World.size_setCell]); omega) (by go_simp)
  have g3_0_1 : w3.frozen? ⟨w.heap.size, 1, none⟩ = false := low_frozen hb3 (by (try simp only [World.size_setCell]); omega) (by go_simp)
  have g3_0_2 : w3.frozen? ⟨w.heap.size, 2, none⟩ = false := low_frozen hb3 (by (try simp only [World.size_setCell]); omega) (by go_simp)
  have g3_0_3 : w3.frozen? ⟨w.heap.size, 3, none⟩ = false := low_frozen hb3 (by (try simp only [World.size_setCell]); omega) (by go_simp)
  have g3_0_4 : w3.frozen? ⟨w.heap.size, 4, none⟩ = false := low_frozen hb3 (by (try simp only [World.size_setCell]); omega) (by go_simp)
  have g3_0_5 : w3.frozen? ⟨w.heap.size, 5, none⟩ = false := low_frozen hb3 (by (try simp only [World.size_setCell]); omega) (by go_simp)
  have g3_0_6 : w3.frozen? ⟨w.heap.size, 6, none⟩ = false := low_frozen hb3 (by (try simp only [World.size_setCell]); omega) (by go_simp)
  have g3_0_7 : w3.frozen? ⟨w.heap.size, 7, none⟩ = false := low_frozen hb3 (by (try simp only [World.size_setCell]); omega) (by go_simp)
  have g3_0_8 : w3.frozen? ⟨w.heap.size, 8, none⟩ = false := low_frozen hb3 (by (try simp only [World.size_setCell]); omega) (by go_simp)
  have g3_0_9 : w3.frozen? ⟨w.heap.size, 9, none⟩ = false := low_frozen hb3 (by (try simp only [World.size_setCell]); omega) (by go_simp)
  have hB3_1 : HasPt (t) (w.heap.size + 1) w3 := HasPt.up (by unfold HasPt; go_simp) hb3 (by (try simp only [World.size_setCell]); omega)
  have hB3_2 : HasPap (⟨0, 0, 0, 0, 0, 0, 0, 0, 0, 0⟩ : Pap) (w.heap.size + 1 + 1) w3 := HasPap.up (by unfold HasPap; go_simp) hb3 (by (try simp only [World.size_setCell]); omega)
  have g3_2_0 : w3.frozen? ⟨w.heap.size + 1 + 1, 0, none⟩ = false := low_frozen hb3 (by (try simp only [World.size_setCell]); omega) (by go_simp)
  have g3_2_1 : w3.frozen? ⟨w.heap.size + 1 + 1, 1, none⟩ = false := low_frozen hb3 (by (try simp only [World.size_setCell]); omega) (by go_simp)
  have g3_2_2 : w3.frozen? ⟨w.heap.size + 1 + 1, 2, none⟩ = false := low_frozen hb3 (by (try simp only [World.size_setCell]); omega) (by go_simp)
  have g3_2_3 : w3.frozen? ⟨w.heap.size + 1 + 1, 3, none⟩ = false := low_frozen hb3 (by (try simp only [World.size_setCell]); omega) (by go_simp)
  have g3_2_4 : w3.frozen? ⟨w.heap.size + 1 + 1, 4, none⟩ = false := low_frozen hb3 (by (try simp only [World.size_setCell]); omega) (by go_simp)
  have g3_2_5 : w3.frozen? ⟨w.heap.size + 1 + 1, 5, none⟩ = false := low_frozen hb3 (by (try simp only [World.size_setCell]); omega) (by go_simp)
  have g3_2_6 : w3.frozen? ⟨w.heap.size + 1 + 1, 6, none⟩ = false := low_frozen hb3 (by (try simp only [World.size_setCell]); omega) (by go_simp)
  have g3_2_7 : w3.frozen? ⟨w.heap.size + 1 + 1, 7, none⟩ = false := low_frozen hb3 (by (try simp only [World.size_setCell]); omega) (by go_simp)
  have g3_2_8 : w3.frozen? ⟨w.heap.size + 1 + 1, 8, none⟩ = false := low_frozen hb3 (by (try simp only [World.size_setCell]); omega) (by go_simp)
  have g3_2_9 : w3.frozen? ⟨w.heap.size + 1 + 1, 9, none⟩ = false := low_frozen hb3 (by (try simp only [World.size_setCell]); omega) (by go_simp)
  have C3 : Below w.heap.size w w3 := by
    refine Below.trans ?_ (hb3.mono ?_)
    · repeat' (first | with_reducible exact Below.refl _ _ | with_reducible exact C2 | with_reducible refine set1 ?_ (by omega) _ _ | with_reducible refine Below.alloc ?_ (by (try simp only [World.size_alloc, World.size_setCell]); omega) _ | with_reducible refine below_drewN ?_ _ | with_reducible refine Below.drew ?_)
    · (try simp only [World.size_setCell]); omega
  clear g2_0_0 g2_0_1 g2_0_2 g2_0_3 g2_0_4 g2_0_5 g2_0_6 g2_0_7 g2_0_8 g2_0_9 g2_2_0 g2_2_1 g2_2_2 g2_2_3 g2_2_4 g2_2_5 g2_2_6 g2_2_7 g2_2_8 g2_2_9 f2_0_0 f2_0_1 f2_0_2 f2_0_3 f2_0_4 f2_0_5 f2_0_6 f2_0_7 f2_0_8 f2_0_9 f2_1_0 f2_1_1 f2_1_2 f2_2_0 f2_2_1 f2_2_2 f2_2_3 f2_2_4 f2_2_5 f2_2_6 f2_2_7 f2_2_8 f2_2_9 hb3
  unfold HasPap at hB3_0
  obtain ⟨f3_0_0, f3_0_1, f3_0_2, f3_0_3, f3_0_4, f3_0_5, f3_0_6, f3_0_7, f3_0_8, f3_0_9⟩ := hB3_0
  have z3_0 : w.heap.size < w3.heap.size := World.block_lt_of_cell? _ _ f3_0_0
  unfold HasPt at hB3_1
  obtain ⟨f3_1_0, f3_1_1, f3_1_2⟩ := hB3_1
  have z3_1 : w.heap.size + 1 < w3.heap.size := World.block_lt_of_cell? _ _ f3_1_0
  unfold HasPap at hB3_2
  obtain ⟨f3_2_0, f3_2_1, f3_2_2, f3_2_3, f3_2_4, f3_2_5, f3_2_6, f3_2_7, f3_2_8, f3_2_9⟩ := hB3_2
  have z3_2 : w.heap.size + 1 + 1 < w3.heap.size := World.block_lt_of_cell? _ _ f3_2_0
  have zz3 := C3.size
  go_wp2_with fail
  refine bodyPost_ret (v := .tuple #[zeroP.v, .int .i64 3]) ?_ rfl ⟨rfl, ?_⟩
  · simp [results, Try.results50, go_sem, zeroP, f3_2_0, f3_2_1, f3_2_2, f3_2_3, f3_2_4, f3_2_5, f3_2_6, f3_2_7, f3_2_8, f3_2_9]
  · repeat' (first | with_reducible exact Below.refl _ _ | with_reducible exact C3 | with_reducible refine set1 ?_ (by omega) _ _ | with_reducible refine Below.alloc ?_ (by (try simp only [World.size_alloc, World.size_setCell]); omega) _ | with_reducible refine below_drewN ?_ _ | with_reducible refine Below.drew ?_)
theorem PCal_any (p : Pap) (x y : Int) (t : Pt) (w : World) :
    Calls Try.prog 50 #[p.v, .int .i64 x, .int .i64 y, t.v] w fun e w' => e = .returned (.tuple #[(caP p x y t).v, .int .i64 (caE p x y t)]) ∧ Below w.heap.size w w' := by
  by_cases h : ptE p t = 0
  · obtain ⟨h1, h2⟩ := ptE_iff.1 h
    by_cases hx : -1 ≤ x ∧ x ≤ 800000
    · by_cases hy : -1 ≤ y ∧ y ≤ 800000
      · by_cases hq : CalOk (calP p x y t)
        · have e0 : caE p x y t = 0 := by unfold caE; rw [if_pos h, if_pos hx, if_pos hy, if_pos hq]
          have e1 : caP p x y t = calP p x y t := by unfold caP; rw [if_pos e0]
          rw [e1, e0]; exact Calibrate_ok p x y t w h1 h2 hx hy hq
        · have e0 : caE p x y t = 3 := by unfold caE; rw [if_pos h, if_pos hx, if_pos hy, if_neg hq]
          have e1 : caP p x y t = zeroP := by unfold caP; rw [if_neg (by rw [e0]; decide)]
          rw [e1, e0]
          by_cases ha : knLo p.al x t.x t.half ≤ knHi p.ah x t.x t.half
          · exact PCal_none2 p x y t w h1 h2 hx hy ha (Int.not_le.1 fun hb => hq ⟨ha, hb⟩)
          · exact PCal_none1 p x y t w h1 h2 hx hy (Int.not_le.1 ha)
      · have e0 : caE p x y t = 1 := by unfold caE; rw [if_pos h, if_pos hx, if_neg hy]
        have e1 : caP p x y t = zeroP := by unfold caP; rw [if_neg (by rw [e0]; decide)]
        rw [e1, e0]; exact PCal_arg2 p x y t w h1 h2 hx hy
    · have e0 : caE p x y t = 1 := by unfold caE; rw [if_pos h, if_neg hx]
      have e1 : caP p x y t = zeroP := by unfold caP; rw [if_neg (by rw [e0]; decide)]
      rw [e1, e0]; exact PCal_arg1 p x y t w h1 h2 hx
  · have e0 : caE p x y t = ptE p t := by unfold caE; rw [if_neg h]
    have e1 : caP p x y t = zeroP := by unfold caP; rw [if_neg (by rw [e0]; exact h)]
    rw [e1, e0]; exact PCal_err p x y t w h
theorem mx_floor (lo n d : Int) (hl : 0 ≤ lo) (h : 0 ≤ d) : max lo (n.tdiv d) = max lo (n / d) := by
  have := mxz n d h
  omega
set_option maxRecDepth 100000 in
set_option maxHeartbeats 1000000 in
theorem known_any (lo hi k n h : Int) (w : World) (hl : 0 ≤ lo) (hk : -1 ≤ k ∧ k ≤ 800000) (hn : 0 ≤ n ∧ n ≤ 400000) (hh : 0 ≤ h ∧ h ≤ 5000) :
    Calls Try.prog 103 #[.agg #[.int .i64 lo, .int .i64 hi], .int .i64 k, .int .i64 n, .int .i64 h] w fun e w' => e = .returned (.agg #[.int .i64 (knLo lo k n h), .int .i64 (knHi hi k n h)]) ∧ Below w.heap.size w w' := by
  by_cases h0 : k < 0
  · obtain rfl : k = -1 := by omega
    have e1 : knLo lo (-1) n h = lo := by unfold knLo; rw [if_pos (by omega)]
    have e2 : knHi hi (-1) n h = hi := by unfold knHi; rw [if_pos (by omega)]
    rw [e1, e2]
    clear e1 e2
    go_enter Try.func103, Try.ntmps103
    go_wp2_with fail
    refine bodyPost_ret (v := .agg #[.int .i64 lo, .int .i64 hi]) ?_ rfl ⟨rfl, ?_⟩
    · simp [results, Try.results103, go_sem]
    · exact box2 _ _ _
  · have e1 : knLo lo k n h = max lo (((n - h) * 1000) / (k + 1)) := by unfold knLo; rw [if_neg h0, mx_floor _ _ _ hl (by omega)]
    rw [e1]
    have dk : (k == -1) = false := by simp; omega
    obtain ⟨k1, k2⟩ := ediv_bd2 (n := (n - h) * 1000) (b := k + 1) (by omega) (by omega) (by omega)
    have g1 : IntKind.i64.wrap (n - h) = n - h := IntWalk.i64_in _ (by omega)
    have g2 : IntKind.i64.wrap ((n - h) * 1000) = (n - h) * 1000 := IntWalk.i64_in _ (by omega)
    have g3 : IntKind.i64.wrap (k + 1) = k + 1 := IntWalk.i64_in _ (by omega)
    have E := Lib.hid (And.intro g1 (And.intro g2 g3))
    have A1 : Hid (∀ w, Calls Try.prog 101 #[.int .i64 ((n - h) * 1000), .int .i64 (k + 1)] w fun e w' => e = .returned (.int .i64 ((n - h) * 1000 / (k + 1))) ∧ w' = w) := Lib.hid fun w => (rfloor_any _ _ w (by omega) (by omega) (by omega) (by omega)).mono fun _ _ h => ⟨h.1, h.2.symm⟩
    clear g1 g2 g3 e1
    by_cases h1 : k = 0
    · subst h1
      have e2 : knHi hi 0 n h = hi := by unfold knHi; rw [if_pos (by omega)]
      rw [e2]
      clear e2
      go_enter Try.func103, Try.ntmps103
      go_wp2_with fail
      obtain ⟨g1, g2, g3⟩ := E.out
      have C0 := box2 w (.cells #[.int .i64 lo, .int .i64 hi] 23) (.cells #[.int .i64 0, .int .i64 0] 23)
      have hS : HasSp lo hi w.heap.size ((w.alloc (.cells #[.int .i64 lo, .int .i64 hi] 23)).alloc (.cells #[.int .i64 0, .int .i64 0] 23)) := by unfold HasSp; go_simp
      have u0 : ((w.alloc (.cells #[.int .i64 lo, .int .i64 hi] 23)).alloc (.cells #[.int .i64 0, .int .i64 0] 23)).cell? ⟨w.heap.size + 1, 0, none⟩ = some (.int .i64 0) := by go_simp
      have u1 : ((w.alloc (.cells #[.int .i64 lo, .int .i64 hi] 23)).alloc (.cells #[.int .i64 0, .int .i64 0] 23)).cell? ⟨w.heap.size + 1, 1, none⟩ = some (.int .i64 0) := by go_simp
      have v0 : ((w.alloc (.cells #[.int .i64 lo, .int .i64 hi] 23)).alloc (.cells #[.int .i64 0, .int .i64 0] 23)).frozen? ⟨w.heap.size + 1, 0, none⟩ = false := by go_simp
      have v1 : ((w.alloc (.cells #[.int .i64 lo, .int .i64 hi] 23)).alloc (.cells #[.int .i64 0, .int .i64 0] 23)).frozen? ⟨w.heap.size + 1, 1, none⟩ = false := by go_simp
      generalize ((w.alloc (.cells #[.int .i64 lo, .int .i64 hi] 23)).alloc (.cells #[.int .i64 0, .int .i64 0] 23)) = W at *
      unfold HasSp at hS
      obtain ⟨q0, q1⟩ := hS
      have n0 := World.new_ne W ⟨w.heap.size, 0, none⟩ q0
      have n1 := World.new_ne W ⟨w.heap.size, 1, none⟩ q1
      have z1 : w.heap.size + 1 < W.heap.size := World.block_lt_of_cell? _ _ u0
      go_region_held3 (fun w' => w'.cell? ⟨w.heap.size, 0, none⟩ = some (.int .i64 lo) ∧ w'.cell? ⟨w.heap.size, 1, none⟩ = some (.int .i64 hi)) (go_keep)
        ((go_at_call 101; refine (A1.out _).mono ?_; rintro e w' ⟨rfl, rfl⟩))
      clear g1 g2 g3
      go_wp2_with fail
      all_goals
        refine bodyPost_ret (v := .agg #[.int .i64 (max lo ((n - h) * 1000 / (0 + 1))), .int .i64 hi]) ?_ rfl ⟨rfl, ?_⟩
        · simp [results, Try.results103, go_sem, u0, u1, z1]
        · repeat' (first | with_reducible exact Below.refl _ _ | with_reducible exact C0 | with_reducible refine set1 ?_ (by omega) _ _ | with_reducible refine Below.alloc ?_ (by (try simp only [World.size_setCell]); omega) _ | with_reducible refine below_drewN ?_ _ | with_reducible refine Below.drew ?_)
    · have e2 : knHi hi k n h = min hi (cdiv ((n + h) * 1000) k) := by unfold knHi; rw [if_neg (by omega)]
      rw [e2]
      clear e2
      have A2 : Hid (∀ w, Calls Try.prog 97 #[.int .i64 ((n + h) * 1000), .int .i64 k] w fun e w' => e = .returned (.int .i64 (cdiv ((n + h) * 1000) k)) ∧ w' = w) := Lib.hid fun w => (rceil_any _ _ w (by omega) (by omega) (by omega) (by omega)).mono fun _ _ h => ⟨h.1, h.2.symm⟩
      have E2 := Lib.hid (And.intro (show IntKind.i64.wrap (n + h) = n + h from IntWalk.i64_in _ (by omega)) (show IntKind.i64.wrap ((n + h) * 1000) = (n + h) * 1000 from IntWalk.i64_in _ (by omega)))
      have d2 : decide (k > 0) = true := by simp; omega
      go_enter Try.func103, Try.ntmps103
      go_wp2_with fail
      obtain ⟨g1, g2, g3⟩ := E.out
      have C0 := box2 w (.cells #[.int .i64 lo, .int .i64 hi] 23) (.cells #[.int .i64 0, .int .i64 0] 23)
      have hS : HasSp lo hi w.heap.size ((w.alloc (.cells #[.int .i64 lo, .int .i64 hi] 23)).alloc (.cells #[.int .i64 0, .int .i64 0] 23)) := by unfold HasSp; go_simp
      have u0 : ((w.alloc (.cells #[.int .i64 lo, .int .i64 hi] 23)).alloc (.cells #[.int .i64 0, .int .i64 0] 23)).cell? ⟨w.heap.size + 1, 0, none⟩ = some (.int .i64 0) := by go_simp
      have u1 : ((w.alloc (.cells #[.int .i64 lo, .int .i64 hi] 23)).alloc (.cells #[.int .i64 0, .int .i64 0] 23)).cell? ⟨w.heap.size + 1, 1, none⟩ = some (.int .i64 0) := by go_simp
      have v0 : ((w.alloc (.cells #[.int .i64 lo, .int .i64 hi] 23)).alloc (.cells #[.int .i64 0, .int .i64 0] 23)).frozen? ⟨w.heap.size + 1, 0, none⟩ = false := by go_simp
      have v1 : ((w.alloc (.cells #[.int .i64 lo, .int .i64 hi] 23)).alloc (.cells #[.int .i64 0, .int .i64 0] 23)).frozen? ⟨w.heap.size + 1, 1, none⟩ = false := by go_simp
      generalize ((w.alloc (.cells #[.int .i64 lo, .int .i64 hi] 23)).alloc (.cells #[.int .i64 0, .int .i64 0] 23)) = W at *
      unfold HasSp at hS
      obtain ⟨q0, q1⟩ := hS
      have n0 := World.new_ne W ⟨w.heap.size, 0, none⟩ q0
      have n1 := World.new_ne W ⟨w.heap.size, 1, none⟩ q1
      have z1 : w.heap.size + 1 < W.heap.size := World.block_lt_of_cell? _ _ u0
      go_region_held3 (fun w' => w'.cell? ⟨w.heap.size, 0, none⟩ = some (.int .i64 lo) ∧ w'.cell? ⟨w.heap.size, 1, none⟩ = some (.int .i64 hi)) (go_keep)
        ((go_at_call 101; refine (A1.out _).mono ?_; rintro e w' ⟨rfl, rfl⟩))
      clear g1 g2 g3
      all_goals
        go_wp2_with fail
        obtain ⟨g1, g2⟩ := E2.out
        refine still_tail 10 (by kernel_rfl) (by kernel_rfl) ?_
        simp only [List.take_succ_cons, List.take_zero, List.drop_succ_cons, List.drop_zero]
        repeat still_step
        still_call (A2.out _)
        repeat still_step
        refine wpStill_nil ?_
        clear g1 g2
        go_wp2_with fail
        refine bodyPost_ret (v := .agg #[.int .i64 (max lo ((n - h) * 1000 / (k + 1))), .int .i64 (min hi (cdiv ((n + h) * 1000) k))]) ?_ rfl ⟨rfl, ?_⟩
        · simp [results, Try.results103, go_sem, u0, u1, z1]
        · repeat' (first | with_reducible exact Below.refl _ _ | with_reducible exact C0 | with_reducible refine set1 ?_ (by omega) _ _ | with_reducible refine Below.alloc ?_ (by (try simp only [World.size_setCell]); omega) _ | with_reducible refine below_drewN ?_ _ | with_reducible refine Below.drew ?_)
set_option maxHeartbeats 1000000 in
theorem RCal_err (p : Pap) (x y : Int) (t : Pt) (w : World) (h : ptE p t ≠ 0) :
    Calls Try.prog 51 #[p.v, .int .i64 x, .int .i64 y, t.v] w fun e w' => e = .returned (.tuple #[zeroP.v, .int .i64 (ptE p t)]) ∧ Below w.heap.size w w' := by
  have d : (ptE p t == 0) = false := by simpa using h
  have d' : (ptE p t != 0) = true := by simpa using h
  clear h
  go_enter Try.func51, Try.ntmps51
  go_wp2_with fail
  refine (rcheck_any p t _).mono ?_
  rintro e w1 ⟨rfl, hb1⟩
  have hB1_0 : HasPap (p) (w.heap.size) w1 := HasPap.up (by unfold HasPap; go_simp) hb1 (by (try simp only [World.size_alloc]); omega)
  have g1_0_0 : w1.frozen? ⟨w.heap.size, 0, none⟩ = false := low_frozen hb1 (by (try simp only [World.size_alloc]); omega) (by go_simp)
  have g1_0_1 : w1.frozen? ⟨w.heap.size, 1, none⟩ = false := low_frozen hb1 (by (try simp only [World.size_alloc]); omega) (by go_simp)
  have g1_0_2 : w1.frozen? ⟨w.heap.size, 2, none⟩ = false := low_frozen hb1 (by (try simp only [World.size_alloc]); omega) (by go_simp)
  have g1_0_3 : w1.frozen? ⟨w.heap.size, 3, none⟩ = false := low_frozen hb1 (by (try simp only [World.size_alloc]); omega) (by go_simp)
  have g1_0_4 : w1.frozen? ⟨w.heap.size, 4, none⟩ = false := low_frozen hb1 (by (try simp only [World.size_alloc]); omega) (by go_simp)
  have g1_0_5 : w1.frozen? ⟨w.heap.size, 5, none⟩ = false := low_frozen hb1 (by (try simp only [World.size_alloc]); omega) (by go_simp)
  have g1_0_6 : w1.frozen? ⟨w.heap.size, 6, none⟩ = false := low_frozen hb1 (by (try simp only [World.size_alloc]); omega) (by go_simp)
  have g1_0_7 : w1.frozen? ⟨w.heap.size, 7, none⟩ = false := low_frozen hb1 (by (try simp only [World.size_alloc]); omega) (by go_simp)
  have g1_0_8 : w1.frozen? ⟨w.heap.size, 8, none⟩ = false := low_frozen hb1 (by (try simp only [World.size_alloc]); omega) (by go_simp)
  have g1_0_9 : w1.frozen? ⟨w.heap.size, 9, none⟩ = false := low_frozen hb1 (by (try simp only [World.size_alloc]); omega) (by go_simp)
  have hB1_1 : HasPt (t) (w.heap.size + 1) w1 := HasPt.up (by unfold HasPt; go_simp) hb1 (by (try simp only [World.size_alloc]); omega)
  have hB1_2 : HasPap (⟨0, 0, 0, 0, 0, 0, 0, 0, 0, 0⟩ : Pap) (w.heap.size + 1 + 1) w1 := HasPap.up (by unfold HasPap; go_simp) hb1 (by (try simp only [World.size_alloc]); omega)
  have g1_2_0 : w1.frozen? ⟨w.heap.size + 1 + 1, 0, none⟩ = false := low_frozen hb1 (by (try simp only [World.size_alloc]); omega) (by go_simp)
  have g1_2_1 : w1.frozen? ⟨w.heap.size + 1 + 1, 1, none⟩ = false := low_frozen hb1 (by (try simp only [World.size_alloc]); omega) (by go_simp)
  have g1_2_2 : w1.frozen? ⟨w.heap.size + 1 + 1, 2, none⟩ = false := low_frozen hb1 (by (try simp only [World.size_alloc]); omega) (by go_simp)
  have g1_2_3 : w1.frozen? ⟨w.heap.size + 1 + 1, 3, none⟩ = false := low_frozen hb1 (by (try simp only [World.size_alloc]); omega) (by go_simp)
  have g1_2_4 : w1.frozen? ⟨w.heap.size + 1 + 1, 4, none⟩ = false := low_frozen hb1 (by (try simp only [World.size_alloc]); omega) (by go_simp)
  have g1_2_5 : w1.frozen? ⟨w.heap.size + 1 + 1, 5, none⟩ = false := low_frozen hb1 (by (try simp only [World.size_alloc]); omega) (by go_simp)
  have g1_2_6 : w1.frozen? ⟨w.heap.size + 1 + 1, 6, none⟩ = false := low_frozen hb1 (by (try simp only [World.size_alloc]); omega) (by go_simp)
  have g1_2_7 : w1.frozen? ⟨w.heap.size + 1 + 1, 7, none⟩ = false := low_frozen hb1 (by (try simp only [World.size_alloc]); omega) (by go_simp)
  have g1_2_8 : w1.frozen? ⟨w.heap.size + 1 + 1, 8, none⟩ = false := low_frozen hb1 (by (try simp only [World.size_alloc]); omega) (by go_simp)
  have g1_2_9 : w1.frozen? ⟨w.heap.size + 1 + 1, 9, none⟩ = false := low_frozen hb1 (by (try simp only [World.size_alloc]); omega) (by go_simp)
  have C1 : Below w.heap.size w w1 := by
    refine Below.trans ?_ (hb1.mono ?_)
    · repeat' (first | with_reducible exact Below.refl _ _ | with_reducible exact Below.refl _ _ | with_reducible refine set1 ?_ (by omega) _ _ | with_reducible refine Below.alloc ?_ (by (try simp only [World.size_alloc]); omega) _ | with_reducible refine below_drewN ?_ _ | with_reducible refine Below.drew ?_)
    · (try simp only [World.size_alloc]); omega
  clear hb1
  unfold HasPap at hB1_0
  obtain ⟨f1_0_0, f1_0_1, f1_0_2, f1_0_3, f1_0_4, f1_0_5, f1_0_6, f1_0_7, f1_0_8, f1_0_9⟩ := hB1_0
  have z1_0 : w.heap.size < w1.heap.size := World.block_lt_of_cell? _ _ f1_0_0
  unfold HasPt at hB1_1
  obtain ⟨f1_1_0, f1_1_1, f1_1_2⟩ := hB1_1
  have z1_1 : w.heap.size + 1 < w1.heap.size := World.block_lt_of_cell? _ _ f1_1_0
  unfold HasPap at hB1_2
  obtain ⟨f1_2_0, f1_2_1, f1_2_2, f1_2_3, f1_2_4, f1_2_5, f1_2_6, f1_2_7, f1_2_8, f1_2_9⟩ := hB1_2
  have z1_2 : w.heap.size + 1 + 1 < w1.heap.size := World.block_lt_of_cell? _ _ f1_2_0
  have zz1 := C1.size
  go_wp2_with fail
  refine bodyPost_ret (v := .tuple #[zeroP.v, .int .i64 (ptE p t)]) ?_ rfl ⟨rfl, ?_⟩
  · simp [results, Try.results51, go_sem, zeroP, f1_2_0, f1_2_1, f1_2_2, f1_2_3, f1_2_4, f1_2_5, f1_2_6, f1_2_7, f1_2_8, f1_2_9]
  · repeat' (first | with_reducible exact Below.refl _ _ | with_reducible exact C1 | with_reducible refine set1 ?_ (by omega) _ _ | with_reducible refine Below.alloc ?_ (by (try simp only [World.size_alloc, World.size_setCell]); omega) _ | with_reducible refine below_drewN ?_ _ | with_reducible refine Below.drew ?_)
set_option maxHeartbeats 1000000 in
theorem RCal_arg1 (p : Pap) (x y : Int) (t : Pt) (w : World) (h : p.Ok) (ht : t.Ok) (hx : ¬ (-1 ≤ x ∧ x ≤ 800000)) :
    Calls Try.prog 51 #[p.v, .int .i64 x, .int .i64 y, t.v] w fun e w' => e = .returned (.tuple #[zeroP.v, .int .i64 1]) ∧ Below w.heap.size w w' := by
  go_enter Try.func51, Try.ntmps51
  go_wp2_with fail
  refine (rcheck_ok p t _ h ht).mono ?_
  rintro e w1 ⟨rfl, hb1⟩
  have hB1_0 : HasPap (p) (w.heap.size) w1 := HasPap.up (by unfold HasPap; go_simp) hb1 (by (try simp only [World.size_alloc]); omega)
  have g1_0_0 : w1.frozen? ⟨w.heap.size, 0, none⟩ = false := low_frozen hb1 (by (try simp only [World.size_alloc]); omega) (by go_simp)
  have g1_0_1 : w1.frozen? ⟨w.heap.size, 1, none⟩ = false := low_frozen hb1 (by (try simp only [World.size_alloc]); omega) (by go_simp)
  have g1_0_2 : w1.frozen? ⟨w.heap.size, 2, none⟩ = false := low_frozen hb1 (by (try simp only [World.size_alloc]); omega) (by go_simp)
  have g1_0_3 : w1.frozen? ⟨w.heap.size, 3, none⟩ = false := low_frozen hb1 (by (try simp only [World.size_alloc]); omega) (by go_simp)
  have g1_0_4 : w1.frozen? ⟨w.heap.size, 4, none⟩ = false := low_frozen hb1 (by (try simp only [World.size_alloc]); omega) (by go_simp)
  have g1_0_5 : w1.frozen? ⟨w.heap.size, 5, none⟩ = false := low_frozen hb1 (by (try simp only [World.size_alloc]); omega) (by go_simp)
  have g1_0_6 : w1.frozen? ⟨w.heap.size, 6, none⟩ = false := low_frozen hb1 (by (try simp only [World.size_alloc]); omega) (by go_simp)
  have g1_0_7 : w1.frozen? ⟨w.heap.size, 7, none⟩ = false := low_frozen hb1 (by (try simp only [World.size_alloc]); omega) (by go_simp)
  have g1_0_8 : w1.frozen? ⟨w.heap.size, 8, none⟩ = false := low_frozen hb1 (by (try simp only [World.size_alloc]); omega) (by go_simp)
  have g1_0_9 : w1.frozen? ⟨w.heap.size, 9, none⟩ = false := low_frozen hb1 (by (try simp only [World.size_alloc]); omega) (by go_simp)
  have hB1_1 : HasPt (t) (w.heap.size + 1) w1 := HasPt.up (by unfold HasPt; go_simp) hb1 (by (try simp only [World.size_alloc]); omega)
  have hB1_2 : HasPap (⟨0, 0, 0, 0, 0, 0, 0, 0, 0, 0⟩ : Pap) (w.heap.size + 1 + 1) w1 := HasPap.up (by unfold HasPap; go_simp) hb1 (by (try simp only [World.size_alloc]); omega)
  have g1_2_0 : w1.frozen? ⟨w.heap.size + 1 + 1, 0, none⟩ = false := low_frozen hb1 (by (try simp only [World.size_alloc]); omega) (by go_simp)
  have g1_2_1 : w1.frozen? ⟨w.heap.size + 1 + 1, 1, none⟩ = false := low_frozen hb1 (by (try simp only [World.size_alloc]); omega) (by go_simp)
  have g1_2_2 : w1.frozen? ⟨w.heap.size + 1 + 1, 2, none⟩ = false := low_frozen hb1 (by (try simp only [World.size_alloc]); omega) (by go_simp)
  have g1_2_3 : w1.frozen? ⟨w.heap.size + 1 + 1, 3, none⟩ = false := low_frozen hb1 (by (try simp only [World.size_alloc]); omega) (by go_simp)
  have g1_2_4 : w1.frozen? ⟨w.heap.size + 1 + 1, 4, none⟩ = false := low_frozen hb1 (by (try simp only [World.size_alloc]); omega) (by go_simp)
  have g1_2_5 : w1.frozen? ⟨w.heap.size + 1 + 1, 5, none⟩ = false := low_frozen hb1 (by (try simp only [World.size_alloc]); omega) (by go_simp)
  have g1_2_6 : w1.frozen? ⟨w.heap.size + 1 + 1, 6, none⟩ = false := low_frozen hb1 (by (try simp only [World.size_alloc]); omega) (by go_simp)
  have g1_2_7 : w1.frozen? ⟨w.heap.size + 1 + 1, 7, none⟩ = false := low_frozen hb1 (by (try simp only [World.size_alloc]); omega) (by go_simp)
  have g1_2_8 : w1.frozen? ⟨w.heap.size + 1 + 1, 8, none⟩ = false := low_frozen hb1 (by (try simp only [World.size_alloc]); omega) (by go_simp)
  have g1_2_9 : w1.frozen? ⟨w.heap.size + 1 + 1, 9, none⟩ = false := low_frozen hb1 (by (try simp only [World.size_alloc]); omega) (by go_simp)
  have C1 : Below w.heap.size w w1 := by
    refine Below.trans ?_ (hb1.mono ?_)
    · repeat' (first | with_reducible exact Below.refl _ _ | with_reducible exact Below.refl _ _ | with_reducible refine set1 ?_ (by omega) _ _ | with_reducible refine Below.alloc ?_ (by (try simp only [World.size_alloc]); omega) _ | with_reducible refine below_drewN ?_ _ | with_reducible refine Below.drew ?_)
    · (try simp only [World.size_alloc]); omega
  clear hb1
  unfold HasPap at hB1_0
  obtain ⟨f1_0_0, f1_0_1, f1_0_2, f1_0_3, f1_0_4, f1_0_5, f1_0_6, f1_0_7, f1_0_8, f1_0_9⟩ := hB1_0
  have z1_0 : w.heap.size < w1.heap.size := World.block_lt_of_cell? _ _ f1_0_0
  unfold HasPt at hB1_1
  obtain ⟨f1_1_0, f1_1_1, f1_1_2⟩ := hB1_1
  have z1_1 : w.heap.size + 1 < w1.heap.size := World.block_lt_of_cell? _ _ f1_1_0
  unfold HasPap at hB1_2
  obtain ⟨f1_2_0, f1_2_1, f1_2_2, f1_2_3, f1_2_4, f1_2_5, f1_2_6, f1_2_7, f1_2_8, f1_2_9⟩ := hB1_2
  have z1_2 : w.heap.size + 1 + 1 < w1.heap.size := World.block_lt_of_cell? _ _ f1_2_0
  have zz1 := C1.size
  go_wp2_with fail
  refine (within_f _ _ _ _ hx).mono ?_
  rintro e w' ⟨rfl, rfl⟩
  go_wp2_with fail
  refine bodyPost_ret (v := .tuple #[zeroP.v, .int .i64 1]) ?_ rfl ⟨rfl, ?_⟩
  · simp [results, Try.results51, go_sem, zeroP, f1_2_0, f1_2_1, f1_2_2, f1_2_3, f1_2_4, f1_2_5, f1_2_6, f1_2_7, f1_2_8, f1_2_9]
  · repeat' (first | with_reducible exact Below.refl _ _ | with_reducible exact C1 | with_reducible refine set1 ?_ (by omega) _ _ | with_reducible refine Below.alloc ?_ (by (try simp only [World.size_alloc, World.size_setCell]); omega) _ | with_reducible refine below_drewN ?_ _ | with_reducible refine Below.drew ?_)
set_option maxHeartbeats 1000000 in
theorem RCal_arg2 (p : Pap) (x y : Int) (t : Pt) (w : World) (h : p.Ok) (ht : t.Ok) (hx : -1 ≤ x ∧ x ≤ 800000) (hy : ¬ (-1 ≤ y ∧ y ≤ 800000)) :
    Calls Try.prog 51 #[p.v, .int .i64 x, .int .i64 y, t.v] w fun e w' => e = .returned (.tuple #[zeroP.v, .int .i64 1]) ∧ Below w.heap.size w w' := by
  go_enter Try.func51, Try.ntmps51
  go_wp2_with fail
  refine (rcheck_ok p t _ h ht).mono ?_
  rintro e w1 ⟨rfl, hb1⟩
  have hB1_0 : HasPap (p) (w.heap.size) w1 := HasPap.up (by unfold HasPap; go_simp) hb1 (by (try simp only [World.size_alloc]); omega)
  have g1_0_0 : w1.frozen? ⟨w.heap.size, 0, none⟩ = false := low_frozen hb1 (by (try simp only [World.size_alloc]); omega) (by go_simp)
  have g1_0_1 : w1.frozen? ⟨w.heap.size, 1, none⟩ = false := low_frozen hb1 (by (try simp only [World.size_alloc]); omega) (by go_simp)
  have g1_0_2 : w1.frozen? ⟨w.heap.size, 2, none⟩ = false := low_frozen hb1 (by (try simp only [World.size_alloc]); omega) (by go_simp)
  have g1_0_3 : w1.frozen? ⟨w.heap.size, 3, none⟩ = false := low_frozen hb1 (by (try simp only [World.size_alloc]); omega) (by go_simp)
  have g1_0_4 : w1.frozen? ⟨w.heap.size, 4, none⟩ = false := low_frozen hb1 (by (try simp only [World.size_alloc]); omega) (by go_simp)
  have g1_0_5 : w1.frozen? ⟨w.heap.size, 5, none⟩ = false := low_frozen hb1 (by (try simp only [World.size_alloc]); omega) (by go_simp)
  have g1_0_6 : w1.frozen? ⟨w.heap.size, 6, none⟩ = false := low_frozen hb1 (by (try simp only [World.size_alloc]); omega) (by go_simp)
  have g1_0_7 : w1.frozen? ⟨w.heap.size, 7, none⟩ = false := low_frozen hb1 (by (try simp only [World.size_alloc]); omega) (by go_simp)
  have g1_0_8 : w1.frozen? ⟨w.heap.size, 8, none⟩ = false := low_frozen hb1 (by (try simp only [World.size_alloc]); omega) (by go_simp)
  have g1_0_9 : w1.frozen? ⟨w.heap.size, 9, none⟩ = false := low_frozen hb1 (by (try simp only [World.size_alloc]); omega) (by go_simp)
  have hB1_1 : HasPt (t) (w.heap.size + 1) w1 := HasPt.up (by unfold HasPt; go_simp) hb1 (by (try simp only [World.size_alloc]); omega)
  have hB1_2 : HasPap (⟨0, 0, 0, 0, 0, 0, 0, 0, 0, 0⟩ : Pap) (w.heap.size + 1 + 1) w1 := HasPap.up (by unfold HasPap; go_simp) hb1 (by (try simp only [World.size_alloc]); omega)
  have g1_2_0 : w1.frozen? ⟨w.heap.size + 1 + 1, 0, none⟩ = false := low_frozen hb1 (by (try simp only [World.size_alloc]); omega) (by go_simp)
  have g1_2_1 : w1.frozen? ⟨w.heap.size + 1 + 1, 1, none⟩ = false := low_frozen hb1 (by (try simp only [World.size_alloc]); omega) (by go_simp)
  have g1_2_2 : w1.frozen? ⟨w.heap.size + 1 + 1, 2, none⟩ = false := low_frozen hb1 (by (try simp only [World.size_alloc]); omega) (by go_simp)
  have g1_2_3 : w1.frozen? ⟨w.heap.size + 1 + 1, 3, none⟩ = false := low_frozen hb1 (by (try simp only [World.size_alloc]); omega) (by go_simp)
  have g1_2_4 : w1.frozen? ⟨w.heap.size + 1 + 1, 4, none⟩ = false := low_frozen hb1 (by (try simp only [World.size_alloc]); omega) (by go_simp)
  have g1_2_5 : w1.frozen? ⟨w.heap.size + 1 + 1, 5, none⟩ = false := low_frozen hb1 (by (try simp only [World.size_alloc]); omega) (by go_simp)
  have g1_2_6 : w1.frozen? ⟨w.heap.size + 1 + 1, 6, none⟩ = false := low_frozen hb1 (by (try simp only [World.size_alloc]); omega) (by go_simp)
  have g1_2_7 : w1.frozen? ⟨w.heap.size + 1 + 1, 7, none⟩ = false := low_frozen hb1 (by (try simp only [World.size_alloc]); omega) (by go_simp)
  have g1_2_8 : w1.frozen? ⟨w.heap.size + 1 + 1, 8, none⟩ = false := low_frozen hb1 (by (try simp only [World.size_alloc]); omega) (by go_simp)
  have g1_2_9 : w1.frozen? ⟨w.heap.size + 1 + 1, 9, none⟩ = false := low_frozen hb1 (by (try simp only [World.size_alloc]); omega) (by go_simp)
  have C1 : Below w.heap.size w w1 := by
    refine Below.trans ?_ (hb1.mono ?_)
    · repeat' (first | with_reducible exact Below.refl _ _ | with_reducible exact Below.refl _ _ | with_reducible refine set1 ?_ (by omega) _ _ | with_reducible refine Below.alloc ?_ (by (try simp only [World.size_alloc]); omega) _ | with_reducible refine below_drewN ?_ _ | with_reducible refine Below.drew ?_)
    · (try simp only [World.size_alloc]); omega
  clear hb1
  unfold HasPap at hB1_0
  obtain ⟨f1_0_0, f1_0_1, f1_0_2, f1_0_3, f1_0_4, f1_0_5, f1_0_6, f1_0_7, f1_0_8, f1_0_9⟩ := hB1_0
  have z1_0 : w.heap.size < w1.heap.size := World.block_lt_of_cell? _ _ f1_0_0
  unfold HasPt at hB1_1
  obtain ⟨f1_1_0, f1_1_1, f1_1_2⟩ := hB1_1
  have z1_1 : w.heap.size + 1 < w1.heap.size := World.block_lt_of_cell? _ _ f1_1_0
  unfold HasPap at hB1_2
  obtain ⟨f1_2_0, f1_2_1, f1_2_2, f1_2_3, f1_2_4, f1_2_5, f1_2_6, f1_2_7, f1_2_8, f1_2_9⟩ := hB1_2
  have z1_2 : w.heap.size + 1 + 1 < w1.heap.size := World.block_lt_of_cell? _ _ f1_2_0
  have zz1 := C1.size
  go_wp2_with fail
  refine (within_t _ _ _ _ hx).mono ?_
  rintro e w' ⟨rfl, rfl⟩
  go_wp2_with fail
  refine (within_f _ _ _ _ hy).mono ?_
  rintro e w' ⟨rfl, rfl⟩
  go_wp2_with fail
  refine bodyPost_ret (v := .tuple #[zeroP.v, .int .i64 1]) ?_ rfl ⟨rfl, ?_⟩
  · simp [results, Try.results51, go_sem, zeroP, f1_2_0, f1_2_1, f1_2_2, f1_2_3, f1_2_4, f1_2_5, f1_2_6, f1_2_7, f1_2_8, f1_2_9]
  · repeat' (first | with_reducible exact Below.refl _ _ | with_reducible exact C1 | with_reducible refine set1 ?_ (by omega) _ _ | with_reducible refine Below.alloc ?_ (by (try simp only [World.size_alloc, World.size_setCell]); omega) _ | with_reducible refine below_drewN ?_ _ | with_reducible refine Below.drew ?_)
set_option maxRecDepth 100000 in
set_option maxHeartbeats 2000000 in
theorem RCal_none1 (p : Pap) (x y : Int) (t : Pt) (w : World) (h : p.Ok) (ht : t.Ok) (hx : -1 ≤ x ∧ x ≤ 800000) (hy : -1 ≤ y ∧ y ≤ 800000) (hq : knLo p.al x t.x t.half > knHi p.ah x t.x t.half) :
    Calls Try.prog 51 #[p.v, .int .i64 x, .int .i64 y, t.v] w fun e w' => e = .returned (.tuple #[zeroP.v, .int .i64 3]) ∧ Below w.heap.size w w' := by
  have d1 : decide (knLo p.al x t.x t.half > knHi p.ah x t.x t.half) = true := by simp; omega
  have hh := ht.half
  have htx := ht.x
  have hty := ht.y
  have hs1 : 0 ≤ p.al := by have := h.along; omega
  have hs2 : 0 ≤ p.cl := by have := h.across; omega
  go_enter Try.func51, Try.ntmps51
  go_wp2_with fail
  refine (rcheck_ok p t _ h ht).mono ?_
  rintro e w1 ⟨rfl, hb1⟩
  have hB1_0 : HasPap (p) (w.heap.size) w1 := HasPap.up (by unfold HasPap; go_simp) hb1 (by (try simp only [World.size_alloc]); omega)
  have g1_0_0 : w1.frozen? ⟨w.heap.size, 0, none⟩ = false := low_frozen hb1 (by (try simp only [World.size_alloc]); omega) (by go_simp)
  have g1_0_1 : w1.frozen? ⟨w.heap.size, 1, none⟩ = false := low_frozen hb1 (by (try simp only [World.size_alloc]); omega) (by go_simp)
  have g1_0_2 : w1.frozen? ⟨w.heap.size, 2, none⟩ = false := low_frozen hb1 (by (try simp only [World.size_alloc]); omega) (by go_simp)
  have g1_0_3 : w1.frozen? ⟨w.heap.size, 3, none⟩ = false := low_frozen hb1 (by (try simp only [World.size_alloc]); omega) (by go_simp)
  have g1_0_4 : w1.frozen? ⟨w.heap.size, 4, none⟩ = false := low_frozen hb1 (by (try simp only [World.size_alloc]); omega) (by go_simp)
  have g1_0_5 : w1.frozen? ⟨w.heap.size, 5, none⟩ = false := low_frozen hb1 (by (try simp only [World.size_alloc]); omega) (by go_simp)
  have g1_0_6 : w1.frozen? ⟨w.heap.size, 6, none⟩ = false := low_frozen hb1 (by (try simp only [World.size_alloc]); omega) (by go_simp)
  have g1_0_7 : w1.frozen? ⟨w.heap.size, 7, none⟩ = false := low_frozen hb1 (by (try simp only [World.size_alloc]); omega) (by go_simp)
  have g1_0_8 : w1.frozen? ⟨w.heap.size, 8, none⟩ = false := low_frozen hb1 (by (try simp only [World.size_alloc]); omega) (by go_simp)
  have g1_0_9 : w1.frozen? ⟨w.heap.size, 9, none⟩ = false := low_frozen hb1 (by (try simp only [World.size_alloc]); omega) (by go_simp)
  have hB1_1 : HasPt (t) (w.heap.size + 1) w1 := HasPt.up (by unfold HasPt; go_simp) hb1 (by (try simp only [World.size_alloc]); omega)
  have hB1_2 : HasPap (⟨0, 0, 0, 0, 0, 0, 0, 0, 0, 0⟩ : Pap) (w.heap.size + 1 + 1) w1 := HasPap.up (by unfold HasPap; go_simp) hb1 (by (try simp only [World.size_alloc]); omega)
  have g1_2_0 : w1.frozen? ⟨w.heap.size + 1 + 1, 0, none⟩ = false := low_frozen hb1 (by (try simp only [World.size_alloc]); omega) (by go_simp)
  have g1_2_1 : w1.frozen? ⟨w.heap.size + 1 + 1, 1, none⟩ = false := low_frozen hb1 (by (try simp only [World.size_alloc]); omega) (by go_simp)
  have g1_2_2 : w1.frozen? ⟨w.heap.size + 1 + 1, 2, none⟩ = false := low_frozen hb1 (by (try simp only [World.size_alloc]); omega) (by go_simp)
  have g1_2_3 : w1.frozen? ⟨w.heap.size + 1 + 1, 3, none⟩ = false := low_frozen hb1 (by (try simp only [World.size_alloc]); omega) (by go_simp)
  have g1_2_4 : w1.frozen? ⟨w.heap.size + 1 + 1, 4, none⟩ = false := low_frozen hb1 (by (try simp only [World.size_alloc]); omega) (by go_simp)
  have g1_2_5 : w1.frozen? ⟨w.heap.size + 1 + 1, 5, none⟩ = false := low_frozen hb1 (by (try simp only [World.size_alloc]); omega) (by go_simp)
  have g1_2_6 : w1.frozen? ⟨w.heap.size + 1 + 1, 6, none⟩ = false := low_frozen hb1 (by (try simp only [World.size_alloc]); omega) (by go_simp)
  have g1_2_7 : w1.frozen? ⟨w.heap.size + 1 + 1, 7, none⟩ = false := low_frozen hb1 (by (try simp only [World.size_alloc]); omega) (by go_simp)
  have g1_2_8 : w1.frozen? ⟨w.heap.size + 1 + 1, 8, none⟩ = false := low_frozen hb1 (by (try simp only [World.size_alloc]); omega) (by go_simp)
  have g1_2_9 : w1.frozen? ⟨w.heap.size + 1 + 1, 9, none⟩ = false := low_frozen hb1 (by (try simp only [World.size_alloc]); omega) (by go_simp)
  have C1 : Below w.heap.size w w1 := by
    refine Below.trans ?_ (hb1.mono ?_)
    · repeat' (first | with_reducible exact Below.refl _ _ | with_reducible exact Below.refl _ _ | with_reducible refine set1 ?_ (by omega) _ _ | with_reducible refine Below.alloc ?_ (by (try simp only [World.size_alloc]); omega) _ | with_reducible refine below_drewN ?_ _ | with_reducible refine Below.drew ?_)
    · (try simp only [World.size_alloc]); omega
  clear hb1
  unfold HasPap at hB1_0
  obtain ⟨f1_0_0, f1_0_1, f1_0_2, f1_0_3, f1_0_4, f1_0_5, f1_0_6, f1_0_7, f1_0_8, f1_0_9⟩ := hB1_0
  have z1_0 : w.heap.size < w1.heap.size := World.block_lt_of_cell? _ _ f1_0_0
  unfold HasPt at hB1_1
  obtain ⟨f1_1_0, f1_1_1, f1_1_2⟩ := hB1_1
  have z1_1 : w.heap.size + 1 < w1.heap.size := World.block_lt_of_cell? _ _ f1_1_0
  unfold HasPap at hB1_2
  obtain ⟨f1_2_0, f1_2_1, f1_2_2, f1_2_3, f1_2_4, f1_2_5, f1_2_6, f1_2_7, f1_2_8, f1_2_9⟩ := hB1_2
  have z1_2 : w.heap.size + 1 + 1 < w1.heap.size := World.block_lt_of_cell? _ _ f1_2_0
  have zz1 := C1.size
  go_wp2_with fail
  refine (within_t _ _ _ _ hx).mono ?_
  rintro e w' ⟨rfl, rfl⟩
  go_wp2_with fail
  refine (within_t _ _ _ _ hy).mono ?_
  rintro e w' ⟨rfl, rfl⟩
  go_wp2_with fail
  refine (known_any _ _ _ _ _ _ hs1 hx htx hh).mono ?_
  rintro e w2 ⟨rfl, hb2⟩
  have hB2_0 : HasPap (p) (w.heap.size) w2 := HasPap.up (by unfold HasPap; go_simp) hb2 (by (try simp only [World.size_alloc]); omega)
  have g2_0_0 : w2.frozen? ⟨w.heap.size, 0, none⟩ = false := low_frozen hb2 (by (try simp only [World.size_alloc]); omega) (by go_simp)
  have g2_0_1 : w2.frozen? ⟨w.heap.size, 1, none⟩ = false := low_frozen hb2 (by (try simp only [World.size_alloc]); omega) (by go_simp)
  have g2_0_2 : w2.frozen? ⟨w.heap.size, 2, none⟩ = false := low_frozen hb2 (by (try simp only [World.size_alloc]); omega) (by go_simp)
  have g2_0_3 : w2.frozen? ⟨w.heap.size, 3, none⟩ = false := low_frozen hb2 (by (try simp only [World.size_alloc]); omega) (by go_simp)
  have g2_0_4 : w2.frozen? ⟨w.heap.size, 4, none⟩ = false := low_frozen hb2 (by (try simp only [World.size_alloc]); omega) (by go_simp)
  have g2_0_5 : w2.frozen? ⟨w.heap.size, 5, none⟩ = false := low_frozen hb2 (by (try simp only [World.size_alloc]); omega) (by go_simp)
  have g2_0_6 : w2.frozen? ⟨w.heap.size, 6, none⟩ = false := low_frozen hb2 (by (try simp only [World.size_alloc]); omega) (by go_simp)
  have g2_0_7 : w2.frozen? ⟨w.heap.size, 7, none⟩ = false := low_frozen hb2 (by (try simp only [World.size_alloc]); omega) (by go_simp)
  have g2_0_8 : w2.frozen? ⟨w.heap.size, 8, none⟩ = false := low_frozen hb2 (by (try simp only [World.size_alloc]); omega) (by go_simp)
  have g2_0_9 : w2.frozen? ⟨w.heap.size, 9, none⟩ = false := low_frozen hb2 (by (try simp only [World.size_alloc]); omega) (by go_simp)
  have hB2_1 : HasPt (t) (w.heap.size + 1) w2 := HasPt.up (by unfold HasPt; go_simp) hb2 (by (try simp only [World.size_alloc]); omega)
  have hB2_2 : HasPap (⟨0, 0, 0, 0, 0, 0, 0, 0, 0, 0⟩ : Pap) (w.heap.size + 1 + 1) w2 := HasPap.up (by unfold HasPap; go_simp) hb2 (by (try simp only [World.size_alloc]); omega)
  have g2_2_0 : w2.frozen? ⟨w.heap.size + 1 + 1, 0, none⟩ = false := low_frozen hb2 (by (try simp only [World.size_alloc]); omega) (by go_simp)
  have g2_2_1 : w2.frozen? ⟨w.heap.size + 1 + 1, 1, none⟩ = false := low_frozen hb2 (by (try simp only [World.size_alloc]); omega) (by go_simp)
  have g2_2_2 : w2.frozen? ⟨w.heap.size + 1 + 1, 2, none⟩ = false := low_frozen hb2 (by (try simp only [World.size_alloc]); omega) (by go_simp)
  have g2_2_3 : w2.frozen? ⟨w.heap.size + 1 + 1, 3, none⟩ = false := low_frozen hb2 (by (try simp only [World.size_alloc]); omega) (by go_simp)
  have g2_2_4 : w2.frozen? ⟨w.heap.size + 1 + 1, 4, none⟩ = false := low_frozen hb2 (by (try simp only [World.size_alloc]); omega) (by go_simp)
  have g2_2_5 : w2.frozen? ⟨w.heap.size + 1 + 1, 5, none⟩ = false := low_frozen hb2 (by (try simp only [World.size_alloc]); omega) (by go_simp)
  have g2_2_6 : w2.frozen? ⟨w.heap.size + 1 + 1, 6, none⟩ = false := low_frozen hb2 (by (try simp only [World.size_alloc]); omega) (by go_simp)
  have g2_2_7 : w2.frozen? ⟨w.heap.size + 1 + 1, 7, none⟩ = false := low_frozen hb2 (by (try simp only [World.size_alloc]); omega) (by go_simp)
  have g2_2_8 : w2.frozen? ⟨w.heap.size + 1 + 1, 8, none⟩ = false := low_frozen hb2 (by (try simp only [World.size_alloc]); omega) (by go_simp)
  have g2_2_9 : w2.frozen? ⟨w.heap.size + 1 + 1, 9, none⟩ = false := low_frozen hb2 (by (try simp only [World.size_alloc]); omega) (by go_simp)
  have hB2_3 : HasPap (p) (w1.heap.size) w2 := HasPap.up (by unfold HasPap; go_simp) hb2 (by (try simp only [World.size_alloc]); omega)
  have g2_3_0 : w2.frozen? ⟨w1.heap.size, 0, none⟩ = false := low_frozen hb2 (by (try simp only [World.size_alloc]); omega) (by go_simp)
  have g2_3_1 : w2.frozen? ⟨w1.heap.size, 1, none⟩ = false := low_frozen hb2 (by (try simp only [World.size_alloc]); omega) (by go_simp)
  have g2_3_2 : w2.frozen? ⟨w1.heap.size, 2, none⟩ = false := low_frozen hb2 (by (try simp only [World.size_alloc]); omega) (by go_simp)
  have g2_3_3 : w2.frozen? ⟨w1.heap.size, 3, none⟩ = false := low_frozen hb2 (by (try simp only [World.size_alloc]); omega) (by go_simp)
  have g2_3_4 : w2.frozen? ⟨w1.heap.size, 4, none⟩ = false := low_frozen hb2 (by (try simp only [World.size_alloc]); omega) (by go_simp)
  have g2_3_5 : w2.frozen? ⟨w1.heap.size, 5, none⟩ = false := low_frozen hb2 (by (try simp only [World.size_alloc]); omega) (by go_simp)
  have g2_3_6 : w2.frozen? ⟨w1.heap.size, 6, none⟩ = false := low_frozen hb2 (by (try simp only [World.size_alloc]); omega) (by go_simp)
  have g2_3_7 : w2.frozen? ⟨w1.heap.size, 7, none⟩ = false := low_frozen hb2 (by (try simp only [World.size_alloc]); omega) (by go_simp)
  have g2_3_8 : w2.frozen? ⟨w1.heap.size, 8, none⟩ = false := low_frozen hb2 (by (try simp only [World.size_alloc]); omega) (by go_simp)
  have g2_3_9 : w2.frozen? ⟨w1.heap.size, 9, none⟩ = false := low_frozen hb2 (by (try simp only [World.size_alloc]); omega) (by go_simp)
  have C2 : Below w.heap.size w w2 := by
    refine Below.trans ?_ (hb2.mono ?_)
    · repeat' (first | with_reducible exact Below.refl _ _ | with_reducible exact C1 | with_reducible refine set1 ?_ (by omega) _ _ | with_reducible refine Below.alloc ?_ (by (try simp only [World.size_alloc, World.size_setCell]); omega) _ | with_reducible refine below_drewN ?_ _ | with_reducible refine Below.drew ?_)
    · (try simp only [World.size_alloc]); omega
  clear g1_0_0 g1_0_1 g1_0_2 g1_0_3 g1_0_4 g1_0_5 g1_0_6 g1_0_7 g1_0_8 g1_0_9 g1_2_0 g1_2_1 g1_2_2 g1_2_3 g1_2_4 g1_2_5 g1_2_6 g1_2_7 g1_2_8 g1_2_9 f1_0_0 f1_0_1 f1_0_2 f1_0_3 f1_0_4 f1_0_5 f1_0_6 f1_0_7 f1_0_8 f1_0_9 f1_1_0 f1_1_1 f1_1_2 f1_2_0 f1_2_1 f1_2_2 f1_2_3 f1_2_4 f1_2_5 f1_2_6 f1_2_7 f1_2_8 f1_2_9 hb2
  unfold HasPap at hB2_0
  obtain ⟨f2_0_0, f2_0_1, f2_0_2, f2_0_3, f2_0_4, f2_0_5, f2_0_6, f2_0_7, f2_0_8, f2_0_9⟩ := hB2_0
  have z2_0 : w.heap.size < w2.heap.size := World.block_lt_of_cell? _ _ f2_0_0
  unfold HasPt at hB2_1
  obtain ⟨f2_1_0, f2_1_1, f2_1_2⟩ := hB2_1
  have z2_1 : w.heap.size + 1 < w2.heap.size := World.block_lt_of_cell? _ _ f2_1_0
  unfold HasPap at hB2_2
  obtain ⟨f2_2_0, f2_2_1, f2_2_2, f2_2_3, f2_2_4, f2_2_5, f2_2_6, f2_2_7, f2_2_8, f2_2_9⟩ := hB2_2
  have z2_2 : w.heap.size + 1 + 1 < w2.heap.size := World.block_lt_of_cell? _ _ f2_2_0
  unfold HasPap at hB2_3
  obtain ⟨f2_3_0, f2_3_1, f2_3_2, f2_3_3, f2_3_4, f2_3_5, f2_3_6, f2_3_7, f2_3_8, f2_3_9⟩ := hB2_3
  have z2_3 : w1.heap.size < w2.heap.size := World.block_lt_of_cell? _ _ f2_3_0
  have zz2 := C2.size
  go_wp2_with fail
  refine (known_any _ _ _ _ _ _ hs2 hy hty hh).mono ?_
  rintro e w3 ⟨rfl, hb3⟩
  have hB3_0 : HasPap (p) (w.heap.size) w3 := HasPap.up (by unfold HasPap; go_simp) hb3 (by (try simp only [World.size_setCell]); omega)
  have g3_0_0 : w3.frozen? ⟨w.heap.size, 0, none⟩ = false := low_frozen hb3 (by (try simp only [World.size_setCell]); omega) (by go_simp)
  have g3_0_1 : w3.frozen? ⟨w.heap.size, 1, none⟩ = false := low_frozen hb3 (by (try simp only [World.size_setCell]); omega) (by go_simp)
  have g3_0_2 : w3.frozen? ⟨w.heap.size, 2, none⟩ = false := low_frozen hb3 (by (try simp only [World.size_setCell]); omega) (by go_simp)
  have g3_0_3 : w3.frozen? ⟨w.heap.size, 3, none⟩ = false := low_frozen hb3 (by (try simp only [World.size_setCell]); omega) (by go_simp)
  have g3_0_4 : w3.frozen? ⟨w.heap.size, 4, none⟩ = false := low_frozen hb3 (by (try simp only [World.size_setCell]); omega) (by go_simp)
  have g3_0_5 : w3.frozen? ⟨w.heap.size, 5, none⟩ = false := low_frozen hb3 (by (try simp only [World.size_setCell]); omega) (by go_simp)
  have g3_0_6 : w3.frozen? ⟨w.heap.size, 6, none⟩ = false := low_frozen hb3 (by (try simp only [World.size_setCell]); omega) (by go_simp)
  have g3_0_7 : w3.frozen? ⟨w.heap.size, 7, none⟩ = false := low_frozen hb3 (by (try simp only [World.size_setCell]); omega) (by go_simp)
  have g3_0_8 : w3.frozen? ⟨w.heap.size, 8, none⟩ = false := low_frozen hb3 (by (try simp only [World.size_setCell]); omega) (by go_simp)
  have g3_0_9 : w3.frozen? ⟨w.heap.size, 9, none⟩ = false := low_frozen hb3 (by (try simp only [World.size_setCell]); omega) (by go_simp)
  have hB3_1 : HasPt (t) (w.heap.size + 1) w3 := HasPt.up (by unfold HasPt; go_simp) hb3 (by (try simp only [World.size_setCell]); omega)
  have hB3_2 : HasPap (⟨0, 0, 0, 0, 0, 0, 0, 0, 0, 0⟩ : Pap) (w.heap.size + 1 + 1) w3 := HasPap.up (by unfold HasPap; go_simp) hb3 (by (try simp only [World.size_setCell]); omega)
  have g3_2_0 : w3.frozen? ⟨w.heap.size + 1 + 1, 0, none⟩ = false := low_frozen hb3 (by (try simp only [World.size_setCell]); omega) (by go_simp)
  have g3_2_1 : w3.frozen? ⟨w.heap.size + 1 + 1, 1, none⟩ = false := low_frozen hb3 (by (try simp only [World.size_setCell]); omega) (by go_simp)
  have g3_2_2 : w3.frozen? ⟨w.heap.size + 1 + 1, 2, none⟩ = false := low_frozen hb3 (by (try simp only [World.size_setCell]); omega) (by go_simp)
  have g3_2_3 : w3.frozen? ⟨w.heap.size + 1 + 1, 3, none⟩ = false := low_frozen hb3 (by (try simp only [World.size_setCell]); omega) (by go_simp)
  have g3_2_4 : w3.frozen? ⟨w.heap.size + 1 + 1, 4, none⟩ = false := low_frozen hb3 (by (try simp only [World.size_setCell]); omega) (by go_simp)
  have g3_2_5 : w3.frozen? ⟨w.heap.size + 1 + 1, 5, none⟩ = false := low_frozen hb3 (by (try simp only [World.size_setCell]); omega) (by go_simp)
  have g3_2_6 : w3.frozen? ⟨w.heap.size + 1 + 1, 6, none⟩ = false := low_frozen hb3 (by (try simp only [World.size_setCell]); omega) (by go_simp)
  have g3_2_7 : w3.frozen? ⟨w.heap.size + 1 + 1, 7, none⟩ = false := low_frozen hb3 (by (try simp only [World.size_setCell]); omega) (by go_simp)
  have g3_2_8 : w3.frozen? ⟨w.heap.size + 1 + 1, 8, none⟩ = false := low_frozen hb3 (by (try simp only [World.size_setCell]); omega) (by go_simp)
  have g3_2_9 : w3.frozen? ⟨w.heap.size + 1 + 1, 9, none⟩ = false := low_frozen hb3 (by (try simp only [World.size_setCell]); omega) (by go_simp)
  have hB3_3 : HasPap (⟨p.pitch, p.height, p.radius, p.low, p.high, p.cols, knLo p.al x t.x t.half, knHi p.ah x t.x t.half, p.cl, p.ch⟩ : Pap) (w1.heap.size) w3 := HasPap.up (by unfold HasPap; go_simp) hb3 (by (try simp only [World.size_setCell]); omega)
  have g3_3_0 : w3.frozen? ⟨w1.heap.size, 0, none⟩ = false := low_frozen hb3 (by (try simp only [World.size_setCell]); omega) (by go_simp)
  have g3_3_1 : w3.frozen? ⟨w1.heap.size, 1, none⟩ = false := low_frozen hb3 (by (try simp only [World.size_setCell]); omega) (by go_simp)
  have g3_3_2 : w3.frozen? ⟨w1.heap.size, 2, none⟩ = false := low_frozen hb3 (by (try simp only [World.size_setCell]); omega) (by go_simp)
  have g3_3_3 : w3.frozen? ⟨w1.heap.size, 3, none⟩ = false := low_frozen hb3 (by (try simp only [World.size_setCell]); omega) (by go_simp)
  have g3_3_4 : w3.frozen? ⟨w1.heap.size, 4, none⟩ = false := low_frozen hb3 (by (try simp only [World.size_setCell]); omega) (by go_simp)
  have g3_3_5 : w3.frozen? ⟨w1.heap.size, 5, none⟩ = false := low_frozen hb3 (by (try simp only [World.size_setCell]); omega) (by go_simp)
  have g3_3_6 : w3.frozen? ⟨w1.heap.size, 6, none⟩ = false := low_frozen hb3 (by (try simp only [World.size_setCell]); omega) (by go_simp)
  have g3_3_7 : w3.frozen? ⟨w1.heap.size, 7, none⟩ = false := low_frozen hb3 (by (try simp only [World.size_setCell]); omega) (by go_simp)
  have g3_3_8 : w3.frozen? ⟨w1.heap.size, 8, none⟩ = false := low_frozen hb3 (by (try simp only [World.size_setCell]); omega) (by go_simp)
  have g3_3_9 : w3.frozen? ⟨w1.heap.size, 9, none⟩ = false := low_frozen hb3 (by (try simp only [World.size_setCell]); omega) (by go_simp)
  have C3 : Below w.heap.size w w3 := by
    refine Below.trans ?_ (hb3.mono ?_)
    · repeat' (first | with_reducible exact Below.refl _ _ | with_reducible exact C2 | with_reducible refine set1 ?_ (by omega) _ _ | with_reducible refine Below.alloc ?_ (by (try simp only [World.size_alloc, World.size_setCell]); omega) _ | with_reducible refine below_drewN ?_ _ | with_reducible refine Below.drew ?_)
    · (try simp only [World.size_setCell]); omega
  clear g2_0_0 g2_0_1 g2_0_2 g2_0_3 g2_0_4 g2_0_5 g2_0_6 g2_0_7 g2_0_8 g2_0_9 g2_2_0 g2_2_1 g2_2_2 g2_2_3 g2_2_4 g2_2_5 g2_2_6 g2_2_7 g2_2_8 g2_2_9 g2_3_0 g2_3_1 g2_3_2 g2_3_3 g2_3_4 g2_3_5 g2_3_6 g2_3_7 g2_3_8 g2_3_9 f2_0_0 f2_0_1 f2_0_2 f2_0_3 f2_0_4 f2_0_5 f2_0_6 f2_0_7 f2_0_8 f2_0_9 f2_1_0 f2_1_1 f2_1_2 f2_2_0 f2_2_1 f2_2_2 f2_2_3 f2_2_4 f2_2_5 f2_2_6 f2_2_7 f2_2_8 f2_2_9 f2_3_0 f2_3_1 f2_3_2 f2_3_3 f2_3_4 f2_3_5 f2_3_6 f2_3_7 f2_3_8 f2_3_9 hb3
  unfold HasPap at hB3_0
  obtain ⟨f3_0_0, f3_0_1, f3_0_2, f3_0_3, f3_0_4, f3_0_5, f3_0_6, f3_0_7, f3_0_8, f3_0_9⟩ := hB3_0
  have z3_0 : w.heap.size < w3.heap.size := World.block_lt_of_cell? _ _ f3_0_0
  unfold HasPt at hB3_1
  obtain ⟨f3_1_0, f3_1_1, f3_1_2⟩ := hB3_1
  have z3_1 : w.heap.size + 1 < w3.heap.size := World.block_lt_of_cell? _ _ f3_1_0
  unfold HasPap at hB3_2
  obtain ⟨f3_2_0, f3_2_1, f3_2_2, f3_2_3, f3_2_4, f3_2_5, f3_2_6, f3_2_7, f3_2_8, f3_2_9⟩ := hB3_2
  have z3_2 : w.heap.size + 1 + 1 < w3.heap.size := World.block_lt_of_cell? _ _ f3_2_0
  unfold HasPap at hB3_3
  obtain ⟨f3_3_0, f3_3_1, f3_3_2, f3_3_3, f3_3_4, f3_3_5, f3_3_6, f3_3_7, f3_3_8, f3_3_9⟩ := hB3_3
  have z3_3 : w1.heap.size < w3.heap.size := World.block_lt_of_cell? _ _ f3_3_0
  have zz3 := C3.size
  go_wp2_with fail
  refine bodyPost_ret (v := .tuple #[zeroP.v, .int .i64 3]) ?_ rfl ⟨rfl, ?_⟩
  · simp [results, Try.results51, go_sem, zeroP, f3_2_0, f3_2_1, f3_2_2, f3_2_3, f3_2_4, f3_2_5, f3_2_6, f3_2_7, f3_2_8, f3_2_9]
  · repeat' (first | with_reducible exact Below.refl _ _ | with_reducible exact C3 | with_reducible refine set1 ?_ (by omega) _ _ | with_reducible refine Below.alloc ?_ (by (try simp only [World.size_alloc, World.size_setCell]); omega) _ | with_reducible refine below_drewN ?_ _ | with_reducible refine Below.drew ?_)
set_option maxRecDepth 100000 in
set_option maxHeartbeats 2000000 in
theorem RCal_none2 (p : Pap) (x y : Int) (t : Pt) (w : World) (h : p.Ok) (ht : t.Ok) (hx : -1 ≤ x ∧ x ≤ 800000) (hy : -1 ≤ y ∧ y ≤ 800000) (hq : knLo p.al x t.x t.half ≤ knHi p.ah x t.x t.half) (hr : knLo p.cl y t.y t.half > knHi p.ch y t.y t.half) :
    Calls Try.prog 51 #[p.v, .int .i64 x, .int .i64 y, t.v] w fun e w' => e = .returned (.tuple #[zeroP.v, .int .i64 3]) ∧ Below w.heap.size w w' := by
  have d1 : decide (knLo p.al x t.x t.half > knHi p.ah x t.x t.half) = false := by simp; omega
  have d2 : decide (knLo p.cl y t.y t.half > knHi p.ch y t.y t.half) = true := by simp; omega
  have hh := ht.half
  have htx := ht.x
  have hty := ht.y
  have hs1 : 0 ≤ p.al := by have := h.along; omega
  have hs2 : 0 ≤ p.cl := by have := h.across; omega
  go_enter Try.func51, Try.ntmps51
  go_wp2_with fail
  refine (rcheck_ok p t _ h ht).mono ?_
  rintro e w1 ⟨rfl, hb1⟩
  have hB1_0 : HasPap (p) (w.heap.size) w1 := HasPap.up (by unfold HasPap; go_simp) hb1 (by (try simp only [World.size_alloc]); omega)
  have g1_0_0 : w1.frozen? ⟨w.heap.size, 0, none⟩ = false := low_frozen hb1 (by (try simp only [World.size_alloc]); omega) (by go_simp)
  have g1_0_1 : w1.frozen? ⟨w.heap.size, 1, none⟩ = false := low_frozen hb1 (by (try simp only [World.size_alloc]); omega) (by go_simp)
  have g1_0_2 : w1.frozen? ⟨w.heap.size, 2, none⟩ = false := low_frozen hb1 (by (try simp only [World.size_alloc]); omega) (by go_simp)
  have g1_0_3 : w1.frozen? ⟨w.heap.size, 3, none⟩ = false := low_frozen hb1 (by (try simp only [World.size_alloc]); omega) (by go_simp)
  have g1_0_4 : w1.frozen? ⟨w.heap.size, 4, none⟩ = false := low_frozen hb1 (by (try simp only [World.size_alloc]); omega) (by go_simp)
  have g1_0_5 : w1.frozen? ⟨w.heap.size, 5, none⟩ = false := low_frozen hb1 (by (try simp only [World.size_alloc]); omega) (by go_simp)
  have g1_0_6 : w1.frozen? ⟨w.heap.size, 6, none⟩ = false := low_frozen hb1 (by (try simp only [World.size_alloc]); omega) (by go_simp)
  have g1_0_7 : w1.frozen? ⟨w.heap.size, 7, none⟩ = false := low_frozen hb1 (by (try simp only [World.size_alloc]); omega) (by go_simp)
  have g1_0_8 : w1.frozen? ⟨w.heap.size, 8, none⟩ = false := low_frozen hb1 (by (try simp only [World.size_alloc]); omega) (by go_simp)
  have g1_0_9 : w1.frozen? ⟨w.heap.size, 9, none⟩ = false := low_frozen hb1 (by (try simp only [World.size_alloc]); omega) (by go_simp)
  have hB1_1 : HasPt (t) (w.heap.size + 1) w1 := HasPt.up (by unfold HasPt; go_simp) hb1 (by (try simp only [World.size_alloc]); omega)
  have hB1_2 : HasPap (⟨0, 0, 0, 0, 0, 0, 0, 0, 0, 0⟩ : Pap) (w.heap.size + 1 + 1) w1 := HasPap.up (by unfold HasPap; go_simp) hb1 (by (try simp only [World.size_alloc]); omega)
  have g1_2_0 : w1.frozen? ⟨w.heap.size + 1 + 1, 0, none⟩ = false := low_frozen hb1 (by (try simp only [World.size_alloc]); omega) (by go_simp)
  have g1_2_1 : w1.frozen? ⟨w.heap.size + 1 + 1, 1, none⟩ = false := low_frozen hb1 (by (try simp only [World.size_alloc]); omega) (by go_simp)
  have g1_2_2 : w1.frozen? ⟨w.heap.size + 1 + 1, 2, none⟩ = false := low_frozen hb1 (by (try simp only [World.size_alloc]); omega) (by go_simp)
  have g1_2_3 : w1.frozen? ⟨w.heap.size + 1 + 1, 3, none⟩ = false := low_frozen hb1 (by (try simp only [World.size_alloc]); omega) (by go_simp)
  have g1_2_4 : w1.frozen? ⟨w.heap.size + 1 + 1, 4, none⟩ = false := low_frozen hb1 (by (try simp only [World.size_alloc]); omega) (by go_simp)
  have g1_2_5 : w1.frozen? ⟨w.heap.size + 1 + 1, 5, none⟩ = false := low_frozen hb1 (by (try simp only [World.size_alloc]); omega) (by go_simp)
  have g1_2_6 : w1.frozen? ⟨w.heap.size + 1 + 1, 6, none⟩ = false := low_frozen hb1 (by (try simp only [World.size_alloc]); omega) (by go_simp)
  have g1_2_7 : w1.frozen? ⟨w.heap.size + 1 + 1, 7, none⟩ = false := low_frozen hb1 (by (try simp only [World.size_alloc]); omega) (by go_simp)
  have g1_2_8 : w1.frozen? ⟨w.heap.size + 1 + 1, 8, none⟩ = false := low_frozen hb1 (by (try simp only [World.size_alloc]); omega) (by go_simp)
  have g1_2_9 : w1.frozen? ⟨w.heap.size + 1 + 1, 9, none⟩ = false := low_frozen hb1 (by (try simp only [World.size_alloc]); omega) (by go_simp)
  have C1 : Below w.heap.size w w1 := by
    refine Below.trans ?_ (hb1.mono ?_)
    · repeat' (first | with_reducible exact Below.refl _ _ | with_reducible exact Below.refl _ _ | with_reducible refine set1 ?_ (by omega) _ _ | with_reducible refine Below.alloc ?_ (by (try simp only [World.size_alloc]); omega) _ | with_reducible refine below_drewN ?_ _ | with_reducible refine Below.drew ?_)
    · (try simp only [World.size_alloc]); omega
  clear hb1
  unfold HasPap at hB1_0
  obtain ⟨f1_0_0, f1_0_1, f1_0_2, f1_0_3, f1_0_4, f1_0_5, f1_0_6, f1_0_7, f1_0_8, f1_0_9⟩ := hB1_0
  have z1_0 : w.heap.size < w1.heap.size := World.block_lt_of_cell? _ _ f1_0_0
  unfold HasPt at hB1_1
  obtain ⟨f1_1_0, f1_1_1, f1_1_2⟩ := hB1_1
  have z1_1 : w.heap.size + 1 < w1.heap.size := World.block_lt_of_cell? _ _ f1_1_0
  unfold HasPap at hB1_2
  obtain ⟨f1_2_0, f1_2_1, f1_2_2, f1_2_3, f1_2_4, f1_2_5, f1_2_6, f1_2_7, f1_2_8, f1_2_9⟩ := hB1_2
  have z1_2 : w.heap.size + 1 + 1 < w1.heap.size := World.block_lt_of_cell? _ _ f1_2_0
  have zz1 := C1.size
  go_wp2_with fail
  refine (within_t _ _ _ _ hx).mono ?_
  rintro e w' ⟨rfl, rfl⟩
  go_wp2_with fail
  refine (within_t _ _ _ _ hy).mono ?_
  rintro e w' ⟨rfl, rfl⟩
  go_wp2_with fail
  refine (known_any _ _ _ _ _ _ hs1 hx htx hh).mono ?_
  rintro e w2 ⟨rfl, hb2⟩
  have hB2_0 : HasPap (p) (w.heap.size) w2 := HasPap.up (by unfold HasPap; go_simp) hb2 (by (try simp only [World.size_alloc]); omega)
  have g2_0_0 : w2.frozen? ⟨w.heap.size, 0, none⟩ = false := low_frozen hb2 (by (try simp only [World.size_alloc]); omega) (by go_simp)
  have g2_0_1 : w2.frozen? ⟨w.heap.size, 1, none⟩ = false := low_frozen hb2 (by (try simp only [World.size_alloc]); omega) (by go_simp)
  have g2_0_2 : w2.frozen? ⟨w.heap.size, 2, none⟩ = false := low_frozen hb2 (by (try simp only [World.size_alloc]); omega) (by go_simp)
  have g2_0_3 : w2.frozen? ⟨w.heap.size, 3, none⟩ = false := low_frozen hb2 (by (try simp only [World.size_alloc]); omega) (by go_simp)
  have g2_0_4 : w2.frozen? ⟨w.heap.size, 4, none⟩ = false := low_frozen hb2 (by (try simp only [World.size_alloc]); omega) (by go_simp)
  have g2_0_5 : w2.frozen? ⟨w.heap.size, 5, none⟩ = false := low_frozen hb2 (by (try simp only [World.size_alloc]); omega) (by go_simp)
  have g2_0_6 : w2.frozen? ⟨w.heap.size, 6, none⟩ = false := low_frozen hb2 (by (try simp only [World.size_alloc]); omega) (by go_simp)
  have g2_0_7 : w2.frozen? ⟨w.heap.size, 7, none⟩ = false := low_frozen hb2 (by (try simp only [World.size_alloc]); omega) (by go_simp)
  have g2_0_8 : w2.frozen? ⟨w.heap.size, 8, none⟩ = false := low_frozen hb2 (by (try simp only [World.size_alloc]); omega) (by go_simp)
  have g2_0_9 : w2.frozen? ⟨w.heap.size, 9, none⟩ = false := low_frozen hb2 (by (try simp only [World.size_alloc]); omega) (by go_simp)
  have hB2_1 : HasPt (t) (w.heap.size + 1) w2 := HasPt.up (by unfold HasPt; go_simp) hb2 (by (try simp only [World.size_alloc]); omega)
  have hB2_2 : HasPap (⟨0, 0, 0, 0, 0, 0, 0, 0, 0, 0⟩ : Pap) (w.heap.size + 1 + 1) w2 := HasPap.up (by unfold HasPap; go_simp) hb2 (by (try simp only [World.size_alloc]); omega)
  have g2_2_0 : w2.frozen? ⟨w.heap.size + 1 + 1, 0, none⟩ = false := low_frozen hb2 (by (try simp only [World.size_alloc]); omega) (by go_simp)
  have g2_2_1 : w2.frozen? ⟨w.heap.size + 1 + 1, 1, none⟩ = false := low_frozen hb2 (by (try simp only [World.size_alloc]); omega) (by go_simp)
  have g2_2_2 : w2.frozen? ⟨w.heap.size + 1 + 1, 2, none⟩ = false := low_frozen hb2 (by (try simp only [World.size_alloc]); omega) (by go_simp)
  have g2_2_3 : w2.frozen? ⟨w.heap.size + 1 + 1, 3, none⟩ = false := low_frozen hb2 (by (try simp only [World.size_alloc]); omega) (by go_simp)
  have g2_2_4 : w2.frozen? ⟨w.heap.size + 1 + 1, 4, none⟩ = false := low_frozen hb2 (by (try simp only [World.size_alloc]); omega) (by go_simp)
  have g2_2_5 : w2.frozen? ⟨w.heap.size + 1 + 1, 5, none⟩ = false := low_frozen hb2 (by (try simp only [World.size_alloc]); omega) (by go_simp)
  have g2_2_6 : w2.frozen? ⟨w.heap.size + 1 + 1, 6, none⟩ = false := low_frozen hb2 (by (try simp only [World.size_alloc]); omega) (by go_simp)
  have g2_2_7 : w2.frozen? ⟨w.heap.size + 1 + 1, 7, none⟩ = false := low_frozen hb2 (by (try simp only [World.size_alloc]); omega) (by go_simp)
  have g2_2_8 : w2.frozen? ⟨w.heap.size + 1 + 1, 8, none⟩ = false := low_frozen hb2 (by (try simp only [World.size_alloc]); omega) (by go_simp)
  have g2_2_9 : w2.frozen? ⟨w.heap.size + 1 + 1, 9, none⟩ = false := low_frozen hb2 (by (try simp only [World.size_alloc]); omega) (by go_simp)
  have hB2_3 : HasPap (p) (w1.heap.size) w2 := HasPap.up (by unfold HasPap; go_simp) hb2 (by (try simp only [World.size_alloc]); omega)
  have g2_3_0 : w2.frozen? ⟨w1.heap.size, 0, none⟩ = false := low_frozen hb2 (by (try simp only [World.size_alloc]); omega) (by go_simp)
  have g2_3_1 : w2.frozen? ⟨w1.heap.size, 1, none⟩ = false := low_frozen hb2 (by (try simp only [World.size_alloc]); omega) (by go_simp)
  have g2_3_2 : w2.frozen? ⟨w1.heap.size, 2, none⟩ = false := low_frozen hb2 (by (try simp only [World.size_alloc]); omega) (by go_simp)
  have g2_3_3 : w2.frozen? ⟨w1.heap.size, 3, none⟩ = false := low_frozen hb2 (by (try simp only [World.size_alloc]); omega) (by go_simp)
  have g2_3_4 : w2.frozen? ⟨w1.heap.size, 4, none⟩ = false := low_frozen hb2 (by (try simp only [World.size_alloc]); omega) (by go_simp)
  have g2_3_5 : w2.frozen? ⟨w1.heap.size, 5, none⟩ = false := low_frozen hb2 (by (try simp only [World.size_alloc]); omega) (by go_simp)
  have g2_3_6 : w2.frozen? ⟨w1.heap.size, 6, none⟩ = false := low_frozen hb2 (by (try simp only [World.size_alloc]); omega) (by go_simp)
  have g2_3_7 : w2.frozen? ⟨w1.heap.size, 7, none⟩ = false := low_frozen hb2 (by (try simp only [World.size_alloc]); omega) (by go_simp)
  have g2_3_8 : w2.frozen? ⟨w1.heap.size, 8, none⟩ = false := low_frozen hb2 (by (try simp only [World.size_alloc]); omega) (by go_simp)
  have g2_3_9 : w2.frozen? ⟨w1.heap.size, 9, none⟩ = false := low_frozen hb2 (by (try simp only [World.size_alloc]); omega) (by go_simp)
  have C2 : Below w.heap.size w w2 := by
    refine Below.trans ?_ (hb2.mono ?_)
    · repeat' (first | with_reducible exact Below.refl _ _ | with_reducible exact C1 | with_reducible refine set1 ?_ (by omega) _ _ | with_reducible refine Below.alloc ?_ (by (try simp only [World.size_alloc, World.size_setCell]); omega) _ | with_reducible refine below_drewN ?_ _ | with_reducible refine Below.drew ?_)
    · (try simp only [World.size_alloc]); omega
  clear g1_0_0 g1_0_1 g1_0_2 g1_0_3 g1_0_4 g1_0_5 g1_0_6 g1_0_7 g1_0_8 g1_0_9 g1_2_0 g1_2_1 g1_2_2 g1_2_3 g1_2_4 g1_2_5 g1_2_6 g1_2_7 g1_2_8 g1_2_9 f1_0_0 f1_0_1 f1_0_2 f1_0_3 f1_0_4 f1_0_5 f1_0_6 f1_0_7 f1_0_8 f1_0_9 f1_1_0 f1_1_1 f1_1_2 f1_2_0 f1_2_1 f1_2_2 f1_2_3 f1_2_4 f1_2_5 f1_2_6 f1_2_7 f1_2_8 f1_2_9 hb2
  unfold HasPap at hB2_0
  obtain ⟨f2_0_0, f2_0_1, f2_0_2, f2_0_3, f2_0_4, f2_0_5, f2_0_6, f2_0_7, f2_0_8, f2_0_9⟩ := hB2_0
  have z2_0 : w.heap.size < w2.heap.size := World.block_lt_of_cell? _ _ f2_0_0
  unfold HasPt at hB2_1
  obtain ⟨f2_1_0, f2_1_1, f2_1_2⟩ := hB2_1
  have z2_1 : w.heap.size + 1 < w2.heap.size := World.block_lt_of_cell? _ _ f2_1_0
  unfold HasPap at hB2_2
  obtain ⟨f2_2_0, f2_2_1, f2_2_2, f2_2_3, f2_2_4, f2_2_5, f2_2_6, f2_2_7, f2_2_8, f2_2_9⟩ := hB2_2
  have z2_2 : w.heap.size + 1 + 1 < w2.heap.size := World.block_lt_of_cell? _ _ f2_2_0
  unfold HasPap at hB2_3
  obtain ⟨f2_3_0, f2_3_1, f2_3_2, f2_3_3, f2_3_4, f2_3_5, f2_3_6, f2_3_7, f2_3_8, f2_3_9⟩ := hB2_3
  have z2_3 : w1.heap.size < w2.heap.size := World.block_lt_of_cell? _ _ f2_3_0
  have zz2 := C2.size
  go_wp2_with fail
  refine (known_any _ _ _ _ _ _ hs2 hy hty hh).mono ?_
  rintro e w3 ⟨rfl, hb3⟩
  have hB3_0 : HasPap (p) (w.heap.size) w3 := HasPap.up (by unfold HasPap; go_simp) hb3 (by (try simp only [World.size_setCell]); omega)
  have g3_0_0 : w3.frozen? ⟨w.heap.size, 0, none⟩ = false := low_frozen hb3 (by (try simp only [World.size_setCell]); omega) (by go_simp)
  have g3_0_1 : w3.frozen? ⟨w.heap.size, 1, none⟩ = false := low_frozen hb3 (by (try simp only [World.size_setCell]); omega) (by go_simp)
  have g3_0_2 : w3.frozen? ⟨w.heap.size, 2, none⟩ = false := low_frozen hb3 (by (try simp only [World.size_setCell]); omega) (by go_simp)
  have g3_0_3 : w3.frozen? ⟨w.heap.size, 3, none⟩ = false := low_frozen hb3 (by (try simp only [World.size_setCell]); omega) (by go_simp)
  have g3_0_4 : w3.frozen? ⟨w.heap.size, 4, none⟩ = false := low_frozen hb3 (by (try simp only [World.size_setCell]); omega) (by go_simp)
  have g3_0_5 : w3.frozen? ⟨w.heap.size, 5, none⟩ = false := low_frozen hb3 (by (try simp only [World.size_setCell]); omega) (by go_simp)
  have g3_0_6 : w3.frozen? ⟨w.heap.size, 6, none⟩ = false := low_frozen hb3 (by (try simp only [World.size_setCell]); omega) (by go_simp)
  have g3_0_7 : w3.frozen? ⟨w.heap.size, 7, none⟩ = false := low_frozen hb3 (by (try simp only [World.size_setCell]); omega) (by go_simp)
  have g3_0_8 : w3.frozen? ⟨w.heap.size, 8, none⟩ = false := low_frozen hb3 (by (try simp only [World.size_setCell]); omega) (by go_simp)
  have g3_0_9 : w3.frozen? ⟨w.heap.size, 9, none⟩ = false := low_frozen hb3 (by (try simp only [World.size_setCell]); omega) (by go_simp)
  have hB3_1 : HasPt (t) (w.heap.size + 1) w3 := HasPt.up (by unfold HasPt; go_simp) hb3 (by (try simp only [World.size_setCell]); omega)
  have hB3_2 : HasPap (⟨0, 0, 0, 0, 0, 0, 0, 0, 0, 0⟩ : Pap) (w.heap.size + 1 + 1) w3 := HasPap.up (by unfold HasPap; go_simp) hb3 (by (try simp only [World.size_setCell]); omega)
  have g3_2_0 : w3.frozen? ⟨w.heap.size + 1 + 1, 0, none⟩ = false := low_frozen hb3 (by (try simp only [World.size_setCell]); omega) (by go_simp)
  have g3_2_1 : w3.frozen? ⟨w.heap.size + 1 + 1, 1, none⟩ = false := low_frozen hb3 (by (try simp only [World.size_setCell]); omega) (by go_simp)
  have g3_2_2 : w3.frozen? ⟨w.heap.size + 1 + 1, 2, none⟩ = false := low_frozen hb3 (by (try simp only [World.size_setCell]); omega) (by go_simp)
  have g3_2_3 : w3.frozen? ⟨w.heap.size + 1 + 1, 3, none⟩ = false := low_frozen hb3 (by (try simp only [World.size_setCell]); omega) (by go_simp)
  have g3_2_4 : w3.frozen? ⟨w.heap.size + 1 + 1, 4, none⟩ = false := low_frozen hb3 (by (try simp only [World.size_setCell]); omega) (by go_simp)
  have g3_2_5 : w3.frozen? ⟨w.heap.size + 1 + 1, 5, none⟩ = false := low_frozen hb3 (by (try simp only [World.size_setCell]); omega) (by go_simp)
  have g3_2_6 : w3.frozen? ⟨w.heap.size + 1 + 1, 6, none⟩ = false := low_frozen hb3 (by (try simp only [World.size_setCell]); omega) (by go_simp)
  have g3_2_7 : w3.frozen? ⟨w.heap.size + 1 + 1, 7, none⟩ = false := low_frozen hb3 (by (try simp only [World.size_setCell]); omega) (by go_simp)
  have g3_2_8 : w3.frozen? ⟨w.heap.size + 1 + 1, 8, none⟩ = false := low_frozen hb3 (by (try simp only [World.size_setCell]); omega) (by go_simp)
  have g3_2_9 : w3.frozen? ⟨w.heap.size + 1 + 1, 9, none⟩ = false := low_frozen hb3 (by (try simp only [World.size_setCell]); omega) (by go_simp)
  have hB3_3 : HasPap (⟨p.pitch, p.height, p.radius, p.low, p.high, p.cols, knLo p.al x t.x t.half, knHi p.ah x t.x t.half, p.cl, p.ch⟩ : Pap) (w1.heap.size) w3 := HasPap.up (by unfold HasPap; go_simp) hb3 (by (try simp only [World.size_setCell]); omega)
  have g3_3_0 : w3.frozen? ⟨w1.heap.size, 0, none⟩ = false := low_frozen hb3 (by (try simp only [World.size_setCell]); omega) (by go_simp)
  have g3_3_1 : w3.frozen? ⟨w1.heap.size, 1, none⟩ = false := low_frozen hb3 (by (try simp only [World.size_setCell]); omega) (by go_simp)
  have g3_3_2 : w3.frozen? ⟨w1.heap.size, 2, none⟩ = false := low_frozen hb3 (by (try simp only [World.size_setCell]); omega) (by go_simp)
  have g3_3_3 : w3.frozen? ⟨w1.heap.size, 3, none⟩ = false := low_frozen hb3 (by (try simp only [World.size_setCell]); omega) (by go_simp)
  have g3_3_4 : w3.frozen? ⟨w1.heap.size, 4, none⟩ = false := low_frozen hb3 (by (try simp only [World.size_setCell]); omega) (by go_simp)
  have g3_3_5 : w3.frozen? ⟨w1.heap.size, 5, none⟩ = false := low_frozen hb3 (by (try simp only [World.size_setCell]); omega) (by go_simp)
  have g3_3_6 : w3.frozen? ⟨w1.heap.size, 6, none⟩ = false := low_frozen hb3 (by (try simp only [World.size_setCell]); omega) (by go_simp)
  have g3_3_7 : w3.frozen? ⟨w1.heap.size, 7, none⟩ = false := low_frozen hb3 (by (try simp only [World.size_setCell]); omega) (by go_simp)
  have g3_3_8 : w3.frozen? ⟨w1.heap.size, 8, none⟩ = false := low_frozen hb3 (by (try simp only [World.size_setCell]); omega) (by go_simp)
  have g3_3_9 : w3.frozen? ⟨w1.heap.size, 9, none⟩ = false := low_frozen hb3 (by (try simp only [World.size_setCell]); omega) (by go_simp)
  have C3 : Below w.heap.size w w3 := by
    refine Below.trans ?_ (hb3.mono ?_)
    · repeat' (first | with_reducible exact Below.refl _ _ | with_reducible exact C2 | with_reducible refine set1 ?_ (by omega) _ _ | with_reducible refine Below.alloc ?_ (by (try simp only [World.size_alloc, World.size_setCell]); omega) _ | with_reducible refine below_drewN ?_ _ | with_reducible refine Below.drew ?_)
    · (try simp only [World.size_setCell]); omega
  clear g2_0_0 g2_0_1 g2_0_2 g2_0_3 g2_0_4 g2_0_5 g2_0_6 g2_0_7 g2_0_8 g2_0_9 g2_2_0 g2_2_1 g2_2_2 g2_2_3 g2_2_4 g2_2_5 g2_2_6 g2_2_7 g2_2_8 g2_2_9 g2_3_0 g2_3_1 g2_3_2 g2_3_3 g2_3_4 g2_3_5 g2_3_6 g2_3_7 g2_3_8 g2_3_9 f2_0_0 f2_0_1 f2_0_2 f2_0_3 f2_0_4 f2_0_5 f2_0_6 f2_0_7 f2_0_8 f2_0_9 f2_1_0 f2_1_1 f2_1_2 f2_2_0 f2_2_1 f2_2_2 f2_2_3 f2_2_4 f2_2_5 f2_2_6 f2_2_7 f2_2_8 f2_2_9 f2_3_0 f2_3_1 f2_3_2 f2_3_3 f2_3_4 f2_3_5 f2_3_6 f2_3_7 f2_3_8 f2_3_9 hb3
  unfold HasPap at hB3_0
  obtain ⟨f3_0_0, f3_0_1, f3_0_2, f3_0_3, f3_0_4, f3_0_5, f3_0_6, f3_0_7, f3_0_8, f3_0_9⟩ := hB3_0
  have z3_0 : w.heap.size < w3.heap.size := World.block_lt_of_cell? _ _ f3_0_0
  unfold HasPt at hB3_1
  obtain ⟨f3_1_0, f3_1_1, f3_1_2⟩ := hB3_1
  have z3_1 : w.heap.size + 1 < w3.heap.size := World.block_lt_of_cell? _ _ f3_1_0
  unfold HasPap at hB3_2
  obtain ⟨f3_2_0, f3_2_1, f3_2_2, f3_2_3, f3_2_4, f3_2_5, f3_2_6, f3_2_7, f3_2_8, f3_2_9⟩ := hB3_2
  have z3_2 : w.heap.size + 1 + 1 < w3.heap.size := World.block_lt_of_cell? _ _ f3_2_0
  unfold HasPap at hB3_3
  obtain ⟨f3_3_0, f3_3_1, f3_3_2, f3_3_3, f3_3_4, f3_3_5, f3_3_6, f3_3_7, f3_3_8, f3_3_9⟩ := hB3_3
  have z3_3 : w1.heap.size < w3.heap.size := World.block_lt_of_cell? _ _ f3_3_0
  have zz3 := C3.size
  go_wp2_with fail
  refine bodyPost_ret (v := .tuple #[zeroP.v, .int .i64 3]) ?_ rfl ⟨rfl, ?_⟩
  · simp [results, Try.results51, go_sem, zeroP, f3_2_0, f3_2_1, f3_2_2, f3_2_3, f3_2_4, f3_2_5, f3_2_6, f3_2_7, f3_2_8, f3_2_9]
  · repeat' (first | with_reducible exact Below.refl _ _ | with_reducible exact C3 | with_reducible refine set1 ?_ (by omega) _ _ | with_reducible refine Below.alloc ?_ (by (try simp only [World.size_alloc, World.size_setCell]); omega) _ | with_reducible refine below_drewN ?_ _ | with_reducible refine Below.drew ?_)
set_option maxRecDepth 100000 in
set_option maxHeartbeats 2000000 in
theorem RCal_ok (p : Pap) (x y : Int) (t : Pt) (w : World) (h : p.Ok) (ht : t.Ok) (hx : -1 ≤ x ∧ x ≤ 800000) (hy : -1 ≤ y ∧ y ≤ 800000) (hq : knLo p.al x t.x t.half ≤ knHi p.ah x t.x t.half) (hr : knLo p.cl y t.y t.half ≤ knHi p.ch y t.y t.half) :
    Calls Try.prog 51 #[p.v, .int .i64 x, .int .i64 y, t.v] w fun e w' => e = .returned (.tuple #[(calP p x y t).v, .int .i64 0]) ∧ Below w.heap.size w w' := by
  have d1 : decide (knLo p.al x t.x t.half > knHi p.ah x t.x t.half) = false := by simp; omega
  have d2 : decide (knLo p.cl y t.y t.half > knHi p.ch y t.y t.half) = false := by simp; omega
  have hh := ht.half
  have htx := ht.x
  have hty := ht.y
  have hs1 : 0 ≤ p.al := by have := h.along; omega
  have hs2 : 0 ≤ p.cl := by have := h.across; omega
  go_enter Try.func51, Try.ntmps51
  go_wp2_with fail
  refine (rcheck_ok p t _ h ht).mono ?_
  rintro e w1 ⟨rfl, hb1⟩
  have hB1_0 : HasPap (p) (w.heap.size) w1 := HasPap.up (by unfold HasPap; go_simp) hb1 (by (try simp only [World.size_alloc]); omega)
  have g1_0_0 : w1.frozen? ⟨w.heap.size, 0, none⟩ = false := low_frozen hb1 (by (try simp only [World.size_alloc]); omega) (by go_simp)
  have g1_0_1 : w1.frozen? ⟨w.heap.size, 1, none⟩ = false := low_frozen hb1 (by (try simp only [World.size_alloc]); omega) (by go_simp)
  have g1_0_2 : w1.frozen? ⟨w.heap.size, 2, none⟩ = false := low_frozen hb1 (by (try simp only [World.size_alloc]); omega) (by go_simp)
  have g1_0_3 : w1.frozen? ⟨w.heap.size, 3, none⟩ = false := low_frozen hb1 (by (try simp only [World.size_alloc]); omega) (by go_simp)
  have g1_0_4 : w1.frozen? ⟨w.heap.size, 4, none⟩ = false := low_frozen hb1 (by (try simp only [World.size_alloc]); omega) (by go_simp)
  have g1_0_5 : w1.frozen? ⟨w.heap.size, 5, none⟩ = false := low_frozen hb1 (by (try simp only [World.size_alloc]); omega) (by go_simp)
  have g1_0_6 : w1.frozen? ⟨w.heap.size, 6, none⟩ = false := low_frozen hb1 (by (try simp only [World.size_alloc]); omega) (by go_simp)
  have g1_0_7 : w1.frozen? ⟨w.heap.size, 7, none⟩ = false := low_frozen hb1 (by (try simp only [World.size_alloc]); omega) (by go_simp)
  have g1_0_8 : w1.frozen? ⟨w.heap.size, 8, none⟩ = false := low_frozen hb1 (by (try simp only [World.size_alloc]); omega) (by go_simp)
  have g1_0_9 : w1.frozen? ⟨w.heap.size, 9, none⟩ = false := low_frozen hb1 (by (try simp only [World.size_alloc]); omega) (by go_simp)
  have hB1_1 : HasPt (t) (w.heap.size + 1) w1 := HasPt.up (by unfold HasPt; go_simp) hb1 (by (try simp only [World.size_alloc]); omega)
  have hB1_2 : HasPap (⟨0, 0, 0, 0, 0, 0, 0, 0, 0, 0⟩ : Pap) (w.heap.size + 1 + 1) w1 := HasPap.up (by unfold HasPap; go_simp) hb1 (by (try simp only [World.size_alloc]); omega)
  have g1_2_0 : w1.frozen? ⟨w.heap.size + 1 + 1, 0, none⟩ = false := low_frozen hb1 (by (try simp only [World.size_alloc]); omega) (by go_simp)
  have g1_2_1 : w1.frozen? ⟨w.heap.size + 1 + 1, 1, none⟩ = false := low_frozen hb1 (by (try simp only [World.size_alloc]); omega) (by go_simp)
  have g1_2_2 : w1.frozen? ⟨w.heap.size + 1 + 1, 2, none⟩ = false := low_frozen hb1 (by (try simp only [World.size_alloc]); omega) (by go_simp)
  have g1_2_3 : w1.frozen? ⟨w.heap.size + 1 + 1, 3, none⟩ = false := low_frozen hb1 (by (try simp only [World.size_alloc]); omega) (by go_simp)
  have g1_2_4 : w1.frozen? ⟨w.heap.size + 1 + 1, 4, none⟩ = false := low_frozen hb1 (by (try simp only [World.size_alloc]); omega) (by go_simp)
  have g1_2_5 : w1.frozen? ⟨w.heap.size + 1 + 1, 5, none⟩ = false := low_frozen hb1 (by (try simp only [World.size_alloc]); omega) (by go_simp)
  have g1_2_6 : w1.frozen? ⟨w.heap.size + 1 + 1, 6, none⟩ = false := low_frozen hb1 (by (try simp only [World.size_alloc]); omega) (by go_simp)
  have g1_2_7 : w1.frozen? ⟨w.heap.size + 1 + 1, 7, none⟩ = false := low_frozen hb1 (by (try simp only [World.size_alloc]); omega) (by go_simp)
  have g1_2_8 : w1.frozen? ⟨w.heap.size + 1 + 1, 8, none⟩ = false := low_frozen hb1 (by (try simp only [World.size_alloc]); omega) (by go_simp)
  have g1_2_9 : w1.frozen? ⟨w.heap.size + 1 + 1, 9, none⟩ = false := low_frozen hb1 (by (try simp only [World.size_alloc]); omega) (by go_simp)
  have C1 : Below w.heap.size w w1 := by
    refine Below.trans ?_ (hb1.mono ?_)
    · repeat' (first | with_reducible exact Below.refl _ _ | with_reducible exact Below.refl _ _ | with_reducible refine set1 ?_ (by omega) _ _ | with_reducible refine Below.alloc ?_ (by (try simp only [World.size_alloc]); omega) _ | with_reducible refine below_drewN ?_ _ | with_reducible refine Below.drew ?_)
    · (try simp only [World.size_alloc]); omega
  clear hb1
  unfold HasPap at hB1_0
  obtain ⟨f1_0_0, f1_0_1, f1_0_2, f1_0_3, f1_0_4, f1_0_5, f1_0_6, f1_0_7, f1_0_8, f1_0_9⟩ := hB1_0
  have z1_0 : w.heap.size < w1.heap.size := World.block_lt_of_cell? _ _ f1_0_0
  unfold HasPt at hB1_1
  obtain ⟨f1_1_0, f1_1_1, f1_1_2⟩ := hB1_1
  have z1_1 : w.heap.size + 1 < w1.heap.size := World.block_lt_of_cell? _ _ f1_1_0
  unfold HasPap at hB1_2
  obtain ⟨f1_2_0, f1_2_1, f1_2_2, f1_2_3, f1_2_4, f1_2_5, f1_2_6, f1_2_7, f1_2_8, f1_2_9⟩ := hB1_2
  have z1_2 : w.heap.size + 1 + 1 < w1.heap.size := World.block_lt_of_cell? _ _ f1_2_0
  have zz1 := C1.size
  go_wp2_with fail
  refine (within_t _ _ _ _ hx).mono ?_
  rintro e w' ⟨rfl, rfl⟩
  go_wp2_with fail
  refine (within_t _ _ _ _ hy).mono ?_
  rintro e w' ⟨rfl, rfl⟩
  go_wp2_with fail
  refine (known_any _ _ _ _ _ _ hs1 hx htx hh).mono ?_
  rintro e w2 ⟨rfl, hb2⟩
  have hB2_0 : HasPap (p) (w.heap.size) w2 := HasPap.up (by unfold HasPap; go_simp) hb2 (by (try simp only [World.size_alloc]); omega)
  have g2_0_0 : w2.frozen? ⟨w.heap.size, 0, none⟩ = false := low_frozen hb2 (by (try simp only [World.size_alloc]); omega) (by go_simp)
  have g2_0_1 : w2.frozen? ⟨w.heap.size, 1, none⟩ = false := low_frozen hb2 (by (try simp only [World.size_alloc]); omega) (by go_simp)
  have g2_0_2 : w2.frozen? ⟨w.heap.size, 2, none⟩ = false := low_frozen hb2 (by (try simp only [World.size_alloc]); omega) (by go_simp)
  have g2_0_3 : w2.frozen? ⟨w.heap.size, 3, none⟩ = false := low_frozen hb2 (by (try simp only [World.size_alloc]); omega) (by go_simp)
  have g2_0_4 : w2.frozen? ⟨w.heap.size, 4, none⟩ = false := low_frozen hb2 (by (try simp only [World.size_alloc]); omega) (by go_simp)
  have g2_0_5 : w2.frozen? ⟨w.heap.size, 5, none⟩ = false := low_frozen hb2 (by (try simp only [World.size_alloc]); omega) (by go_simp)
  have g2_0_6 : w2.frozen? ⟨w.heap.size, 6, none⟩ = false := low_frozen hb2 (by (try simp only [World.size_alloc]); omega) (by go_simp)
  have g2_0_7 : w2.frozen? ⟨w.heap.size, 7, none⟩ = false := low_frozen hb2 (by (try simp only [World.size_alloc]); omega) (by go_simp)
  have g2_0_8 : w2.frozen? ⟨w.heap.size, 8, none⟩ = false := low_frozen hb2 (by (try simp only [World.size_alloc]); omega) (by go_simp)
  have g2_0_9 : w2.frozen? ⟨w.heap.size, 9, none⟩ = false := low_frozen hb2 (by (try simp only [World.size_alloc]); omega) (by go_simp)
  have hB2_1 : HasPt (t) (w.heap.size + 1) w2 := HasPt.up (by unfold HasPt; go_simp) hb2 (by (try simp only [World.size_alloc]); omega)
  have hB2_2 : HasPap (⟨0, 0, 0, 0, 0, 0, 0, 0, 0, 0⟩ : Pap) (w.heap.size + 1 + 1) w2 := HasPap.up (by unfold HasPap; go_simp) hb2 (by (try simp only [World.size_alloc]); omega)
  have g2_2_0 : w2.frozen? ⟨w.heap.size + 1 + 1, 0, none⟩ = false := low_frozen hb2 (by (try simp only [World.size_alloc]); omega) (by go_simp)
  have g2_2_1 : w2.frozen? ⟨w.heap.size + 1 + 1, 1, none⟩ = false := low_frozen hb2 (by (try simp only [World.size_alloc]); omega) (by go_simp)
  have g2_2_2 : w2.frozen? ⟨w.heap.size + 1 + 1, 2, none⟩ = false := low_frozen hb2 (by (try simp only [World.size_alloc]); omega) (by go_simp)
  have g2_2_3 : w2.frozen? ⟨w.heap.size + 1 + 1, 3, none⟩ = false := low_frozen hb2 (by (try simp only [World.size_alloc]); omega) (by go_simp)
  have g2_2_4 : w2.frozen? ⟨w.heap.size + 1 + 1, 4, none⟩ = false := low_frozen hb2 (by (try simp only [World.size_alloc]); omega) (by go_simp)
  have g2_2_5 : w2.frozen? ⟨w.heap.size + 1 + 1, 5, none⟩ = false := low_frozen hb2 (by (try simp only [World.size_alloc]); omega) (by go_simp)
  have g2_2_6 : w2.frozen? ⟨w.heap.size + 1 + 1, 6, none⟩ = false := low_frozen hb2 (by (try simp only [World.size_alloc]); omega) (by go_simp)
  have g2_2_7 : w2.frozen? ⟨w.heap.size + 1 + 1, 7, none⟩ = false := low_frozen hb2 (by (try simp only [World.size_alloc]); omega) (by go_simp)
  have g2_2_8 : w2.frozen? ⟨w.heap.size + 1 + 1, 8, none⟩ = false := low_frozen hb2 (by (try simp only [World.size_alloc]); omega) (by go_simp)
  have g2_2_9 : w2.frozen? ⟨w.heap.size + 1 + 1, 9, none⟩ = false := low_frozen hb2 (by (try simp only [World.size_alloc]); omega) (by go_simp)
  have hB2_3 : HasPap (p) (w1.heap.size) w2 := HasPap.up (by unfold HasPap; go_simp) hb2 (by (try simp only [World.size_alloc]); omega)
  have g2_3_0 : w2.frozen? ⟨w1.heap.size, 0, none⟩ = false := low_frozen hb2 (by (try simp only [World.size_alloc]); omega) (by go_simp)
  have g2_3_1 : w2.frozen? ⟨w1.heap.size, 1, none⟩ = false := low_frozen hb2 (by (try simp only [World.size_alloc]); omega) (by go_simp)
  have g2_3_2 : w2.frozen? ⟨w1.heap.size, 2, none⟩ = false := low_frozen hb2 (by (try simp only [World.size_alloc]); omega) (by go_simp)
  have g2_3_3 : w2.frozen? ⟨w1.heap.size, 3, none⟩ = false := low_frozen hb2 (by (try simp only [World.size_alloc]); omega) (by go_simp)
  have g2_3_4 : w2.frozen? ⟨w1.heap.size, 4, none⟩ = false := low_frozen hb2 (by (try simp only [World.size_alloc]); omega) (by go_simp)
  have g2_3_5 : w2.frozen? ⟨w1.heap.size, 5, none⟩ = false := low_frozen hb2 (by (try simp only [World.size_alloc]); omega) (by go_simp)
  have g2_3_6 : w2.frozen? ⟨w1.heap.size, 6, none⟩ = false := low_frozen hb2 (by (try simp only [World.size_alloc]); omega) (by go_simp)
  have g2_3_7 : w2.frozen? ⟨w1.heap.size, 7, none⟩ = false := low_frozen hb2 (by (try simp only [World.size_alloc]); omega) (by go_simp)
  have g2_3_8 : w2.frozen? ⟨w1.heap.size, 8, none⟩ = false := low_frozen hb2 (by (try simp only [World.size_alloc]); omega) (by go_simp)
  have g2_3_9 : w2.frozen? ⟨w1.heap.size, 9, none⟩ = false := low_frozen hb2 (by (try simp only [World.size_alloc]); omega) (by go_simp)
  have C2 : Below w.heap.size w w2 := by
    refine Below.trans ?_ (hb2.mono ?_)
    · repeat' (first | with_reducible exact Below.refl _ _ | with_reducible exact C1 | with_reducible refine set1 ?_ (by omega) _ _ | with_reducible refine Below.alloc ?_ (by (try simp only [World.size_alloc, World.size_setCell]); omega) _ | with_reducible refine below_drewN ?_ _ | with_reducible refine Below.drew ?_)
    · (try simp only [World.size_alloc]); omega
  clear g1_0_0 g1_0_1 g1_0_2 g1_0_3 g1_0_4 g1_0_5 g1_0_6 g1_0_7 g1_0_8 g1_0_9 g1_2_0 g1_2_1 g1_2_2 g1_2_3 g1_2_4 g1_2_5 g1_2_6 g1_2_7 g1_2_8 g1_2_9 f1_0_0 f1_0_1 f1_0_2 f1_0_3 f1_0_4 f1_0_5 f1_0_6 f1_0_7 f1_0_8 f1_0_9 f1_1_0 f1_1_1 f1_1_2 f1_2_0 f1_2_1 f1_2_2 f1_2_3 f1_2_4 f1_2_5 f1_2_6 f1_2_7 f1_2_8 f1_2_9 hb2
  unfold HasPap at hB2_0
  obtain ⟨f2_0_0, f2_0_1, f2_0_2, f2_0_3, f2_0_4, f2_0_5, f2_0_6, f2_0_7, f2_0_8, f2_0_9⟩ := hB2_0
  have z2_0 : w.heap.size < w2.heap.size := World.block_lt_of_cell? _ _ f2_0_0
  unfold HasPt at hB2_1
  obtain ⟨f2_1_0, f2_1_1, f2_1_2⟩ := hB2_1
  have z2_1 : w.heap.size + 1 < w2.heap.size := World.block_lt_of_cell? _ _ f2_1_0
  unfold HasPap at hB2_2
  obtain ⟨f2_2_0, f2_2_1, f2_2_2, f2_2_3, f2_2_4, f2_2_5, f2_2_6, f2_2_7, f2_2_8, f2_2_9⟩ := hB2_2
  have z2_2 : w.heap.size + 1 + 1 < w2.heap.size := World.block_lt_of_cell? _ _ f2_2_0
  unfold HasPap at hB2_3
  obtain ⟨f2_3_0, f2_3_1, f2_3_2, f2_3_3, f2_3_4, f2_3_5, f2_3_6, f2_3_7, f2_3_8, f2_3_9⟩ := hB2_3
  have z2_3 : w1.heap.size < w2.heap.size := World.block_lt_of_cell? _ _ f2_3_0
  have zz2 := C2.size
  go_wp2_with fail
  refine (known_any _ _ _ _ _ _ hs2 hy hty hh).mono ?_
  rintro e w3 ⟨rfl, hb3⟩
  have hB3_0 : HasPap (p) (w.heap.size) w3 := HasPap.up (by unfold HasPap; go_simp) hb3 (by (try simp only [World.size_setCell]); omega)
  have g3_0_0 : w3.frozen? ⟨w.heap.size, 0, none⟩ = false := low_frozen hb3 (by (try simp only [World.size_setCell]); omega) (by go_simp)
  have g3_0_1 : w3.frozen? ⟨w.heap.size, 1, none⟩ = false := low_frozen hb3 (by (try simp only [World.size_setCell]); omega) (by go_simp)
  have g3_0_2 : w3.frozen? ⟨w.heap.size, 2, none⟩ = false := low_frozen hb3 (by (try simp only [World.size_setCell]); omega) (by go_simp)
  have g3_0_3 : w3.frozen? ⟨w.heap.size, 3, none⟩ = false := low_frozen hb3 (by (try simp only [World.size_setCell]); omega) (by go_simp)
  have g3_0_4 : w3.frozen? ⟨w.heap.size, 4, none⟩ = false := low_frozen hb3 (by (try simp only [World.size_setCell]); omega) (by go_simp)
  have g3_0_5 : w3.frozen? ⟨w.heap.size, 5, none⟩ = false := low_frozen hb3 (by (try simp only [World.size_setCell]); omega) (by go_simp)
  have g3_0_6 : w3.frozen? ⟨w.heap.size, 6, none⟩ = false := low_frozen hb3 (by (try simp only [World.size_setCell]); omega) (by go_simp)
  have g3_0_7 : w3.frozen? ⟨w.heap.size, 7, none⟩ = false := low_frozen hb3 (by (try simp only [World.size_setCell]); omega) (by go_simp)
  have g3_0_8 : w3.frozen? ⟨w.heap.size, 8, none⟩ = false := low_frozen hb3 (by (try simp only [World.size_setCell]); omega) (by go_simp)
  have g3_0_9 : w3.frozen? ⟨w.heap.size, 9, none⟩ = false := low_frozen hb3 (by (try simp only [World.size_setCell]); omega) (by go_simp)
  have hB3_1 : HasPt (t) (w.heap.size + 1) w3 := HasPt.up (by unfold HasPt; go_simp) hb3 (by (try simp only [World.size_setCell]); omega)
  have hB3_2 : HasPap (⟨0, 0, 0, 0, 0, 0, 0, 0, 0, 0⟩ : Pap) (w.heap.size + 1 + 1) w3 := HasPap.up (by unfold HasPap; go_simp) hb3 (by (try simp only [World.size_setCell]); omega)
  have g3_2_0 : w3.frozen? ⟨w.heap.size + 1 + 1, 0, none⟩ = false := low_frozen hb3 (by (try simp only [World.size_setCell]); omega) (by go_simp)
  have g3_2_1 : w3.frozen? ⟨w.heap.size + 1 + 1, 1, none⟩ = false := low_frozen hb3 (by (try simp only [World.size_setCell]); omega) (by go_simp)
  have g3_2_2 : w3.frozen? ⟨w.heap.size + 1 + 1, 2, none⟩ = false := low_frozen hb3 (by (try simp only [World.size_setCell]); omega) (by go_simp)
  have g3_2_3 : w3.frozen? ⟨w.heap.size + 1 + 1, 3, none⟩ = false := low_frozen hb3 (by (try simp only [World.size_setCell]); omega) (by go_simp)
  have g3_2_4 : w3.frozen? ⟨w.heap.size + 1 + 1, 4, none⟩ = false := low_frozen hb3 (by (try simp only [World.size_setCell]); omega) (by go_simp)
  have g3_2_5 : w3.frozen? ⟨w.heap.size + 1 + 1, 5, none⟩ = false := low_frozen hb3 (by (try simp only [World.size_setCell]); omega) (by go_simp)
  have g3_2_6 : w3.frozen? ⟨w.heap.size + 1 + 1, 6, none⟩ = false := low_frozen hb3 (by (try simp only [World.size_setCell]); omega) (by go_simp)
  have g3_2_7 : w3.frozen? ⟨w.heap.size + 1 + 1, 7, none⟩ = false := low_frozen hb3 (by (try simp only [World.size_setCell]); omega) (by go_simp)
  have g3_2_8 : w3.frozen? ⟨w.heap.size + 1 + 1, 8, none⟩ = false := low_frozen hb3 (by (try simp only [World.size_setCell]); omega) (by go_simp)
  have g3_2_9 : w3.frozen? ⟨w.heap.size + 1 + 1, 9, none⟩ = false := low_frozen hb3 (by (try simp only [World.size_setCell]); omega) (by go_simp)
  have hB3_3 : HasPap (⟨p.pitch, p.height, p.radius, p.low, p.high, p.cols, knLo p.al x t.x t.half, knHi p.ah x t.x t.half, p.cl, p.ch⟩ : Pap) (w1.heap.size) w3 := HasPap.up (by unfold HasPap; go_simp) hb3 (by (try simp only [World.size_setCell]); omega)
  have g3_3_0 : w3.frozen? ⟨w1.heap.size, 0, none⟩ = false := low_frozen hb3 (by (try simp only [World.size_setCell]); omega) (by go_simp)
  have g3_3_1 : w3.frozen? ⟨w1.heap.size, 1, none⟩ = false := low_frozen hb3 (by (try simp only [World.size_setCell]); omega) (by go_simp)
  have g3_3_2 : w3.frozen? ⟨w1.heap.size, 2, none⟩ = false := low_frozen hb3 (by (try simp only [World.size_setCell]); omega) (by go_simp)
  have g3_3_3 : w3.frozen? ⟨w1.heap.size, 3, none⟩ = false := low_frozen hb3 (by (try simp only [World.size_setCell]); omega) (by go_simp)
  have g3_3_4 : w3.frozen? ⟨w1.heap.size, 4, none⟩ = false := low_frozen hb3 (by (try simp only [World.size_setCell]); omega) (by go_simp)
  have g3_3_5 : w3.frozen? ⟨w1.heap.size, 5, none⟩ = false := low_frozen hb3 (by (try simp only [World.size_setCell]); omega) (by go_simp)
  have g3_3_6 : w3.frozen? ⟨w1.heap.size, 6, none⟩ = false := low_frozen hb3 (by (try simp only [World.size_setCell]); omega) (by go_simp)
  have g3_3_7 : w3.frozen? ⟨w1.heap.size, 7, none⟩ = false := low_frozen hb3 (by (try simp only [World.size_setCell]); omega) (by go_simp)
  have g3_3_8 : w3.frozen? ⟨w1.heap.size, 8, none⟩ = false := low_frozen hb3 (by (try simp only [World.size_setCell]); omega) (by go_simp)
  have g3_3_9 : w3.frozen? ⟨w1.heap.size, 9, none⟩ = false := low_frozen hb3 (by (try simp only [World.size_setCell]); omega) (by go_simp)
  have C3 : Below w.heap.size w w3 := by
    refine Below.trans ?_ (hb3.mono ?_)
    · repeat' (first | with_reducible exact Below.refl _ _ | with_reducible exact C2 | with_reducible refine set1 ?_ (by omega) _ _ | with_reducible refine Below.alloc ?_ (by (try simp only [World.size_alloc, World.size_setCell]); omega) _ | with_reducible refine below_drewN ?_ _ | with_reducible refine Below.drew ?_)
    · (try simp only [World.size_setCell]); omega
  clear g2_0_0 g2_0_1 g2_0_2 g2_0_3 g2_0_4 g2_0_5 g2_0_6 g2_0_7 g2_0_8 g2_0_9 g2_2_0 g2_2_1 g2_2_2 g2_2_3 g2_2_4 g2_2_5 g2_2_6 g2_2_7 g2_2_8 g2_2_9 g2_3_0 g2_3_1 g2_3_2 g2_3_3 g2_3_4 g2_3_5 g2_3_6 g2_3_7 g2_3_8 g2_3_9 f2_0_0 f2_0_1 f2_0_2 f2_0_3 f2_0_4 f2_0_5 f2_0_6 f2_0_7 f2_0_8 f2_0_9 f2_1_0 f2_1_1 f2_1_2 f2_2_0 f2_2_1 f2_2_2 f2_2_3 f2_2_4 f2_2_5 f2_2_6 f2_2_7 f2_2_8 f2_2_9 f2_3_0 f2_3_1 f2_3_2 f2_3_3 f2_3_4 f2_3_5 f2_3_6 f2_3_7 f2_3_8 f2_3_9 hb3
  unfold HasPap at hB3_0
  obtain ⟨f3_0_0, f3_0_1, f3_0_2, f3_0_3, f3_0_4, f3_0_5, f3_0_6, f3_0_7, f3_0_8, f3_0_9⟩ := hB3_0
  have z3_0 : w.heap.size < w3.heap.size := World.block_lt_of_cell? _ _ f3_0_0
  unfold HasPt at hB3_1
  obtain ⟨f3_1_0, f3_1_1, f3_1_2⟩ := hB3_1
  have z3_1 : w.heap.size + 1 < w3.heap.size := World.block_lt_of_cell? _ _ f3_1_0
  unfold HasPap at hB3_2
  obtain ⟨f3_2_0, f3_2_1, f3_2_2, f3_2_3, f3_2_4, f3_2_5, f3_2_6, f3_2_7, f3_2_8, f3_2_9⟩ := hB3_2
  have z3_2 : w.heap.size + 1 + 1 < w3.heap.size := World.block_lt_of_cell? _ _ f3_2_0
  unfold HasPap at hB3_3
  obtain ⟨f3_3_0, f3_3_1, f3_3_2, f3_3_3, f3_3_4, f3_3_5, f3_3_6, f3_3_7, f3_3_8, f3_3_9⟩ := hB3_3
  have z3_3 : w1.heap.size < w3.heap.size := World.block_lt_of_cell? _ _ f3_3_0
  have zz3 := C3.size
  go_wp2_with fail
  refine bodyPost_ret (v := .tuple #[(calP p x y t).v, .int .i64 0]) ?_ rfl ⟨rfl, ?_⟩
  · simp [results, Try.results51, go_sem, calP, f3_2_0, f3_2_1, f3_2_2, f3_2_3, f3_2_4, f3_2_5, f3_2_6, f3_2_7, f3_2_8, f3_2_9]
  · repeat' (first | with_reducible exact Below.refl _ _ | with_reducible exact C3 | with_reducible refine set1 ?_ (by omega) _ _ | with_reducible refine Below.alloc ?_ (by (try simp only [World.size_alloc, World.size_setCell]); omega) _ | with_reducible refine below_drewN ?_ _ | with_reducible refine Below.drew ?_)
theorem RCal_any (p : Pap) (x y : Int) (t : Pt) (w : World) :
    Calls Try.prog 51 #[p.v, .int .i64 x, .int .i64 y, t.v] w fun e w' => e = .returned (.tuple #[(caP p x y t).v, .int .i64 (caE p x y t)]) ∧ Below w.heap.size w w' := by
  by_cases h : ptE p t = 0
  · obtain ⟨h1, h2⟩ := ptE_iff.1 h
    by_cases hx : -1 ≤ x ∧ x ≤ 800000
    · by_cases hy : -1 ≤ y ∧ y ≤ 800000
      · by_cases hq : CalOk (calP p x y t)
        · have e0 : caE p x y t = 0 := by unfold caE; rw [if_pos h, if_pos hx, if_pos hy, if_pos hq]
          have e1 : caP p x y t = calP p x y t := by unfold caP; rw [if_pos e0]
          rw [e1, e0]; exact RCal_ok p x y t w h1 h2 hx hy hq.1 hq.2
        · have e0 : caE p x y t = 3 := by unfold caE; rw [if_pos h, if_pos hx, if_pos hy, if_neg hq]
          have e1 : caP p x y t = zeroP := by unfold caP; rw [if_neg (by rw [e0]; decide)]
          rw [e1, e0]
          by_cases ha : knLo p.al x t.x t.half ≤ knHi p.ah x t.x t.half
          · exact RCal_none2 p x y t w h1 h2 hx hy ha (Int.not_le.1 fun hb => hq ⟨ha, hb⟩)
          · exact RCal_none1 p x y t w h1 h2 hx hy (Int.not_le.1 ha)
      · have e0 : caE p x y t = 1 := by unfold caE; rw [if_pos h, if_pos hx, if_neg hy]
        have e1 : caP p x y t = zeroP := by unfold caP; rw [if_neg (by rw [e0]; decide)]
        rw [e1, e0]; exact RCal_arg2 p x y t w h1 h2 hx hy
    · have e0 : caE p x y t = 1 := by unfold caE; rw [if_pos h, if_neg hx]
      have e1 : caP p x y t = zeroP := by unfold caP; rw [if_neg (by rw [e0]; decide)]
      rw [e1, e0]; exact RCal_arg1 p x y t w h1 h2 hx
  · have e0 : caE p x y t = ptE p t := by unfold caE; rw [if_neg h]
    have e1 : caP p x y t = zeroP := by unfold caP; rw [if_neg (by rw [e0]; exact h)]
    rw [e1, e0]; exact RCal_err p x y t w h
end Go.Proofs.Ytmeljcbefnojfaa
