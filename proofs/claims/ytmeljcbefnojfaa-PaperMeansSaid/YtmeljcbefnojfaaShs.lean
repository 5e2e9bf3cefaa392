import Derived.Test.YtmeljcbefnojfaaShk
namespace Go.Proofs.Ytmeljcbefnojfaa
open Go.RowKit
set_option maxRecDepth 100000 in
set_option maxHeartbeats 2000000 in
theorem RShr_err (p : Pap) (t : Pt) (a c : Int) (w : World) (h : ptE p t ≠ 0) :
    Calls Try.prog 49 #[p.v, t.v, .int .i64 a, .int .i64 c] w fun e w' => e = .returned (.tuple #[zeroT.v, .int .i64 (ptE p t)]) ∧ Below w.heap.size w w' := by
  have d : (ptE p t == 0) = false := by simpa using h
  have d' : (ptE p t != 0) = true := by simpa using h
  clear h
  go_enter Try.func49, Try.ntmps49
  go_wp2_with fail
  refine (rcheck_any p t _).mono ?_
  rintro e w1 ⟨rfl, hb1⟩
  have hB1_0 : HasPap (p) (w.heap.size) w1 := HasPap.up (by unfold HasPap; go_simp) hb1 (by (try simp only [World.size_alloc]); omega)
  have hB1_1 : HasPt (t) (w.heap.size + 1) w1 := HasPt.up (by unfold HasPt; go_simp) hb1 (by (try simp only [World.size_alloc]); omega)
  have hB1_2 : HasPt (⟨0, 0, 0⟩ : Pt) (w.heap.size + 1 + 1) w1 := HasPt.up (by unfold HasPt; go_simp) hb1 (by (try simp only [World.size_alloc]); omega)
  have g1_2_0 : w1.frozen? ⟨w.heap.size + 1 + 1, 0, none⟩ = false := low_frozen hb1 (by (try simp only [World.size_alloc]); omega) (by go_simp)
  have g1_2_1 : w1.frozen? ⟨w.heap.size + 1 + 1, 1, none⟩ = false := low_frozen hb1 (by (try simp only [World.size_alloc]); omega) (by go_simp)
  have g1_2_2 : w1.frozen? ⟨w.heap.size + 1 + 1, 2, none⟩ = false := low_frozen hb1 (by (try simp only [World.size_alloc]); omega) (by go_simp)
  have C1 : Below w.heap.size w w1 := by
    refine Below.trans ?_ (hb1.mono ?_)
    · repeat' (first | with_reducible exact Below.refl _ _ | with_reducible exact Below.refl _ _ | with_reducible refine set1 ?_ (by omega) _ _ | with_reducible refine Below.alloc ?_ (by (try simp only [World.size_alloc]); omega) _ | with_reducible refine below_drewN ?_ _ | with_reducible refine Below.drew ?_)
    · (try simp only [World.size_alloc]); omega
  clear hb1
  unfold HasPap at hB1_0
  obtain ⟨f1_0_0, f1_0_1, f1_0_2, f1_0_3, f1_0_4, f1_0_5, f1_0_6, f1_0_7, f1_0_8, f1_0_9⟩ := hB1_0
  have z1_0 : w.heap.size < w1.heap.size := World.block_lt_of_cell? _ _ f1_0_0
  unfold HasPt at hB1_1
  obtain ⟨f1_1_0, f1_1_1, f1_1_2⟩ := hB1_1
  have z1_1 : w.heap.size + 1 < w1.heap.size := World.block_lt_of_cell? _ _ f1_1_0
  unfold HasPt at hB1_2
  obtain ⟨f1_2_0, f1_2_1, f1_2_2⟩ := hB1_2
  have z1_2 : w.heap.size + 1 + 1 < w1.heap.size := World.block_lt_of_cell? _ _ f1_2_0
  have zz1 := C1.size
  go_wp2_with fail
  refine bodyPost_ret (v := .tuple #[zeroT.v, .int .i64 (ptE p t)]) ?_ rfl ⟨rfl, ?_⟩
  · simp [results, Try.results49, go_sem, zeroT, f1_2_0, f1_2_1, f1_2_2]
  · repeat' (first | with_reducible exact Below.refl _ _ | with_reducible exact C1 | with_reducible refine set1 ?_ (by omega) _ _ | with_reducible refine Below.alloc ?_ (by (try simp only [World.size_drew, World.size_alloc, World.size_setCell]); omega) _ | with_reducible refine below_drewN ?_ _ | with_reducible refine Below.drew ?_)
set_option maxRecDepth 100000 in
set_option maxHeartbeats 2000000 in
theorem RShr_arg1 (p : Pap) (t : Pt) (a c : Int) (w : World) (h : p.Ok) (ht : t.Ok) (h1 : ¬ (p.al ≤ a ∧ a ≤ p.ah)) :
    Calls Try.prog 49 #[p.v, t.v, .int .i64 a, .int .i64 c] w fun e w' => e = .returned (.tuple #[zeroT.v, .int .i64 1]) ∧ Below w.heap.size w w' := by
  go_enter Try.func49, Try.ntmps49
  go_wp2_with fail
  refine (rcheck_ok p t _ h ht).mono ?_
  rintro e w1 ⟨rfl, hb1⟩
  have hB1_0 : HasPap (p) (w.heap.size) w1 := HasPap.up (by unfold HasPap; go_simp) hb1 (by (try simp only [World.size_alloc]); omega)
  have hB1_1 : HasPt (t) (w.heap.size + 1) w1 := HasPt.up (by unfold HasPt; go_simp) hb1 (by (try simp only [World.size_alloc]); omega)
  have hB1_2 : HasPt (⟨0, 0, 0⟩ : Pt) (w.heap.size + 1 + 1) w1 := HasPt.up (by unfold HasPt; go_simp) hb1 (by (try simp only [World.size_alloc]); omega)
  have g1_2_0 : w1.frozen? ⟨w.heap.size + 1 + 1, 0, none⟩ = false := low_frozen hb1 (by (try simp only [World.size_alloc]); omega) (by go_simp)
  have g1_2_1 : w1.frozen? ⟨w.heap.size + 1 + 1, 1, none⟩ = false := low_frozen hb1 (by (try simp only [World.size_alloc]); omega) (by go_simp)
  have g1_2_2 : w1.frozen? ⟨w.heap.size + 1 + 1, 2, none⟩ = false := low_frozen hb1 (by (try simp only [World.size_alloc]); omega) (by go_simp)
  have C1 : Below w.heap.size w w1 := by
    refine Below.trans ?_ (hb1.mono ?_)
    · repeat' (first | with_reducible exact Below.refl _ _ | with_reducible exact Below.refl _ _ | with_reducible refine set1 ?_ (by omega) _ _ | with_reducible refine Below.alloc ?_ (by (try simp only [World.size_alloc]); omega) _ | with_reducible refine below_drewN ?_ _ | with_reducible refine Below.drew ?_)
    · (try simp only [World.size_alloc]); omega
  clear hb1
  unfold HasPap at hB1_0
  obtain ⟨f1_0_0, f1_0_1, f1_0_2, f1_0_3, f1_0_4, f1_0_5, f1_0_6, f1_0_7, f1_0_8, f1_0_9⟩ := hB1_0
  have z1_0 : w.heap.size < w1.heap.size := World.block_lt_of_cell? _ _ f1_0_0
  unfold HasPt at hB1_1
  obtain ⟨f1_1_0, f1_1_1, f1_1_2⟩ := hB1_1
  have z1_1 : w.heap.size + 1 < w1.heap.size := World.block_lt_of_cell? _ _ f1_1_0
  unfold HasPt at hB1_2
  obtain ⟨f1_2_0, f1_2_1, f1_2_2⟩ := hB1_2
  have z1_2 : w.heap.size + 1 + 1 < w1.heap.size := World.block_lt_of_cell? _ _ f1_2_0
  have zz1 := C1.size
  go_wp2_with fail
  refine (within_f _ _ _ _ h1).mono ?_
  rintro e w' ⟨rfl, rfl⟩
  go_wp2_with fail
  refine bodyPost_ret (v := .tuple #[zeroT.v, .int .i64 1]) ?_ rfl ⟨rfl, ?_⟩
  · simp [results, Try.results49, go_sem, zeroT, f1_2_0, f1_2_1, f1_2_2]
  · repeat' (first | with_reducible exact Below.refl _ _ | with_reducible exact C1 | with_reducible refine set1 ?_ (by omega) _ _ | with_reducible refine Below.alloc ?_ (by (try simp only [World.size_drew, World.size_alloc, World.size_setCell]); omega) _ | with_reducible refine below_drewN ?_ _ | with_reducible refine Below.drew ?_)
set_option maxRecDepth 100000 in
set_option maxHeartbeats 2000000 in
theorem RShr_arg2 (p : Pap) (t : Pt) (a c : Int) (w : World) (h : p.Ok) (ht : t.Ok) (h1 : p.al ≤ a ∧ a ≤ p.ah) (h2 : ¬ (p.cl ≤ c ∧ c ≤ p.ch)) :
    Calls Try.prog 49 #[p.v, t.v, .int .i64 a, .int .i64 c] w fun e w' => e = .returned (.tuple #[zeroT.v, .int .i64 1]) ∧ Below w.heap.size w w' := by
  go_enter Try.func49, Try.ntmps49
  go_wp2_with fail
  refine (rcheck_ok p t _ h ht).mono ?_
  rintro e w1 ⟨rfl, hb1⟩
  have hB1_0 : HasPap (p) (w.heap.size) w1 := HasPap.up (by unfold HasPap; go_simp) hb1 (by (try simp only [World.size_alloc]); omega)
  have hB1_1 : HasPt (t) (w.heap.size + 1) w1 := HasPt.up (by unfold HasPt; go_simp) hb1 (by (try simp only [World.size_alloc]); omega)
  have hB1_2 : HasPt (⟨0, 0, 0⟩ : Pt) (w.heap.size + 1 + 1) w1 := HasPt.up (by unfold HasPt; go_simp) hb1 (by (try simp only [World.size_alloc]); omega)
  have g1_2_0 : w1.frozen? ⟨w.heap.size + 1 + 1, 0, none⟩ = false := low_frozen hb1 (by (try simp only [World.size_alloc]); omega) (by go_simp)
  have g1_2_1 : w1.frozen? ⟨w.heap.size + 1 + 1, 1, none⟩ = false := low_frozen hb1 (by (try simp only [World.size_alloc]); omega) (by go_simp)
  have g1_2_2 : w1.frozen? ⟨w.heap.size + 1 + 1, 2, none⟩ = false := low_frozen hb1 (by (try simp only [World.size_alloc]); omega) (by go_simp)
  have C1 : Below w.heap.size w w1 := by
    refine Below.trans ?_ (hb1.mono ?_)
    · repeat' (first | with_reducible exact Below.refl _ _ | with_reducible exact Below.refl _ _ | with_reducible refine set1 ?_ (by omega) _ _ | with_reducible refine Below.alloc ?_ (by (try simp only [World.size_alloc]); omega) _ | with_reducible refine below_drewN ?_ _ | with_reducible refine Below.drew ?_)
    · (try simp only [World.size_alloc]); omega
  clear hb1
  unfold HasPap at hB1_0
  obtain ⟨f1_0_0, f1_0_1, f1_0_2, f1_0_3, f1_0_4, f1_0_5, f1_0_6, f1_0_7, f1_0_8, f1_0_9⟩ := hB1_0
  have z1_0 : w.heap.size < w1.heap.size := World.block_lt_of_cell? _ _ f1_0_0
  unfold HasPt at hB1_1
  obtain ⟨f1_1_0, f1_1_1, f1_1_2⟩ := hB1_1
  have z1_1 : w.heap.size + 1 < w1.heap.size := World.block_lt_of_cell? _ _ f1_1_0
  unfold HasPt at hB1_2
  obtain ⟨f1_2_0, f1_2_1, f1_2_2⟩ := hB1_2
  have z1_2 : w.heap.size + 1 + 1 < w1.heap.size := World.block_lt_of_cell? _ _ f1_2_0
  have zz1 := C1.size
  go_wp2_with fail
  refine (within_t _ _ _ _ h1).mono ?_
  rintro e w' ⟨rfl, rfl⟩
  go_wp2_with fail
  refine (within_f _ _ _ _ h2).mono ?_
  rintro e w' ⟨rfl, rfl⟩
  go_wp2_with fail
  refine bodyPost_ret (v := .tuple #[zeroT.v, .int .i64 1]) ?_ rfl ⟨rfl, ?_⟩
  · simp [results, Try.results49, go_sem, zeroT, f1_2_0, f1_2_1, f1_2_2]
  · repeat' (first | with_reducible exact Below.refl _ _ | with_reducible exact C1 | with_reducible refine set1 ?_ (by omega) _ _ | with_reducible refine Below.alloc ?_ (by (try simp only [World.size_drew, World.size_alloc, World.size_setCell]); omega) _ | with_reducible refine below_drewN ?_ _ | with_reducible refine Below.drew ?_)
set_option maxRecDepth 100000 in
set_option maxHeartbeats 2000000 in
theorem RShr_lim (p : Pap) (t : Pt) (a c : Int) (w : World) (h : p.Ok) (ht : t.Ok) (hi : ShrIn p a c) (hs : ¬ (shrP t a c).Ok) :
    Calls Try.prog 49 #[p.v, t.v, .int .i64 a, .int .i64 c] w fun e w' => e = .returned (.tuple #[zeroT.v, .int .i64 2]) ∧ Below w.heap.size w w' := by
  obtain ⟨⟨m1, m2⟩, m3, m4⟩ := shr_bd h ht hi
  obtain ⟨h1, h2⟩ := hi
  have E := Lib.hid (And.intro (show IntKind.i64.wrap (t.x * a) = t.x * a from IntWalk.i64_in _ (by omega)) (show IntKind.i64.wrap (t.y * c) = t.y * c from IntWalk.i64_in _ (by omega)))
  have A1 : Hid (∀ w, Calls Try.prog 101 #[.int .i64 (t.x * a), .int .i64 1000] w fun e w' => e = .returned (.int .i64 (t.x * a / 1000)) ∧ w = w') := Lib.hid fun w => rfloor_any _ _ w (by omega) (by omega) (by omega) (by omega)
  have A2 : Hid (∀ w, Calls Try.prog 101 #[.int .i64 (t.y * c), .int .i64 1000] w fun e w' => e = .returned (.int .i64 (t.y * c / 1000)) ∧ w = w') := Lib.hid fun w => rfloor_any _ _ w (by omega) (by omega) (by omega) (by omega)
  go_enter Try.func49, Try.ntmps49
  go_wp2_with fail
  refine (rcheck_ok p t _ h ht).mono ?_
  rintro e w1 ⟨rfl, hb1⟩
  have hB1_0 : HasPap (p) (w.heap.size) w1 := HasPap.up (by unfold HasPap; go_simp) hb1 (by (try simp only [World.size_alloc]); omega)
  have hB1_1 : HasPt (t) (w.heap.size + 1) w1 := HasPt.up (by unfold HasPt; go_simp) hb1 (by (try simp only [World.size_alloc]); omega)
  have hB1_2 : HasPt (⟨0, 0, 0⟩ : Pt) (w.heap.size + 1 + 1) w1 := HasPt.up (by unfold HasPt; go_simp) hb1 (by (try simp only [World.size_alloc]); omega)
  have g1_2_0 : w1.frozen? ⟨w.heap.size + 1 + 1, 0, none⟩ = false := low_frozen hb1 (by (try simp only [World.size_alloc]); omega) (by go_simp)
  have g1_2_1 : w1.frozen? ⟨w.heap.size + 1 + 1, 1, none⟩ = false := low_frozen hb1 (by (try simp only [World.size_alloc]); omega) (by go_simp)
  have g1_2_2 : w1.frozen? ⟨w.heap.size + 1 + 1, 2, none⟩ = false := low_frozen hb1 (by (try simp only [World.size_alloc]); omega) (by go_simp)
  have C1 : Below w.heap.size w w1 := by
    refine Below.trans ?_ (hb1.mono ?_)
    · repeat' (first | with_reducible exact Below.refl _ _ | with_reducible exact Below.refl _ _ | with_reducible refine set1 ?_ (by omega) _ _ | with_reducible refine Below.alloc ?_ (by (try simp only [World.size_alloc]); omega) _ | with_reducible refine below_drewN ?_ _ | with_reducible refine Below.drew ?_)
    · (try simp only [World.size_alloc]); omega
  clear hb1
  unfold HasPap at hB1_0
  obtain ⟨f1_0_0, f1_0_1, f1_0_2, f1_0_3, f1_0_4, f1_0_5, f1_0_6, f1_0_7, f1_0_8, f1_0_9⟩ := hB1_0
  have z1_0 : w.heap.size < w1.heap.size := World.block_lt_of_cell? _ _ f1_0_0
  unfold HasPt at hB1_1
  obtain ⟨f1_1_0, f1_1_1, f1_1_2⟩ := hB1_1
  have z1_1 : w.heap.size + 1 < w1.heap.size := World.block_lt_of_cell? _ _ f1_1_0
  unfold HasPt at hB1_2
  obtain ⟨f1_2_0, f1_2_1, f1_2_2⟩ := hB1_2
  have z1_2 : w.heap.size + 1 + 1 < w1.heap.size := World.block_lt_of_cell? _ _ f1_2_0
  have zz1 := C1.size
  go_wp2_with fail
  refine (within_t _ _ _ _ h1).mono ?_
  rintro e w' ⟨rfl, rfl⟩
  go_wp2_with fail
  refine (within_t _ _ _ _ h2).mono ?_
  rintro e w' ⟨rfl, rfl⟩
  go_wp2_with fail
  have n0 := World.new_ne w1 ⟨w.heap.size + 1, 0, none⟩ f1_1_0
  have n1 := World.new_ne w1 ⟨w.heap.size + 1, 1, none⟩ f1_1_1
  have n2 := World.new_ne w1 ⟨w.heap.size + 1, 2, none⟩ f1_1_2
  obtain ⟨e1, e2⟩ := E.out
  go_region_held3 (fun w' => w'.cell? ⟨w.heap.size + 1, 0, none⟩ = some (.int .i64 t.x) ∧ w'.cell? ⟨w.heap.size + 1, 1, none⟩ = some (.int .i64 t.y) ∧ w'.cell? ⟨w.heap.size + 1, 2, none⟩ = some (.int .i64 t.half)) (go_keep)
    (first | (go_at_call 101; ((with_reducible refine (A1.out _).mono ?_); rintro e w' ⟨rfl, rfl⟩)) | (go_at_call 101; ((with_reducible refine (A2.out _).mono ?_); rintro e w' ⟨rfl, rfl⟩)))
  clear e1 e2 n0 n1 n2
  all_goals
    go_wp2_with fail
    refine (right_f (shrP t a c) _ hs).mono ?_
    rintro e w2 ⟨rfl, hb2⟩
    have hB2_0 : HasPap (p) (w.heap.size) w2 := HasPap.up (by unfold HasPap; go_simp) hb2 (by (try simp only [World.size_drew, World.size_alloc]); omega)
    have hB2_1 : HasPt (t) (w.heap.size + 1) w2 := HasPt.up (by unfold HasPt; go_simp) hb2 (by (try simp only [World.size_drew, World.size_alloc]); omega)
    have hB2_2 : HasPt (⟨0, 0, 0⟩ : Pt) (w.heap.size + 1 + 1) w2 := HasPt.up (by unfold HasPt; go_simp) hb2 (by (try simp only [World.size_drew, World.size_alloc]); omega)
    have g2_2_0 : w2.frozen? ⟨w.heap.size + 1 + 1, 0, none⟩ = false := low_frozen hb2 (by (try simp only [World.size_drew, World.size_alloc]); omega) (by go_simp)
    have g2_2_1 : w2.frozen? ⟨w.heap.size + 1 + 1, 1, none⟩ = false := low_frozen hb2 (by (try simp only [World.size_drew, World.size_alloc]); omega) (by go_simp)
    have g2_2_2 : w2.frozen? ⟨w.heap.size + 1 + 1, 2, none⟩ = false := low_frozen hb2 (by (try simp only [World.size_drew, World.size_alloc]); omega) (by go_simp)
    have hB2_3 : HasPt (⟨t.x * a / 1000, t.y * c / 1000, t.half⟩ : Pt) (w1.heap.size) w2 := HasPt.up (by unfold HasPt; go_simp) hb2 (by (try simp only [World.size_drew, World.size_alloc]); omega)
    have C2 : Below w.heap.size w w2 := by
      refine Below.trans ?_ (hb2.mono ?_)
      · repeat' (first | with_reducible exact Below.refl _ _ | with_reducible exact C1 | with_reducible refine set1 ?_ (by omega) _ _ | with_reducible refine Below.alloc ?_ (by (try simp only [World.size_drew, World.size_alloc, World.size_setCell]); omega) _ | with_reducible refine below_drewN ?_ _ | with_reducible refine Below.drew ?_)
      · (try simp only [World.size_drew, World.size_alloc]); omega
    clear g1_2_0 g1_2_1 g1_2_2 f1_0_0 f1_0_1 f1_0_2 f1_0_3 f1_0_4 f1_0_5 f1_0_6 f1_0_7 f1_0_8 f1_0_9 f1_1_0 f1_1_1 f1_1_2 f1_2_0 f1_2_1 f1_2_2 hb2
    unfold HasPap at hB2_0
    obtain ⟨f2_0_0, f2_0_1, f2_0_2, f2_0_3, f2_0_4, f2_0_5, f2_0_6, f2_0_7, f2_0_8, f2_0_9⟩ := hB2_0
    have z2_0 : w.heap.size < w2.heap.size := World.block_lt_of_cell? _ _ f2_0_0
    unfold HasPt at hB2_1
    obtain ⟨f2_1_0, f2_1_1, f2_1_2⟩ := hB2_1
    have z2_1 : w.heap.size + 1 < w2.heap.size := World.block_lt_of_cell? _ _ f2_1_0
    unfold HasPt at hB2_2
    obtain ⟨f2_2_0, f2_2_1, f2_2_2⟩ := hB2_2
    have z2_2 : w.heap.size + 1 + 1 < w2.heap.size := World.block_lt_of_cell? _ _ f2_2_0
    unfold HasPt at hB2_3
    obtain ⟨f2_3_0, f2_3_1, f2_3_2⟩ := hB2_3
    have z2_3 : w1.heap.size < w2.heap.size := World.block_lt_of_cell? _ _ f2_3_0
    have zz2 := C2.size
    go_wp2_with fail
    refine bodyPost_ret (v := .tuple #[zeroT.v, .int .i64 2]) ?_ rfl ⟨rfl, ?_⟩
    · simp [results, Try.results49, go_sem, zeroT, f2_2_0, f2_2_1, f2_2_2]
    · repeat' (first | with_reducible exact Below.refl _ _ | with_reducible exact C2 | with_reducible refine set1 ?_ (by omega) _ _ | with_reducible refine Below.alloc ?_ (by (try simp only [World.size_drew, World.size_alloc, World.size_setCell]); omega) _ | with_reducible refine below_drewN ?_ _ | with_reducible refine Below.drew ?_)
set_option maxRecDepth 100000 in
set_option maxHeartbeats 2000000 in
theorem RShr_ok (p : Pap) (t : Pt) (a c : Int) (w : World) (h : p.Ok) (ht : t.Ok) (hi : ShrIn p a c) (hs : (shrP t a c).Ok) :
    Calls Try.prog 49 #[p.v, t.v, .int .i64 a, .int .i64 c] w fun e w' => e = .returned (.tuple #[(shrP t a c).v, .int .i64 0]) ∧ Below w.heap.size w w' := by
  obtain ⟨⟨m1, m2⟩, m3, m4⟩ := shr_bd h ht hi
  obtain ⟨h1, h2⟩ := hi
  have E := Lib.hid (And.intro (show IntKind.i64.wrap (t.x * a) = t.x * a from IntWalk.i64_in _ (by omega)) (show IntKind.i64.wrap (t.y * c) = t.y * c from IntWalk.i64_in _ (by omega)))
  have A1 : Hid (∀ w, Calls Try.prog 101 #[.int .i64 (t.x * a), .int .i64 1000] w fun e w' => e = .returned (.int .i64 (t.x * a / 1000)) ∧ w = w') := Lib.hid fun w => rfloor_any _ _ w (by omega) (by omega) (by omega) (by omega)
  have A2 : Hid (∀ w, Calls Try.prog 101 #[.int .i64 (t.y * c), .int .i64 1000] w fun e w' => e = .returned (.int .i64 (t.y * c / 1000)) ∧ w = w') := Lib.hid fun w => rfloor_any _ _ w (by omega) (by omega) (by omega) (by omega)
  go_enter Try.func49, Try.ntmps49
  go_wp2_with fail
  refine (rcheck_ok p t _ h ht).mono ?_
  rintro e w1 ⟨rfl, hb1⟩
  have hB1_0 : HasPap (p) (w.heap.size) w1 := HasPap.up (by unfold HasPap; go_simp) hb1 (by (try simp only [World.size_alloc]); omega)
  have hB1_1 : HasPt (t) (w.heap.size + 1) w1 := HasPt.up (by unfold HasPt; go_simp) hb1 (by (try simp only [World.size_alloc]); omega)
  have hB1_2 : HasPt (⟨0, 0, 0⟩ : Pt) (w.heap.size + 1 + 1) w1 := HasPt.up (by unfold HasPt; go_simp) hb1 (by (try simp only [World.size_alloc]); omega)
  have g1_2_0 : w1.frozen? ⟨w.heap.size + 1 + 1, 0, none⟩ = false := low_frozen hb1 (by (try simp only [World.size_alloc]); omega) (by go_simp)
  have g1_2_1 : w1.frozen? ⟨w.heap.size + 1 + 1, 1, none⟩ = false := low_frozen hb1 (by (try simp only [World.size_alloc]); omega) (by go_simp)
  have g1_2_2 : w1.frozen? ⟨w.heap.size + 1 + 1, 2, none⟩ = false := low_frozen hb1 (by (try simp only [World.size_alloc]); omega) (by go_simp)
  have C1 : Below w.heap.size w w1 := by
    refine Below.trans ?_ (hb1.mono ?_)
    · repeat' (first | with_reducible exact Below.refl _ _ | with_reducible exact Below.refl _ _ | with_reducible refine set1 ?_ (by omega) _ _ | with_reducible refine Below.alloc ?_ (by (try simp only [World.size_alloc]); omega) _ | with_reducible refine below_drewN ?_ _ | with_reducible refine Below.drew ?_)
    · (try simp only [World.size_alloc]); omega
  clear hb1
  unfold HasPap at hB1_0
  obtain ⟨f1_0_0, f1_0_1, f1_0_2, f1_0_3, f1_0_4, f1_0_5, f1_0_6, f1_0_7, f1_0_8, f1_0_9⟩ := hB1_0
  have z1_0 : w.heap.size < w1.heap.size := World.block_lt_of_cell? _ _ f1_0_0
  unfold HasPt at hB1_1
  obtain ⟨f1_1_0, f1_1_1, f1_1_2⟩ := hB1_1
  have z1_1 : w.heap.size + 1 < w1.heap.size := World.block_lt_of_cell? _ _ f1_1_0
  unfold HasPt at hB1_2
  obtain ⟨f1_2_0, f1_2_1, f1_2_2⟩ := hB1_2
  have z1_2 : w.heap.size + 1 + 1 < w1.heap.size := World.block_lt_of_cell? _ _ f1_2_0
  have zz1 := C1.size
  go_wp2_with fail
  refine (within_t _ _ _ _ h1).mono ?_
  rintro e w' ⟨rfl, rfl⟩
  go_wp2_with fail
  refine (within_t _ _ _ _ h2).mono ?_
  rintro e w' ⟨rfl, rfl⟩
  go_wp2_with fail
  have n0 := World.new_ne w1 ⟨w.heap.size + 1, 0, none⟩ f1_1_0
  have n1 := World.new_ne w1 ⟨w.heap.size + 1, 1, none⟩ f1_1_1
  have n2 := World.new_ne w1 ⟨w.heap.size + 1, 2, none⟩ f1_1_2
  obtain ⟨e1, e2⟩ := E.out
  go_region_held3 (fun w' => w'.cell? ⟨w.heap.size + 1, 0, none⟩ = some (.int .i64 t.x) ∧ w'.cell? ⟨w.heap.size + 1, 1, none⟩ = some (.int .i64 t.y) ∧ w'.cell? ⟨w.heap.size + 1, 2, none⟩ = some (.int .i64 t.half)) (go_keep)
    (first | (go_at_call 101; ((with_reducible refine (A1.out _).mono ?_); rintro e w' ⟨rfl, rfl⟩)) | (go_at_call 101; ((with_reducible refine (A2.out _).mono ?_); rintro e w' ⟨rfl, rfl⟩)))
  clear e1 e2 n0 n1 n2
  all_goals
    go_wp2_with fail
    refine (right_t (shrP t a c) _ hs).mono ?_
    rintro e w2 ⟨rfl, hb2⟩
    have hB2_0 : HasPap (p) (w.heap.size) w2 := HasPap.up (by unfold HasPap; go_simp) hb2 (by (try simp only [World.size_drew, World.size_alloc]); omega)
    have hB2_1 : HasPt (t) (w.heap.size + 1) w2 := HasPt.up (by unfold HasPt; go_simp) hb2 (by (try simp only [World.size_drew, World.size_alloc]); omega)
    have hB2_2 : HasPt (⟨0, 0, 0⟩ : Pt) (w.heap.size + 1 + 1) w2 := HasPt.up (by unfold HasPt; go_simp) hb2 (by (try simp only [World.size_drew, World.size_alloc]); omega)
    have g2_2_0 : w2.frozen? ⟨w.heap.size + 1 + 1, 0, none⟩ = false := low_frozen hb2 (by (try simp only [World.size_drew, World.size_alloc]); omega) (by go_simp)
    have g2_2_1 : w2.frozen? ⟨w.heap.size + 1 + 1, 1, none⟩ = false := low_frozen hb2 (by (try simp only [World.size_drew, World.size_alloc]); omega) (by go_simp)
    have g2_2_2 : w2.frozen? ⟨w.heap.size + 1 + 1, 2, none⟩ = false := low_frozen hb2 (by (try simp only [World.size_drew, World.size_alloc]); omega) (by go_simp)
    have hB2_3 : HasPt (⟨t.x * a / 1000, t.y * c / 1000, t.half⟩ : Pt) (w1.heap.size) w2 := HasPt.up (by unfold HasPt; go_simp) hb2 (by (try simp only [World.size_drew, World.size_alloc]); omega)
    have C2 : Below w.heap.size w w2 := by
      refine Below.trans ?_ (hb2.mono ?_)
      · repeat' (first | with_reducible exact Below.refl _ _ | with_reducible exact C1 | with_reducible refine set1 ?_ (by omega) _ _ | with_reducible refine Below.alloc ?_ (by (try simp only [World.size_drew, World.size_alloc, World.size_setCell]); omega) _ | with_reducible refine below_drewN ?_ _ | with_reducible refine Below.drew ?_)
      · (try simp only [World.size_drew, World.size_alloc]); omega
    clear g1_2_0 g1_2_1 g1_2_2 f1_0_0 f1_0_1 f1_0_2 f1_0_3 f1_0_4 f1_0_5 f1_0_6 f1_0_7 f1_0_8 f1_0_9 f1_1_0 f1_1_1 f1_1_2 f1_2_0 f1_2_1 f1_2_2 hb2
    unfold HasPap at hB2_0
    obtain ⟨f2_0_0, f2_0_1, f2_0_2, f2_0_3, f2_0_4, f2_0_5, f2_0_6, f2_0_7, f2_0_8, f2_0_9⟩ := hB2_0
    have z2_0 : w.heap.size < w2.heap.size := World.block_lt_of_cell? _ _ f2_0_0
    unfold HasPt at hB2_1
    obtain ⟨f2_1_0, f2_1_1, f2_1_2⟩ := hB2_1
    have z2_1 : w.heap.size + 1 < w2.heap.size := World.block_lt_of_cell? _ _ f2_1_0
    unfold HasPt at hB2_2
    obtain ⟨f2_2_0, f2_2_1, f2_2_2⟩ := hB2_2
    have z2_2 : w.heap.size + 1 + 1 < w2.heap.size := World.block_lt_of_cell? _ _ f2_2_0
    unfold HasPt at hB2_3
    obtain ⟨f2_3_0, f2_3_1, f2_3_2⟩ := hB2_3
    have z2_3 : w1.heap.size < w2.heap.size := World.block_lt_of_cell? _ _ f2_3_0
    have zz2 := C2.size
    go_wp2_with fail
    refine bodyPost_ret (v := .tuple #[(shrP t a c).v, .int .i64 0]) ?_ rfl ⟨rfl, ?_⟩
    · simp [results, Try.results49, go_sem, shrP, f2_2_0, f2_2_1, f2_2_2]
    · repeat' (first | with_reducible exact Below.refl _ _ | with_reducible exact C2 | with_reducible refine set1 ?_ (by omega) _ _ | with_reducible refine Below.alloc ?_ (by (try simp only [World.size_drew, World.size_alloc, World.size_setCell]); omega) _ | with_reducible refine below_drewN ?_ _ | with_reducible refine Below.drew ?_)
theorem RShr_any (p : Pap) (t : Pt) (a c : Int) (w : World) :
    Calls Try.prog 49 #[p.v, t.v, .int .i64 a, .int .i64 c] w fun e w' => e = .returned (.tuple #[(shP p t a c).v, .int .i64 (shE p t a c)]) ∧ Below w.heap.size w w' := by
  by_cases h : ptE p t = 0
  · obtain ⟨h1, h2⟩ := ptE_iff.1 h
    by_cases h3 : ShrIn p a c
    · by_cases h4 : (shrP t a c).Ok
      · have e0 : shE p t a c = 0 := shE_iff.2 ⟨h1, h2, h3, h4⟩
        rw [shP_ok e0, e0]; exact RShr_ok p t a c w h1 h2 h3 h4
      · have e0 : shE p t a c = 2 := by unfold shE; rw [if_pos h, if_pos h3, if_neg h4]
        rw [shP_no (by rw [e0]; decide), e0]; exact RShr_lim p t a c w h1 h2 h3 h4
    · have e0 : shE p t a c = 1 := by unfold shE; rw [if_pos h, if_neg h3]
      rw [shP_no (by rw [e0]; decide), e0]
      by_cases h4 : p.al ≤ a ∧ a ≤ p.ah
      · exact RShr_arg2 p t a c w h1 h2 h4 (fun h5 => h3 ⟨h4, h5⟩)
      · exact RShr_arg1 p t a c w h1 h2 h4
  · have e0 : shE p t a c = ptE p t := by unfold shE; rw [if_neg h]
    rw [shP_no (by rw [e0]; exact h), e0]; exact RShr_err p t a c w h
end Go.Proofs.Ytmeljcbefnojfaa
