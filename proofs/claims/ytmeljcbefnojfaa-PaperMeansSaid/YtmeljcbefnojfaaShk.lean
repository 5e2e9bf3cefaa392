import Derived.Test.YtmeljcbefnojfaaShr
import Derived.Test.YtmeljcbefnojfaaRpt
namespace Go.Proofs.Ytmeljcbefnojfaa
open Go.RowKit
set_option maxHeartbeats 1000000 in
theorem Shrink_err (p : Pap) (t : Pt) (a c : Int) (w : World) (h : ptE p t ≠ 0) :
    Calls Try.prog 48 #[p.v, t.v, .int .i64 a, .int .i64 c] w fun e w' => e = .returned (.tuple #[zeroT.v, .int .i64 (ptE p t)]) ∧ Below w.heap.size w w' := by
  have d : (ptE p t == 0) = false := by simpa using h
  have d' : (ptE p t != 0) = true := by simpa using h
  clear h
  go_enter Try.func48, Try.ntmps48
  go_wp2_with fail
  refine (check_any p t _).mono ?_
  rintro e w1 ⟨rfl, hb⟩
  have hP1 : HasPap p w.heap.size w1 := HasPap.up (by unfold HasPap; go_simp) hb (by simp only [World.size_alloc]; omega)
  have hT1 : HasPt t (w.heap.size + 1) w1 := HasPt.up (by unfold HasPt; go_simp) hb (by simp only [World.size_alloc]; omega)
  have hZ1 : HasPt zeroT (w.heap.size + 1 + 1) w1 := HasPt.up (by unfold HasPt zeroT; go_simp) hb (by simp only [World.size_alloc]; omega)
  have hF : ∀ o, o < 3 → w1.frozen? ⟨w.heap.size + 1 + 1, o, none⟩ = false := fun o ho => low_frozen hb (by simp only [World.size_alloc]; omega) (by match o, ho with | 0, _ => go_simp | 1, _ => go_simp | 2, _ => go_simp)
  have q0 := hF 0 (by omega)
  have q1 := hF 1 (by omega)
  have q2 := hF 2 (by omega)
  have C1 : Below w.heap.size w w1 := (box3 _ _ _ _).trans (hb.mono (by simp only [World.size_alloc]; omega))
  clear hb hF
  obtain ⟨p0, p1, p2, p3, p4, p5, p6, p7, p8, p9⟩ := hP1
  obtain ⟨t0, t1, t2⟩ := hT1
  unfold HasPt zeroT at hZ1
  obtain ⟨r0, r1, r2⟩ := hZ1
  have z2 : w.heap.size + 1 + 1 < w1.heap.size := World.block_lt_of_cell? _ _ r0
  go_wp2_with fail
  refine bodyPost_ret (v := .tuple #[zeroT.v, .int .i64 (ptE p t)]) ?_ rfl ⟨rfl, ?_⟩
  · simp [results, Try.results48, go_sem, r0, r1, r2, zeroT]
  · repeat' (first | with_reducible exact C1 | with_reducible refine set1 ?_ (by omega) _ _ | with_reducible refine Below.alloc ?_ (by (try simp only [World.size_alloc, World.size_setCell]); omega) _)
set_option maxHeartbeats 1000000 in
theorem Shrink_arg1 (p : Pap) (t : Pt) (a c : Int) (w : World) (h : p.Ok) (ht : t.Ok) (h1 : ¬ (p.al ≤ a ∧ a ≤ p.ah)) :
    Calls Try.prog 48 #[p.v, t.v, .int .i64 a, .int .i64 c] w fun e w' => e = .returned (.tuple #[zeroT.v, .int .i64 1]) ∧ Below w.heap.size w w' := by
  go_enter Try.func48, Try.ntmps48
  go_wp2_with fail
  refine (check_ok p t _ h ht).mono ?_
  rintro e w1 ⟨rfl, hb⟩
  have hP1 : HasPap p w.heap.size w1 := HasPap.up (by unfold HasPap; go_simp) hb (by simp only [World.size_alloc]; omega)
  have hT1 : HasPt t (w.heap.size + 1) w1 := HasPt.up (by unfold HasPt; go_simp) hb (by simp only [World.size_alloc]; omega)
  have hZ1 : HasPt zeroT (w.heap.size + 1 + 1) w1 := HasPt.up (by unfold HasPt zeroT; go_simp) hb (by simp only [World.size_alloc]; omega)
  have hF : ∀ o, o < 3 → w1.frozen? ⟨w.heap.size + 1 + 1, o, none⟩ = false := fun o ho => low_frozen hb (by simp only [World.size_alloc]; omega) (by match o, ho with | 0, _ => go_simp | 1, _ => go_simp | 2, _ => go_simp)
  have q0 := hF 0 (by omega)
  have q1 := hF 1 (by omega)
  have q2 := hF 2 (by omega)
  have C1 : Below w.heap.size w w1 := (box3 _ _ _ _).trans (hb.mono (by simp only [World.size_alloc]; omega))
  clear hb hF
  obtain ⟨p0, p1, p2, p3, p4, p5, p6, p7, p8, p9⟩ := hP1
  obtain ⟨t0, t1, t2⟩ := hT1
  unfold HasPt zeroT at hZ1
  obtain ⟨r0, r1, r2⟩ := hZ1
  have z2 : w.heap.size + 1 + 1 < w1.heap.size := World.block_lt_of_cell? _ _ r0
  go_wp2_with fail
  refine (between_f _ _ _ _ (by assumption)).mono ?_
  rintro e w' ⟨rfl, rfl⟩
  go_wp2_with fail
  refine bodyPost_ret (v := .tuple #[zeroT.v, .int .i64 1]) ?_ rfl ⟨rfl, ?_⟩
  · simp [results, Try.results48, go_sem, r0, r1, r2, zeroT]
  · repeat' (first | with_reducible exact C1 | with_reducible refine set1 ?_ (by omega) _ _ | with_reducible refine Below.alloc ?_ (by (try simp only [World.size_alloc, World.size_setCell]); omega) _)
set_option maxHeartbeats 1000000 in
theorem Shrink_arg2 (p : Pap) (t : Pt) (a c : Int) (w : World) (h : p.Ok) (ht : t.Ok) (h1 : p.al ≤ a ∧ a ≤ p.ah) (h2 : ¬ (p.cl ≤ c ∧ c ≤ p.ch)) :
    Calls Try.prog 48 #[p.v, t.v, .int .i64 a, .int .i64 c] w fun e w' => e = .returned (.tuple #[zeroT.v, .int .i64 1]) ∧ Below w.heap.size w w' := by
  go_enter Try.func48, Try.ntmps48
  go_wp2_with fail
  refine (check_ok p t _ h ht).mono ?_
  rintro e w1 ⟨rfl, hb⟩
  have hP1 : HasPap p w.heap.size w1 := HasPap.up (by unfold HasPap; go_simp) hb (by simp only [World.size_alloc]; omega)
  have hT1 : HasPt t (w.heap.size + 1) w1 := HasPt.up (by unfold HasPt; go_simp) hb (by simp only [World.size_alloc]; omega)
  have hZ1 : HasPt zeroT (w.heap.size + 1 + 1) w1 := HasPt.up (by unfold HasPt zeroT; go_simp) hb (by simp only [World.size_alloc]; omega)
  have hF : ∀ o, o < 3 → w1.frozen? ⟨w.heap.size + 1 + 1, o, none⟩ = false := fun o ho => low_frozen hb (by simp only [World.size_alloc]; omega) (by match o, ho with | 0, _ => go_simp | 1, _ => go_simp | 2, _ => go_simp)
  have q0 := hF 0 (by omega)
  have q1 := hF 1 (by omega)
  have q2 := hF 2 (by omega)
  have C1 : Below w.heap.size w w1 := (box3 _ _ _ _).trans (hb.mono (by simp only [World.size_alloc]; omega))
  clear hb hF
  obtain ⟨p0, p1, p2, p3, p4, p5, p6, p7, p8, p9⟩ := hP1
  obtain ⟨t0, t1, t2⟩ := hT1
  unfold HasPt zeroT at hZ1
  obtain ⟨r0, r1, r2⟩ := hZ1
  have z2 : w.heap.size + 1 + 1 < w1.heap.size := World.block_lt_of_cell? _ _ r0
  go_wp2_with fail
  refine (between_t _ _ _ _ (by assumption)).mono ?_
  rintro e w' ⟨rfl, rfl⟩
  go_wp2_with fail
  refine (between_f _ _ _ _ (by assumption)).mono ?_
  rintro e w' ⟨rfl, rfl⟩
  go_wp2_with fail
  refine bodyPost_ret (v := .tuple #[zeroT.v, .int .i64 1]) ?_ rfl ⟨rfl, ?_⟩
  · simp [results, Try.results48, go_sem, r0, r1, r2, zeroT]
  · repeat' (first | with_reducible exact C1 | with_reducible refine set1 ?_ (by omega) _ _ | with_reducible refine Below.alloc ?_ (by (try simp only [World.size_alloc, World.size_setCell]); omega) _)
set_option maxHeartbeats 1000000 in
theorem Shrink_lim (p : Pap) (t : Pt) (a c : Int) (w : World) (h : p.Ok) (ht : t.Ok) (hi : ShrIn p a c) (hs : ¬ (shrP t a c).Ok) :
    Calls Try.prog 48 #[p.v, t.v, .int .i64 a, .int .i64 c] w fun e w' => e = .returned (.tuple #[zeroT.v, .int .i64 2]) ∧ Below w.heap.size w w' := by
  obtain ⟨⟨m1, m2⟩, m3, m4⟩ := shr_bd h ht hi
  obtain ⟨h1, h2⟩ := hi
  go_enter Try.func48, Try.ntmps48
  go_wp2_with fail
  refine (check_ok p t _ h ht).mono ?_
  rintro e w1 ⟨rfl, hb⟩
  have hP1 : HasPap p w.heap.size w1 := HasPap.up (by unfold HasPap; go_simp) hb (by simp only [World.size_alloc]; omega)
  have hT1 : HasPt t (w.heap.size + 1) w1 := HasPt.up (by unfold HasPt; go_simp) hb (by simp only [World.size_alloc]; omega)
  have hZ1 : HasPt zeroT (w.heap.size + 1 + 1) w1 := HasPt.up (by unfold HasPt zeroT; go_simp) hb (by simp only [World.size_alloc]; omega)
  have hF : ∀ o, o < 3 → w1.frozen? ⟨w.heap.size + 1 + 1, o, none⟩ = false := fun o ho => low_frozen hb (by simp only [World.size_alloc]; omega) (by match o, ho with | 0, _ => go_simp | 1, _ => go_simp | 2, _ => go_simp)
  have q0 := hF 0 (by omega)
  have q1 := hF 1 (by omega)
  have q2 := hF 2 (by omega)
  have C1 : Below w.heap.size w w1 := (box3 _ _ _ _).trans (hb.mono (by simp only [World.size_alloc]; omega))
  clear hb hF
  obtain ⟨p0, p1, p2, p3, p4, p5, p6, p7, p8, p9⟩ := hP1
  obtain ⟨t0, t1, t2⟩ := hT1
  unfold HasPt zeroT at hZ1
  obtain ⟨r0, r1, r2⟩ := hZ1
  have z2 : w.heap.size + 1 + 1 < w1.heap.size := World.block_lt_of_cell? _ _ r0
  go_wp2_with fail
  refine (between_t _ _ _ _ (by assumption)).mono ?_
  rintro e w' ⟨rfl, rfl⟩
  go_wp2_with fail
  refine (between_t _ _ _ _ (by assumption)).mono ?_
  rintro e w' ⟨rfl, rfl⟩
  go_wp2_with fail
  refine (isPoint_f (shrP t a c) _ hs).mono ?_
  rintro e w2 ⟨rfl, hb2⟩
  have hZ2 : HasPt zeroT (w.heap.size + 1 + 1) w2 := HasPt.up (by unfold HasPt zeroT; go_simp) hb2 (by simp only [World.size_alloc]; omega)
  have hS2 : HasPt (shrP t a c) w1.heap.size w2 := HasPt.up (by unfold HasPt shrP; go_simp) hb2 (by simp only [World.size_alloc]; omega)
  have y0 : w2.frozen? ⟨w.heap.size + 1 + 1, 0, none⟩ = false := low_frozen hb2 (by simp only [World.size_alloc]; omega) (by go_simp)
  have y1 : w2.frozen? ⟨w.heap.size + 1 + 1, 1, none⟩ = false := low_frozen hb2 (by simp only [World.size_alloc]; omega) (by go_simp)
  have y2 : w2.frozen? ⟨w.heap.size + 1 + 1, 2, none⟩ = false := low_frozen hb2 (by simp only [World.size_alloc]; omega) (by go_simp)
  have zz := C1.size
  have C2 : Below w.heap.size w w2 := (C1.alloc zz _).trans (hb2.mono (by simp only [World.size_alloc]; omega))
  clear hb2 p0 p1 p2 p3 p4 p5 p6 p7 p8 p9 t0 t1 t2 r0 r1 r2 q0 q1 q2
  unfold HasPt zeroT at hZ2
  unfold HasPt shrP at hS2
  obtain ⟨r0, r1, r2⟩ := hZ2
  obtain ⟨s0, s1, s2⟩ := hS2
  have z3 : w1.heap.size < w2.heap.size := World.block_lt_of_cell? _ _ s0
  have z4 : w.heap.size + 1 + 1 < w2.heap.size := World.block_lt_of_cell? _ _ r0
  go_wp2_with fail
  refine bodyPost_ret (v := .tuple #[zeroT.v, .int .i64 2]) ?_ rfl ⟨rfl, ?_⟩
  · simp [results, Try.results48, go_sem, r0, r1, r2, zeroT]
  · repeat' (first | with_reducible exact C2 | with_reducible refine set1 ?_ (by omega) _ _ | with_reducible refine Below.alloc ?_ (by (try simp only [World.size_alloc, World.size_setCell]); omega) _)
set_option maxHeartbeats 1000000 in
theorem Shrink_ok (p : Pap) (t : Pt) (a c : Int) (w : World) (h : p.Ok) (ht : t.Ok) (hi : ShrIn p a c) (hs : (shrP t a c).Ok) :
    Calls Try.prog 48 #[p.v, t.v, .int .i64 a, .int .i64 c] w fun e w' => e = .returned (.tuple #[(shrP t a c).v, .int .i64 0]) ∧ Below w.heap.size w w' := by
  obtain ⟨⟨m1, m2⟩, m3, m4⟩ := shr_bd h ht hi
  obtain ⟨h1, h2⟩ := hi
  go_enter Try.func48, Try.ntmps48
  go_wp2_with fail
  refine (check_ok p t _ h ht).mono ?_
  rintro e w1 ⟨rfl, hb⟩
  have hP1 : HasPap p w.heap.size w1 := HasPap.up (by unfold HasPap; go_simp) hb (by simp only [World.size_alloc]; omega)
  have hT1 : HasPt t (w.heap.size + 1) w1 := HasPt.up (by unfold HasPt; go_simp) hb (by simp only [World.size_alloc]; omega)
  have hZ1 : HasPt zeroT (w.heap.size + 1 + 1) w1 := HasPt.up (by unfold HasPt zeroT; go_simp) hb (by simp only [World.size_alloc]; omega)
  have hF : ∀ o, o < 3 → w1.frozen? ⟨w.heap.size + 1 + 1, o, none⟩ = false := fun o ho => low_frozen hb (by simp only [World.size_alloc]; omega) (by match o, ho with | 0, _ => go_simp | 1, _ => go_simp | 2, _ => go_simp)
  have q0 := hF 0 (by omega)
  have q1 := hF 1 (by omega)
  have q2 := hF 2 (by omega)
  have C1 : Below w.heap.size w w1 := (box3 _ _ _ _).trans (hb.mono (by simp only [World.size_alloc]; omega))
  clear hb hF
  obtain ⟨p0, p1, p2, p3, p4, p5, p6, p7, p8, p9⟩ := hP1
  obtain ⟨t0, t1, t2⟩ := hT1
  unfold HasPt zeroT at hZ1
  obtain ⟨r0, r1, r2⟩ := hZ1
  have z2 : w.heap.size + 1 + 1 < w1.heap.size := World.block_lt_of_cell? _ _ r0
  go_wp2_with fail
  refine (between_t _ _ _ _ (by assumption)).mono ?_
  rintro e w' ⟨rfl, rfl⟩
  go_wp2_with fail
  refine (between_t _ _ _ _ (by assumption)).mono ?_
  rintro e w' ⟨rfl, rfl⟩
  go_wp2_with fail
  refine (isPoint_t (shrP t a c) _ hs).mono ?_
  rintro e w2 ⟨rfl, hb2⟩
  have hZ2 : HasPt zeroT (w.heap.size + 1 + 1) w2 := HasPt.up (by unfold HasPt zeroT; go_simp) hb2 (by simp only [World.size_alloc]; omega)
  have hS2 : HasPt (shrP t a c) w1.heap.size w2 := HasPt.up (by unfold HasPt shrP; go_simp) hb2 (by simp only [World.size_alloc]; omega)
  have y0 : w2.frozen? ⟨w.heap.size + 1 + 1, 0, none⟩ = false := low_frozen hb2 (by simp only [World.size_alloc]; omega) (by go_simp)
  have y1 : w2.frozen? ⟨w.heap.size + 1 + 1, 1, none⟩ = false := low_frozen hb2 (by simp only [World.size_alloc]; omega) (by go_simp)
  have y2 : w2.frozen? ⟨w.heap.size + 1 + 1, 2, none⟩ = false := low_frozen hb2 (by simp only [World.size_alloc]; omega) (by go_simp)
  have zz := C1.size
  have C2 : Below w.heap.size w w2 := (C1.alloc zz _).trans (hb2.mono (by simp only [World.size_alloc]; omega))
  clear hb2 p0 p1 p2 p3 p4 p5 p6 p7 p8 p9 t0 t1 t2 r0 r1 r2 q0 q1 q2
  unfold HasPt zeroT at hZ2
  unfold HasPt shrP at hS2
  obtain ⟨r0, r1, r2⟩ := hZ2
  obtain ⟨s0, s1, s2⟩ := hS2
  have z3 : w1.heap.size < w2.heap.size := World.block_lt_of_cell? _ _ s0
  have z4 : w.heap.size + 1 + 1 < w2.heap.size := World.block_lt_of_cell? _ _ r0
  go_wp2_with fail
  refine bodyPost_ret (v := .tuple #[(shrP t a c).v, .int .i64 0]) ?_ rfl ⟨rfl, ?_⟩
  · simp [results, Try.results48, go_sem, r0, r1, r2, shrP]
  · repeat' (first | with_reducible exact C2 | with_reducible refine set1 ?_ (by omega) _ _ | with_reducible refine Below.alloc ?_ (by (try simp only [World.size_alloc, World.size_setCell]); omega) _)
theorem Shrink_any (p : Pap) (t : Pt) (a c : Int) (w : World) :
    Calls Try.prog 48 #[p.v, t.v, .int .i64 a, .int .i64 c] w fun e w' => e = .returned (.tuple #[(shP p t a c).v, .int .i64 (shE p t a c)]) ∧ Below w.heap.size w w' := by
  by_cases h : ptE p t = 0
  · obtain ⟨h1, h2⟩ := ptE_iff.1 h
    by_cases h3 : ShrIn p a c
    · by_cases h4 : (shrP t a c).Ok
      · have e0 : shE p t a c = 0 := shE_iff.2 ⟨h1, h2, h3, h4⟩
        rw [shP_ok e0, e0]; exact Shrink_ok p t a c w h1 h2 h3 h4
      · have e0 : shE p t a c = 2 := by unfold shE; rw [if_pos h, if_pos h3, if_neg h4]
        rw [shP_no (by rw [e0]; decide), e0]; exact Shrink_lim p t a c w h1 h2 h3 h4
    · have e0 : shE p t a c = 1 := by unfold shE; rw [if_pos h, if_neg h3]
      rw [shP_no (by rw [e0]; decide), e0]
      by_cases h4 : p.al ≤ a ∧ a ≤ p.ah
      · exact Shrink_arg2 p t a c w h1 h2 h4 (fun h5 => h3 ⟨h4, h5⟩)
      · exact Shrink_arg1 p t a c w h1 h2 h4
  · have e0 : shE p t a c = ptE p t := by unfold shE; rw [if_neg h]
    rw [shP_no (by rw [e0]; exact h), e0]; exact Shrink_err p t a c w h
end Go.Proofs.Ytmeljcbefnojfaa
