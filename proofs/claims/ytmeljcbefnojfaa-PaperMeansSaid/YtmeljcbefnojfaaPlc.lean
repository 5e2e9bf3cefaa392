import Derived.Test.YtmeljcbefnojfaaRpt
namespace Go.Proofs.Ytmeljcbefnojfaa
open Go.RowKit
open Classical in
noncomputable def pv (p : Pap) (t : Pt) (x : Int) : Int := if ptE p t = 0 then x else 0
theorem pv_ok {p : Pap} {t : Pt} {x : Int} (h : ptE p t = 0) : pv p t x = x := by unfold pv; rw [if_pos h]
theorem pv_no {p : Pap} {t : Pt} {x : Int} (h : ptE p t ≠ 0) : pv p t x = 0 := by unfold pv; rw [if_neg h]
set_option maxHeartbeats 400000 in
theorem PAlong_err (p : Pap) (t : Pt) (w : World) (h : ptE p t ≠ 0) :
    Calls Try.prog 32 #[p.v, t.v] w fun e w' => e = .returned (.tuple #[.agg #[.int .i64 (0), .int .i64 (0)], .int .i64 (ptE p t)]) ∧ Below w.heap.size w w' := by
  have d : (ptE p t == 0) = false := by simpa using h
  have d' : (ptE p t != 0) = true := by simpa using h
  clear h
  go_enter Try.func32, Try.ntmps32
  go_wp2_with fail
  refine (check_any p t _).mono ?_
  rintro e w1 ⟨rfl, hb⟩
  obtain ⟨hc, hf⟩ := bcell hb
  have hz := hb.size
  simp only [World.size_alloc] at hz
  go_wp2_with fail
  refine bodyPost_ret (v := .tuple #[.agg #[.int .i64 0, .int .i64 0], .int .i64 (ptE p t)]) ?_ rfl ⟨rfl, ?_⟩
  · simp [results, Try.results32, go_sem, hc]
  · exact set1 (set1 ((box3 _ _ _ _).trans (hb.mono (by simp only [World.size_alloc]; omega))) (by omega) _ _) (by omega) _ _
set_option maxHeartbeats 400000 in
theorem PAlong_ok (p : Pap) (t : Pt) (w : World) (h : p.Ok) (ht : t.Ok) :
    Calls Try.prog 32 #[p.v, t.v] w fun e w' => e = .returned (.tuple #[.agg #[.int .i64 (alongLo p t), .int .i64 (alongHi p t)], .int .i64 (0)]) ∧ Below w.heap.size w w' := by
  go_enter Try.func32, Try.ntmps32
  go_wp2_with fail
  refine (check_ok p t _ h ht).mono ?_
  rintro e w1 ⟨rfl, hb⟩
  obtain ⟨hc, hf⟩ := bcell hb
  have hz := hb.size
  simp only [World.size_alloc] at hz
  have z0 : w.heap.size < w1.heap.size := by omega
  have z1 : w.heap.size + 1 < w1.heap.size := by omega
  have z2 : w.heap.size + 1 + 1 < w1.heap.size := by omega
  go_wp2_with fail
  refine (along_any p t _ h ht).mono ?_
  rintro e w2 ⟨rfl, hb2⟩
  obtain ⟨hc2, hf2⟩ := bcell hb2
  have hz2 := hb2.size
  have x2 : w.heap.size + 1 + 1 < w2.heap.size := by omega
  go_wp2_with fail
  refine bodyPost_ret (v := .tuple #[.agg #[.int .i64 (alongLo p t), .int .i64 (alongHi p t)], .int .i64 0]) ?_ rfl ⟨rfl, ?_⟩
  · simp [results, Try.results32, go_sem, hc, hc2, z2]
  · exact set1 (set1 (((box3 _ _ _ _).trans (hb.mono (by simp only [World.size_alloc]; omega))).trans (hb2.mono (by omega))) (by omega) _ _) (by omega) _ _
theorem PAlong_any (p : Pap) (t : Pt) (w : World) :
    Calls Try.prog 32 #[p.v, t.v] w fun e w' => e = .returned (.tuple #[.agg #[.int .i64 (pv p t (alongLo p t)), .int .i64 (pv p t (alongHi p t))], .int .i64 (ptE p t)]) ∧ Below w.heap.size w w' := by
  by_cases h : ptE p t = 0
  · obtain ⟨h1, h2⟩ := ptE_iff.1 h
    rw [pv_ok h, pv_ok h, h]; exact PAlong_ok p t w h1 h2
  · rw [pv_no h, pv_no h]; exact PAlong_err p t w h
set_option maxHeartbeats 400000 in
theorem PAcross_err (p : Pap) (t : Pt) (w : World) (h : ptE p t ≠ 0) :
    Calls Try.prog 34 #[p.v, t.v] w fun e w' => e = .returned (.tuple #[.agg #[.int .i64 (0), .int .i64 (0)], .int .i64 (ptE p t)]) ∧ Below w.heap.size w w' := by
  have d : (ptE p t == 0) = false := by simpa using h
  have d' : (ptE p t != 0) = true := by simpa using h
  clear h
  go_enter Try.func34, Try.ntmps34
  go_wp2_with fail
  refine (check_any p t _).mono ?_
  rintro e w1 ⟨rfl, hb⟩
  obtain ⟨hc, hf⟩ := bcell hb
  have hz := hb.size
  simp only [World.size_alloc] at hz
  go_wp2_with fail
  refine bodyPost_ret (v := .tuple #[.agg #[.int .i64 0, .int .i64 0], .int .i64 (ptE p t)]) ?_ rfl ⟨rfl, ?_⟩
  · simp [results, Try.results34, go_sem, hc]
  · exact set1 (set1 ((box3 _ _ _ _).trans (hb.mono (by simp only [World.size_alloc]; omega))) (by omega) _ _) (by omega) _ _
set_option maxHeartbeats 400000 in
theorem PAcross_ok (p : Pap) (t : Pt) (w : World) (h : p.Ok) (ht : t.Ok) :
    Calls Try.prog 34 #[p.v, t.v] w fun e w' => e = .returned (.tuple #[.agg #[.int .i64 (acrossLo p t), .int .i64 (acrossHi p t)], .int .i64 (0)]) ∧ Below w.heap.size w w' := by
  go_enter Try.func34, Try.ntmps34
  go_wp2_with fail
  refine (check_ok p t _ h ht).mono ?_
  rintro e w1 ⟨rfl, hb⟩
  obtain ⟨hc, hf⟩ := bcell hb
  have hz := hb.size
  simp only [World.size_alloc] at hz
  have z0 : w.heap.size < w1.heap.size := by omega
  have z1 : w.heap.size + 1 < w1.heap.size := by omega
  have z2 : w.heap.size + 1 + 1 < w1.heap.size := by omega
  go_wp2_with fail
  refine (across_any p t _ h ht).mono ?_
  rintro e w2 ⟨rfl, hb2⟩
  obtain ⟨hc2, hf2⟩ := bcell hb2
  have hz2 := hb2.size
  have x2 : w.heap.size + 1 + 1 < w2.heap.size := by omega
  go_wp2_with fail
  refine bodyPost_ret (v := .tuple #[.agg #[.int .i64 (acrossLo p t), .int .i64 (acrossHi p t)], .int .i64 0]) ?_ rfl ⟨rfl, ?_⟩
  · simp [results, Try.results34, go_sem, hc, hc2, z2]
  · exact set1 (set1 (((box3 _ _ _ _).trans (hb.mono (by simp only [World.size_alloc]; omega))).trans (hb2.mono (by omega))) (by omega) _ _) (by omega) _ _
theorem PAcross_any (p : Pap) (t : Pt) (w : World) :
    Calls Try.prog 34 #[p.v, t.v] w fun e w' => e = .returned (.tuple #[.agg #[.int .i64 (pv p t (acrossLo p t)), .int .i64 (pv p t (acrossHi p t))], .int .i64 (ptE p t)]) ∧ Below w.heap.size w w' := by
  by_cases h : ptE p t = 0
  · obtain ⟨h1, h2⟩ := ptE_iff.1 h
    rw [pv_ok h, pv_ok h, h]; exact PAcross_ok p t w h1 h2
  · rw [pv_no h, pv_no h]; exact PAcross_err p t w h
set_option maxHeartbeats 400000 in
theorem RAlong_err (p : Pap) (t : Pt) (w : World) (h : ptE p t ≠ 0) :
    Calls Try.prog 33 #[p.v, t.v] w fun e w' => e = .returned (.tuple #[.agg #[.int .i64 (0), .int .i64 (0)], .int .i64 (ptE p t)]) ∧ Below w.heap.size w w' := by
  have d : (ptE p t == 0) = false := by simpa using h
  have d' : (ptE p t != 0) = true := by simpa using h
  clear h
  go_enter Try.func33, Try.ntmps33
  go_wp2_with fail
  refine (rcheck_any p t _).mono ?_
  rintro e w1 ⟨rfl, hb⟩
  obtain ⟨hc, hf⟩ := bcell hb
  have hz := hb.size
  simp only [World.size_alloc] at hz
  go_wp2_with fail
  refine bodyPost_ret (v := .tuple #[.agg #[.int .i64 0, .int .i64 0], .int .i64 (ptE p t)]) ?_ rfl ⟨rfl, ?_⟩
  · simp [results, Try.results33, go_sem, hc]
  · exact set1 (set1 ((box3 _ _ _ _).trans (hb.mono (by simp only [World.size_alloc]; omega))) (by omega) _ _) (by omega) _ _
set_option maxHeartbeats 400000 in
theorem RAlong_ok (p : Pap) (t : Pt) (w : World) (h : p.Ok) (ht : t.Ok) :
    Calls Try.prog 33 #[p.v, t.v] w fun e w' => e = .returned (.tuple #[.agg #[.int .i64 (alongLo p t), .int .i64 (alongHi p t)], .int .i64 (0)]) ∧ Below w.heap.size w w' := by
  go_enter Try.func33, Try.ntmps33
  go_wp2_with fail
  refine (rcheck_ok p t _ h ht).mono ?_
  rintro e w1 ⟨rfl, hb⟩
  obtain ⟨hc, hf⟩ := bcell hb
  have hz := hb.size
  simp only [World.size_alloc] at hz
  have z0 : w.heap.size < w1.heap.size := by omega
  have z1 : w.heap.size + 1 < w1.heap.size := by omega
  have z2 : w.heap.size + 1 + 1 < w1.heap.size := by omega
  go_wp2_with fail
  refine (places_any _ _ _ _ _ ht.x ht.half h.along).mono ?_
  rintro e w2 ⟨rfl, hb2⟩
  obtain ⟨hc2, hf2⟩ := bcell hb2
  have hz2 := hb2.size
  have x2 : w.heap.size + 1 + 1 < w2.heap.size := by omega
  go_wp2_with fail
  refine bodyPost_ret (v := .tuple #[.agg #[.int .i64 (alongLo p t), .int .i64 (alongHi p t)], .int .i64 0]) ?_ rfl ⟨rfl, ?_⟩
  · simp [results, Try.results33, go_sem, hc, hc2, z2, alongLo, alongHi]
  · exact set1 (set1 (((box3 _ _ _ _).trans (hb.mono (by simp only [World.size_alloc]; omega))).trans (hb2.mono (by omega))) (by omega) _ _) (by omega) _ _
theorem RAlong_any (p : Pap) (t : Pt) (w : World) :
    Calls Try.prog 33 #[p.v, t.v] w fun e w' => e = .returned (.tuple #[.agg #[.int .i64 (pv p t (alongLo p t)), .int .i64 (pv p t (alongHi p t))], .int .i64 (ptE p t)]) ∧ Below w.heap.size w w' := by
  by_cases h : ptE p t = 0
  · obtain ⟨h1, h2⟩ := ptE_iff.1 h
    rw [pv_ok h, pv_ok h, h]; exact RAlong_ok p t w h1 h2
  · rw [pv_no h, pv_no h]; exact RAlong_err p t w h
set_option maxHeartbeats 400000 in
theorem RAcross_err (p : Pap) (t : Pt) (w : World) (h : ptE p t ≠ 0) :
    Calls Try.prog 35 #[p.v, t.v] w fun e w' => e = .returned (.tuple #[.agg #[.int .i64 (0), .int .i64 (0)], .int .i64 (ptE p t)]) ∧ Below w.heap.size w w' := by
  have d : (ptE p t == 0) = false := by simpa using h
  have d' : (ptE p t != 0) = true := by simpa using h
  clear h
  go_enter Try.func35, Try.ntmps35
  go_wp2_with fail
  refine (rcheck_any p t _).mono ?_
  rintro e w1 ⟨rfl, hb⟩
  obtain ⟨hc, hf⟩ := bcell hb
  have hz := hb.size
  simp only [World.size_alloc] at hz
  go_wp2_with fail
  refine bodyPost_ret (v := .tuple #[.agg #[.int .i64 0, .int .i64 0], .int .i64 (ptE p t)]) ?_ rfl ⟨rfl, ?_⟩
  · simp [results, Try.results35, go_sem, hc]
  · exact set1 (set1 ((box3 _ _ _ _).trans (hb.mono (by simp only [World.size_alloc]; omega))) (by omega) _ _) (by omega) _ _
set_option maxHeartbeats 400000 in
theorem RAcross_ok (p : Pap) (t : Pt) (w : World) (h : p.Ok) (ht : t.Ok) :
    Calls Try.prog 35 #[p.v, t.v] w fun e w' => e = .returned (.tuple #[.agg #[.int .i64 (acrossLo p t), .int .i64 (acrossHi p t)], .int .i64 (0)]) ∧ Below w.heap.size w w' := by
  go_enter Try.func35, Try.ntmps35
  go_wp2_with fail
  refine (rcheck_ok p t _ h ht).mono ?_
  rintro e w1 ⟨rfl, hb⟩
  obtain ⟨hc, hf⟩ := bcell hb
  have hz := hb.size
  simp only [World.size_alloc] at hz
  have z0 : w.heap.size < w1.heap.size := by omega
  have z1 : w.heap.size + 1 < w1.heap.size := by omega
  have z2 : w.heap.size + 1 + 1 < w1.heap.size := by omega
  go_wp2_with fail
  refine (places_any _ _ _ _ _ ht.y ht.half h.across).mono ?_
  rintro e w2 ⟨rfl, hb2⟩
  obtain ⟨hc2, hf2⟩ := bcell hb2
  have hz2 := hb2.size
  have x2 : w.heap.size + 1 + 1 < w2.heap.size := by omega
  go_wp2_with fail
  refine bodyPost_ret (v := .tuple #[.agg #[.int .i64 (acrossLo p t), .int .i64 (acrossHi p t)], .int .i64 0]) ?_ rfl ⟨rfl, ?_⟩
  · simp [results, Try.results35, go_sem, hc, hc2, z2, acrossLo, acrossHi]
  · exact set1 (set1 (((box3 _ _ _ _).trans (hb.mono (by simp only [World.size_alloc]; omega))).trans (hb2.mono (by omega))) (by omega) _ _) (by omega) _ _
theorem RAcross_any (p : Pap) (t : Pt) (w : World) :
    Calls Try.prog 35 #[p.v, t.v] w fun e w' => e = .returned (.tuple #[.agg #[.int .i64 (pv p t (acrossLo p t)), .int .i64 (pv p t (acrossHi p t))], .int .i64 (ptE p t)]) ∧ Below w.heap.size w w' := by
  by_cases h : ptE p t = 0
  · obtain ⟨h1, h2⟩ := ptE_iff.1 h
    rw [pv_ok h, pv_ok h, h]; exact RAcross_ok p t w h1 h2
  · rw [pv_no h, pv_no h]; exact RAcross_err p t w h
end Go.Proofs.Ytmeljcbefnojfaa
