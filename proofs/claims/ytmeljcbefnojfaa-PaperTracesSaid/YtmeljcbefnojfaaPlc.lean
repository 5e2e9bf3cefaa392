import Derived.Test.YtmeljcbefnojfaaRpt
namespace Go.Proofs.Ytmeljcbefnojfaa
open Go.RowKit
open Classical in
noncomputable def pv (p : Pap) (t : Pt) (x : Int) : Int := if ptE p t = 0 then x else 0
theorem pv_ok {p : Pap} {t : Pt} {x : Int} (h : ptE p t = 0) : pv p t x = x := by unfold pv; rw [if_pos h]
theorem pv_no {p : Pap} {t : Pt} {x : Int} (h : ptE p t ≠ 0) : pv p t x = 0 := by unfold pv; rw [if_neg h]
set_option maxHeartbeats 400000 in
theorem PAlong_err (p : Pap) (t : Pt) (w : World) (h : ptE p t ≠ 0) :
    Calls Try.prog 32 #[p.v, t.v] w fun e w' => e = .returned (.tuple #[.agg #[.int .i64 (0), .int .i64 (0)], .int .i64 (ptE p t)]) ∧ Below w.heap.size w w' := by
  have d : (ptE p t == 0) = false := by simpa using h
  have d' : (ptE p t != 0) = true := by simpa using h
  clear h
  go_enter Try.func32, Try.ntmps32
  go_wp2_with fail
  refine (check_any p t _).mono ?_
  rintro e w1 ⟨rfl, hb⟩
  obtain ⟨hc, hf⟩ := bcell hb
  have hz := hb.size
  simp only [World.size_alloc] at hz
  go_wp2_with fail
  refine bodyPost_ret (v := .tuple #[.agg #[.int .i64 0, .int .i64 0], .int .i64 (ptE p t)]) ?_ rfl ⟨rfl, ?_⟩
  · simp [results, Try.results32, go_sem, hc]
  · exact set1 (set1 ((box3 _ _ _ _).trans (hb.mono (by simp only [World.size_alloc]; omega))) (by omega) _ _) (by omega) _ _
set_option maxHeartbeats 400000 in
theorem PAlong_ok (p : Pap) (t : Pt) (w : World) (h : p.Ok) (ht : t.Ok) :
    Calls Try.prog 32 #[p.v, t.v] w fun e w' => e = .returned (.tuple #[.agg #[.int .i64 (alongLo p t), .int .i64 (alongHi p t)], .int .i64 (0)]) ∧ Below w.heap.size w w' := by
  go_enter Try.func32, Try.ntmps32
  go_wp2_with fail
  refine (check_ok p t _ h ht).mono ?_
  rintro e w1 ⟨rfl, hb⟩
  obtain ⟨hc, hf⟩ := bcell hb
  have hz := hb.size
  simp only [World.size_alloc] at hz
  have z0 : w.heap.size < w1.heap.size := by omega
  have z1 : w.heap.size + 1 < w1.heap.size := by omega
  have z2 : w.heap.size + 1 + 1 < w1.heap.size := by omega
  go_wp2_with fail
  refine (along_any p t _ h ht).mono ?_
  rintro e w2 ⟨rfl, hb2⟩
  obtain ⟨hc2, hf2⟩ := bcell hb2
  have hz2 := hb2.size
  have x2 : w.heap.size + 1 + 1 < w2.heap.size := by omega
  go_wp2_with fail
  refine bodyPost_ret (v := .tuple #[.agg #[.int .i64 (alongLo p t), .int .i64 (alongHi p t)], .int .i64 0]) ?_ rfl ⟨rfl, ?_⟩
  · simp [results, Try.results32, go_sem, hc, hc2, z2]
  · exact set1 (set1 (((box3 _ _ _ _).trans (hb.mono (by simp only [World.size_alloc]; omega))).trans (hb2.mono (by omega))) (by omega) _ _) (by omega) _ _
theorem PAlong_any (p : Pap) (t : Pt) (w : World) :
    Calls Try.prog 32 #[p.v, t.v] w fun e w' => e = .returned (.tuple #[.agg #[.int .i64 (pv p t (alongLo p t)), .int .i64 (pv p t (alongHi p t))], .int .i64 (ptE p t)]) ∧ Below w.heap.size w w' := by
  by_cases h : ptE p t = 0
  · obtain ⟨h1, h2⟩ := ptE_iff.1 h
    rw [pv_ok h, pv_ok h, h]; exact PAlong_ok p t w h1 h2
  · rw [pv_no h, pv_no h]; exact PAlong_err p t w h
set_option maxHeartbeats 400000 in
theorem PAcross_err (p : Pap) (t : Pt) (w : World) (h : ptE p t ≠ 0) :
    Calls Try.prog 34 #[p.v, t.v] w fun e w' => e = .returned (.tuple #[.agg #[.int .i64 (0), .int .i64 (0)], .int .i64 (ptE p t)]) ∧ Below w.heap.size w w' := by
  have d : (ptE p t == 0) = false := by simpa using h
  have d' : (ptE p t != 0) = true := by simpa using h
  clear h
  go_enter Try.func34, Try.ntmps34
  go_wp2_with fail
  refine (check_any p t _).mono ?_
  rintro e w1 ⟨rfl, hb⟩
  obtain ⟨hc, hf⟩ := bcell hb
  have hz := hb.size
  simp only [World.size_alloc] at hz
  go_wp2_with fail
  refine bodyPost_ret (v := .tuple #[.agg #[.int .i64 0, .int .i64 0], .int .i64 (ptE p t)]) ?_ rfl ⟨rfl, ?_⟩
  · simp [results, Try.results34, go_sem, hc]
  · exact set1 (set1 ((box3 _ _ _ _).trans (hb.mono (by simp only [World.size_alloc]; omega))) (by omega) _ _) (by omega) _ _
set_option maxHeartbeats 400000 in
theorem PAcross_ok (p : Pap) (t : Pt) (w : World) (h : p.Ok) (ht : t.Ok) :
    Calls Try.prog 34 #[p.v, t.v] w fun e w' => e = .returned (.tuple #[.agg #[.int .i64 (acrossLo p t), .int .i64 (acrossHi p t)], .int .i64 (0)]) ∧ Below w.heap.size w w' := by
  go_enter Try.func34, Try.ntmps34
  go_wp2_with fail
  refine (check_ok p t _ h ht).mono ?_
  rintro e w1 ⟨rfl, hb⟩
  obtain ⟨hc, hf⟩ := bcell hb
  have hz := hb.size
  simp only [World.size_alloc] at hz
  have z0 : w.heap.size < w1.heap.size := by omega
  have z1 : w.heap.size + 1 < w1.heap.size := by omega
  have z2 : w.heap.size + 1 + 1 < w1.heap.size := by omega
  go_wp2_with fail
  refine (across_any p t _ h ht).mono ?_
  rintro e w2 ⟨rfl, hb2⟩
  obtain ⟨hc2, hf2⟩ := bcell hb2
  have hz2 := hb2.size
  have x2 : w.heap.size + 1 + 1 < w2.heap.size := by omega
  go_wp2_with fail
  refine bodyPost_ret (v := .tuple #[.agg #[.int .i64 (acrossLo p t), .int .i64 (acrossHi p t)], .int .i64 0]) ?_ rfl ⟨rfl, ?_⟩
  · simp [results, Try.results34, go_sem, hc, hc2, z2]
  · exact set1 (set1 (((box3 _ _ _ _).trans (hb.mono (by simp only [World.size_alloc]; omega))).trans (hb2.mono (by omega))) (by omega) _ _) (by omega) _ _
theorem PAcross_any (p : Pap) (t : Pt) (w : World) :
    Calls Try.prog 34 #[p.v, t.v] w fun e w' => e = .returned (.tuple #[.agg #[.int .i64 (pv p t (acrossLo p t)), .int .i64 (pv p t (acrossHi p t))], .int .i64 (ptE p t)]) ∧ Below w.heap.size w w' := by
  by_cases h : ptE p t = 0
  · obtain ⟨h1, h2⟩ := ptE_iff.1 h
    rw [pv_ok h, pv_ok h, h]; exact PAcross_ok p t w h1 h2
  · rw [pv_no h, pv_no h]; exact PAcross_err p t w h
set_option maxHeartbeats 400000 in
theorem RAlong_err (p : Pap) (t : Pt) (w : World) (h : ptE p t ≠ 0) :
    Calls Try.prog 33 #[p.v, t.v] w fun e w' => e = .returned (.tuple #[.agg #[.int .i64 (0), .int .i64 (0)], .int .i64 (ptE p t)]) ∧ Below w.heap.size w w' := by
  have d : (ptE p t == 0) = false := by simpa using h
  have d' : (ptE p t != 0) = true := by simpa using h
  clear h
  go_enter Try.func33, Try.ntmps33
  go_wp2_with fail
  refine (rcheck_any p t _).mono ?_
  rintro e w1 ⟨rfl, hb⟩
  obtain ⟨hc, hf⟩ := bcell hb
  have hz := hb.size
  simp only [World.size_alloc] at hz
  go_wp2_with fail
  refine bodyPost_ret (v := .tuple #[.agg #[.int .i64 0, .int .i64 0], .int .i64 (ptE p t)]) ?_ rfl ⟨rfl, ?_⟩
  · simp [results, Try.results33, go_sem, hc]
  · exact set1 (set1 ((box3 _ _ _ _).trans (hb.mono (by simp only [World.size_alloc]; omega))) (by omega) _ _) (by omega) _ _
set_option maxHeartbeats 400000 in
theorem RAlong_ok (p : Pap) (t : Pt) (w : World) (h : p.Ok) (ht : t.Ok) :
    Calls Try.prog 33 #[p.v, t.v] w fun e w' => e = .returned (.tuple #[.agg #[.int .i64 (alongLo p t), .int .i64 (alongHi p t)], .int .i64 (0)]) ∧ Below w.heap.size w w' := by
  go_enter Try.func33, Try.ntmps33
  go_wp2_with fail
  refine (rcheck_ok p t _ h ht).mono ?_
  rintro e w1 ⟨rfl, hb⟩
  obtain ⟨hc, hf⟩ := bcell hb
  have hz := hb.size
  simp only [World.size_alloc] at hz
  have z0 : w.heap.size < w1.heap.size := by omega
  have z1 : w.heap.size + 1 < w1.heap.size := by omega
  have z2 : w.heap.size + 1 + 1 < w1.heap.size := by omega
  go_wp2_with fail
  refine (places_any _ _ _ _ _ ht.x ht.half h.along).mono ?_
  rintro e w2 ⟨rfl, hb2⟩
  obtain ⟨hc2, hf2⟩ := bcell hb2
  have hz2 := hb2.size
  have x2 : w.heap.size + 1 + 1 < w2.heap.size := by omega
  go_wp2_with fail
  refine bodyPost_ret (v := .tuple #[.agg #[.int .i64 (alongLo p t), .int .i64 (alongHi p t)], .int .i64 0]) ?_ rfl ⟨rfl, ?_⟩
  · simp [results, Try.results33, go_sem, hc, hc2, z2, alongLo, alongHi]
  · exact set1 (set1 (((box3 _ _ _ _).trans (hb.mono (by simp only [World.size_alloc]; omega))).trans (hb2.mono (by omega))) (by omega) _ _) (by omega) _ _
theorem RAlong_any (p : Pap) (t : Pt) (w : World) :
    Calls Try.prog 33 #[p.v, t.v] w fun e w' => e = .returned (.tuple #[.agg #[.int .i64 (pv p t (alongLo p t)), .int .i64 (pv p t (alongHi p t))], .int .i64 (ptE p t)]) ∧ Below w.heap.size w w' := by
  by_cases h : ptE p t = 0
  · obtain ⟨h1, h2⟩ := ptE_iff.1 h
    rw [pv_ok h, pv_ok h, h]; exact RAlong_ok p t w h1 h2
  · rw [pv_no h, pv_no h]; exact RAlong_err p t w h
set_option maxHeartbeats 400000 in
theorem RAcross_err (p : Pap) (t : Pt) (w : World) (h : ptE p t ≠ 0) :
    Calls Try.prog 35 #[p.v, t.v] w fun e w' => e = .returned (.tuple #[.agg #[.int .i64 (0), .int .i64 (0)], .int .i64 (ptE p t)]) ∧ Below w.heap.size w w' := by
  have d : (ptE p t == 0) = false := by simpa using h
  have d' : (ptE p t != 0) = true := by simpa using h
  clear h
  go_enter Try.func35, Try.ntmps35
  go_wp2_with fail
  refine (rcheck_any p t _).mono ?_
  rintro e w1 ⟨rfl, hb⟩
  obtain ⟨hc, hf⟩ := bcell hb
  have hz := hb.size
  simp only [World.size_alloc] at hz
  go_wp2_with fail
  refine bodyPost_ret (v := .tuple #[.agg #[.int .i64 0, .int .i64 0], .int .i64 (ptE p t)]) ?_ rfl ⟨rfl, ?_⟩
  · simp [results, Try.results35, go_sem, hc]
  · exact set1 (set1 ((box3 _ _ _ _).trans (hb.mono (by simp only [World.size_alloc]; omega))) (by omega) _ _) (by omega) _ _
set_option maxHeartbeats 400000 in
theorem RAcross_ok (p : Pap) (t : Pt) (w : World) (h : p.Ok) (ht : t.Ok) :
    Calls Try.prog 35 #[p.v, t.v] w fun e w' => e = .returned (.tuple #[.agg #[.int .i64 (acrossLo p t), .int .i64 (acrossHi p t)], .int .i64 (0)]) ∧ Below w.heap.size w w' := by
  go_enter Try.func35, Try.ntmps35
  go_wp2_with fail
  refine (rcheck_ok p t _ h ht).mono ?_
  rintro e w1 ⟨rfl, hb⟩
  obtain ⟨hc, hf⟩ := bcell hb
  have hz := hb.size
  simp only [World.size_alloc] at hz
  have z0 : w.heap.size < w1.heap.size := by omega
  have z1 : w.heap.size + 1 < w1.heap.size := by omega
  have z2 : w.heap.size + 1 + 1 < w1.heap.size := by omega
  go_wp2_with fail
  refine (places_any _ _ _ _ _ ht.y ht.half h.across).mono ?_
  rintro e w2 ⟨rfl, hb2⟩
  obtain ⟨hc2, hf2⟩ := bcell hb2
  have hz2 := hb2.size
  have x2 : w.heap.size + 1 + 1 < w2.heap.size := by omega
  go_wp2_with fail
  refine bodyPost_ret (v := .tuple #[.agg #[.int .i64 (acrossLo p t), .int .i64 (acrossHi p t)], .int .i64 0]) ?_ rfl ⟨rfl, ?_⟩
  · simp [results, Try.results35, go_sem, hc, hc2, z2, acrossLo, acrossHi]
  · exact set1 (set1 (((box3 _ _ _ _).trans (hb.mono (by simp only [World.size_alloc]; omega))).trans (hb2.mono (by omega))) (by omega) _ _) (by omega) _ _
theorem RAcross_any (p : Pap) (t : Pt) (w : World) :
    Calls Try.prog 35 #[p.v, t.v] w fun e w' => e = .returned (.tuple #[.agg #[.int .i64 (pv p t (acrossLo p t)), .int .i64 (pv p t (acrossHi p t))], .int .i64 (ptE p t)]) ∧ Below w.heap.size w w' := by
  by_cases h : ptE p t = 0
  · obtain ⟨h1, h2⟩ := ptE_iff.1 h
    rw [pv_ok h, pv_ok h, h]; exact RAcross_ok p t w h1 h2
  · rw [pv_no h, pv_no h]; exact RAcross_err p t w h
end Go.Proofs.Ytmeljcbefnojfaa
namespace Go.Proofs.Ytmeljcbefnojfaa
open Go.RowKit
set_option maxHeartbeats 400000 in
theorem rarc_any (p : Pap) (y : Int) (w : World) (h : p.Ok) (hy : 0 ≤ y ∧ y ≤ p.height) :
    Calls Try.prog 94 #[p.v, .int .i64 y] w fun e w' => e = .returned (.int .i64 (arcOf p y)) ∧ Below w.heap.size w w' := by
  by_cases hr : p.radius = 0
  · have e : arcOf p y = 0 := by simp [arcOf, hr]
    rw [e]
    have e1 : (p.radius == 0) = true := by simp [hr]
    have HR := Lib.hid hr
    clear hr e
    go_enter Try.func94, Try.ntmps94
    go_wp2_with fail
    go_ret
    exact ⟨rfl, box1 _ _⟩
  · have e : arcOf p y = y * (p.height - y) / (2 * p.radius) := by simp [arcOf, hr]
    rw [e]
    have e1 : (p.radius == 0) = false := by simp [hr]
    have h3 := h.radius
    have h2 := h.height
    have hm := mul_bd (a := y) (b := p.height - y) (A := 400000) (B := 400000) (by omega) (by omega) (by omega) (by omega)
    have hd := div_bd (a := y * (p.height - y)) (b := 2 * p.radius) hm.1 (by omega)
    have h3' : p.height ≤ p.radius ∧ p.radius ≤ 4000000 := by omega
    obtain ⟨hm1, hm2⟩ := hm
    obtain ⟨hd1, hd2⟩ := hd
    obtain ⟨h21, h22⟩ := h2
    obtain ⟨hy1, hy2⟩ := hy
    clear hr h3 e h
    go_enter Try.func94, Try.ntmps94
    go_wp2_with fail
    go_ret
    exact ⟨rfl, box1 _ _⟩
set_option maxHeartbeats 400000 in
theorem rlevel_any (p : Pap) (y : Int) (w : World) (h : p.Ok) (hy : 0 ≤ y ∧ y ≤ p.height) :
    Calls Try.prog 91 #[p.v, .int .i64 y] w fun e w' => e = .returned (.int .i64 (lev p y)) ∧ Below w.heap.size w w' := by
  obtain ⟨h1, h2, h3, h4, h5, h6, h7, h8⟩ := h
  have hm := mul_bd (a := y) (b := p.high - p.low) (A := 400000) (B := 12000) (by omega) (by omega) (by omega) (by omega)
  have hd := div_bd (b := p.height) hm.1 h2.1
  obtain ⟨hm1, hm2⟩ := hm
  obtain ⟨hd1, hd2⟩ := hd
  clear h3 h7 h8
  go_enter Try.func91, Try.ntmps91
  go_wp2_with fail
  go_quiet (fail)
  go_wp2_with fail
  go_ret
  exact ⟨rfl, below_drewN (box1 _ _) _⟩
set_option maxHeartbeats 400000 in
theorem RArc_bad (p : Pap) (y : Int) (w : World) (h : ¬ p.Ok) :
    Calls Try.prog 41 #[p.v, .int .i64 y] w fun e w' => e = .returned (.tuple #[.int .i64 (0), .int .i64 (10)]) ∧ Below w.heap.size w w' := by
  go_enter Try.func41, Try.ntmps41
  go_wp2_with fail
  refine (rck_no p _ h).mono ?_
  rintro e w1 ⟨rfl, hb⟩
  obtain ⟨hc, hf⟩ := bcell hb
  have hz := hb.size
  simp only [World.size_alloc] at hz
  have z0 : w.heap.size < w1.heap.size := by omega
  go_wp2_with fail
  go_ret2
  exact ⟨rfl, (box1 _ _).trans (hb.mono (by simp only [World.size_alloc]; omega))⟩
set_option maxHeartbeats 400000 in
theorem RArc_arg (p : Pap) (y : Int) (w : World) (h : p.Ok) (hy : ¬ (0 ≤ y ∧ y ≤ p.height)) :
    Calls Try.prog 41 #[p.v, .int .i64 y] w fun e w' => e = .returned (.tuple #[.int .i64 (0), .int .i64 (1)]) ∧ Below w.heap.size w w' := by
  go_enter Try.func41, Try.ntmps41
  go_wp2_with fail
  refine (rck_ok p _ h).mono ?_
  rintro e w1 ⟨rfl, hb⟩
  obtain ⟨hc, hf⟩ := bcell hb
  have hz := hb.size
  simp only [World.size_alloc] at hz
  have z0 : w.heap.size < w1.heap.size := by omega
  go_wp2_with fail
  refine (within_f _ _ _ _ hy).mono ?_
  rintro e w2 ⟨rfl, rfl⟩
  go_wp2_with fail
  go_ret2
  exact ⟨rfl, (box1 _ _).trans (hb.mono (by simp only [World.size_alloc]; omega))⟩
set_option maxHeartbeats 400000 in
theorem RArc_ok (p : Pap) (y : Int) (w : World) (h : p.Ok) (hy : 0 ≤ y ∧ y ≤ p.height) :
    Calls Try.prog 41 #[p.v, .int .i64 y] w fun e w' => e = .returned (.tuple #[.int .i64 (arcOf p y), .int .i64 (0)]) ∧ Below w.heap.size w w' := by
  go_enter Try.func41, Try.ntmps41
  go_wp2_with fail
  refine (rck_ok p _ h).mono ?_
  rintro e w1 ⟨rfl, hb⟩
  obtain ⟨hc, hf⟩ := bcell hb
  have hz := hb.size
  simp only [World.size_alloc] at hz
  have z0 : w.heap.size < w1.heap.size := by omega
  go_wp2_with fail
  refine (within_t _ _ _ _ hy).mono ?_
  rintro e w2 ⟨rfl, rfl⟩
  go_wp2_with fail
  refine (rarc_any p y _ h hy).mono ?_
  rintro e w2 ⟨rfl, hb2⟩
  go_wp2_with fail
  go_ret2
  exact ⟨rfl, ((box1 _ _).trans (hb.mono (by simp only [World.size_alloc]; omega))).trans (hb2.mono (by omega))⟩
theorem RArc_any (p : Pap) (y : Int) (w : World) :
    Calls Try.prog 41 #[p.v, .int .i64 y] w fun e w' => e = .returned (.tuple #[.int .i64 (arcV p y), .int .i64 (htE p y)]) ∧ Below w.heap.size w w' := by
  by_cases h : p.Ok
  · by_cases hy : 0 ≤ y ∧ y ≤ p.height
    · rw [arcV_ok h hy, htE_ok h hy]; exact RArc_ok p y w h hy
    · have e1 : arcV p y = 0 := by unfold arcV; rw [if_neg (by rw [htE_arg h hy]; decide)]
      rw [e1, htE_arg h hy]; exact RArc_arg p y w h hy
  · have e1 : arcV p y = 0 := by unfold arcV; rw [if_neg (by rw [htE_bad h]; decide)]
    rw [e1, htE_bad h]; exact RArc_bad p y w h
set_option maxHeartbeats 400000 in
theorem RLevel_bad (p : Pap) (y : Int) (w : World) (h : ¬ p.Ok) :
    Calls Try.prog 43 #[p.v, .int .i64 y] w fun e w' => e = .returned (.tuple #[.int .i64 (0), .int .i64 (10)]) ∧ Below w.heap.size w w' := by
  go_enter Try.func43, Try.ntmps43
  go_wp2_with fail
  refine (rck_no p _ h).mono ?_
  rintro e w1 ⟨rfl, hb⟩
  obtain ⟨hc, hf⟩ := bcell hb
  have hz := hb.size
  simp only [World.size_alloc] at hz
  have z0 : w.heap.size < w1.heap.size := by omega
  go_wp2_with fail
  go_ret2
  exact ⟨rfl, (box1 _ _).trans (hb.mono (by simp only [World.size_alloc]; omega))⟩
set_option maxHeartbeats 400000 in
theorem RLevel_arg (p : Pap) (y : Int) (w : World) (h : p.Ok) (hy : ¬ (0 ≤ y ∧ y ≤ p.height)) :
    Calls Try.prog 43 #[p.v, .int .i64 y] w fun e w' => e = .returned (.tuple #[.int .i64 (0), .int .i64 (1)]) ∧ Below w.heap.size w w' := by
  go_enter Try.func43, Try.ntmps43
  go_wp2_with fail
  refine (rck_ok p _ h).mono ?_
  rintro e w1 ⟨rfl, hb⟩
  obtain ⟨hc, hf⟩ := bcell hb
  have hz := hb.size
  simp only [World.size_alloc] at hz
  have z0 : w.heap.size < w1.heap.size := by omega
  go_wp2_with fail
  refine (within_f _ _ _ _ hy).mono ?_
  rintro e w2 ⟨rfl, rfl⟩
  go_wp2_with fail
  go_ret2
  exact ⟨rfl, (box1 _ _).trans (hb.mono (by simp only [World.size_alloc]; omega))⟩
set_option maxHeartbeats 400000 in
theorem RLevel_ok (p : Pap) (y : Int) (w : World) (h : p.Ok) (hy : 0 ≤ y ∧ y ≤ p.height) :
    Calls Try.prog 43 #[p.v, .int .i64 y] w fun e w' => e = .returned (.tuple #[.int .i64 (lev p y), .int .i64 (0)]) ∧ Below w.heap.size w w' := by
  go_enter Try.func43, Try.ntmps43
  go_wp2_with fail
  refine (rck_ok p _ h).mono ?_
  rintro e w1 ⟨rfl, hb⟩
  obtain ⟨hc, hf⟩ := bcell hb
  have hz := hb.size
  simp only [World.size_alloc] at hz
  have z0 : w.heap.size < w1.heap.size := by omega
  go_wp2_with fail
  refine (within_t _ _ _ _ hy).mono ?_
  rintro e w2 ⟨rfl, rfl⟩
  go_wp2_with fail
  refine (rlevel_any p y _ h hy).mono ?_
  rintro e w2 ⟨rfl, hb2⟩
  go_wp2_with fail
  go_ret2
  exact ⟨rfl, ((box1 _ _).trans (hb.mono (by simp only [World.size_alloc]; omega))).trans (hb2.mono (by omega))⟩
theorem RLevel_any (p : Pap) (y : Int) (w : World) :
    Calls Try.prog 43 #[p.v, .int .i64 y] w fun e w' => e = .returned (.tuple #[.int .i64 (levV p y), .int .i64 (htE p y)]) ∧ Below w.heap.size w w' := by
  by_cases h : p.Ok
  · by_cases hy : 0 ≤ y ∧ y ≤ p.height
    · rw [levV_ok h hy, htE_ok h hy]; exact RLevel_ok p y w h hy
    · have e1 : levV p y = 0 := by unfold levV; rw [if_neg (by rw [htE_arg h hy]; decide)]
      rw [e1, htE_arg h hy]; exact RLevel_arg p y w h hy
  · have e1 : levV p y = 0 := by unfold levV; rw [if_neg (by rw [htE_bad h]; decide)]
    rw [e1, htE_bad h]; exact RLevel_bad p y w h
set_option maxHeartbeats 400000 in
theorem RHeights_bad (p : Pap) (l : Int) (w : World) (h : ¬ p.Ok) :
    Calls Try.prog 45 #[p.v, .int .i64 l] w fun e w' => e = .returned (.tuple #[.agg #[.int .i64 0, .int .i64 0], .int .i64 10]) ∧ Below w.heap.size w w' := by
  go_enter Try.func45, Try.ntmps45
  go_wp2_with fail
  refine (rck_no p _ h).mono ?_
  rintro e w1 ⟨rfl, hb⟩
  obtain ⟨hc, hf⟩ := bcell hb
  have hz := hb.size
  simp only [World.size_alloc] at hz
  go_wp2_with fail
  refine bodyPost_ret (v := .tuple #[.agg #[.int .i64 0, .int .i64 0], .int .i64 10]) ?_ rfl ⟨rfl, ?_⟩
  · simp [results, Try.results45, go_sem, hc]
  · exact set1 (set1 ((box2 _ _ _).trans (hb.mono (by simp only [World.size_alloc]; omega))) (by omega) _ _) (by omega) _ _
set_option maxHeartbeats 400000 in
theorem RHeights_arg (p : Pap) (l : Int) (w : World) (h : p.Ok) (hl : ¬ (p.low ≤ l ∧ l ≤ p.high)) :
    Calls Try.prog 45 #[p.v, .int .i64 l] w fun e w' => e = .returned (.tuple #[.agg #[.int .i64 0, .int .i64 0], .int .i64 1]) ∧ Below w.heap.size w w' := by
  go_enter Try.func45, Try.ntmps45
  go_wp2_with fail
  refine (rck_ok p _ h).mono ?_
  rintro e w1 ⟨rfl, hb⟩
  obtain ⟨hc, hf⟩ := bcell hb
  have hz := hb.size
  simp only [World.size_alloc] at hz
  go_wp2_with fail
  refine (within_f _ _ _ _ hl).mono ?_
  rintro e w2 ⟨rfl, rfl⟩
  go_wp2_with fail
  refine bodyPost_ret (v := .tuple #[.agg #[.int .i64 0, .int .i64 0], .int .i64 1]) ?_ rfl ⟨rfl, ?_⟩
  · simp [results, Try.results45, go_sem, hc]
  · exact set1 (set1 ((box2 _ _ _).trans (hb.mono (by simp only [World.size_alloc]; omega))) (by omega) _ _) (by omega) _ _
theorem add_sub_1 (l a : Int) : l + 1 - a = l - a + 1 := by omega
set_option maxRecDepth 100000 in
set_option maxHeartbeats 1000000 in
theorem RHeights_ok (p : Pap) (l : Int) (w : World) (h : p.Ok) (hl : p.low ≤ l ∧ l ≤ p.high) :
    Calls Try.prog 45 #[p.v, .int .i64 l] w fun e w' => e = .returned (.tuple #[.agg #[.int .i64 (lowst p l), .int .i64 (min (lowst p (l + 1) - 1) p.height)], .int .i64 0]) ∧ Below w.heap.size w w' := by
  have b1 := lowst_bd (l := l) h (by omega)
  have b2 := lowst_bd (l := l + 1) h (by omega)
  obtain ⟨h1, h2, h3, h4, h5, h6, h7, h8⟩ := id h
  have m1 := mul_bd (a := l - p.low) (b := p.height) (A := 12001) (B := 400000) (by omega) (by omega) (by omega) (by omega)
  have m2 := mul_bd (a := l + 1 - p.low) (b := p.height) (A := 12001) (B := 400000) (by omega) (by omega) (by omega) (by omega)
  have e1 : IntKind.i64.wrap (l - p.low) = l - p.low := IntWalk.i64_in _ (by omega)
  have e2 : IntKind.i64.wrap ((l - p.low) * p.height) = (l - p.low) * p.height := IntWalk.i64_in _ (by omega)
  have e3 : IntKind.i64.wrap (l + 1) = l + 1 := IntWalk.i64_in _ (by omega)
  have e4 : IntKind.i64.wrap (l + 1 - p.low) = l + 1 - p.low := IntWalk.i64_in _ (by omega)
  have e5 : IntKind.i64.wrap ((l + 1 - p.low) * p.height) = (l + 1 - p.low) * p.height := IntWalk.i64_in _ (by omega)
  have e6 : IntKind.i64.wrap (cdiv ((l + 1 - p.low) * p.height) (p.high - p.low) - 1) = lowst p (l + 1) - 1 := IntWalk.i64_in _ (by unfold lowst at b2; omega)
  have E := Lib.hid (And.intro e1 (And.intro e2 (And.intro e3 (And.intro e4 (And.intro e5 e6)))))
  have A1 : Hid (∀ w, Calls Try.prog 97 #[.int .i64 ((l - p.low) * p.height), .int .i64 (p.high - p.low)] w fun e w' => e = .returned (.int .i64 (lowst p l)) ∧ w' = w) := Lib.hid fun w => (rceil_any _ _ w (by omega) (by omega) (by omega) (by omega)).mono fun _ _ h => ⟨h.1, h.2.symm⟩
  have A2 : Hid (∀ w, Calls Try.prog 97 #[.int .i64 ((l + 1 - p.low) * p.height), .int .i64 (p.high - p.low)] w fun e w' => e = .returned (.int .i64 (cdiv ((l + 1 - p.low) * p.height) (p.high - p.low))) ∧ w' = w) := Lib.hid fun w => (rceil_any _ _ w (by omega) (by omega) (by omega) (by omega)).mono fun _ _ h => ⟨h.1, h.2.symm⟩
  clear e1 e2 e3 e4 e5 e6 h1 h2 h3 h5 h6 h7 h8 m1 m2 b1 b2
  obtain ⟨k0, k1, k2⟩ := h4
  obtain ⟨j0, j1⟩ := hl
  go_enter Try.func45, Try.ntmps45
  go_wp2_with fail
  refine (rck_ok p _ h).mono ?_
  rintro e w1 ⟨rfl, hb⟩
  have hP1 : HasPap p w.heap.size w1 := HasPap.up (by unfold HasPap; go_simp) hb (by simp only [World.size_alloc]; omega)
  have C1 : Below w.heap.size w w1 := (box2 _ _ _).trans (hb.mono (by simp only [World.size_alloc]; omega))
  have hz := hb.size
  simp only [World.size_alloc] at hz
  have q0 : w1.cell? ⟨w.heap.size + 1, 0, none⟩ = some (.int .i64 0) := low_cell hb (by simp only [World.size_alloc]; omega) (by go_simp)
  have q1 : w1.cell? ⟨w.heap.size + 1, 1, none⟩ = some (.int .i64 0) := low_cell hb (by simp only [World.size_alloc]; omega) (by go_simp)
  have q2 : w1.frozen? ⟨w.heap.size + 1, 0, none⟩ = false := low_frozen hb (by simp only [World.size_alloc]; omega) (by go_simp)
  have q3 : w1.frozen? ⟨w.heap.size + 1, 1, none⟩ = false := low_frozen hb (by simp only [World.size_alloc]; omega) (by go_simp)
  clear hb
  obtain ⟨p0, p1, p2, p3, p4, p5, p6, p7, p8, p9⟩ := hP1
  go_wp2_with fail
  refine (within_t _ _ _ _ ⟨j0, j1⟩).mono ?_
  rintro e w2 ⟨rfl, rfl⟩
  go_wp2_with fail
  obtain ⟨e1, e2, e3, e4, e5, e6⟩ := E.out
  refine still_tail 24 (by kernel_rfl) (by kernel_rfl) ?_
  simp only [List.take_succ_cons, List.take_zero, List.drop_succ_cons, List.drop_zero]
  repeat still_step
  still_call (A1.out _)
  repeat still_step
  still_call (A2.out _)
  repeat still_step
  refine wpStill_nil ?_
  clear e1 e2 e3 e4 e5 e6
  go_wp2_with fail
  refine bodyPost_ret (v := .tuple #[.agg #[.int .i64 (lowst p l), .int .i64 (min (lowst p (l + 1) - 1) p.height)], .int .i64 0]) ?_ rfl ⟨rfl, ?_⟩
  · simp [results, Try.results45, go_sem, q0, q1, Int.min_comm]
  · exact set1 (set1 C1.drew (by omega) _ _) (by omega) _ _
theorem RHeights_any (p : Pap) (l : Int) (w : World) :
    Calls Try.prog 45 #[p.v, .int .i64 l] w fun e w' => e = .returned (.tuple #[.agg #[.int .i64 (hsLo p l), .int .i64 (hsHi p l)], .int .i64 (lvE p l)]) ∧ Below w.heap.size w w' := by
  by_cases h : p.Ok
  · by_cases hl : p.low ≤ l ∧ l ≤ p.high
    · have e1 : hsLo p l = lowst p l := by unfold hsLo; rw [if_pos (lvE_ok h hl)]
      have e2 : hsHi p l = min (lowst p (l + 1) - 1) p.height := by unfold hsHi; rw [if_pos (lvE_ok h hl)]
      rw [e1, e2, lvE_ok h hl]; exact RHeights_ok p l w h hl
    · have e1 : hsLo p l = 0 := by unfold hsLo; rw [if_neg (by rw [lvE_arg h hl]; decide)]
      have e2 : hsHi p l = 0 := by unfold hsHi; rw [if_neg (by rw [lvE_arg h hl]; decide)]
      rw [e1, e2, lvE_arg h hl]; exact RHeights_arg p l w h hl
  · have e1 : hsLo p l = 0 := by unfold hsLo; rw [if_neg (by rw [lvE_bad h]; decide)]
    have e2 : hsHi p l = 0 := by unfold hsHi; rw [if_neg (by rw [lvE_bad h]; decide)]
    rw [e1, e2, lvE_bad h]; exact RHeights_bad p l w h
end Go.Proofs.Ytmeljcbefnojfaa
