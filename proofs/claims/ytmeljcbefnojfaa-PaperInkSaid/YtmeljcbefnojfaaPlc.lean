import Derived.Test.YtmeljcbefnojfaaRpt
import Derived.Test.YtmeljcbefnojfaaShr
import Derived.Test.YtmeljcbefnojfaaMns
import Derived.Test.YtmeljcbefnojfaaSam
namespace Go.Proofs.Ytmeljcbefnojfaa
open Go.RowKit
open Classical in
noncomputable def pv (p : Pap) (t : Pt) (x : Int) : Int := if ptE p t = 0 then x else 0
theorem pv_ok {p : Pap} {t : Pt} {x : Int} (h : ptE p t = 0) : pv p t x = x := by unfold pv; rw [if_pos h]
theorem pv_no {p : Pap} {t : Pt} {x : Int} (h : ptE p t ≠ 0) : pv p t x = 0 := by unfold pv; rw [if_neg h]
set_option maxHeartbeats 400000 in
theorem PAlong_err (p : Pap) (t : Pt) (w : World) (h : ptE p t ≠ 0) :
    Calls Try.prog 32 #[p.v, t.v] w fun e w' => e = .returned (.tuple #[.agg #[.int .i64 (0), .int .i64 (0)], .int .i64 (ptE p t)]) ∧ Below w.heap.size w w' := by
  have d : (ptE p t == 0) = false := by simpa using h
  have d' : (ptE p t != 0) = true := by simpa using h
  clear h
  go_enter Try.func32, Try.ntmps32
  go_wp2_with fail
  refine (check_any p t _).mono ?_
  rintro e w1 ⟨rfl, hb⟩
  obtain ⟨hc, hf⟩ := bcell hb
  have hz := hb.size
  simp only [World.size_alloc] at hz
  go_wp2_with fail
  refine bodyPost_ret (v := .tuple #[.agg #[.int .i64 0, .int .i64 0], .int .i64 (ptE p t)]) ?_ rfl ⟨rfl, ?_⟩
  · simp [results, Try.results32, go_sem, hc]
  · exact set1 (set1 ((box3 _ _ _ _).trans (hb.mono (by simp only [World.size_alloc]; omega))) (by omega) _ _) (by omega) _ _
set_option maxHeartbeats 400000 in
theorem PAlong_ok (p : Pap) (t : Pt) (w : World) (h : p.Ok) (ht : t.Ok) :
    Calls Try.prog 32 #[p.v, t.v] w fun e w' => e = .returned (.tuple #[.agg #[.int .i64 (alongLo p t), .int .i64 (alongHi p t)], .int .i64 (0)]) ∧ Below w.heap.size w w' := by
  go_enter Try.func32, Try.ntmps32
  go_wp2_with fail
  refine (check_ok p t _ h ht).mono ?_
  rintro e w1 ⟨rfl, hb⟩
  obtain ⟨hc, hf⟩ := bcell hb
  have hz := hb.size
  simp only [World.size_alloc] at hz
  have z0 : w.heap.size < w1.heap.size := by omega
  have z1 : w.heap.size + 1 < w1.heap.size := by omega
  have z2 : w.heap.size + 1 + 1 < w1.heap.size := by omega
  go_wp2_with fail
  refine (along_any p t _ h ht).mono ?_
  rintro e w2 ⟨rfl, hb2⟩
  obtain ⟨hc2, hf2⟩ := bcell hb2
  have hz2 := hb2.size
  have x2 : w.heap.size + 1 + 1 < w2.heap.size := by omega
  go_wp2_with fail
  refine bodyPost_ret (v := .tuple #[.agg #[.int .i64 (alongLo p t), .int .i64 (alongHi p t)], .int .i64 0]) ?_ rfl ⟨rfl, ?_⟩
  · simp [results, Try.results32, go_sem, hc, hc2, z2]
  · exact set1 (set1 (((box3 _ _ _ _).trans (hb.mono (by simp only [World.size_alloc]; omega))).trans (hb2.mono (by omega))) (by omega) _ _) (by omega) _ _
theorem PAlong_any (p : Pap) (t : Pt) (w : World) :
    Calls Try.prog 32 #[p.v, t.v] w fun e w' => e = .returned (.tuple #[.agg #[.int .i64 (pv p t (alongLo p t)), .int .i64 (pv p t (alongHi p t))], .int .i64 (ptE p t)]) ∧ Below w.heap.size w w' := by
  by_cases h : ptE p t = 0
  · obtain ⟨h1, h2⟩ := ptE_iff.1 h
    rw [pv_ok h, pv_ok h, h]; exact PAlong_ok p t w h1 h2
  · rw [pv_no h, pv_no h]; exact PAlong_err p t w h
set_option maxHeartbeats 400000 in
theorem PAcross_err (p : Pap) (t : Pt) (w : World) (h : ptE p t ≠ 0) :
    Calls Try.prog 34 #[p.v, t.v] w fun e w' => e = .returned (.tuple #[.agg #[.int .i64 (0), .int .i64 (0)], .int .i64 (ptE p t)]) ∧ Below w.heap.size w w' := by
  have d : (ptE p t == 0) = false := by simpa using h
  have d' : (ptE p t != 0) = true := by simpa using h
  clear h
  go_enter Try.func34, Try.ntmps34
  go_wp2_with fail
  refine (check_any p t _).mono ?_
  rintro e w1 ⟨rfl, hb⟩
  obtain ⟨hc, hf⟩ := bcell hb
  have hz := hb.size
  simp only [World.size_alloc] at hz
  go_wp2_with fail
  refine bodyPost_ret (v := .tuple #[.agg #[.int .i64 0, .int .i64 0], .int .i64 (ptE p t)]) ?_ rfl ⟨rfl, ?_⟩
  · simp [results, Try.results34, go_sem, hc]
  · exact set1 (set1 ((box3 _ _ _ _).trans (hb.mono (by simp only [World.size_alloc]; omega))) (by omega) _ _) (by omega) _ _
set_option maxHeartbeats 400000 in
theorem PAcross_ok (p : Pap) (t : Pt) (w : World) (h : p.Ok) (ht : t.Ok) :
    Calls Try.prog 34 #[p.v, t.v] w fun e w' => e = .returned (.tuple #[.agg #[.int .i64 (acrossLo p t), .int .i64 (acrossHi p t)], .int .i64 (0)]) ∧ Below w.heap.size w w' := by
  go_enter Try.func34, Try.ntmps34
  go_wp2_with fail
  refine (check_ok p t _ h ht).mono ?_
  rintro e w1 ⟨rfl, hb⟩
  obtain ⟨hc, hf⟩ := bcell hb
  have hz := hb.size
  simp only [World.size_alloc] at hz
  have z0 : w.heap.size < w1.heap.size := by omega
  have z1 : w.heap.size + 1 < w1.heap.size := by omega
  have z2 : w.heap.size + 1 + 1 < w1.heap.size := by omega
  go_wp2_with fail
  refine (across_any p t _ h ht).mono ?_
  rintro e w2 ⟨rfl, hb2⟩
  obtain ⟨hc2, hf2⟩ := bcell hb2
  have hz2 := hb2.size
  have x2 : w.heap.size + 1 + 1 < w2.heap.size := by omega
  go_wp2_with fail
  refine bodyPost_ret (v := .tuple #[.agg #[.int .i64 (acrossLo p t), .int .i64 (acrossHi p t)], .int .i64 0]) ?_ rfl ⟨rfl, ?_⟩
  · simp [results, Try.results34, go_sem, hc, hc2, z2]
  · exact set1 (set1 (((box3 _ _ _ _).trans (hb.mono (by simp only [World.size_alloc]; omega))).trans (hb2.mono (by omega))) (by omega) _ _) (by omega) _ _
theorem PAcross_any (p : Pap) (t : Pt) (w : World) :
    Calls Try.prog 34 #[p.v, t.v] w fun e w' => e = .returned (.tuple #[.agg #[.int .i64 (pv p t (acrossLo p t)), .int .i64 (pv p t (acrossHi p t))], .int .i64 (ptE p t)]) ∧ Below w.heap.size w w' := by
  by_cases h : ptE p t = 0
  · obtain ⟨h1, h2⟩ := ptE_iff.1 h
    rw [pv_ok h, pv_ok h, h]; exact PAcross_ok p t w h1 h2
  · rw [pv_no h, pv_no h]; exact PAcross_err p t w h
set_option maxHeartbeats 400000 in
theorem RAlong_err (p : Pap) (t : Pt) (w : World) (h : ptE p t ≠ 0) :
    Calls Try.prog 33 #[p.v, t.v] w fun e w' => e = .returned (.tuple #[.agg #[.int .i64 (0), .int .i64 (0)], .int .i64 (ptE p t)]) ∧ Below w.heap.size w w' := by
  have d : (ptE p t == 0) = false := by simpa using h
  have d' : (ptE p t != 0) = true := by simpa using h
  clear h
  go_enter Try.func33, Try.ntmps33
  go_wp2_with fail
  refine (rcheck_any p t _).mono ?_
  rintro e w1 ⟨rfl, hb⟩
  obtain ⟨hc, hf⟩ := bcell hb
  have hz := hb.size
  simp only [World.size_alloc] at hz
  go_wp2_with fail
  refine bodyPost_ret (v := .tuple #[.agg #[.int .i64 0, .int .i64 0], .int .i64 (ptE p t)]) ?_ rfl ⟨rfl, ?_⟩
  · simp [results, Try.results33, go_sem, hc]
  · exact set1 (set1 ((box3 _ _ _ _).trans (hb.mono (by simp only [World.size_alloc]; omega))) (by omega) _ _) (by omega) _ _
set_option maxHeartbeats 400000 in
theorem RAlong_ok (p : Pap) (t : Pt) (w : World) (h : p.Ok) (ht : t.Ok) :
    Calls Try.prog 33 #[p.v, t.v] w fun e w' => e = .returned (.tuple #[.agg #[.int .i64 (alongLo p t), .int .i64 (alongHi p t)], .int .i64 (0)]) ∧ Below w.heap.size w w' := by
  go_enter Try.func33, Try.ntmps33
  go_wp2_with fail
  refine (rcheck_ok p t _ h ht).mono ?_
  rintro e w1 ⟨rfl, hb⟩
  obtain ⟨hc, hf⟩ := bcell hb
  have hz := hb.size
  simp only [World.size_alloc] at hz
  have z0 : w.heap.size < w1.heap.size := by omega
  have z1 : w.heap.size + 1 < w1.heap.size := by omega
  have z2 : w.heap.size + 1 + 1 < w1.heap.size := by omega
  go_wp2_with fail
  refine (places_any _ _ _ _ _ ht.x ht.half h.along).mono ?_
  rintro e w2 ⟨rfl, hb2⟩
  obtain ⟨hc2, hf2⟩ := bcell hb2
  have hz2 := hb2.size
  have x2 : w.heap.size + 1 + 1 < w2.heap.size := by omega
  go_wp2_with fail
  refine bodyPost_ret (v := .tuple #[.agg #[.int .i64 (alongLo p t), .int .i64 (alongHi p t)], .int .i64 0]) ?_ rfl ⟨rfl, ?_⟩
  · simp [results, Try.results33, go_sem, hc, hc2, z2, alongLo, alongHi]
  · exact set1 (set1 (((box3 _ _ _ _).trans (hb.mono (by simp only [World.size_alloc]; omega))).trans (hb2.mono (by omega))) (by omega) _ _) (by omega) _ _
theorem RAlong_any (p : Pap) (t : Pt) (w : World) :
    Calls Try.prog 33 #[p.v, t.v] w fun e w' => e = .returned (.tuple #[.agg #[.int .i64 (pv p t (alongLo p t)), .int .i64 (pv p t (alongHi p t))], .int .i64 (ptE p t)]) ∧ Below w.heap.size w w' := by
  by_cases h : ptE p t = 0
  · obtain ⟨h1, h2⟩ := ptE_iff.1 h
    rw [pv_ok h, pv_ok h, h]; exact RAlong_ok p t w h1 h2
  · rw [pv_no h, pv_no h]; exact RAlong_err p t w h
set_option maxHeartbeats 400000 in
theorem RAcross_err (p : Pap) (t : Pt) (w : World) (h : ptE p t ≠ 0) :
    Calls Try.prog 35 #[p.v, t.v] w fun e w' => e = .returned (.tuple #[.agg #[.int .i64 (0), .int .i64 (0)], .int .i64 (ptE p t)]) ∧ Below w.heap.size w w' := by
  have d : (ptE p t == 0) = false := by simpa using h
  have d' : (ptE p t != 0) = true := by simpa using h
  clear h
  go_enter Try.func35, Try.ntmps35
  go_wp2_with fail
  refine (rcheck_any p t _).mono ?_
  rintro e w1 ⟨rfl, hb⟩
  obtain ⟨hc, hf⟩ := bcell hb
  have hz := hb.size
  simp only [World.size_alloc] at hz
  go_wp2_with fail
  refine bodyPost_ret (v := .tuple #[.agg #[.int .i64 0, .int .i64 0], .int .i64 (ptE p t)]) ?_ rfl ⟨rfl, ?_⟩
  · simp [results, Try.results35, go_sem, hc]
  · exact set1 (set1 ((box3 _ _ _ _).trans (hb.mono (by simp only [World.size_alloc]; omega))) (by omega) _ _) (by omega) _ _
set_option maxHeartbeats 400000 in
theorem RAcross_ok (p : Pap) (t : Pt) (w : World) (h : p.Ok) (ht : t.Ok) :
    Calls Try.prog 35 #[p.v, t.v] w fun e w' => e = .returned (.tuple #[.agg #[.int .i64 (acrossLo p t), .int .i64 (acrossHi p t)], .int .i64 (0)]) ∧ Below w.heap.size w w' := by
  go_enter Try.func35, Try.ntmps35
  go_wp2_with fail
  refine (rcheck_ok p t _ h ht).mono ?_
  rintro e w1 ⟨rfl, hb⟩
  obtain ⟨hc, hf⟩ := bcell hb
  have hz := hb.size
  simp only [World.size_alloc] at hz
  have z0 : w.heap.size < w1.heap.size := by omega
  have z1 : w.heap.size + 1 < w1.heap.size := by omega
  have z2 : w.heap.size + 1 + 1 < w1.heap.size := by omega
  go_wp2_with fail
  refine (places_any _ _ _ _ _ ht.y ht.half h.across).mono ?_
  rintro e w2 ⟨rfl, hb2⟩
  obtain ⟨hc2, hf2⟩ := bcell hb2
  have hz2 := hb2.size
  have x2 : w.heap.size + 1 + 1 < w2.heap.size := by omega
  go_wp2_with fail
  refine bodyPost_ret (v := .tuple #[.agg #[.int .i64 (acrossLo p t), .int .i64 (acrossHi p t)], .int .i64 0]) ?_ rfl ⟨rfl, ?_⟩
  · simp [results, Try.results35, go_sem, hc, hc2, z2, acrossLo, acrossHi]
  · exact set1 (set1 (((box3 _ _ _ _).trans (hb.mono (by simp only [World.size_alloc]; omega))).trans (hb2.mono (by omega))) (by omega) _ _) (by omega) _ _
theorem RAcross_any (p : Pap) (t : Pt) (w : World) :
    Calls Try.prog 35 #[p.v, t.v] w fun e w' => e = .returned (.tuple #[.agg #[.int .i64 (pv p t (acrossLo p t)), .int .i64 (pv p t (acrossHi p t))], .int .i64 (ptE p t)]) ∧ Below w.heap.size w w' := by
  by_cases h : ptE p t = 0
  · obtain ⟨h1, h2⟩ := ptE_iff.1 h
    rw [pv_ok h, pv_ok h, h]; exact RAcross_ok p t w h1 h2
  · rw [pv_no h, pv_no h]; exact RAcross_err p t w h
end Go.Proofs.Ytmeljcbefnojfaa
namespace Go.Proofs.Ytmeljcbefnojfaa
open Go.RowKit
set_option maxHeartbeats 400000 in
theorem rarc_any (p : Pap) (y : Int) (w : World) (h : p.Ok) (hy : 0 ≤ y ∧ y ≤ p.height) :
    Calls Try.prog 94 #[p.v, .int .i64 y] w fun e w' => e = .returned (.int .i64 (arcOf p y)) ∧ Below w.heap.size w w' := by
  by_cases hr : p.radius = 0
  · have e : arcOf p y = 0 := by simp [arcOf, hr]
    rw [e]
    have e1 : (p.radius == 0) = true := by simp [hr]
    have HR := Lib.hid hr
    clear hr e
    go_enter Try.func94, Try.ntmps94
    go_wp2_with fail
    go_ret
    exact ⟨rfl, box1 _ _⟩
  · have e : arcOf p y = y * (p.height - y) / (2 * p.radius) := by simp [arcOf, hr]
    rw [e]
    have e1 : (p.radius == 0) = false := by simp [hr]
    have h3 := h.radius
    have h2 := h.height
    have hm := mul_bd (a := y) (b := p.height - y) (A := 400000) (B := 400000) (by omega) (by omega) (by omega) (by omega)
    have hd := div_bd (a := y * (p.height - y)) (b := 2 * p.radius) hm.1 (by omega)
    have h3' : p.height ≤ p.radius ∧ p.radius ≤ 4000000 := by omega
    obtain ⟨hm1, hm2⟩ := hm
    obtain ⟨hd1, hd2⟩ := hd
    obtain ⟨h21, h22⟩ := h2
    obtain ⟨hy1, hy2⟩ := hy
    clear hr h3 e h
    go_enter Try.func94, Try.ntmps94
    go_wp2_with fail
    go_ret
    exact ⟨rfl, box1 _ _⟩
set_option maxHeartbeats 400000 in
theorem rlevel_any (p : Pap) (y : Int) (w : World) (h : p.Ok) (hy : 0 ≤ y ∧ y ≤ p.height) :
    Calls Try.prog 91 #[p.v, .int .i64 y] w fun e w' => e = .returned (.int .i64 (lev p y)) ∧ Below w.heap.size w w' := by
  obtain ⟨h1, h2, h3, h4, h5, h6, h7, h8⟩ := h
  have hm := mul_bd (a := y) (b := p.high - p.low) (A := 400000) (B := 12000) (by omega) (by omega) (by omega) (by omega)
  have hd := div_bd (b := p.height) hm.1 h2.1
  obtain ⟨hm1, hm2⟩ := hm
  obtain ⟨hd1, hd2⟩ := hd
  clear h3 h7 h8
  go_enter Try.func91, Try.ntmps91
  go_wp2_with fail
  go_quiet (fail)
  go_wp2_with fail
  go_ret
  exact ⟨rfl, below_drewN (box1 _ _) _⟩
set_option maxHeartbeats 400000 in
theorem RArc_bad (p : Pap) (y : Int) (w : World) (h : ¬ p.Ok) :
    Calls Try.prog 41 #[p.v, .int .i64 y] w fun e w' => e = .returned (.tuple #[.int .i64 (0), .int .i64 (10)]) ∧ Below w.heap.size w w' := by
  go_enter Try.func41, Try.ntmps41
  go_wp2_with fail
  refine (rck_no p _ h).mono ?_
  rintro e w1 ⟨rfl, hb⟩
  obtain ⟨hc, hf⟩ := bcell hb
  have hz := hb.size
  simp only [World.size_alloc] at hz
  have z0 : w.heap.size < w1.heap.size := by omega
  go_wp2_with fail
  go_ret2
  exact ⟨rfl, (box1 _ _).trans (hb.mono (by simp only [World.size_alloc]; omega))⟩
set_option maxHeartbeats 400000 in
theorem RArc_arg (p : Pap) (y : Int) (w : World) (h : p.Ok) (hy : ¬ (0 ≤ y ∧ y ≤ p.height)) :
    Calls Try.prog 41 #[p.v, .int .i64 y] w fun e w' => e = .returned (.tuple #[.int .i64 (0), .int .i64 (1)]) ∧ Below w.heap.size w w' := by
  go_enter Try.func41, Try.ntmps41
  go_wp2_with fail
  refine (rck_ok p _ h).mono ?_
  rintro e w1 ⟨rfl, hb⟩
  obtain ⟨hc, hf⟩ := bcell hb
  have hz := hb.size
  simp only [World.size_alloc] at hz
  have z0 : w.heap.size < w1.heap.size := by omega
  go_wp2_with fail
  refine (within_f _ _ _ _ hy).mono ?_
  rintro e w2 ⟨rfl, rfl⟩
  go_wp2_with fail
  go_ret2
  exact ⟨rfl, (box1 _ _).trans (hb.mono (by simp only [World.size_alloc]; omega))⟩
set_option maxHeartbeats 400000 in
theorem RArc_ok (p : Pap) (y : Int) (w : World) (h : p.Ok) (hy : 0 ≤ y ∧ y ≤ p.height) :
    Calls Try.prog 41 #[p.v, .int .i64 y] w fun e w' => e = .returned (.tuple #[.int .i64 (arcOf p y), .int .i64 (0)]) ∧ Below w.heap.size w w' := by
  go_enter Try.func41, Try.ntmps41
  go_wp2_with fail
  refine (rck_ok p _ h).mono ?_
  rintro e w1 ⟨rfl, hb⟩
  obtain ⟨hc, hf⟩ := bcell hb
  have hz := hb.size
  simp only [World.size_alloc] at hz
  have z0 : w.heap.size < w1.heap.size := by omega
  go_wp2_with fail
  refine (within_t _ _ _ _ hy).mono ?_
  rintro e w2 ⟨rfl, rfl⟩
  go_wp2_with fail
  refine (rarc_any p y _ h hy).mono ?_
  rintro e w2 ⟨rfl, hb2⟩
  go_wp2_with fail
  go_ret2
  exact ⟨rfl, ((box1 _ _).trans (hb.mono (by simp only [World.size_alloc]; omega))).trans (hb2.mono (by omega))⟩
theorem RArc_any (p : Pap) (y : Int) (w : World) :
    Calls Try.prog 41 #[p.v, .int .i64 y] w fun e w' => e = .returned (.tuple #[.int .i64 (arcV p y), .int .i64 (htE p y)]) ∧ Below w.heap.size w w' := by
  by_cases h : p.Ok
  · by_cases hy : 0 ≤ y ∧ y ≤ p.height
    · rw [arcV_ok h hy, htE_ok h hy]; exact RArc_ok p y w h hy
    · have e1 : arcV p y = 0 := by unfold arcV; rw [if_neg (by rw [htE_arg h hy]; decide)]
      rw [e1, htE_arg h hy]; exact RArc_arg p y w h hy
  · have e1 : arcV p y = 0 := by unfold arcV; rw [if_neg (by rw [htE_bad h]; decide)]
    rw [e1, htE_bad h]; exact RArc_bad p y w h
set_option maxHeartbeats 400000 in
theorem RLevel_bad (p : Pap) (y : Int) (w : World) (h : ¬ p.Ok) :
    Calls Try.prog 43 #[p.v, .int .i64 y] w fun e w' => e = .returned (.tuple #[.int .i64 (0), .int .i64 (10)]) ∧ Below w.heap.size w w' := by
  go_enter Try.func43, Try.ntmps43
  go_wp2_with fail
  refine (rck_no p _ h).mono ?_
  rintro e w1 ⟨rfl, hb⟩
  obtain ⟨hc, hf⟩ := bcell hb
  have hz := hb.size
  simp only [World.size_alloc] at hz
  have z0 : w.heap.size < w1.heap.size := by omega
  go_wp2_with fail
  go_ret2
  exact ⟨rfl, (box1 _ _).trans (hb.mono (by simp only [World.size_alloc]; omega))⟩
set_option maxHeartbeats 400000 in
theorem RLevel_arg (p : Pap) (y : Int) (w : World) (h : p.Ok) (hy : ¬ (0 ≤ y ∧ y ≤ p.height)) :
    Calls Try.prog 43 #[p.v, .int .i64 y] w fun e w' => e = .returned (.tuple #[.int .i64 (0), .int .i64 (1)]) ∧ Below w.heap.size w w' := by
  go_enter Try.func43, Try.ntmps43
  go_wp2_with fail
  refine (rck_ok p _ h).mono ?_
  rintro e w1 ⟨rfl, hb⟩
  obtain ⟨hc, hf⟩ := bcell hb
  have hz := hb.size
  simp only [World.size_alloc] at hz
  have z0 : w.heap.size < w1.heap.size := by omega
  go_wp2_with fail
  refine (within_f _ _ _ _ hy).mono ?_
  rintro e w2 ⟨rfl, rfl⟩
  go_wp2_with fail
  go_ret2
  exact ⟨rfl, (box1 _ _).trans (hb.mono (by simp only [World.size_alloc]; omega))⟩
set_option maxHeartbeats 400000 in
theorem RLevel_ok (p : Pap) (y : Int) (w : World) (h : p.Ok) (hy : 0 ≤ y ∧ y ≤ p.height) :
    Calls Try.prog 43 #[p.v, .int .i64 y] w fun e w' => e = .returned (.tuple #[.int .i64 (lev p y), .int .i64 (0)]) ∧ Below w.heap.size w w' := by
  go_enter Try.func43, Try.ntmps43
  go_wp2_with fail
  refine (rck_ok p _ h).mono ?_
  rintro e w1 ⟨rfl, hb⟩
  obtain ⟨hc, hf⟩ := bcell hb
  have hz := hb.size
  simp only [World.size_alloc] at hz
  have z0 : w.heap.size < w1.heap.size := by omega
  go_wp2_with fail
  refine (within_t _ _ _ _ hy).mono ?_
  rintro e w2 ⟨rfl, rfl⟩
  go_wp2_with fail
  refine (rlevel_any p y _ h hy).mono ?_
  rintro e w2 ⟨rfl, hb2⟩
  go_wp2_with fail
  go_ret2
  exact ⟨rfl, ((box1 _ _).trans (hb.mono (by simp only [World.size_alloc]; omega))).trans (hb2.mono (by omega))⟩
theorem RLevel_any (p : Pap) (y : Int) (w : World) :
    Calls Try.prog 43 #[p.v, .int .i64 y] w fun e w' => e = .returned (.tuple #[.int .i64 (levV p y), .int .i64 (htE p y)]) ∧ Below w.heap.size w w' := by
  by_cases h : p.Ok
  · by_cases hy : 0 ≤ y ∧ y ≤ p.height
    · rw [levV_ok h hy, htE_ok h hy]; exact RLevel_ok p y w h hy
    · have e1 : levV p y = 0 := by unfold levV; rw [if_neg (by rw [htE_arg h hy]; decide)]
      rw [e1, htE_arg h hy]; exact RLevel_arg p y w h hy
  · have e1 : levV p y = 0 := by unfold levV; rw [if_neg (by rw [htE_bad h]; decide)]
    rw [e1, htE_bad h]; exact RLevel_bad p y w h
set_option maxHeartbeats 400000 in
theorem RHeights_bad (p : Pap) (l : Int) (w : World) (h : ¬ p.Ok) :
    Calls Try.prog 45 #[p.v, .int .i64 l] w fun e w' => e = .returned (.tuple #[.agg #[.int .i64 0, .int .i64 0], .int .i64 10]) ∧ Below w.heap.size w w' := by
  go_enter Try.func45, Try.ntmps45
  go_wp2_with fail
  refine (rck_no p _ h).mono ?_
  rintro e w1 ⟨rfl, hb⟩
  obtain ⟨hc, hf⟩ := bcell hb
  have hz := hb.size
  simp only [World.size_alloc] at hz
  go_wp2_with fail
  refine bodyPost_ret (v := .tuple #[.agg #[.int .i64 0, .int .i64 0], .int .i64 10]) ?_ rfl ⟨rfl, ?_⟩
  · simp [results, Try.results45, go_sem, hc]
  · exact set1 (set1 ((box2 _ _ _).trans (hb.mono (by simp only [World.size_alloc]; omega))) (by omega) _ _) (by omega) _ _
set_option maxHeartbeats 400000 in
theorem RHeights_arg (p : Pap) (l : Int) (w : World) (h : p.Ok) (hl : ¬ (p.low ≤ l ∧ l ≤ p.high)) :
    Calls Try.prog 45 #[p.v, .int .i64 l] w fun e w' => e = .returned (.tuple #[.agg #[.int .i64 0, .int .i64 0], .int .i64 1]) ∧ Below w.heap.size w w' := by
  go_enter Try.func45, Try.ntmps45
  go_wp2_with fail
  refine (rck_ok p _ h).mono ?_
  rintro e w1 ⟨rfl, hb⟩
  obtain ⟨hc, hf⟩ := bcell hb
  have hz := hb.size
  simp only [World.size_alloc] at hz
  go_wp2_with fail
  refine (within_f _ _ _ _ hl).mono ?_
  rintro e w2 ⟨rfl, rfl⟩
  go_wp2_with fail
  refine bodyPost_ret (v := .tuple #[.agg #[.int .i64 0, .int .i64 0], .int .i64 1]) ?_ rfl ⟨rfl, ?_⟩
  · simp [results, Try.results45, go_sem, hc]
  · exact set1 (set1 ((box2 _ _ _).trans (hb.mono (by simp only [World.size_alloc]; omega))) (by omega) _ _) (by omega) _ _
theorem add_sub_1 (l a : Int) : l + 1 - a = l - a + 1 := by omega
set_option maxRecDepth 100000 in
set_option maxHeartbeats 1000000 in
theorem RHeights_ok (p : Pap) (l : Int) (w : World) (h : p.Ok) (hl : p.low ≤ l ∧ l ≤ p.high) :
    Calls Try.prog 45 #[p.v, .int .i64 l] w fun e w' => e = .returned (.tuple #[.agg #[.int .i64 (lowst p l), .int .i64 (min (lowst p (l + 1) - 1) p.height)], .int .i64 0]) ∧ Below w.heap.size w w' := by
  have b1 := lowst_bd (l := l) h (by omega)
  have b2 := lowst_bd (l := l + 1) h (by omega)
  obtain ⟨h1, h2, h3, h4, h5, h6, h7, h8⟩ := id h
  have m1 := mul_bd (a := l - p.low) (b := p.height) (A := 12001) (B := 400000) (by omega) (by omega) (by omega) (by omega)
  have m2 := mul_bd (a := l + 1 - p.low) (b := p.height) (A := 12001) (B := 400000) (by omega) (by omega) (by omega) (by omega)
  have e1 : IntKind.i64.wrap (l - p.low) = l - p.low := IntWalk.i64_in _ (by omega)
  have e2 : IntKind.i64.wrap ((l - p.low) * p.height) = (l - p.low) * p.height := IntWalk.i64_in _ (by omega)
  have e3 : IntKind.i64.wrap (l + 1) = l + 1 := IntWalk.i64_in _ (by omega)
  have e4 : IntKind.i64.wrap (l + 1 - p.low) = l + 1 - p.low := IntWalk.i64_in _ (by omega)
  have e5 : IntKind.i64.wrap ((l + 1 - p.low) * p.height) = (l + 1 - p.low) * p.height := IntWalk.i64_in _ (by omega)
  have e6 : IntKind.i64.wrap (cdiv ((l + 1 - p.low) * p.height) (p.high - p.low) - 1) = lowst p (l + 1) - 1 := IntWalk.i64_in _ (by unfold lowst at b2; omega)
  have E := Lib.hid (And.intro e1 (And.intro e2 (And.intro e3 (And.intro e4 (And.intro e5 e6)))))
  have A1 : Hid (∀ w, Calls Try.prog 97 #[.int .i64 ((l - p.low) * p.height), .int .i64 (p.high - p.low)] w fun e w' => e = .returned (.int .i64 (lowst p l)) ∧ w' = w) := Lib.hid fun w => (rceil_any _ _ w (by omega) (by omega) (by omega) (by omega)).mono fun _ _ h => ⟨h.1, h.2.symm⟩
  have A2 : Hid (∀ w, Calls Try.prog 97 #[.int .i64 ((l + 1 - p.low) * p.height), .int .i64 (p.high - p.low)] w fun e w' => e = .returned (.int .i64 (cdiv ((l + 1 - p.low) * p.height) (p.high - p.low))) ∧ w' = w) := Lib.hid fun w => (rceil_any _ _ w (by omega) (by omega) (by omega) (by omega)).mono fun _ _ h => ⟨h.1, h.2.symm⟩
  clear e1 e2 e3 e4 e5 e6 h1 h2 h3 h5 h6 h7 h8 m1 m2 b1 b2
  obtain ⟨k0, k1, k2⟩ := h4
  obtain ⟨j0, j1⟩ := hl
  go_enter Try.func45, Try.ntmps45
  go_wp2_with fail
  refine (rck_ok p _ h).mono ?_
  rintro e w1 ⟨rfl, hb⟩
  have hP1 : HasPap p w.heap.size w1 := HasPap.up (by unfold HasPap; go_simp) hb (by simp only [World.size_alloc]; omega)
  have C1 : Below w.heap.size w w1 := (box2 _ _ _).trans (hb.mono (by simp only [World.size_alloc]; omega))
  have hz := hb.size
  simp only [World.size_alloc] at hz
  have q0 : w1.cell? ⟨w.heap.size + 1, 0, none⟩ = some (.int .i64 0) := low_cell hb (by simp only [World.size_alloc]; omega) (by go_simp)
  have q1 : w1.cell? ⟨w.heap.size + 1, 1, none⟩ = some (.int .i64 0) := low_cell hb (by simp only [World.size_alloc]; omega) (by go_simp)
  have q2 : w1.frozen? ⟨w.heap.size + 1, 0, none⟩ = false := low_frozen hb (by simp only [World.size_alloc]; omega) (by go_simp)
  have q3 : w1.frozen? ⟨w.heap.size + 1, 1, none⟩ = false := low_frozen hb (by simp only [World.size_alloc]; omega) (by go_simp)
  clear hb
  obtain ⟨p0, p1, p2, p3, p4, p5, p6, p7, p8, p9⟩ := hP1
  go_wp2_with fail
  refine (within_t _ _ _ _ ⟨j0, j1⟩).mono ?_
  rintro e w2 ⟨rfl, rfl⟩
  go_wp2_with fail
  obtain ⟨e1, e2, e3, e4, e5, e6⟩ := E.out
  refine still_tail 24 (by kernel_rfl) (by kernel_rfl) ?_
  simp only [List.take_succ_cons, List.take_zero, List.drop_succ_cons, List.drop_zero]
  repeat still_step
  still_call (A1.out _)
  repeat still_step
  still_call (A2.out _)
  repeat still_step
  refine wpStill_nil ?_
  clear e1 e2 e3 e4 e5 e6
  go_wp2_with fail
  refine bodyPost_ret (v := .tuple #[.agg #[.int .i64 (lowst p l), .int .i64 (min (lowst p (l + 1) - 1) p.height)], .int .i64 0]) ?_ rfl ⟨rfl, ?_⟩
  · simp [results, Try.results45, go_sem, q0, q1, Int.min_comm]
  · exact set1 (set1 C1.drew (by omega) _ _) (by omega) _ _
theorem RHeights_any (p : Pap) (l : Int) (w : World) :
    Calls Try.prog 45 #[p.v, .int .i64 l] w fun e w' => e = .returned (.tuple #[.agg #[.int .i64 (hsLo p l), .int .i64 (hsHi p l)], .int .i64 (lvE p l)]) ∧ Below w.heap.size w w' := by
  by_cases h : p.Ok
  · by_cases hl : p.low ≤ l ∧ l ≤ p.high
    · have e1 : hsLo p l = lowst p l := by unfold hsLo; rw [if_pos (lvE_ok h hl)]
      have e2 : hsHi p l = min (lowst p (l + 1) - 1) p.height := by unfold hsHi; rw [if_pos (lvE_ok h hl)]
      rw [e1, e2, lvE_ok h hl]; exact RHeights_ok p l w h hl
    · have e1 : hsLo p l = 0 := by unfold hsLo; rw [if_neg (by rw [lvE_arg h hl]; decide)]
      have e2 : hsHi p l = 0 := by unfold hsHi; rw [if_neg (by rw [lvE_arg h hl]; decide)]
      rw [e1, e2, lvE_arg h hl]; exact RHeights_arg p l w h hl
  · have e1 : hsLo p l = 0 := by unfold hsLo; rw [if_neg (by rw [lvE_bad h]; decide)]
    have e2 : hsHi p l = 0 := by unfold hsHi; rw [if_neg (by rw [lvE_bad h]; decide)]
    rw [e1, e2, lvE_bad h]; exact RHeights_bad p l w h
end Go.Proofs.Ytmeljcbefnojfaa
namespace Go.Proofs.Ytmeljcbefnojfaa
open Go.RowKit
theorem acr_le {p : Pap} {t : Pt} (h : p.Ok) (ht : t.Ok) : 0 ≤ hLo p t ∧ hLo p t ≤ 450000 := acrossLo_bd h ht
set_option maxHeartbeats 1000000 in
theorem rheights_any (p : Pap) (t : Pt) (w : World) (h : p.Ok) (ht : t.Ok) :
    Calls Try.prog 90 #[p.v, t.v] w fun e w' => e = .returned (.agg #[.int .i64 (hLo p t), .int .i64 (hHi p t)]) ∧ Below w.heap.size w w' := by
  go_enter Try.func90, Try.ntmps90
  go_wp2_with fail
  refine (places_any t.y t.half p.cl p.ch _ ht.y ht.half h.across).mono ?_
  rintro e w1 ⟨rfl, hb⟩
  obtain ⟨hc, hf⟩ := bcell hb
  have hz := hb.size
  simp only [World.size_alloc] at hz
  have z0 : w.heap.size < w1.heap.size := by omega
  have z1 : w.heap.size + 1 < w1.heap.size := by omega
  have z2 : w.heap.size + 1 + 1 < w1.heap.size := by omega
  go_wp2_with fail
  refine bodyPost_ret (v := .agg #[.int .i64 (hLo p t), .int .i64 (hHi p t)]) ?_ rfl ⟨rfl, ?_⟩
  · simp [results, Try.results90, go_sem, hc, z2, hLo, hHi, acrossLo, acrossHi]
  · have CB : Below w.heap.size w w1 := (box3 _ _ _ _).trans (hb.mono (by simp only [World.size_alloc]; omega))
    repeat' (first | with_reducible exact Below.refl _ _ | with_reducible exact CB | with_reducible refine set1 ?_ (by omega) _ _ | with_reducible refine Below.alloc ?_ (by (try simp only [World.size_setCell]); omega) _ | with_reducible refine below_drewN ?_ _ | with_reducible refine Below.drew ?_)
theorem clm_eq (p : Pap) (lo hi : Int) (hl : lo ≤ hi) : max lo (min hi (p.height / 2)) = clMid p lo hi := by unfold clMid; omega
set_option maxHeartbeats 2000000 in
theorem rarcs_any (p : Pap) (lo hi : Int) (w : World) (h : p.Ok) (hl : 0 ≤ lo ∧ lo ≤ hi ∧ hi ≤ p.height) :
    Calls Try.prog 120 #[p.v, .agg #[.int .i64 lo, .int .i64 hi]] w fun e w' => e = .returned (.agg #[.int .i64 (arLo p lo hi), .int .i64 (arHi p lo hi)]) ∧ Below w.heap.size w w' := by
  have hh := h.height
  have A : ∀ y w, 0 ≤ y ∧ y ≤ p.height → Calls Try.prog 94 #[p.v, .int .i64 y] w fun e w' => e = .returned (.int .i64 (arcOf p y)) ∧ Below w.heap.size w w' := fun y w hy => rarc_any p y w h hy
  have HL := Lib.hid A
  obtain ⟨hl0, hl1, hl2⟩ := hl
  have HM := Lib.hid (clm_eq p lo hi hl1)
  clear h A
  have hB := box3 w (.cells #[.int .i64 p.pitch, .int .i64 p.height, .int .i64 p.radius, .int .i64 p.low, .int .i64 p.high, .int .i64 p.cols, .int .i64 p.al, .int .i64 p.ah, .int .i64 p.cl, .int .i64 p.ch] 25) (.cells #[.int .i64 lo, .int .i64 hi] 23) (.cells #[.int .i64 0, .int .i64 0] 23)
  go_enter Try.func120, Try.ntmps120
  go_wp2_with fail
  go_region_held3 (fun w' => w'.cell? ⟨w.heap.size, 0, none⟩ = some (.int .i64 p.pitch) ∧ w'.cell? ⟨w.heap.size, 1, none⟩ = some (.int .i64 p.height) ∧ w'.cell? ⟨w.heap.size, 2, none⟩ = some (.int .i64 p.radius) ∧ w'.cell? ⟨w.heap.size, 3, none⟩ = some (.int .i64 p.low) ∧ w'.cell? ⟨w.heap.size, 4, none⟩ = some (.int .i64 p.high) ∧ w'.cell? ⟨w.heap.size, 5, none⟩ = some (.int .i64 p.cols) ∧ w'.cell? ⟨w.heap.size, 6, none⟩ = some (.int .i64 p.al) ∧ w'.cell? ⟨w.heap.size, 7, none⟩ = some (.int .i64 p.ah) ∧ w'.cell? ⟨w.heap.size, 8, none⟩ = some (.int .i64 p.cl) ∧ w'.cell? ⟨w.heap.size, 9, none⟩ = some (.int .i64 p.ch) ∧ w'.cell? ⟨w.heap.size + 1, 0, none⟩ = some (.int .i64 (lo)) ∧ w'.cell? ⟨w.heap.size + 1, 1, none⟩ = some (.int .i64 (hi)) ∧ w'.cell? ⟨w.heap.size + 1 + 1, 0, none⟩ = some (cellAt w' (w.heap.size + 1 + 1) 0) ∧ w'.cell? ⟨w.heap.size + 1 + 1, 1, none⟩ = some (cellAt w' (w.heap.size + 1 + 1) 1) ∧ w'.frozen? ⟨w.heap.size + 1 + 1, 0, none⟩ = false ∧ w'.frozen? ⟨w.heap.size + 1 + 1, 1, none⟩ = false ∧ Below w.heap.size w w' ∧ w.heap.size + 1 + 1 + 1 ≤ w'.heap.size)
    (first | (go_split_ands; (repeat' apply And.intro); all_goals first | assumption | (go_simp; done) | (unfold cellAt; go_simp; done) | exact hB.drew | ((try simp only [World.size_drew, World.size_alloc]); omega)) | (go_split_ands; (repeat' apply And.intro); all_goals first | exact cell_up hb (by (try simp only [World.size_drew, World.size_alloc]); omega) (by assumption) | exact frozen_up hb (by (try simp only [World.size_drew, World.size_alloc]); omega) (by assumption) | exact cellAt_ok (cell_up hb (by (try simp only [World.size_drew, World.size_alloc]); omega) (by assumption)) | exact Below.trans (by assumption) (hb.mono (by (try simp only [World.size_drew, World.size_alloc]); omega)) | (have := hb.size; (try simp only [World.size_drew, World.size_alloc] at this); omega)) | (go_split_ands; (repeat' apply And.intro); all_goals first | assumption | exact set1 (set1 (by assumption) (by omega) _ _) (by omega) _ _ | (go_simp; done) | (unfold cellAt; go_simp; done)))
    ((go_at_call 94; refine (HL.out _ _ (by omega)).mono ?_; rintro e w1 ⟨rfl, hb⟩))
  all_goals
    go_wp2_with fail
    rename_i hS
    obtain ⟨-, -, -, -, -, -, -, -, -, -, -, -, s0, s1, -, -, hBB, -⟩ := hS
    obtain ⟨t0, t1, -⟩ := two_cells s0 s1
    refine bodyPost_ret (v := .agg #[.int .i64 (arLo p lo hi), .int .i64 (arHi p lo hi)]) ?_ rfl ⟨rfl, hBB⟩
    clear s0 s1
    simp [results, Try.results120, go_sem, t0, t1, arLo, arHi, ← HM.out]
theorem hts_no {p : Pap} {t : Pt} : hLo p t > p.height → hLo p t > hHi p t := by unfold hHi; omega
theorem hts_yes {p : Pap} {t : Pt} (h : p.Ok) (ht : t.Ok) : hLo p t ≤ p.height → hLo p t ≤ hHi p t := by
  intro hn
  have := acrossHi_bd h ht
  unfold hLo at hn
  unfold hLo hHi
  omega
set_option maxHeartbeats 1000000 in
theorem rcolumns_none (p : Pap) (t : Pt) (w : World) (h : p.Ok) (ht : t.Ok) (hn : hLo p t > p.height) :
    Calls Try.prog 87 #[p.v, t.v] w fun e w' => e = .returned (.agg #[.int .i64 (1), .int .i64 (0)]) ∧ Below w.heap.size w w' := by
  have hn' := hts_no hn
  go_enter Try.func87, Try.ntmps87
  go_wp2_with fail
  refine (places_any t.x t.half p.al p.ah _ ht.x ht.half h.along).mono ?_
  rintro e w1 ⟨rfl, hb1⟩
  have hB1_0 : HasPap (p) (w.heap.size) w1 := HasPap.up (by unfold HasPap; go_simp) hb1 (by (try simp only [World.size_alloc]); omega)
  have hB1_1 : HasPt (t) (w.heap.size + 1) w1 := HasPt.up (by unfold HasPt; go_simp) hb1 (by (try simp only [World.size_alloc]); omega)
  have hB1_2 : HasSp (0) (0) (w.heap.size + 1 + 1) w1 := HasSp.up (by unfold HasSp; go_simp) hb1 (by (try simp only [World.size_alloc]); omega)
  have g1_2_0 : w1.frozen? ⟨w.heap.size + 1 + 1, 0, none⟩ = false := low_frozen hb1 (by (try simp only [World.size_alloc]); omega) (by go_simp)
  have g1_2_1 : w1.frozen? ⟨w.heap.size + 1 + 1, 1, none⟩ = false := low_frozen hb1 (by (try simp only [World.size_alloc]); omega) (by go_simp)
  have C1 : Below w.heap.size w w1 := by
    refine Below.trans ?_ (hb1.mono ?_)
    · repeat' (first | with_reducible exact Below.refl _ _ | with_reducible exact Below.refl _ _ | with_reducible refine set1 ?_ (by omega) _ _ | with_reducible refine Below.alloc ?_ (by (try simp only [World.size_alloc]); omega) _ | with_reducible refine below_drewN ?_ _ | with_reducible refine Below.drew ?_)
    · (try simp only [World.size_alloc]); omega
  clear hb1
  unfold HasPap at hB1_0
  obtain ⟨f1_0_0, f1_0_1, f1_0_2, f1_0_3, f1_0_4, f1_0_5, f1_0_6, f1_0_7, f1_0_8, f1_0_9⟩ := hB1_0
  have z1_0 : w.heap.size < w1.heap.size := World.block_lt_of_cell? _ _ f1_0_0
  unfold HasPt at hB1_1
  obtain ⟨f1_1_0, f1_1_1, f1_1_2⟩ := hB1_1
  have z1_1 : w.heap.size + 1 < w1.heap.size := World.block_lt_of_cell? _ _ f1_1_0
  unfold HasSp at hB1_2
  obtain ⟨f1_2_0, f1_2_1⟩ := hB1_2
  have z1_2 : w.heap.size + 1 + 1 < w1.heap.size := World.block_lt_of_cell? _ _ f1_2_0
  have zz1 := C1.size
  go_wp2_with fail
  refine (rheights_any p t _ h ht).mono ?_
  rintro e w2 ⟨rfl, hb2⟩
  have hB2_0 : HasPap (p) (w.heap.size) w2 := HasPap.up (by unfold HasPap; go_simp) hb2 (by (try simp only [World.size_alloc]); omega)
  have hB2_1 : HasPt (t) (w.heap.size + 1) w2 := HasPt.up (by unfold HasPt; go_simp) hb2 (by (try simp only [World.size_alloc]); omega)
  have hB2_2 : HasSp (0) (0) (w.heap.size + 1 + 1) w2 := HasSp.up (by unfold HasSp; go_simp) hb2 (by (try simp only [World.size_alloc]); omega)
  have g2_2_0 : w2.frozen? ⟨w.heap.size + 1 + 1, 0, none⟩ = false := low_frozen hb2 (by (try simp only [World.size_alloc]); omega) (by go_simp)
  have g2_2_1 : w2.frozen? ⟨w.heap.size + 1 + 1, 1, none⟩ = false := low_frozen hb2 (by (try simp only [World.size_alloc]); omega) (by go_simp)
  have hB2_3 : HasSp (prLo t.x t.half p.ah) (prHi t.x t.half p.al) (w1.heap.size) w2 := HasSp.up (by unfold HasSp; go_simp) hb2 (by (try simp only [World.size_alloc]); omega)
  have C2 : Below w.heap.size w w2 := by
    refine Below.trans ?_ (hb2.mono ?_)
    · repeat' (first | with_reducible exact Below.refl _ _ | with_reducible exact C1 | with_reducible refine set1 ?_ (by omega) _ _ | with_reducible refine Below.alloc ?_ (by (try simp only [World.size_alloc, World.size_setCell]); omega) _ | with_reducible refine below_drewN ?_ _ | with_reducible refine Below.drew ?_)
    · (try simp only [World.size_alloc]); omega
  clear g1_2_0 g1_2_1 f1_0_0 f1_0_1 f1_0_2 f1_0_3 f1_0_4 f1_0_5 f1_0_6 f1_0_7 f1_0_8 f1_0_9 f1_1_0 f1_1_1 f1_1_2 f1_2_0 f1_2_1 hb2
  unfold HasPap at hB2_0
  obtain ⟨f2_0_0, f2_0_1, f2_0_2, f2_0_3, f2_0_4, f2_0_5, f2_0_6, f2_0_7, f2_0_8, f2_0_9⟩ := hB2_0
  have z2_0 : w.heap.size < w2.heap.size := World.block_lt_of_cell? _ _ f2_0_0
  unfold HasPt at hB2_1
  obtain ⟨f2_1_0, f2_1_1, f2_1_2⟩ := hB2_1
  have z2_1 : w.heap.size + 1 < w2.heap.size := World.block_lt_of_cell? _ _ f2_1_0
  unfold HasSp at hB2_2
  obtain ⟨f2_2_0, f2_2_1⟩ := hB2_2
  have z2_2 : w.heap.size + 1 + 1 < w2.heap.size := World.block_lt_of_cell? _ _ f2_2_0
  unfold HasSp at hB2_3
  obtain ⟨f2_3_0, f2_3_1⟩ := hB2_3
  have z2_3 : w1.heap.size < w2.heap.size := World.block_lt_of_cell? _ _ f2_3_0
  have zz2 := C2.size
  go_wp2_with fail
  refine bodyPost_ret (v := .agg #[.int .i64 1, .int .i64 0]) ?_ rfl ⟨rfl, ?_⟩
  · simp [results, Try.results87, go_sem, f2_2_0, f2_2_1, z2_2]
  · repeat' (first | with_reducible exact Below.refl _ _ | with_reducible exact C2 | with_reducible refine set1 ?_ (by omega) _ _ | with_reducible refine Below.alloc ?_ (by (try simp only [World.size_setCell]); omega) _ | with_reducible refine below_drewN ?_ _ | with_reducible refine Below.drew ?_)
set_option maxRecDepth 100000 in
set_option maxHeartbeats 2000000 in
theorem rcolumns_some (p : Pap) (t : Pt) (w : World) (h : p.Ok) (ht : t.Ok) (hn : hLo p t ≤ p.height) :
    Calls Try.prog 87 #[p.v, t.v] w fun e w' => e = .returned (.agg #[.int .i64 (cLo p t), .int .i64 (cHi p t)]) ∧ Below w.heap.size w w' := by
  have hn' := hts_yes h ht hn
  have hh : 0 ≤ hLo p t ∧ hLo p t ≤ hHi p t ∧ hHi p t ≤ p.height := h_bd h ht hn
  obtain ⟨q0, q1⟩ := arcOf_bd h (y := hLo p t) (by omega)
  obtain ⟨q2, q3⟩ := arcOf_bd h (y := hHi p t) (by omega)
  obtain ⟨q4, q5⟩ := arcOf_bd h (y := clMid p (hLo p t) (hHi p t)) (by unfold clMid; omega)
  have x1 : 0 ≤ prLo t.x t.half p.ah ∧ prLo t.x t.half p.ah ≤ 450000 := alongLo_bd h ht
  have x2 : 0 ≤ prHi t.x t.half p.al ∧ prHi t.x t.half p.al ≤ 450000 := alongHi_bd h ht
  have e1 : IntKind.i64.wrap (prLo t.x t.half p.ah - arHi p (hLo p t) (hHi p t)) = prLo t.x t.half p.ah - arHi p (hLo p t) (hHi p t) := IntWalk.i64_in _ (by unfold arHi; omega)
  have e2 : IntKind.i64.wrap (prHi t.x t.half p.al - arLo p (hLo p t) (hHi p t)) = prHi t.x t.half p.al - arLo p (hLo p t) (hHi p t) := IntWalk.i64_in _ (by unfold arLo; omega)
  have hpi := h.pitch
  have hco := h.cols
  have e3 : IntKind.i64.wrap (p.cols - 1) = p.cols - 1 := IntWalk.i64_in _ (by omega)
  have E := Lib.hid (And.intro e1 (And.intro e2 e3))
  have A1 : Hid (∀ w, Calls Try.prog 101 #[.int .i64 (prLo t.x t.half p.ah - arHi p (hLo p t) (hHi p t)), .int .i64 p.pitch] w fun e w' => e = .returned (.int .i64 ((prLo t.x t.half p.ah - arHi p (hLo p t) (hHi p t)) / p.pitch)) ∧ w' = w) := Lib.hid fun w => (rfloor_any _ _ w (by unfold arHi; omega) (by unfold arHi; omega) (by omega) (by omega)).mono fun _ _ h => ⟨h.1, h.2.symm⟩
  have A2 : Hid (∀ w, Calls Try.prog 101 #[.int .i64 (prHi t.x t.half p.al - arLo p (hLo p t) (hHi p t)), .int .i64 p.pitch] w fun e w' => e = .returned (.int .i64 ((prHi t.x t.half p.al - arLo p (hLo p t) (hHi p t)) / p.pitch)) ∧ w' = w) := Lib.hid fun w => (rfloor_any _ _ w (by unfold arLo; omega) (by unfold arLo; omega) (by omega) (by omega)).mono fun _ _ h => ⟨h.1, h.2.symm⟩
  clear e1 e2 e3 q0 q1 q2 q3 q4 q5 x1 x2 hpi hco
  go_enter Try.func87, Try.ntmps87
  go_wp2_with fail
  refine (places_any t.x t.half p.al p.ah _ ht.x ht.half h.along).mono ?_
  rintro e w1 ⟨rfl, hb1⟩
  have hB1_0 : HasPap (p) (w.heap.size) w1 := HasPap.up (by unfold HasPap; go_simp) hb1 (by (try simp only [World.size_alloc]); omega)
  have hB1_1 : HasPt (t) (w.heap.size + 1) w1 := HasPt.up (by unfold HasPt; go_simp) hb1 (by (try simp only [World.size_alloc]); omega)
  have hB1_2 : HasSp (0) (0) (w.heap.size + 1 + 1) w1 := HasSp.up (by unfold HasSp; go_simp) hb1 (by (try simp only [World.size_alloc]); omega)
  have g1_2_0 : w1.frozen? ⟨w.heap.size + 1 + 1, 0, none⟩ = false := low_frozen hb1 (by (try simp only [World.size_alloc]); omega) (by go_simp)
  have g1_2_1 : w1.frozen? ⟨w.heap.size + 1 + 1, 1, none⟩ = false := low_frozen hb1 (by (try simp only [World.size_alloc]); omega) (by go_simp)
  have C1 : Below w.heap.size w w1 := by
    refine Below.trans ?_ (hb1.mono ?_)
    · repeat' (first | with_reducible exact Below.refl _ _ | with_reducible exact Below.refl _ _ | with_reducible refine set1 ?_ (by omega) _ _ | with_reducible refine Below.alloc ?_ (by (try simp only [World.size_alloc]); omega) _ | with_reducible refine below_drewN ?_ _ | with_reducible refine Below.drew ?_)
    · (try simp only [World.size_alloc]); omega
  clear hb1
  unfold HasPap at hB1_0
  obtain ⟨f1_0_0, f1_0_1, f1_0_2, f1_0_3, f1_0_4, f1_0_5, f1_0_6, f1_0_7, f1_0_8, f1_0_9⟩ := hB1_0
  have z1_0 : w.heap.size < w1.heap.size := World.block_lt_of_cell? _ _ f1_0_0
  unfold HasPt at hB1_1
  obtain ⟨f1_1_0, f1_1_1, f1_1_2⟩ := hB1_1
  have z1_1 : w.heap.size + 1 < w1.heap.size := World.block_lt_of_cell? _ _ f1_1_0
  unfold HasSp at hB1_2
  obtain ⟨f1_2_0, f1_2_1⟩ := hB1_2
  have z1_2 : w.heap.size + 1 + 1 < w1.heap.size := World.block_lt_of_cell? _ _ f1_2_0
  have zz1 := C1.size
  go_wp2_with fail
  refine (rheights_any p t _ h ht).mono ?_
  rintro e w2 ⟨rfl, hb2⟩
  have hB2_0 : HasPap (p) (w.heap.size) w2 := HasPap.up (by unfold HasPap; go_simp) hb2 (by (try simp only [World.size_alloc]); omega)
  have hB2_1 : HasPt (t) (w.heap.size + 1) w2 := HasPt.up (by unfold HasPt; go_simp) hb2 (by (try simp only [World.size_alloc]); omega)
  have hB2_2 : HasSp (0) (0) (w.heap.size + 1 + 1) w2 := HasSp.up (by unfold HasSp; go_simp) hb2 (by (try simp only [World.size_alloc]); omega)
  have g2_2_0 : w2.frozen? ⟨w.heap.size + 1 + 1, 0, none⟩ = false := low_frozen hb2 (by (try simp only [World.size_alloc]); omega) (by go_simp)
  have g2_2_1 : w2.frozen? ⟨w.heap.size + 1 + 1, 1, none⟩ = false := low_frozen hb2 (by (try simp only [World.size_alloc]); omega) (by go_simp)
  have hB2_3 : HasSp (prLo t.x t.half p.ah) (prHi t.x t.half p.al) (w1.heap.size) w2 := HasSp.up (by unfold HasSp; go_simp) hb2 (by (try simp only [World.size_alloc]); omega)
  have C2 : Below w.heap.size w w2 := by
    refine Below.trans ?_ (hb2.mono ?_)
    · repeat' (first | with_reducible exact Below.refl _ _ | with_reducible exact C1 | with_reducible refine set1 ?_ (by omega) _ _ | with_reducible refine Below.alloc ?_ (by (try simp only [World.size_alloc, World.size_setCell]); omega) _ | with_reducible refine below_drewN ?_ _ | with_reducible refine Below.drew ?_)
    · (try simp only [World.size_alloc]); omega
  clear g1_2_0 g1_2_1 f1_0_0 f1_0_1 f1_0_2 f1_0_3 f1_0_4 f1_0_5 f1_0_6 f1_0_7 f1_0_8 f1_0_9 f1_1_0 f1_1_1 f1_1_2 f1_2_0 f1_2_1 hb2
  unfold HasPap at hB2_0
  obtain ⟨f2_0_0, f2_0_1, f2_0_2, f2_0_3, f2_0_4, f2_0_5, f2_0_6, f2_0_7, f2_0_8, f2_0_9⟩ := hB2_0
  have z2_0 : w.heap.size < w2.heap.size := World.block_lt_of_cell? _ _ f2_0_0
  unfold HasPt at hB2_1
  obtain ⟨f2_1_0, f2_1_1, f2_1_2⟩ := hB2_1
  have z2_1 : w.heap.size + 1 < w2.heap.size := World.block_lt_of_cell? _ _ f2_1_0
  unfold HasSp at hB2_2
  obtain ⟨f2_2_0, f2_2_1⟩ := hB2_2
  have z2_2 : w.heap.size + 1 + 1 < w2.heap.size := World.block_lt_of_cell? _ _ f2_2_0
  unfold HasSp at hB2_3
  obtain ⟨f2_3_0, f2_3_1⟩ := hB2_3
  have z2_3 : w1.heap.size < w2.heap.size := World.block_lt_of_cell? _ _ f2_3_0
  have zz2 := C2.size
  go_wp2_with fail
  refine (rarcs_any p _ _ _ h hh).mono ?_
  rintro e w3 ⟨rfl, hb3⟩
  have hB3_0 : HasPap (p) (w.heap.size) w3 := HasPap.up (by unfold HasPap; go_simp) hb3 (by (try simp only [World.size_alloc]); omega)
  have hB3_1 : HasPt (t) (w.heap.size + 1) w3 := HasPt.up (by unfold HasPt; go_simp) hb3 (by (try simp only [World.size_alloc]); omega)
  have hB3_2 : HasSp (0) (0) (w.heap.size + 1 + 1) w3 := HasSp.up (by unfold HasSp; go_simp) hb3 (by (try simp only [World.size_alloc]); omega)
  have g3_2_0 : w3.frozen? ⟨w.heap.size + 1 + 1, 0, none⟩ = false := low_frozen hb3 (by (try simp only [World.size_alloc]); omega) (by go_simp)
  have g3_2_1 : w3.frozen? ⟨w.heap.size + 1 + 1, 1, none⟩ = false := low_frozen hb3 (by (try simp only [World.size_alloc]); omega) (by go_simp)
  have hB3_3 : HasSp (prLo t.x t.half p.ah) (prHi t.x t.half p.al) (w1.heap.size) w3 := HasSp.up (by unfold HasSp; go_simp) hb3 (by (try simp only [World.size_alloc]); omega)
  have hB3_4 : HasSp (hLo p t) (hHi p t) (w2.heap.size) w3 := HasSp.up (by unfold HasSp; go_simp) hb3 (by (try simp only [World.size_alloc]); omega)
  have C3 : Below w.heap.size w w3 := by
    refine Below.trans ?_ (hb3.mono ?_)
    · repeat' (first | with_reducible exact Below.refl _ _ | with_reducible exact C2 | with_reducible refine set1 ?_ (by omega) _ _ | with_reducible refine Below.alloc ?_ (by (try simp only [World.size_alloc, World.size_setCell]); omega) _ | with_reducible refine below_drewN ?_ _ | with_reducible refine Below.drew ?_)
    · (try simp only [World.size_alloc]); omega
  clear g2_2_0 g2_2_1 f2_0_0 f2_0_1 f2_0_2 f2_0_3 f2_0_4 f2_0_5 f2_0_6 f2_0_7 f2_0_8 f2_0_9 f2_1_0 f2_1_1 f2_1_2 f2_2_0 f2_2_1 f2_3_0 f2_3_1 hb3
  unfold HasPap at hB3_0
  obtain ⟨f3_0_0, f3_0_1, f3_0_2, f3_0_3, f3_0_4, f3_0_5, f3_0_6, f3_0_7, f3_0_8, f3_0_9⟩ := hB3_0
  have z3_0 : w.heap.size < w3.heap.size := World.block_lt_of_cell? _ _ f3_0_0
  unfold HasPt at hB3_1
  obtain ⟨f3_1_0, f3_1_1, f3_1_2⟩ := hB3_1
  have z3_1 : w.heap.size + 1 < w3.heap.size := World.block_lt_of_cell? _ _ f3_1_0
  unfold HasSp at hB3_2
  obtain ⟨f3_2_0, f3_2_1⟩ := hB3_2
  have z3_2 : w.heap.size + 1 + 1 < w3.heap.size := World.block_lt_of_cell? _ _ f3_2_0
  unfold HasSp at hB3_3
  obtain ⟨f3_3_0, f3_3_1⟩ := hB3_3
  have z3_3 : w1.heap.size < w3.heap.size := World.block_lt_of_cell? _ _ f3_3_0
  unfold HasSp at hB3_4
  obtain ⟨f3_4_0, f3_4_1⟩ := hB3_4
  have z3_4 : w2.heap.size < w3.heap.size := World.block_lt_of_cell? _ _ f3_4_0
  have zz3 := C3.size
  go_wp2_with fail
  obtain ⟨e1, e2, e3⟩ := E.out
  have f3_5_0 : (w3.alloc (.cells #[.int .i64 (arLo p (hLo p t) (hHi p t)), .int .i64 (arHi p (hLo p t) (hHi p t))] 23)).cell? ⟨w3.heap.size, 0, none⟩ = some (.int .i64 (arLo p (hLo p t) (hHi p t))) := by go_simp
  clear f3_5_0
  refine still_tail 22 (by kernel_rfl) (by kernel_rfl) ?_
  simp only [List.take_succ_cons, List.take_zero, List.drop_succ_cons, List.drop_zero]
  repeat still_step
  still_call (A1.out _)
  repeat still_step
  still_call (A2.out _)
  repeat still_step
  refine wpStill_nil ?_
  clear e1 e2 e3
  go_wp2_with fail
  refine bodyPost_ret (v := .agg #[.int .i64 (cLo p t), .int .i64 (cHi p t)]) ?_ rfl ⟨rfl, ?_⟩
  · simp [results, Try.results87, go_sem, f3_2_0, f3_2_1, z3_2, cLo, cHi, colLo, colHi, alongLo, alongHi]
  · repeat' (first | with_reducible exact Below.refl _ _ | with_reducible exact C3 | with_reducible refine set1 ?_ (by omega) _ _ | with_reducible refine Below.alloc ?_ (by (try simp only [World.size_setCell]); omega) _ | with_reducible refine below_drewN ?_ _ | with_reducible refine Below.drew ?_)
end Go.Proofs.Ytmeljcbefnojfaa
namespace Go.Proofs.Ytmeljcbefnojfaa
open Go.RowKit
set_option maxHeartbeats 1000000 in
theorem Means_err (p : Pap) (t : Pt) (c : Int) (w : World) (h : ptE p t ≠ 0) :
    Calls Try.prog 46 #[p.v, t.v, .int .i64 c] w fun e w' => e = .returned (.tuple #[.slice none 0 0, .int .i64 (ptE p t)]) ∧ Below w.heap.size w w' := by
  have d : (ptE p t == 0) = false := by simpa using h
  have d' : (ptE p t != 0) = true := by simpa using h
  clear h
  go_enter Try.func46, Try.ntmps46
  go_wp2_with fail
  refine (check_any p t _).mono ?_
  rintro e w1 ⟨rfl, hb⟩
  obtain ⟨hc, hf⟩ := bcell hb
  have hz := hb.size
  simp only [World.size_alloc] at hz
  go_wp2_with fail
  go_ret2
  exact ⟨rfl, (box2 _ _ _).trans (hb.mono (by simp only [World.size_alloc]; omega))⟩
set_option maxHeartbeats 1000000 in
theorem Means_arg (p : Pap) (t : Pt) (c : Int) (w : World) (h : p.Ok) (ht : t.Ok) (hc : ¬ (0 ≤ c ∧ c ≤ p.cols - 1)) :
    Calls Try.prog 46 #[p.v, t.v, .int .i64 c] w fun e w' => e = .returned (.tuple #[.slice none 0 0, .int .i64 1]) ∧ Below w.heap.size w w' := by
  have hco := h.cols
  go_enter Try.func46, Try.ntmps46
  go_wp2_with fail
  refine (check_ok p t _ h ht).mono ?_
  rintro e w1 ⟨rfl, hb⟩
  obtain ⟨hc1, hf⟩ := bcell hb
  have hz := hb.size
  simp only [World.size_alloc] at hz
  have z0 : w.heap.size < w1.heap.size := by omega
  go_wp2_with fail
  refine (between_f _ _ _ _ hc).mono ?_
  rintro e w2 ⟨rfl, rfl⟩
  go_wp2_with fail
  go_ret2
  exact ⟨rfl, (box2 _ _ _).trans (hb.mono (by simp only [World.size_alloc]; omega))⟩
end Go.Proofs.Ytmeljcbefnojfaa
namespace Go.Proofs.Ytmeljcbefnojfaa
open Go.RowKit
/-- each span of the second list lies in one of the first -/
def Cov (l l' : List (Int × Int)) : Prop := ∀ s' ∈ l', ∃ s ∈ l, s.1 ≤ s'.1 ∧ s'.2 ≤ s.2
def two (a b c d : Int) : List (Int × Int) := (if a ≤ b then [(a, b)] else []) ++ (if c ≤ d then [(c, d)] else [])
theorem sc_below {a : Int → Int} {l g lo hi K1 K2 : Int} (e : SC (fun y => l ≤ a y) (fun y => g < a y) lo hi K1 K2) (y : Int) : (K1 ≤ y ∧ y ≤ K2 - 1) ↔ (lo ≤ y ∧ y ≤ hi ∧ l ≤ a y ∧ a y ≤ g) := by
  rcases e with ⟨h, rfl, rfl⟩ | ⟨_, ⟨a1, a2, a3⟩, b1, b2, b3⟩
  · omega
  · constructor
    · rintro ⟨h1, h2⟩
      have g1 := (a3 y (by omega) (by omega)).2 h1
      have g2 : ¬ g < a y := fun hh => by have := (b3 y (by omega) (by omega)).1 hh; omega
      exact ⟨by omega, by omega, g1, by omega⟩
    · rintro ⟨h1, h2, h3, h4⟩
      have g1 := (a3 y h1 h2).1 h3
      have g2 : ¬ K2 ≤ y := fun hh => by have := (b3 y h1 h2).2 hh; omega
      omega
theorem sc_above {a : Int → Int} {l g lo hi K1 K2 : Int} (e : SC (fun y => a y ≤ g) (fun y => a y < l) lo hi K1 K2) (y : Int) : (K1 ≤ y ∧ y ≤ K2 - 1) ↔ (lo ≤ y ∧ y ≤ hi ∧ l ≤ a y ∧ a y ≤ g) := by
  rcases e with ⟨h, rfl, rfl⟩ | ⟨_, ⟨a1, a2, a3⟩, b1, b2, b3⟩
  · omega
  · constructor
    · rintro ⟨h1, h2⟩
      have g1 := (a3 y (by omega) (by omega)).2 h1
      have g2 : ¬ a y < l := fun hh => by have := (b3 y (by omega) (by omega)).1 hh; omega
      exact ⟨by omega, by omega, by omega, g1⟩
    · rintro ⟨h1, h2, h3, h4⟩
      have g1 := (a3 y h1 h2).1 h4
      have g2 : ¬ K2 ≤ y := fun hh => by have := (b3 y h1 h2).2 hh; omega
      omega
/-- what the spans of heights mean -/
theorem means_two {p : Pap} (h : p.Ok) {a b c d : Int} (hab : a ≤ b → c ≤ d → b < c) :
    meansOf p (two a b c d) = if a ≤ b then (if c ≤ d then (if lev p c - 1 ≤ lev p b then [(lev p a, lev p d)] else [(lev p a, lev p b), (lev p c, lev p d)]) else [(lev p a, lev p b)]) else (if c ≤ d then [(lev p c, lev p d)] else []) := by
  by_cases h1 : a ≤ b
  · by_cases h2 : c ≤ d
    · have h3 := hab h1 h2
      have m1 := lev_mono h (show a ≤ c by omega)
      have m2 := lev_mono h (show b ≤ d by omega)
      have m3 : min (lev p c) (lev p a) = lev p a := by omega
      have m4 : max (lev p d) (lev p b) = lev p d := by omega
      simp only [two, if_pos h1, if_pos h2, meansOf, addL, List.foldl_cons, List.foldl_nil, List.cons_append, List.nil_append, m3, m4]
    · simp only [two, if_pos h1, if_neg h2, meansOf, addL, List.foldl_cons, List.foldl_nil, List.append_nil]
  · by_cases h2 : c ≤ d
    · simp only [two, if_neg h1, if_pos h2, meansOf, addL, List.foldl_cons, List.foldl_nil, List.nil_append]
    · simp only [two, if_neg h1, if_neg h2, meansOf, List.foldl_nil, List.append_nil]
theorem cov_two {p : Pap} (h : p.Ok) {a b c d a' b' c' d' : Int} (hab : a ≤ b → c ≤ d → b < c) (hab' : a' ≤ b' → c' ≤ d' → b' < c')
    (h1 : a' ≤ b' → a ≤ a' ∧ b' ≤ b) (h2 : c' ≤ d' → c ≤ c' ∧ d' ≤ d) : Cov (meansOf p (two a b c d)) (meansOf p (two a' b' c' d')) := by
  rw [means_two h hab, means_two h hab']
  intro s hs
  by_cases e1 : a' ≤ b'
  · obtain ⟨g1, g2⟩ := h1 e1
    have m1 := lev_mono h g1
    have m2 := lev_mono h g2
    rw [if_pos (show a ≤ b by omega)]
    by_cases e2 : c' ≤ d'
    · obtain ⟨g3, g4⟩ := h2 e2
      have m3 := lev_mono h g3
      have m4 := lev_mono h g4
      have g5 := hab (by omega) (by omega)
      have m5 := lev_mono h (show b ≤ d by omega)
      have m6 := lev_mono h (show a ≤ c by omega)
      rw [if_pos (show c ≤ d by omega)]
      rw [if_pos e1, if_pos e2] at hs
      by_cases e3 : lev p c - 1 ≤ lev p b
      · rw [if_pos e3]
        refine ⟨_, List.mem_singleton.2 rfl, ?_⟩
        by_cases e4 : lev p c' - 1 ≤ lev p b'
        · rw [if_pos e4, List.mem_singleton] at hs; subst hs; exact ⟨m1, m4⟩
        · rw [if_neg e4] at hs
          simp only [List.mem_cons, List.not_mem_nil, or_false] at hs
          rcases hs with rfl | rfl
          · exact ⟨m1, by show lev p b' ≤ lev p d; omega⟩
          · exact ⟨by show lev p a ≤ lev p c'; omega, m4⟩
      · rw [if_neg e3]
        rw [if_neg (show ¬ lev p c' - 1 ≤ lev p b' by omega)] at hs
        simp only [List.mem_cons, List.not_mem_nil, or_false] at hs
        rcases hs with rfl | rfl
        · exact ⟨_, List.mem_cons_self .., m1, m2⟩
        · exact ⟨_, List.mem_cons_of_mem _ (List.mem_cons_self ..), m3, m4⟩
    · rw [if_pos e1, if_neg e2, List.mem_singleton] at hs
      subst hs
      by_cases e5 : c ≤ d
      · rw [if_pos e5]
        have g5 := hab (by omega) e5
        have m5 := lev_mono h (show b ≤ d by omega)
        by_cases e3 : lev p c - 1 ≤ lev p b
        · rw [if_pos e3]; exact ⟨_, List.mem_singleton.2 rfl, m1, by show lev p b' ≤ lev p d; omega⟩
        · rw [if_neg e3]; exact ⟨_, List.mem_cons_self .., m1, m2⟩
      · rw [if_neg e5]; exact ⟨_, List.mem_singleton.2 rfl, m1, m2⟩
  · rw [if_neg e1] at hs
    by_cases e2 : c' ≤ d'
    · obtain ⟨g3, g4⟩ := h2 e2
      have m3 := lev_mono h g3
      have m4 := lev_mono h g4
      rw [if_pos e2, List.mem_singleton] at hs
      subst hs
      by_cases e5 : a ≤ b
      · have g5 := hab e5 (by omega)
        have m6 := lev_mono h (show a ≤ c by omega)
        rw [if_pos e5, if_pos (show c ≤ d by omega)]
        by_cases e3 : lev p c - 1 ≤ lev p b
        · rw [if_pos e3]; exact ⟨_, List.mem_singleton.2 rfl, by show lev p a ≤ lev p c'; omega, m4⟩
        · rw [if_neg e3]; exact ⟨_, List.mem_cons_of_mem _ (List.mem_cons_self ..), m3, m4⟩
      · rw [if_neg e5, if_pos (show c ≤ d by omega)]
        exact ⟨_, List.mem_singleton.2 rfl, m3, m4⟩
    · rw [if_neg e2] at hs; cases hs
theorem div_anti {a b b' : Int} (ha : 0 ≤ a) (hb : 1 ≤ b') (hbb : b' ≤ b) : a / b ≤ a / b' := by
  refine Int.le_ediv_of_mul_le (by omega) ?_
  have h0 : 0 ≤ a / b := Int.ediv_nonneg ha (by omega)
  have h1 : a / b * b ≤ a := Int.ediv_mul_le a (by omega)
  have h2 : a / b * b' ≤ a / b * b := Int.mul_le_mul_of_nonneg_left hbb h0
  omega
theorem prLo_mono {n h h' hi hi' : Int} (hh : h' ≤ h) (hi0 : 1 ≤ hi') (hi1 : hi' ≤ hi) : prLo n h hi ≤ prLo n h' hi' := by
  unfold prLo
  by_cases hn : n < h
  · have : (n - h) * 1000 / hi < 0 := Int.ediv_neg_of_neg_of_pos (by omega) (by omega)
    omega
  · have h1 : (n - h) * 1000 / hi ≤ (n - h') * 1000 / hi := Int.ediv_le_ediv (by omega) (by omega)
    have h2 := div_anti (a := (n - h') * 1000) (by omega) hi0 hi1
    omega
theorem prHi_mono {n h h' lo lo' : Int} (hn : 0 ≤ n) (hh0 : 0 ≤ h') (hh : h' ≤ h) (hi0 : 1 ≤ lo) (hi1 : lo ≤ lo') : prHi n h' lo' ≤ prHi n h lo := by
  unfold prHi
  have h1 : (n + h') * 1000 / lo' ≤ (n + h) * 1000 / lo' := Int.ediv_le_ediv (by omega) (by omega)
  have h2 := div_anti (a := (n + h) * 1000) (by omega) hi0 hi1
  omega
/-- a paper of which more is known, a thinner line -/
def narP (p : Pap) (al ah cl ch : Int) : Pap := { p with al := al, ah := ah, cl := cl, ch := ch }
def narT (t : Pt) (k : Int) : Pt := { t with half := k }
structure Nar (p q : Pap) (t x : Pt) : Prop where
  ok : p.Ok
  okq : q.Ok
  okt : t.Ok
  okx : x.Ok
  lev : ∀ y, Go.Proofs.Ytmeljcbefnojfaa.lev q y = Go.Proofs.Ytmeljcbefnojfaa.lev p y
  arc : ∀ y, arcOf q y = arcOf p y
  hgt : q.height = p.height
  pit : q.pitch = p.pitch
  col : q.cols = p.cols
  a1 : alongLo p t ≤ alongLo q x
  a2 : alongHi q x ≤ alongHi p t
  c1 : acrossLo p t ≤ acrossLo q x
  c2 : acrossHi q x ≤ acrossHi p t
theorem nar_of {p : Pap} {t : Pt} {al ah cl ch k : Int} (h : p.Ok) (ht : t.Ok) (hq : (narP p al ah cl ch).Ok) (hx : (narT t k).Ok) (h1 : p.al ≤ al) (h2 : ah ≤ p.ah) (h3 : p.cl ≤ cl) (h4 : ch ≤ p.ch) (hk : k ≤ t.half) : Nar p (narP p al ah cl ch) t (narT t k) := by
  have p7 := h.along
  have p8 := h.across
  have q7 := hq.along
  have q8 := hq.across
  have x3 := hx.half
  have tx := ht.x
  have ty := ht.y
  simp only [narP, narT] at q7 q8 x3
  exact ⟨h, hq, ht, hx, fun _ => rfl, fun _ => rfl, rfl, rfl, rfl, prLo_mono hk (by show 1 ≤ ah; omega) h2, prHi_mono (by show 0 ≤ t.x; omega) (by show 0 ≤ k; omega) hk (by omega) h1, prLo_mono hk (by show 1 ≤ ch; omega) h4, prHi_mono (by show 0 ≤ t.y; omega) (by show 0 ≤ k; omega) hk (by omega) h3⟩
theorem Nar.hLo {p q : Pap} {t x : Pt} (n : Nar p q t x) : Go.Proofs.Ytmeljcbefnojfaa.hLo p t ≤ Go.Proofs.Ytmeljcbefnojfaa.hLo q x := n.c1
theorem Nar.hHi {p q : Pap} {t x : Pt} (n : Nar p q t x) : Go.Proofs.Ytmeljcbefnojfaa.hHi q x ≤ Go.Proofs.Ytmeljcbefnojfaa.hHi p t := by
  have := n.c2
  have := n.hgt
  unfold Go.Proofs.Ytmeljcbefnojfaa.hHi
  omega
theorem nar_means {p q : Pap} {t x : Pt} {c : Int} {L L' : List (Int × Int)} (n : Nar p q t x) (hL : HtsL p t c L) (hL' : HtsL q x c L') : Cov (meansOf p L) (meansOf q L') := by
  have em : meansOf q L' = meansOf p L' := by
    unfold meansOf
    congr 1
    funext acc s
    rw [n.lev, n.lev]
  rw [em]
  have l1 := n.hLo
  have l2 := n.hHi
  have l3 := n.hgt
  rcases hL' with ⟨_, rfl⟩ | ⟨hh', J1, J2, J3, J4, ⟨e1', e2'⟩, rfl⟩
  · intro s hs; cases hs
  rcases hL with ⟨hh, rfl⟩ | ⟨hh, K1, K2, K3, K4, ⟨e1, e2⟩, rfl⟩
  · omega
  have hm : midOf q = midOf p := by unfold midOf; rw [l3]
  have hl : leastOf p t c ≤ leastOf q x c := by unfold leastOf; have := n.a1; rw [n.pit]; omega
  have hg : greatOf q x c ≤ greatOf p t c := by unfold greatOf; have := n.a2; rw [n.pit]; omega
  refine cov_two n.ok ?_ ?_ ?_ ?_
  · intro f1 f2
    have g1 := (sc_below e1 (K2 - 1)).1 ⟨f1, Int.le_refl _⟩
    have g2 := (sc_above e2 K3).1 ⟨Int.le_refl _, f2⟩
    omega
  · intro f1 f2
    have g1 := (sc_below e1' (J2 - 1)).1 ⟨f1, Int.le_refl _⟩
    have g2 := (sc_above e2' J3).1 ⟨Int.le_refl _, f2⟩
    omega
  · intro f1
    have g1 := (sc_below e1' J1).1 ⟨Int.le_refl _, f1⟩
    have g2 := (sc_below e1' (J2 - 1)).1 ⟨f1, Int.le_refl _⟩
    rw [n.arc] at g1 g2
    have k1 := (sc_below e1 J1).2 ⟨by omega, by omega, by omega, by omega⟩
    have k2 := (sc_below e1 (J2 - 1)).2 ⟨by omega, by omega, by omega, by omega⟩
    omega
  · intro f1
    have g1 := (sc_above e2' J3).1 ⟨Int.le_refl _, f1⟩
    have g2 := (sc_above e2' (J4 - 1)).1 ⟨f1, Int.le_refl _⟩
    rw [n.arc] at g1 g2
    have k1 := (sc_above e2 J3).2 ⟨by omega, by omega, by omega, by omega⟩
    have k2 := (sc_above e2 (J4 - 1)).2 ⟨by omega, by omega, by omega, by omega⟩
    omega
theorem ar_bd {p : Pap} {lo hi y : Int} (h : p.Ok) (h0 : 0 ≤ lo) (h1 : hi ≤ p.height) (hy : lo ≤ y ∧ y ≤ hi) : arLo p lo hi ≤ arcOf p y ∧ arcOf p y ≤ arHi p lo hi := by
  have hm := arc_mid h (y := y) (by omega)
  constructor
  · unfold arLo
    by_cases hh : y ≤ p.height / 2
    · have := arc_up h h0 hy.1 hh; omega
    · have := arc_down h (a := y) (b := hi) (by omega) hy.2 h1; omega
  · unfold arHi clMid
    by_cases c1 : hi ≤ p.height / 2
    · rw [show min (max (p.height / 2) lo) hi = hi by omega]
      exact arc_up h (by omega) hy.2 c1
    · by_cases c2 : lo ≤ p.height / 2
      · rw [show min (max (p.height / 2) lo) hi = p.height / 2 by omega]; exact hm
      · rw [show min (max (p.height / 2) lo) hi = lo by omega]
        exact arc_down h (by omega) hy.1 (by omega)
theorem nar_cols {p q : Pap} {t x : Pt} (n : Nar p q t x) (hs : ColSome q x) : ColSome p t ∧ cLo p t ≤ cLo q x ∧ cHi q x ≤ cHi p t := by
  obtain ⟨s1, s2⟩ := hs
  have l1 := n.hLo
  have l2 := n.hHi
  have l3 := n.hgt
  have bq := h_bd n.okq n.okx s1
  have bp := h_bd n.ok n.okt (show hLo p t ≤ p.height by omega)
  have hp := n.ok.pitch
  have m0 : 0 ≤ clMid q (hLo q x) (hHi q x) ∧ hLo q x ≤ clMid q (hLo q x) (hHi q x) ∧ clMid q (hLo q x) (hHi q x) ≤ hHi q x := by unfold clMid; omega
  have e1 : arHi q (hLo q x) (hHi q x) ≤ arHi p (hLo p t) (hHi p t) := by
    have := (ar_bd n.ok bp.1 bp.2.2 (y := clMid q (hLo q x) (hHi q x)) (by omega)).2
    unfold arHi at this ⊢
    rw [n.arc]; exact this
  have e2 : arLo p (hLo p t) (hHi p t) ≤ arLo q (hLo q x) (hHi q x) := by
    have g1 := (ar_bd n.ok bp.1 bp.2.2 (y := hLo q x) (by omega)).1
    have g2 := (ar_bd n.ok bp.1 bp.2.2 (y := hHi q x) (by omega)).1
    unfold arLo at g1 g2 ⊢
    rw [n.arc, n.arc]; omega
  have k1 : cLo p t ≤ cLo q x := by
    unfold cLo colLo
    rw [n.pit]
    have := Int.ediv_le_ediv (c := p.pitch) (a := alongLo p t - arHi p (hLo p t) (hHi p t)) (b := alongLo q x - arHi q (hLo q x) (hHi q x)) (by omega) (by have := n.a1; omega)
    omega
  have k2 : cHi q x ≤ cHi p t := by
    unfold cHi colHi
    rw [n.pit, n.col]
    have := Int.ediv_le_ediv (c := p.pitch) (a := alongHi q x - arLo q (hLo q x) (hHi q x)) (b := alongHi p t - arLo p (hLo p t) (hHi p t)) (by omega) (by have := n.a2; omega)
    omega
  exact ⟨⟨by omega, by omega⟩, k1, k2⟩
end Go.Proofs.Ytmeljcbefnojfaa
namespace Go.Proofs.Ytmeljcbefnojfaa
open Go.RowKit
/-- the heights at which a point may lie in a column -/
def InS (p : Pap) (t : Pt) (c y : Int) : Prop := (hLo p t ≤ y ∧ y ≤ hHi p t) ∧ leastOf p t c ≤ arcOf p y ∧ arcOf p y ≤ greatOf p t c
theorem ins_two {p : Pap} {t : Pt} {c K1 K2 K3 K4 : Int} (hE : Ends p t c K1 K2 K3 K4) (y : Int) : InS p t c y ↔ (K1 ≤ y ∧ y ≤ K2 - 1) ∨ (K3 ≤ y ∧ y ≤ K4 - 1) := by
  have e1 := sc_below hE.below y
  have e2 := sc_above hE.above y
  unfold InS
  rw [e1, e2]
  omega
theorem ends_ord {p : Pap} {t : Pt} {c K1 K2 K3 K4 : Int} (hE : Ends p t c K1 K2 K3 K4) : K1 ≤ K2 - 1 → K3 ≤ K4 - 1 → K2 - 1 < K3 := by
  intro f1 f2
  have e1 := (sc_below hE.below (K2 - 1)).1 ⟨f1, Int.le_refl _⟩
  have e2 := (sc_above hE.above K3).1 ⟨Int.le_refl _, f2⟩
  omega
/-- places along and arcs -/
theorem wit_iff {p : Pap} {t : Pt} {c a : Int} (h : p.Ok) : ((alongLo p t - a) / p.pitch ≤ c ∧ c ≤ (alongHi p t - a) / p.pitch) ↔ leastOf p t c ≤ a ∧ a ≤ greatOf p t c := by
  have hp := h.pitch
  unfold leastOf greatOf
  have e1 : (alongLo p t - a) / p.pitch ≤ c ↔ (alongLo p t - a) / p.pitch < c + 1 := by omega
  rw [e1, Int.ediv_lt_iff_lt_mul (by omega), Int.le_ediv_iff_mul_le (by omega)]
  omega
theorem place_col {p : Pap} {t : Pt} {c a x : Int} (h : p.Ok) (hx : alongLo p t ≤ x ∧ x ≤ alongHi p t) (hc : (x - a) / p.pitch = c) : leastOf p t c ≤ a ∧ a ≤ greatOf p t c := by
  have hp := h.pitch
  refine (wit_iff h).1 ⟨?_, ?_⟩
  · rw [← hc]; exact Int.ediv_le_ediv (by omega) (by omega)
  · rw [← hc]; exact Int.ediv_le_ediv (by omega) (by omega)
/-- no number is left out -/
theorem ivt_up (f : Int → Int) (a v : Int) : ∀ n : Nat, (∀ y, a ≤ y → y < a + n → f (y + 1) ≤ f y + 1) → f a ≤ v → v ≤ f (a + n) → ∃ y, a ≤ y ∧ y ≤ a + n ∧ f y = v := by
  intro n
  induction n with
  | zero => intro _ h1 h2; exact ⟨a, by omega, by omega, by simp at h2; omega⟩
  | succ n ih =>
    intro hs h1 h2
    by_cases h3 : v ≤ f (a + n)
    · obtain ⟨y, y1, y2, y3⟩ := ih (fun y y1 y2 => hs y y1 (by omega)) h1 h3
      exact ⟨y, y1, by omega, y3⟩
    · have := hs (a + n) (by omega) (by omega)
      refine ⟨a + n + 1, by omega, by omega, ?_⟩
      rw [show a + ((n + 1 : Nat) : Int) = a + n + 1 by omega] at h2
      omega
theorem ivt_down (f : Int → Int) (a v : Int) (n : Nat) (hs : ∀ y, a ≤ y → y < a + n → f y ≤ f (y + 1) + 1) (h1 : v ≤ f a) (h2 : f (a + n) ≤ v) : ∃ y, a ≤ y ∧ y ≤ a + n ∧ f y = v := by
  obtain ⟨y, y1, y2, y3⟩ := ivt_up (fun y => -f y) a (-v) n (fun y y1 y2 => by have := hs y y1 y2; show -f (y + 1) ≤ -f y + 1; omega) (by show -f a ≤ -v; omega) (by show -v ≤ -f (a + n); omega)
  exact ⟨y, y1, y2, by omega⟩
theorem ivt {p : Pap} (h : p.Ok) {a b v : Int} (ha : 0 ≤ a) (hab : a ≤ b) (hb : b ≤ p.height) (hv : (arcOf p a ≤ v ∧ v ≤ arcOf p b) ∨ (v ≤ arcOf p a ∧ arcOf p b ≤ v)) : ∃ y, a ≤ y ∧ y ≤ b ∧ arcOf p y = v := by
  obtain ⟨n, rfl⟩ : ∃ n : Nat, b = a + n := ⟨(b - a).toNat, by omega⟩
  rcases hv with ⟨h1, h2⟩ | ⟨h1, h2⟩
  · exact ivt_up (arcOf p) a v n (fun y y1 y2 => by have := (arc_step h (y := y) (by omega)).1; omega) h1 h2
  · exact ivt_down (arcOf p) a v n (fun y y1 y2 => by have := (arc_step h (y := y) (by omega)).2; omega) h1 h2
theorem alongLo_le {p : Pap} {t : Pt} (h : p.Ok) (ht : t.Ok) : alongLo p t ≤ alongHi p t := by
  have h7 := h.along
  have hx := ht.x
  have hh := ht.half
  unfold alongLo alongHi prLo prHi
  have h1 : (t.x - t.half) * 1000 / p.ah ≤ (t.x + t.half) * 1000 / p.ah := Int.ediv_le_ediv (by omega) (by omega)
  have h2 := div_anti (a := (t.x + t.half) * 1000) (b := p.ah) (b' := p.al) (by omega) (by omega) (by omega)
  have h3 : 0 ≤ (t.x + t.half) * 1000 / p.al := Int.ediv_nonneg (by omega) (by omega)
  omega
/-- the columns of a point are those in which it has a height -/
theorem cols_iff {p : Pap} {t : Pt} {c : Int} (h : p.Ok) (ht : t.Ok) (hc : 0 ≤ c ∧ c ≤ p.cols - 1) : (∃ y, InS p t c y) ↔ (ColSome p t ∧ cLo p t ≤ c ∧ c ≤ cHi p t) := by
  have hp := h.pitch
  have hw : ∀ a, (alongLo p t - a) / p.pitch ≤ c ↔ leastOf p t c ≤ a := by
    intro a
    have e1 : (alongLo p t - a) / p.pitch ≤ c ↔ (alongLo p t - a) / p.pitch < c + 1 := by omega
    rw [e1, Int.ediv_lt_iff_lt_mul (by omega)]
    unfold leastOf
    omega
  have hw2 : ∀ a, c ≤ (alongHi p t - a) / p.pitch ↔ a ≤ greatOf p t c := by
    intro a
    rw [Int.le_ediv_iff_mul_le (by omega)]
    unfold greatOf
    omega
  have key : hLo p t ≤ p.height → ((cLo p t ≤ c ∧ c ≤ cHi p t) ↔ (leastOf p t c ≤ arHi p (hLo p t) (hHi p t) ∧ arLo p (hLo p t) (hHi p t) ≤ greatOf p t c)) := by
    intro _
    rw [← hw, ← hw2]
    unfold cLo cHi colLo colHi
    omega
  constructor
  · rintro ⟨y, ⟨y1, y2⟩, y3, y4⟩
    have hn : hLo p t ≤ p.height := by have : hHi p t ≤ p.height := by unfold hHi; omega
                                       omega
    have hb := h_bd h ht hn
    have ab := ar_bd h hb.1 hb.2.2 ⟨y1, y2⟩
    have k := (key hn).2 ⟨by omega, by omega⟩
    exact ⟨⟨hn, by omega⟩, k⟩
  · rintro ⟨⟨hn, _⟩, hk⟩
    have hb := h_bd h ht hn
    obtain ⟨k1, k2⟩ := (key hn).1 hk
    have hlg : leastOf p t c ≤ greatOf p t c := by
      have := alongLo_le h ht
      unfold leastOf greatOf
      rw [Int.add_mul]
      omega
    -- a number between
    obtain ⟨v, v1, v2, v3, v4⟩ : ∃ v, leastOf p t c ≤ v ∧ v ≤ greatOf p t c ∧ arLo p (hLo p t) (hHi p t) ≤ v ∧ v ≤ arHi p (hLo p t) (hHi p t) := by
      have hle : arLo p (hLo p t) (hHi p t) ≤ arHi p (hLo p t) (hHi p t) := by have := ar_bd h hb.1 hb.2.2 (y := hLo p t) (by omega); omega
      exact ⟨max (leastOf p t c) (arLo p (hLo p t) (hHi p t)), by omega, by omega, by omega, by omega⟩
    have m0 : hLo p t ≤ clMid p (hLo p t) (hHi p t) ∧ clMid p (hLo p t) (hHi p t) ≤ hHi p t := by unfold clMid; omega
    have hA : arHi p (hLo p t) (hHi p t) = arcOf p (clMid p (hLo p t) (hHi p t)) := rfl
    by_cases hl : arcOf p (hLo p t) ≤ v
    · obtain ⟨y, y1, y2, y3⟩ := ivt h hb.1 m0.1 (by omega) (.inl ⟨hl, by omega⟩)
      exact ⟨y, ⟨y1, by omega⟩, by omega, by omega⟩
    · have hr : arcOf p (hHi p t) ≤ v := by unfold arLo at v3; omega
      obtain ⟨y, y1, y2, y3⟩ := ivt h (by omega) m0.2 hb.2.2 (v := v) (.inr ⟨by omega, hr⟩)
      exact ⟨y, ⟨by omega, y2⟩, by omega, by omega⟩
/-- what a point means: the levels of its heights, and their ends -/
theorem means_has {p : Pap} {t : Pt} {c K1 K2 K3 K4 y : Int} (h : p.Ok) (hE : Ends p t c K1 K2 K3 K4) (hy : InS p t c y) : ∃ s ∈ meansOf p (two K1 (K2 - 1) K3 (K4 - 1)), s.1 ≤ lev p y ∧ lev p y ≤ s.2 := by
  have ho := ends_ord hE
  rw [means_two h ho]
  rcases (ins_two hE y).1 hy with ⟨y1, y2⟩ | ⟨y1, y2⟩
  · have f1 : K1 ≤ K2 - 1 := by omega
    have m1 := lev_mono h y1
    have m2 := lev_mono h y2
    rw [if_pos f1]
    by_cases f2 : K3 ≤ K4 - 1
    · have m3 := lev_mono h (show K2 - 1 ≤ K4 - 1 by have := ho f1 f2; omega)
      rw [if_pos f2]
      by_cases f3 : lev p K3 - 1 ≤ lev p (K2 - 1)
      · rw [if_pos f3]; exact ⟨_, List.mem_singleton.2 rfl, m1, by show lev p y ≤ lev p (K4 - 1); omega⟩
      · rw [if_neg f3]; exact ⟨_, List.mem_cons_self .., m1, m2⟩
    · rw [if_neg f2]; exact ⟨_, List.mem_singleton.2 rfl, m1, m2⟩
  · have f2 : K3 ≤ K4 - 1 := by omega
    have m1 := lev_mono h y1
    have m2 := lev_mono h y2
    rw [if_pos f2]
    by_cases f1 : K1 ≤ K2 - 1
    · have m3 := lev_mono h (show K1 ≤ K3 by have := ho f1 f2; omega)
      rw [if_pos f1]
      by_cases f3 : lev p K3 - 1 ≤ lev p (K2 - 1)
      · rw [if_pos f3]; exact ⟨_, List.mem_singleton.2 rfl, by show lev p K1 ≤ lev p y; omega, m2⟩
      · rw [if_neg f3]; exact ⟨_, List.mem_cons_of_mem _ (List.mem_cons_self ..), m1, m2⟩
    · rw [if_neg f1, if_pos f2]; exact ⟨_, List.mem_singleton.2 rfl, m1, m2⟩
def EndsOf (p : Pap) (t : Pt) (c : Int) (s : Int × Int) : Prop :=
  (∃ y, InS p t c y ∧ lev p y = s.1) ∧ (∃ y, InS p t c y ∧ lev p y = s.2) ∧ (∀ y, InS p t c y → lev p y ≠ s.1 - 1) ∧ (∀ y, InS p t c y → lev p y ≠ s.2 + 1)
theorem means_ends {p : Pap} {t : Pt} {c K1 K2 K3 K4 : Int} (h : p.Ok) (hE : Ends p t c K1 K2 K3 K4) : ∀ s ∈ meansOf p (two K1 (K2 - 1) K3 (K4 - 1)), EndsOf p t c s := by
  have ho := ends_ord hE
  have hi := ins_two hE
  rw [means_two h ho]
  -- the levels of a height, by halves
  have lv : ∀ y, InS p t c y → (K1 ≤ K2 - 1 ∧ lev p K1 ≤ lev p y ∧ lev p y ≤ lev p (K2 - 1)) ∨ (K3 ≤ K4 - 1 ∧ lev p K3 ≤ lev p y ∧ lev p y ≤ lev p (K4 - 1)) := by
    intro y hy
    rcases (hi y).1 hy with ⟨y1, y2⟩ | ⟨y1, y2⟩
    · exact .inl ⟨by omega, lev_mono h y1, lev_mono h y2⟩
    · exact .inr ⟨by omega, lev_mono h y1, lev_mono h y2⟩
  intro s hs
  by_cases f1 : K1 ≤ K2 - 1
  · have i1 := (hi K1).2 (.inl ⟨Int.le_refl _, f1⟩)
    have i2 := (hi (K2 - 1)).2 (.inl ⟨f1, Int.le_refl _⟩)
    rw [if_pos f1] at hs
    by_cases f2 : K3 ≤ K4 - 1
    · have i3 := (hi K3).2 (.inr ⟨Int.le_refl _, f2⟩)
      have i4 := (hi (K4 - 1)).2 (.inr ⟨f2, Int.le_refl _⟩)
      have o := ho f1 f2
      have m1 := lev_mono h (show K1 ≤ K3 by omega)
      have m2 := lev_mono h (show K2 - 1 ≤ K4 - 1 by omega)
      rw [if_pos f2] at hs
      by_cases f3 : lev p K3 - 1 ≤ lev p (K2 - 1)
      · rw [if_pos f3, List.mem_singleton] at hs
        subst hs
        exact ⟨⟨_, i1, rfl⟩, ⟨_, i4, rfl⟩, fun y hy e => by have := lv y hy; simp only at e; omega, fun y hy e => by have := lv y hy; simp only at e; omega⟩
      · rw [if_neg f3] at hs
        simp only [List.mem_cons, List.not_mem_nil, or_false] at hs
        rcases hs with rfl | rfl
        · exact ⟨⟨_, i1, rfl⟩, ⟨_, i2, rfl⟩, fun y hy e => by have := lv y hy; simp only at e; omega, fun y hy e => by have := lv y hy; simp only at e; omega⟩
        · exact ⟨⟨_, i3, rfl⟩, ⟨_, i4, rfl⟩, fun y hy e => by have := lv y hy; simp only at e; omega, fun y hy e => by have := lv y hy; simp only at e; omega⟩
    · rw [if_neg f2, List.mem_singleton] at hs
      subst hs
      exact ⟨⟨_, i1, rfl⟩, ⟨_, i2, rfl⟩, fun y hy e => by have := lv y hy; simp only at e; omega, fun y hy e => by have := lv y hy; simp only at e; omega⟩
  · rw [if_neg f1] at hs
    by_cases f2 : K3 ≤ K4 - 1
    · have i3 := (hi K3).2 (.inr ⟨Int.le_refl _, f2⟩)
      have i4 := (hi (K4 - 1)).2 (.inr ⟨f2, Int.le_refl _⟩)
      rw [if_pos f2, List.mem_singleton] at hs
      subst hs
      exact ⟨⟨_, i3, rfl⟩, ⟨_, i4, rfl⟩, fun y hy e => by have := lv y hy; simp only at e; omega, fun y hy e => by have := lv y hy; simp only at e; omega⟩
    · rw [if_neg f2] at hs; cases hs
theorem means_some {p : Pap} {t : Pt} {c K1 K2 K3 K4 : Int} (h : p.Ok) (hE : Ends p t c K1 K2 K3 K4) : 0 < (meansOf p (two K1 (K2 - 1) K3 (K4 - 1))).length ↔ ∃ y, InS p t c y := by
  constructor
  · intro hl
    obtain ⟨s, hs⟩ := List.exists_mem_of_length_pos hl
    obtain ⟨⟨y, hy, _⟩, _⟩ := means_ends h hE s hs
    exact ⟨y, hy⟩
  · rintro ⟨y, hy⟩
    obtain ⟨s, hs, _⟩ := means_has h hE hy
    exact List.length_pos_of_mem hs
theorem means_le {p : Pap} {t : Pt} {c K1 K2 K3 K4 : Int} (h : p.Ok) (hE : Ends p t c K1 K2 K3 K4) : (meansOf p (two K1 (K2 - 1) K3 (K4 - 1))).length ≤ 2 := by
  rw [means_two h (ends_ord hE)]
  by_cases f1 : K1 ≤ K2 - 1 <;> by_cases f2 : K3 ≤ K4 - 1 <;> by_cases f3 : lev p K3 - 1 ≤ lev p (K2 - 1) <;> simp [f1, f2, f3]
/-- a row of spans, or none -/
def Row0 (w w' : World) (v : Value) (l : List (Int × Int)) : Prop := (l = [] ∧ v = .slice none 0 0) ∨ (l ≠ [] ∧ Row1 w w' v l)
theorem Row0.up {w W W' : World} {v : Value} {l : List (Int × Int)} (h : Row0 w W v l) (hb : Below W.heap.size W W') : Row0 w W' v l := by
  rcases h with h | ⟨h0, h⟩
  · exact .inl h
  · exact .inr ⟨h0, h.up hb⟩
theorem row0_of {w w' : World} {v : Value} {l : List (Int × Int)} (h : RowOf w.heap.size w' v l) : Row0 w w' v l := by
  by_cases hl : l = []
  · rcases h with h | ⟨h0, _⟩
    · exact .inl h
    · exact absurd hl h0
  · exact .inr ⟨hl, row1_of hl h⟩
end Go.Proofs.Ytmeljcbefnojfaa
