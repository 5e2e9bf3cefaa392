import Derived.Test.YtmeljcbefnojfaaArc
namespace Go.Proofs.Ytmeljcbefnojfaa
open Go.RowKit
open Classical in
/-- the error of a height on a paper -/
noncomputable def htE (p : Pap) (y : Int) : Int := if p.Ok then (if 0 ≤ y ∧ y ≤ p.height then 0 else 1) else 10
open Classical in
noncomputable def arcV (p : Pap) (y : Int) : Int := if htE p y = 0 then arcOf p y else 0
open Classical in
noncomputable def levV (p : Pap) (y : Int) : Int := if htE p y = 0 then lev p y else 0
theorem htE_ok {p : Pap} {y : Int} (h : p.Ok) (hy : 0 ≤ y ∧ y ≤ p.height) : htE p y = 0 := by unfold htE; rw [if_pos h, if_pos hy]
theorem htE_arg {p : Pap} {y : Int} (h : p.Ok) (hy : ¬ (0 ≤ y ∧ y ≤ p.height)) : htE p y = 1 := by unfold htE; rw [if_pos h, if_neg hy]
theorem htE_bad {p : Pap} {y : Int} (h : ¬ p.Ok) : htE p y = 10 := by unfold htE; rw [if_neg h]
theorem htE_iff {p : Pap} {y : Int} : htE p y = 0 ↔ p.Ok ∧ 0 ≤ y ∧ y ≤ p.height := by
  unfold htE
  by_cases h : p.Ok
  · rw [if_pos h]
    by_cases hy : 0 ≤ y ∧ y ≤ p.height
    · rw [if_pos hy]; simp [h, hy]
    · rw [if_neg hy]; simp [h]; omega
  · rw [if_neg h]; simp [h]
theorem arcV_ok {p : Pap} {y : Int} (h : p.Ok) (hy : 0 ≤ y ∧ y ≤ p.height) : arcV p y = arcOf p y := by unfold arcV; rw [if_pos (htE_ok h hy)]
theorem levV_ok {p : Pap} {y : Int} (h : p.Ok) (hy : 0 ≤ y ∧ y ≤ p.height) : levV p y = lev p y := by unfold levV; rw [if_pos (htE_ok h hy)]

set_option maxHeartbeats 400000 in
theorem Arc_bad (p : Pap) (y : Int) (w : World) (h : ¬ p.Ok) :
    Calls Try.prog 40 #[p.v, .int .i64 y] w fun e w' => e = .returned (.tuple #[.int .i64 0, .int .i64 10]) ∧ Below w.heap.size w w' := by
  go_enter Try.func40, Try.ntmps40
  go_wp2_with fail
  refine (checkHeight_bad p y _ h).mono ?_
  rintro e w1 ⟨rfl, hb⟩
  go_wp2_with fail
  go_ret2
  exact ⟨rfl, (box1 _ _).trans (hb.mono (by simp only [World.size_alloc]; omega))⟩
set_option maxHeartbeats 400000 in
theorem Arc_arg (p : Pap) (y : Int) (w : World) (h : p.Ok) (hy : ¬ (0 ≤ y ∧ y ≤ p.height)) :
    Calls Try.prog 40 #[p.v, .int .i64 y] w fun e w' => e = .returned (.tuple #[.int .i64 0, .int .i64 1]) ∧ Below w.heap.size w w' := by
  go_enter Try.func40, Try.ntmps40
  go_wp2_with fail
  refine (checkHeight_arg p y _ h hy).mono ?_
  rintro e w1 ⟨rfl, hb⟩
  go_wp2_with fail
  go_ret2
  exact ⟨rfl, (box1 _ _).trans (hb.mono (by simp only [World.size_alloc]; omega))⟩
set_option maxHeartbeats 400000 in
theorem Arc_ok (p : Pap) (y : Int) (w : World) (h : p.Ok) (hy : 0 ≤ y ∧ y ≤ p.height) :
    Calls Try.prog 40 #[p.v, .int .i64 y] w fun e w' => e = .returned (.tuple #[.int .i64 (arcOf p y), .int .i64 0]) ∧ Below w.heap.size w w' := by
  by_cases hr : p.radius = 0
  · have HR := Lib.hid hr
    clear hr
    go_enter Try.func40, Try.ntmps40
    go_wp2_with fail
    refine (checkHeight_ok p y _ h hy).mono ?_
    rintro e w1 ⟨rfl, hb⟩
    obtain ⟨hc, hf⟩ := bcell hb
    have hz := hb.size
    simp only [World.size_alloc] at hz
    go_wp2_with fail
    refine (arcs_zero p _ HR.out).mono ?_
    rintro e w2 ⟨rfl, hb2⟩
    go_wp2_with fail
    refine (arcs1_any p y _ HR.out).mono ?_
    rintro e w3 ⟨rfl, rfl⟩
    go_wp2_with fail
    go_ret2
    exact ⟨rfl, ((box1 _ _).trans (hb.mono (by simp only [World.size_alloc]; omega))).trans (hb2.mono (by omega))⟩
  · go_enter Try.func40, Try.ntmps40
    go_wp2_with fail
    refine (checkHeight_ok p y _ h hy).mono ?_
    rintro e w1 ⟨rfl, hb⟩
    obtain ⟨hc, hf⟩ := bcell hb
    have hz := hb.size
    simp only [World.size_alloc] at hz
    go_wp2_with fail
    refine (arcs_pos p _ hr).mono ?_
    rintro e w2 ⟨rfl, hb2, hp2, hz2⟩
    have H2 := Lib.hid hp2
    clear hp2
    go_wp2_with fail
    refine (arcs2_any p y _ _ h hy hr H2.out).mono ?_
    rintro e w3 ⟨rfl, rfl⟩
    go_wp2_with fail
    go_ret2
    exact ⟨rfl, ((box1 _ _).trans (hb.mono (by simp only [World.size_alloc]; omega))).trans (hb2.mono (by omega))⟩
theorem Arc_any (p : Pap) (y : Int) (w : World) :
    Calls Try.prog 40 #[p.v, .int .i64 y] w fun e w' => e = .returned (.tuple #[.int .i64 (arcV p y), .int .i64 (htE p y)]) ∧ Below w.heap.size w w' := by
  by_cases h : p.Ok
  · by_cases hy : 0 ≤ y ∧ y ≤ p.height
    · rw [arcV_ok h hy, htE_ok h hy]; exact Arc_ok p y w h hy
    · have e1 : arcV p y = 0 := by unfold arcV; rw [if_neg (by rw [htE_arg h hy]; decide)]
      rw [e1, htE_arg h hy]; exact Arc_arg p y w h hy
  · have e1 : arcV p y = 0 := by unfold arcV; rw [if_neg (by rw [htE_bad h]; decide)]
    rw [e1, htE_bad h]; exact Arc_bad p y w h

set_option maxHeartbeats 400000 in
theorem Level_bad (p : Pap) (y : Int) (w : World) (h : ¬ p.Ok) :
    Calls Try.prog 42 #[p.v, .int .i64 y] w fun e w' => e = .returned (.tuple #[.int .i64 0, .int .i64 10]) ∧ Below w.heap.size w w' := by
  go_enter Try.func42, Try.ntmps42
  go_wp2_with fail
  refine (checkHeight_bad p y _ h).mono ?_
  rintro e w1 ⟨rfl, hb⟩
  go_wp2_with fail
  go_ret2
  exact ⟨rfl, (box1 _ _).trans (hb.mono (by simp only [World.size_alloc]; omega))⟩
set_option maxHeartbeats 400000 in
theorem Level_arg (p : Pap) (y : Int) (w : World) (h : p.Ok) (hy : ¬ (0 ≤ y ∧ y ≤ p.height)) :
    Calls Try.prog 42 #[p.v, .int .i64 y] w fun e w' => e = .returned (.tuple #[.int .i64 0, .int .i64 1]) ∧ Below w.heap.size w w' := by
  go_enter Try.func42, Try.ntmps42
  go_wp2_with fail
  refine (checkHeight_arg p y _ h hy).mono ?_
  rintro e w1 ⟨rfl, hb⟩
  go_wp2_with fail
  go_ret2
  exact ⟨rfl, (box1 _ _).trans (hb.mono (by simp only [World.size_alloc]; omega))⟩
set_option maxHeartbeats 400000 in
theorem Level_ok (p : Pap) (y : Int) (w : World) (h : p.Ok) (hy : 0 ≤ y ∧ y ≤ p.height) :
    Calls Try.prog 42 #[p.v, .int .i64 y] w fun e w' => e = .returned (.tuple #[.int .i64 (lev p y), .int .i64 0]) ∧ Below w.heap.size w w' := by
  go_enter Try.func42, Try.ntmps42
  go_wp2_with fail
  refine (checkHeight_ok p y _ h hy).mono ?_
  rintro e w1 ⟨rfl, hb⟩
  obtain ⟨hc, hf⟩ := bcell hb
  have hz := hb.size
  simp only [World.size_alloc] at hz
  go_wp2_with fail
  refine (level_any p y _ h hy).mono ?_
  rintro e w2 ⟨rfl, hb2⟩
  go_wp2_with fail
  go_ret2
  exact ⟨rfl, ((box1 _ _).trans (hb.mono (by simp only [World.size_alloc]; omega))).trans (hb2.mono (by omega))⟩
theorem Level_any (p : Pap) (y : Int) (w : World) :
    Calls Try.prog 42 #[p.v, .int .i64 y] w fun e w' => e = .returned (.tuple #[.int .i64 (levV p y), .int .i64 (htE p y)]) ∧ Below w.heap.size w w' := by
  by_cases h : p.Ok
  · by_cases hy : 0 ≤ y ∧ y ≤ p.height
    · rw [levV_ok h hy, htE_ok h hy]; exact Level_ok p y w h hy
    · have e1 : levV p y = 0 := by unfold levV; rw [if_neg (by rw [htE_arg h hy]; decide)]
      rw [e1, htE_arg h hy]; exact Level_arg p y w h hy
  · have e1 : levV p y = 0 := by unfold levV; rw [if_neg (by rw [htE_bad h]; decide)]
    rw [e1, htE_bad h]; exact Level_bad p y w h

open Classical in
/-- the error of a level on a paper -/
noncomputable def lvE (p : Pap) (l : Int) : Int := if p.Ok then (if p.low ≤ l ∧ l ≤ p.high then 0 else 1) else 10
open Classical in
noncomputable def hsLo (p : Pap) (l : Int) : Int := if lvE p l = 0 then lowst p l else 0
open Classical in
noncomputable def hsHi (p : Pap) (l : Int) : Int := if lvE p l = 0 then min (lowst p (l + 1) - 1) p.height else 0
theorem lvE_ok {p : Pap} {y : Int} (h : p.Ok) (hy : p.low ≤ y ∧ y ≤ p.high) : lvE p y = 0 := by unfold lvE; rw [if_pos h, if_pos hy]
theorem lvE_arg {p : Pap} {y : Int} (h : p.Ok) (hy : ¬ (p.low ≤ y ∧ y ≤ p.high)) : lvE p y = 1 := by unfold lvE; rw [if_pos h, if_neg hy]
theorem lvE_bad {p : Pap} {y : Int} (h : ¬ p.Ok) : lvE p y = 10 := by unfold lvE; rw [if_neg h]
theorem lvE_iff {p : Pap} {y : Int} : lvE p y = 0 ↔ p.Ok ∧ p.low ≤ y ∧ y ≤ p.high := by
  unfold lvE
  by_cases h : p.Ok
  · rw [if_pos h]
    by_cases hy : p.low ≤ y ∧ y ≤ p.high
    · rw [if_pos hy]; simp [h, hy]
    · rw [if_neg hy]; simp [h]; omega
  · rw [if_neg h]; simp [h]
set_option maxHeartbeats 400000 in
theorem Heights_bad (p : Pap) (l : Int) (w : World) (h : ¬ p.Ok) :
    Calls Try.prog 44 #[p.v, .int .i64 l] w fun e w' => e = .returned (.tuple #[.agg #[.int .i64 0, .int .i64 0], .int .i64 10]) ∧ Below w.heap.size w w' := by
  go_enter Try.func44, Try.ntmps44
  go_wp2_with fail
  refine (checkPaper_no p _ h).mono ?_
  rintro e w1 ⟨rfl, hb⟩
  obtain ⟨hc, hf⟩ := bcell hb
  have hz := hb.size
  simp only [World.size_alloc] at hz
  go_wp2_with fail
  refine bodyPost_ret (v := .tuple #[.agg #[.int .i64 0, .int .i64 0], .int .i64 10]) ?_ rfl ⟨rfl, ?_⟩
  · simp [results, Try.results44, go_sem, hc]
  · exact set1 (set1 ((box2 _ _ _).trans (hb.mono (by simp only [World.size_alloc]; omega))) (by omega) _ _) (by omega) _ _
set_option maxHeartbeats 400000 in
theorem Heights_arg (p : Pap) (l : Int) (w : World) (h : p.Ok) (hl : ¬ (p.low ≤ l ∧ l ≤ p.high)) :
    Calls Try.prog 44 #[p.v, .int .i64 l] w fun e w' => e = .returned (.tuple #[.agg #[.int .i64 0, .int .i64 0], .int .i64 1]) ∧ Below w.heap.size w w' := by
  go_enter Try.func44, Try.ntmps44
  go_wp2_with fail
  refine (checkPaper_ok p _ h).mono ?_
  rintro e w1 ⟨rfl, hb⟩
  obtain ⟨hc, hf⟩ := bcell hb
  have hz := hb.size
  simp only [World.size_alloc] at hz
  go_wp2_with fail
  refine (between_f _ _ _ _ hl).mono ?_
  rintro e w2 ⟨rfl, rfl⟩
  go_wp2_with fail
  refine bodyPost_ret (v := .tuple #[.agg #[.int .i64 0, .int .i64 0], .int .i64 1]) ?_ rfl ⟨rfl, ?_⟩
  · simp [results, Try.results44, go_sem, hc]
  · exact set1 (set1 ((box2 _ _ _).trans (hb.mono (by simp only [World.size_alloc]; omega))) (by omega) _ _) (by omega) _ _
theorem lowst_bd {p : Pap} {l : Int} (h : p.Ok) (hl : p.low ≤ l ∧ l ≤ p.high + 1) : 0 ≤ lowst p l ∧ lowst p l ≤ 5000000000 := by
  obtain ⟨h1, h2, h3, h4, h5, h6, h7, h8⟩ := h
  have hm := mul_bd (a := l - p.low) (b := p.height) (A := 12001) (B := 400000) (by omega) (by omega) (by omega) (by omega)
  have hd := div_bd (a := (l - p.low) * p.height + (p.high - p.low) - 1) (b := p.high - p.low) (by omega) (by omega)
  unfold lowst cdiv
  omega
set_option maxHeartbeats 1000000 in
theorem Heights_ok (p : Pap) (l : Int) (w : World) (h : p.Ok) (hl : p.low ≤ l ∧ l ≤ p.high) :
    Calls Try.prog 44 #[p.v, .int .i64 l] w fun e w' => e = .returned (.tuple #[.agg #[.int .i64 (lowst p l), .int .i64 (min (lowst p (l + 1) - 1) p.height)], .int .i64 0]) ∧ Below w.heap.size w w' := by
  obtain ⟨l0, l1⟩ := lowst_bd (l := l + 1) h (by omega)
  obtain ⟨k0, k1, k2⟩ := h.low
  obtain ⟨j0, j1⟩ := hl
  go_enter Try.func44, Try.ntmps44
  go_wp2_with fail
  refine (checkPaper_ok p _ h).mono ?_
  rintro e w1 ⟨rfl, hb⟩
  obtain ⟨hc, hf⟩ := bcell hb
  have hz := hb.size
  simp only [World.size_alloc] at hz
  have z0 : w.heap.size < w1.heap.size := by omega
  have z1 : w.heap.size + 1 < w1.heap.size := by omega
  go_wp2_with fail
  refine (between_t _ _ _ _ ⟨j0, j1⟩).mono ?_
  rintro e w2 ⟨rfl, rfl⟩
  go_wp2_with fail
  refine (lowest_any p l _ h (by omega)).mono ?_
  rintro e w2 ⟨rfl, hb2⟩
  obtain ⟨hc2, hf2⟩ := bcell hb2
  have hz2 := hb2.size
  go_wp2_with fail
  refine (lowest_any p (l + 1) _ h (by omega)).mono ?_
  rintro e w3 ⟨rfl, hb3⟩
  obtain ⟨hc3, hf3⟩ := bcell hb3
  have z02 : w.heap.size < w2.heap.size := by omega
  have z12 : w.heap.size + 1 < w2.heap.size := by omega
  have hz3 := hb3.size
  go_wp2_with fail
  refine bodyPost_ret (v := .tuple #[.agg #[.int .i64 (lowst p l), .int .i64 (min (lowst p (l + 1) - 1) p.height)], .int .i64 0]) ?_ rfl ⟨rfl, ?_⟩
  · simp [results, Try.results44, go_sem, hc, hc2, hc3, z1, z12]
  · exact set1 (set1 ((((box2 _ _ _).trans (hb.mono (by simp only [World.size_alloc]; omega))).trans (hb2.mono (by omega))).trans (hb3.mono (by omega))) (by omega) _ _) (by omega) _ _
theorem Heights_any (p : Pap) (l : Int) (w : World) :
    Calls Try.prog 44 #[p.v, .int .i64 l] w fun e w' => e = .returned (.tuple #[.agg #[.int .i64 (hsLo p l), .int .i64 (hsHi p l)], .int .i64 (lvE p l)]) ∧ Below w.heap.size w w' := by
  by_cases h : p.Ok
  · by_cases hl : p.low ≤ l ∧ l ≤ p.high
    · have e1 : hsLo p l = lowst p l := by unfold hsLo; rw [if_pos (lvE_ok h hl)]
      have e2 : hsHi p l = min (lowst p (l + 1) - 1) p.height := by unfold hsHi; rw [if_pos (lvE_ok h hl)]
      rw [e1, e2, lvE_ok h hl]; exact Heights_ok p l w h hl
    · have e1 : hsLo p l = 0 := by unfold hsLo; rw [if_neg (by rw [lvE_arg h hl]; decide)]
      have e2 : hsHi p l = 0 := by unfold hsHi; rw [if_neg (by rw [lvE_arg h hl]; decide)]
      rw [e1, e2, lvE_arg h hl]; exact Heights_arg p l w h hl
  · have e1 : hsLo p l = 0 := by unfold hsLo; rw [if_neg (by rw [lvE_bad h]; decide)]
    have e2 : hsHi p l = 0 := by unfold hsHi; rw [if_neg (by rw [lvE_bad h]; decide)]
    rw [e1, e2, lvE_bad h]; exact Heights_bad p l w h
end Go.Proofs.Ytmeljcbefnojfaa
