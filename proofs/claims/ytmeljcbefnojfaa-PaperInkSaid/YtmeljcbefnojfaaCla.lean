import Derived.Test.YtmeljcbefnojfaaCls
namespace Go.Proofs.Ytmeljcbefnojfaa
open Go.RowKit
set_option maxRecDepth 100000 in
set_option maxHeartbeats 2000000 in
theorem columnsOf_some0 (p : Pap) (t : Pt) (w : World) (h : p.Ok) (ht : t.Ok) (hr : p.radius = 0) (lo hi : Int) (hlo : lo = acrossLo p t) (hhi : hi = min (acrossHi p t) p.height) (b0 : 0 ≤ lo ∧ lo ≤ hi ∧ hi ≤ p.height) :
    Calls Try.prog 86 #[p.v, t.v] w fun e w' => ColPost p t lo hi e ∧ Below w.heap.size w w' := by
  have HR := Lib.hid hr
  clear hr
  have HH : Hid (∀ w, Calls Try.prog 88 #[p.v, t.v] w fun e w' => e = .returned (.tuple #[.agg #[.int .i64 lo, .int .i64 hi], .bool true]) ∧ Below w.heap.size w w') := Lib.hid (by
    intro w; rw [hlo, hhi]; exact heightsOf_some p t w h ht (by omega))
  clear hlo hhi
  obtain ⟨b1, b2, b3⟩ := b0
  obtain ⟨k1, k2⟩ := h.height
  obtain ⟨p1, p2⟩ := h.pitch
  obtain ⟨c1, c2⟩ := h.cols
  obtain ⟨al1, al2⟩ := alongLo_bd h ht
  obtain ⟨ah1, ah2⟩ := alongHi_bd h ht
  have hmid : 0 ≤ clMid p lo hi ∧ clMid p lo hi ≤ p.height := by unfold clMid; omega
  obtain ⟨m1, m2⟩ := hmid
  have r1 := arcOf_bd h (y := lo) (by omega)
  have r2 := arcOf_le h (y := lo) (by omega)
  have r3 := arcOf_bd h (y := hi) (by omega)
  have r4 := arcOf_le h (y := hi) (by omega)
  have r5 := arcOf_bd h (y := clMid p lo hi) (by omega)
  have r6 := arcOf_le h (y := clMid p lo hi) (by omega)
  obtain ⟨r10, r11⟩ := r1
  obtain ⟨r30, r31⟩ := r3
  obtain ⟨r50, r51⟩ := r5
  go_enter Try.func86, Try.ntmps86
  go_wp2_with fail
  refine (HH.out _).mono ?_
  rintro e w1 ⟨rfl, hb⟩
  obtain ⟨hc, hf⟩ := bcell hb
  have hz := hb.size
  simp only [World.size_alloc] at hz
  have z0 : w.heap.size < w1.heap.size := by omega
  have z1 : w.heap.size + 1 < w1.heap.size := by omega
  have z2 : w.heap.size + 1 + 1 < w1.heap.size := by omega
  go_wp2_with fail
  refine (arcs_zero p _ HR.out).mono ?_
  rintro e w2 ⟨rfl, hb2⟩
  obtain ⟨hc2, hf2⟩ := bcell hb2
  have hz2 := hb2.size
  simp only [World.size_alloc] at hz2
  have hm : min (max (p.height / 2) lo) hi = clMid p lo hi := rfl
  go_wp2_with fail
  go_quiet ((go_at_call 121; exact Calls.quiet_of_same ((arcs1_any p _ _ HR.out).mono fun _ _ h => ⟨h.1, h.2.symm⟩)))
  go_wp2_with fail
  refine (along_any p t _ h ht).mono ?_
  rintro e w3 ⟨rfl, hb3⟩
  obtain ⟨hc3, hf3⟩ := bcell hb3
  have hz3 := hb3.size
  simp only [World.heap_drewN] at hz3
  have y0 : w.heap.size < w3.heap.size := by omega
  have y1 : w.heap.size + 1 < w3.heap.size := by omega
  have y2 : w.heap.size + 1 + 1 < w3.heap.size := by omega
  have y2' : w.heap.size + 1 + 1 < w3.heap.size + 1 := by omega
  have y3 : w1.heap.size < w3.heap.size := by omega
  have x0 : w.heap.size < w2.heap.size := by omega
  have x1 : w.heap.size + 1 < w2.heap.size := by omega
  have x2 : w.heap.size + 1 + 1 < w2.heap.size := by omega
  have x3 : w1.heap.size < w2.heap.size := by omega
  go_wp2_with fail
  have C1 : Below w1.heap.size w1 w3 := (below_drewN ((box1 w1 _).trans (hb2.mono (by simp only [World.size_alloc]; omega))) nq).trans (hb3.mono (by simp only [World.heap_drewN]; omega))
  have C0 := hb.trans (C1.mono hb.size)
  have CB : Below w.heap.size w w3 := (box3 _ _ _ _).trans (C0.mono (by simp only [World.size_alloc]; omega))
  have hP : HasPap p w.heap.size w3 := HasPap.up (by unfold HasPap; go_simp) C0 (by simp only [World.size_alloc]; omega)
  have u0 : w3.cell? ⟨w.heap.size + 1 + 1, 0, none⟩ = some (.int .i64 0) := cell_up C0 (by simp only [World.size_alloc]; omega) (by go_simp)
  have u1 : w3.cell? ⟨w.heap.size + 1 + 1, 1, none⟩ = some (.int .i64 0) := cell_up C0 (by simp only [World.size_alloc]; omega) (by go_simp)
  have v0 : w3.frozen? ⟨w.heap.size + 1 + 1, 0, none⟩ = false := frozen_up C0 (by simp only [World.size_alloc]; omega) (by go_simp)
  have v1 : w3.frozen? ⟨w.heap.size + 1 + 1, 1, none⟩ = false := frozen_up C0 (by simp only [World.size_alloc]; omega) (by go_simp)
  clear hc hf hc2 hf2 hc3 hf3 hb hb2 hb3 C0 C1
  obtain ⟨q0, -, -, -, -, q5, -⟩ := hP
  have a1 : -1000000000 ≤ alongLo p t - arcOf p (clMid p lo hi) ∧ alongLo p t - arcOf p (clMid p lo hi) ≤ 1000000000 := by omega
  have a2 : -1000000000 ≤ alongHi p t - min (arcOf p lo) (arcOf p hi) ∧ alongHi p t - min (arcOf p lo) (arcOf p hi) ≤ 1000000000 := by omega
  have g1 : IntKind.i64.wrap (alongLo p t - arcOf p (clMid p lo hi)) = alongLo p t - arcOf p (clMid p lo hi) := IntWalk.i64_in _ (by omega)
  have g2 : IntKind.i64.wrap (alongHi p t - min (arcOf p lo) (arcOf p hi)) = alongHi p t - min (arcOf p lo) (arcOf p hi) := IntWalk.i64_in _ (by omega)
  have g3 : IntKind.i64.wrap (p.cols - 1) = p.cols - 1 := IntWalk.i64_in _ (by omega)
  have n0 := World.new_ne w3 ⟨w.heap.size, 0, none⟩ q0
  have n5 := World.new_ne w3 ⟨w.heap.size, 5, none⟩ q5
  go_region_held3 (fun w' => w'.cell? ⟨w.heap.size, 0, none⟩ = some (.int .i64 p.pitch) ∧ w'.cell? ⟨w.heap.size, 5, none⟩ = some (.int .i64 p.cols) ∧ w'.cell? ⟨w3.heap.size, 0, none⟩ = some (.int .i64 (alongLo p t)) ∧ w'.cell? ⟨w3.heap.size, 1, none⟩ = some (.int .i64 (alongHi p t))) (go_keep)
    ((go_at_call 119; refine (floorDiv_any _ _ _ (by omega) (by omega) (by omega) (by omega)).mono ?_; rintro e w' ⟨rfl, rfl⟩))
  go_wp2_with fail
  all_goals first
    | (have hgt : colHi p t lo hi < colLo p t lo hi := by assumption
       refine bodyPost_ret (v := .tuple #[.agg #[.int .i64 0, .int .i64 0], .bool false]) ?_ rfl ⟨.inl ⟨hgt, rfl⟩, ?_⟩
       · simp [results, Try.results86, go_sem, u0, u1, y2, y2']
       · exact (((set1 (set1 CB (by omega) _ _) (by omega) _ _).alloc (by simp only [World.size_setCell]; omega) _).alloc (by simp only [World.size_alloc, World.size_setCell]; omega) _).drew)
    | (have hle : colLo p t lo hi ≤ colHi p t lo hi := by assumption
       refine bodyPost_ret (v := .tuple #[.agg #[.int .i64 (colLo p t lo hi), .int .i64 (colHi p t lo hi)], .bool true]) ?_ rfl ⟨.inr ⟨hle, rfl⟩, ?_⟩
       · simp [results, Try.results86, go_sem, u0, u1, y2, y2']
         exact ⟨rfl, rfl⟩
       · exact (((set1 (set1 CB (by omega) _ _) (by omega) _ _).alloc (by simp only [World.size_setCell]; omega) _).alloc (by simp only [World.size_alloc, World.size_setCell]; omega) _).drew)
end Go.Proofs.Ytmeljcbefnojfaa
