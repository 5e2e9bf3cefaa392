import Derived.Test.YtmeljcbefnojfaaLev
namespace Go.Proofs.Ytmeljcbefnojfaa
open Go.RowKit
set_option maxHeartbeats 400000 in
theorem columnsOf_none (p : Pap) (t : Pt) (w : World) (h : p.Ok) (ht : t.Ok) (hn : acrossLo p t > p.height) :
    Calls Try.prog 86 #[p.v, t.v] w fun e w' => e = .returned (.tuple #[.agg #[.int .i64 0, .int .i64 0], .bool false]) ∧ Below w.heap.size w w' := by
  go_enter Try.func86, Try.ntmps86
  go_wp2_with fail
  refine (heightsOf_none p t _ h ht hn).mono ?_
  rintro e w1 ⟨rfl, hb⟩
  obtain ⟨hc, hf⟩ := bcell hb
  have hz := hb.size
  simp only [World.size_alloc] at hz
  have z0 : w.heap.size < w1.heap.size := by omega
  have z1 : w.heap.size + 1 < w1.heap.size := by omega
  have z2 : w.heap.size + 1 + 1 < w1.heap.size := by omega
  go_wp2_with fail
  refine bodyPost_ret (v := .tuple #[.agg #[.int .i64 0, .int .i64 0], .bool false]) ?_ rfl ⟨rfl, ?_⟩
  · simp [results, Try.results86, go_sem, hc, z2]
  · exact (set1 (set1 ((box3 _ _ _ _).trans (hb.mono (by simp only [World.size_alloc]; omega))) (by omega) _ _) (by omega) _ _).alloc (by simp only [World.size_setCell]; omega) _
def ColPost (p : Pap) (t : Pt) (lo hi : Int) (e : Ending) : Prop :=
  (colLo p t lo hi > colHi p t lo hi ∧ e = .returned (.tuple #[.agg #[.int .i64 0, .int .i64 0], .bool false])) ∨ (colLo p t lo hi ≤ colHi p t lo hi ∧ e = .returned (.tuple #[.agg #[.int .i64 (colLo p t lo hi), .int .i64 (colHi p t lo hi)], .bool true]))
end Go.Proofs.Ytmeljcbefnojfaa
namespace Go.Proofs.Ytmeljcbefnojfaa
open Go.RowKit
/-- shrinkage by a known place -/
def knLo (lo k n h : Int) : Int := if k < 0 then lo else max lo (((n - h) * 1000).tdiv (k + 1))
def knHi (hi k n h : Int) : Int := if k < 1 then hi else min hi (cdiv ((n + h) * 1000) k)
theorem tdiv_bd {n d : Int} (h0 : -5000000 ≤ n) (h1 : n ≤ 500000000) (hd : 1 ≤ d) : -5000000 ≤ n.tdiv d ∧ n.tdiv d ≤ 500000000 := by
  rcases Int.le_total 0 n with h | h
  · rw [Int.tdiv_eq_ediv_of_nonneg h]; have := div_bd h hd; omega
  · obtain ⟨m, rfl⟩ : ∃ m, n = -m := ⟨-n, by omega⟩
    rw [Int.neg_tdiv, Int.tdiv_eq_ediv_of_nonneg (by omega)]
    have := div_bd (a := m) (by omega) hd; omega
set_option maxHeartbeats 400000 in
theorem calibrated_neg (lo hi k n h : Int) (w : World) (hk : k < 0) :
    Calls Try.prog 102 #[.agg #[.int .i64 lo, .int .i64 hi], .int .i64 k, .int .i64 n, .int .i64 h] w fun e w' => e = .returned (.agg #[.int .i64 lo, .int .i64 hi]) ∧ Below w.heap.size w w' := by
  go_enter Try.func102, Try.ntmps102
  go_wp2_with fail
  refine bodyPost_ret (v := .agg #[.int .i64 lo, .int .i64 hi]) (by simp [results, Try.results102, go_sem]) rfl ⟨rfl, ?_⟩
  exact box2 _ _ _
set_option maxHeartbeats 1000000 in
theorem calibrated_zero (lo hi n h : Int) (w : World) (hn : 0 ≤ n ∧ n ≤ 400000) (hh : 0 ≤ h ∧ h ≤ 5000) :
    Calls Try.prog 102 #[.agg #[.int .i64 lo, .int .i64 hi], .int .i64 0, .int .i64 n, .int .i64 h] w fun e w' => e = .returned (.agg #[.int .i64 (max lo ((n - h) * 1000)), .int .i64 hi]) ∧ Below w.heap.size w w' := by
  go_enter Try.func102, Try.ntmps102
  go_wp2_with fail
  go_region
  go_wp2_with fail
  refine bodyPost_ret (v := .agg #[.int .i64 (max lo ((n - h) * 1000)), .int .i64 hi]) ?_ rfl ⟨rfl, ?_⟩
  · simp [results, Try.results102, go_sem]
  · exact (box2 _ _ _).drew
set_option maxHeartbeats 1000000 in
theorem calibrated_pos (lo hi k n h : Int) (w : World) (hk : 1 ≤ k ∧ k ≤ 800000) (hn : 0 ≤ n ∧ n ≤ 400000) (hh : 0 ≤ h ∧ h ≤ 5000) :
    Calls Try.prog 102 #[.agg #[.int .i64 lo, .int .i64 hi], .int .i64 k, .int .i64 n, .int .i64 h] w fun e w' => e = .returned (.agg #[.int .i64 (max lo (((n - h) * 1000).tdiv (k + 1))), .int .i64 (min hi (cdiv ((n + h) * 1000) k))]) ∧ Below w.heap.size w w' := by
  have b1 := tdiv_bd (n := (n - h) * 1000) (d := k + 1) (by omega) (by omega) (by omega)
  obtain ⟨b11, b12⟩ := b1
  obtain ⟨k1, k2⟩ := hk
  go_enter Try.func102, Try.ntmps102
  go_wp2_with fail
  go_region
  go_wp2_with fail
  have g1 : IntKind.i64.wrap (n + h) = n + h := IntWalk.i64_in _ (by omega)
  have g2 : IntKind.i64.wrap ((n + h) * 1000) = (n + h) * 1000 := IntWalk.i64_in _ (by omega)
  go_region_with ((go_at_call 123; refine (ceilDiv_any _ _ _ (by omega) (by omega) (by omega) (by omega)).mono ?_; rintro e w' ⟨rfl, rfl⟩))
  go_wp2_with fail
  all_goals
    refine bodyPost_ret (v := .agg #[.int .i64 (max lo (((n - h) * 1000).tdiv (k + 1))), .int .i64 (min hi (cdiv ((n + h) * 1000) k))]) ?_ rfl ⟨rfl, ?_⟩
    · simp [results, Try.results102, go_sem]
    · exact (box2 _ _ _).drew.drew
theorem calibrated_any (lo hi k n h : Int) (w : World) (hk : -1 ≤ k ∧ k ≤ 800000) (hn : 0 ≤ n ∧ n ≤ 400000) (hh : 0 ≤ h ∧ h ≤ 5000) :
    Calls Try.prog 102 #[.agg #[.int .i64 lo, .int .i64 hi], .int .i64 k, .int .i64 n, .int .i64 h] w fun e w' => e = .returned (.agg #[.int .i64 (knLo lo k n h), .int .i64 (knHi hi k n h)]) ∧ Below w.heap.size w w' := by
  by_cases h0 : k < 0
  · have e1 : knLo lo k n h = lo := by unfold knLo; rw [if_pos h0]
    have e2 : knHi hi k n h = hi := by unfold knHi; rw [if_pos (by omega)]
    rw [e1, e2]; exact calibrated_neg lo hi k n h w h0
  · by_cases h1 : k = 0
    · subst h1
      have e1 : knLo lo 0 n h = max lo ((n - h) * 1000) := by unfold knLo; rw [if_neg (by omega)]; simp
      have e2 : knHi hi 0 n h = hi := by unfold knHi; rw [if_pos (by omega)]
      rw [e1, e2]; exact calibrated_zero lo hi n h w hn hh
    · have e1 : knLo lo k n h = max lo (((n - h) * 1000).tdiv (k + 1)) := by unfold knLo; rw [if_neg h0]
      have e2 : knHi hi k n h = min hi (cdiv ((n + h) * 1000) k) := by unfold knHi; rw [if_neg (by omega)]
      rw [e1, e2]; exact calibrated_pos lo hi k n h w (by omega) hn hh
def calP (p : Pap) (x y : Int) (t : Pt) : Pap := { p with al := knLo p.al x t.x t.half, ah := knHi p.ah x t.x t.half, cl := knLo p.cl y t.y t.half, ch := knHi p.ch y t.y t.half }
def zeroP : Pap := ⟨0, 0, 0, 0, 0, 0, 0, 0, 0, 0⟩
open Classical in
/-- the error of a point on a paper -/
noncomputable def ptE (p : Pap) (t : Pt) : Int := if p.Ok then (if t.Ok then 0 else 11) else 10
theorem ptE_iff {p : Pap} {t : Pt} : ptE p t = 0 ↔ p.Ok ∧ t.Ok := by
  unfold ptE
  by_cases h : p.Ok
  · by_cases ht : t.Ok
    · simp [h, ht]
    · simp [h, ht]
  · simp [h]
theorem check_any (p : Pap) (t : Pt) (w : World) :
    Calls Try.prog 81 #[p.v, t.v] w fun e w' => e = .returned (.int .i64 (ptE p t)) ∧ Below w.heap.size w w' := by
  unfold ptE
  by_cases h : p.Ok
  · by_cases ht : t.Ok
    · rw [if_pos h, if_pos ht]; exact check_ok p t w h ht
    · rw [if_pos h, if_neg ht]; exact check_pt p t w h ht
  · rw [if_neg h]; exact check_bad p t w h
def CalOk (q : Pap) : Prop := q.al ≤ q.ah ∧ q.cl ≤ q.ch
set_option maxHeartbeats 2000000 in
theorem Calibrate_ok (p : Pap) (x y : Int) (t : Pt) (w : World) (h : p.Ok) (ht : t.Ok) (hx : -1 ≤ x ∧ x ≤ 800000) (hy : -1 ≤ y ∧ y ≤ 800000) (hq : CalOk (calP p x y t)) :
    Calls Try.prog 50 #[p.v, .int .i64 x, .int .i64 y, t.v] w fun e w' => e = .returned (.tuple #[(calP p x y t).v, .int .i64 0]) ∧ Below w.heap.size w w' := by
  obtain ⟨q1, q2⟩ := hq
  have d1 : decide (knLo p.al x t.x t.half > knHi p.ah x t.x t.half) = false := by simpa [calP] using q1
  have d2 : decide (knLo p.cl y t.y t.half > knHi p.ch y t.y t.half) = false := by simpa [calP] using q2
  have hh := ht.half
  have htx := ht.x
  have hty := ht.y
  clear q1 q2
  go_enter Try.func50, Try.ntmps50
  go_wp2_with fail
  refine (check_ok p t _ h ht).mono ?_
  rintro e w1 ⟨rfl, hb⟩
  obtain ⟨hc, hf⟩ := bcell hb
  have hz := hb.size
  simp only [World.size_alloc] at hz
  have z0 : w.heap.size < w1.heap.size := by omega
  have z1 : w.heap.size + 1 < w1.heap.size := by omega
  have z2 : w.heap.size + 1 + 1 < w1.heap.size := by omega
  go_wp2_with (first | (go_at_call 75; refine (between_t _ _ _ _ (by assumption)).mono ?_; rintro e w' ⟨rfl, rfl⟩) | fail)
  refine (calibrated_any _ _ _ _ _ _ hx htx hh).mono ?_
  rintro e w2 ⟨rfl, hb2⟩
  obtain ⟨hc2, hf2⟩ := bcell hb2
  have hz2 := hb2.size
  have x0 : w.heap.size < w2.heap.size := by omega
  have x1 : w.heap.size + 1 < w2.heap.size := by omega
  have x2 : w.heap.size + 1 + 1 < w2.heap.size := by omega
  have hC2 := hb.trans (hb2.mono (by simp only [World.size_alloc]; omega))
  have hP2 : HasPap p w.heap.size w2 := HasPap.up (by unfold HasPap; go_simp) hC2 (by simp only [World.size_alloc]; omega)
  have hZ2 : HasPap zeroP (w.heap.size + 1 + 1) w2 := HasPap.up (by unfold HasPap zeroP; go_simp) hC2 (by simp only [World.size_alloc]; omega)
  have hT2 : w2.cell? ⟨w.heap.size + 1, 0, none⟩ = some (.int .i64 t.x) ∧ w2.cell? ⟨w.heap.size + 1, 1, none⟩ = some (.int .i64 t.y) ∧ w2.cell? ⟨w.heap.size + 1, 2, none⟩ = some (.int .i64 t.half) := ⟨cell_up hC2 (by simp only [World.size_alloc]; omega) (by go_simp), cell_up hC2 (by simp only [World.size_alloc]; omega) (by go_simp), cell_up hC2 (by simp only [World.size_alloc]; omega) (by go_simp)⟩
  clear hc hc2
  obtain ⟨p0, p1, p2, p3, p4, p5, p6, p7, p8, p9⟩ := hP2
  obtain ⟨t0, t1, t2⟩ := hT2
  go_wp2_with fail
  refine (calibrated_any _ _ _ _ _ _ hy hty hh).mono ?_
  rintro e w3 ⟨rfl, hb3⟩
  obtain ⟨hc3, hf3⟩ := bcell hb3
  have hz3 := hb3.size
  simp only [World.size_setCell] at hz3
  have y0 : w.heap.size < w3.heap.size := by omega
  have y1 : w.heap.size + 1 < w3.heap.size := by omega
  have y2 : w.heap.size + 1 + 1 < w3.heap.size := by omega
  have hP3 : HasPap { p with al := knLo p.al x t.x t.half, ah := knHi p.ah x t.x t.half } w.heap.size w3 := HasPap.up (by unfold HasPap; go_simp) hb3 (by simp only [World.size_setCell]; omega)
  have hZ3 : HasPap zeroP (w.heap.size + 1 + 1) w3 := by
    simp only [HasPap, zeroP] at hZ2
    obtain ⟨u0, u1, u2, u3, u4, u5, u6, u7, u8, u9⟩ := hZ2
    exact HasPap.up (by unfold HasPap zeroP; go_simp) hb3 (by simp only [World.size_setCell]; omega)
  clear p0 p1 p2 p3 p4 p5 p6 p7 p8 p9 hZ2
  obtain ⟨p0, p1, p2, p3, p4, p5, p6, p7, p8, p9⟩ := hP3
  simp only [HasPap, zeroP] at hZ3
  obtain ⟨u0, u1, u2, u3, u4, u5, u6, u7, u8, u9⟩ := hZ3
  have C2 : Below w.heap.size w w2 := (box3 _ _ _ _).trans (hC2.mono (by simp only [World.size_alloc]; omega))
  have C3 := (set1 (set1 C2 (Nat.le_refl _) 6 (.int .i64 (knLo p.al x t.x t.half))) (Nat.le_refl _) 7 (.int .i64 (knHi p.ah x t.x t.half))).trans (hb3.mono (by simp only [World.size_setCell]; omega))
  clear hc3
  go_wp2_with fail
  refine bodyPost_ret (v := .tuple #[(calP p x y t).v, .int .i64 0]) ?_ rfl ⟨rfl, ?_⟩
  · simp [results, Try.results50, go_sem, calP, u0, u1, u2, u3, u4, u5, u6, u7, u8, u9]
  · repeat' (first | with_reducible exact C3 | with_reducible refine set1 ?_ (by omega) _ _)
end Go.Proofs.Ytmeljcbefnojfaa
