import Derived.Test.YtmeljcbefnojfaaRck
import Derived.Test.YtmeljcbefnojfaaClm
namespace Go.Proofs.Ytmeljcbefnojfaa
open Go.RowKit
theorem ediv_bd2 {n b : Int} (hb : 1 ≤ b) (h0 : -1000000000000 ≤ n) (h1 : n ≤ 1000000000000) : -1000000000000 ≤ n / b ∧ n / b ≤ 1000000000000 := by
  constructor
  · exact Int.le_ediv_of_mul_le (by omega) (by have : -1000000000000 * b ≤ -1000000000000 * 1 := Int.mul_le_mul_of_nonpos_left (by omega) (by omega); omega)
  · rcases Int.le_total 0 n with h | h
    · have := div_bd h hb; omega
    · have : n / b ≤ 0 / b := Int.ediv_le_ediv (by omega) h
      simp at this; omega
theorem ret_int {k : IntKind} {a b : Int} (h : a = b) : Ending.returned (.int k a) = .returned (.int k b) := by rw [h]
set_option maxHeartbeats 400000 in
theorem rfloor_any (n b : Int) (w : World) (h0 : -1000000000000 ≤ n) (h1 : n ≤ 1000000000000) (h2 : 1 ≤ b) (h3 : b ≤ 1000000000000) :
    Calls Try.prog 101 #[.int .i64 n, .int .i64 b] w fun e w' => e = .returned (.int .i64 (n / b)) ∧ w = w' := by
  by_cases hn : n < 0
  · obtain ⟨k1, k2⟩ := div_bd (a := -n + b - 1) (b := b) (by omega) h2
    have d : decide (n < 0) = true := by simpa using hn
    go_enter Try.func101, Try.ntmps101
    go_wp2_with fail
    go_ret
    exact ⟨ret_int (neg_cdiv h2), rfl⟩
  · have d : decide (n < 0) = false := by simpa using hn
    obtain ⟨k1, k2⟩ := div_bd (a := n) (b := b) (by omega) h2
    go_enter Try.func101, Try.ntmps101
    go_wp2_with fail
    go_ret
    exact ⟨rfl, rfl⟩
theorem neg_floor {n b : Int} (hb : 1 ≤ b) : -(-n / b) = cdiv n b := by
  rw [← neg_cdiv hb]; simp
set_option maxHeartbeats 400000 in
theorem rceil_any (n b : Int) (w : World) (h0 : -1000000000000 ≤ n) (h1 : n ≤ 1000000000000) (h2 : 1 ≤ b) (h3 : b ≤ 1000000000000) :
    Calls Try.prog 97 #[.int .i64 n, .int .i64 b] w fun e w' => e = .returned (.int .i64 (cdiv n b)) ∧ w = w' := by
  obtain ⟨k1, k2⟩ := ediv_bd2 (n := -n) (b := b) h2 (by omega) (by omega)
  go_enter Try.func97, Try.ntmps97
  go_wp2_with fail
  refine (rfloor_any (-n) b _ (by omega) (by omega) h2 h3).mono ?_
  rintro e w1 ⟨rfl, rfl⟩
  go_wp2_with fail
  go_ret
  exact ⟨ret_int (neg_floor h2), rfl⟩
set_option maxHeartbeats 400000 in
theorem right_t (t : Pt) (w : World) (h : t.Ok) :
    Calls Try.prog 70 #[t.v] w fun e w' => e = .returned (.bool true) ∧ Below w.heap.size w w' := by
  obtain ⟨h1, h2, h3⟩ := h
  go_enter Try.func70, Try.ntmps70
  go_wp2_with (first | (go_at_call 77; refine (within_t _ _ _ _ (by assumption)).mono ?_; rintro e w' ⟨rfl, rfl⟩) | fail)
  go_ret
  exact ⟨rfl, box1 _ _⟩
set_option maxHeartbeats 400000 in
theorem right_f (t : Pt) (w : World) (h : ¬ t.Ok) :
    Calls Try.prog 70 #[t.v] w fun e w' => e = .returned (.bool false) ∧ Below w.heap.size w w' := by
  by_cases h1 : 0 ≤ t.x ∧ t.x ≤ 400000
  · by_cases h2 : 0 ≤ t.y ∧ t.y ≤ 400000
    · have h3 : ¬ (0 ≤ t.half ∧ t.half ≤ 5000) := fun h3 => h ⟨h1, h2, h3⟩
      clear h
      go_enter Try.func70, Try.ntmps70
      go_wp2_with (first | (go_at_call 77; refine (within_t _ _ _ _ (by assumption)).mono ?_; rintro e w' ⟨rfl, rfl⟩) | (go_at_call 77; refine (within_f _ _ _ _ (by assumption)).mono ?_; rintro e w' ⟨rfl, rfl⟩) | fail)
      go_ret
      exact ⟨rfl, box1 _ _⟩
    · clear h
      go_enter Try.func70, Try.ntmps70
      go_wp2_with (first | (go_at_call 77; refine (within_t _ _ _ _ (by assumption)).mono ?_; rintro e w' ⟨rfl, rfl⟩) | (go_at_call 77; refine (within_f _ _ _ _ (by assumption)).mono ?_; rintro e w' ⟨rfl, rfl⟩) | fail)
      go_ret
      exact ⟨rfl, box1 _ _⟩
  · clear h
    go_enter Try.func70, Try.ntmps70
    go_wp2_with (first | (go_at_call 77; refine (within_f _ _ _ _ (by assumption)).mono ?_; rintro e w' ⟨rfl, rfl⟩) | fail)
    go_ret
    exact ⟨rfl, box1 _ _⟩
set_option maxHeartbeats 400000 in
theorem rcheck_bad (p : Pap) (t : Pt) (w : World) (h : ¬ p.Ok) :
    Calls Try.prog 83 #[p.v, t.v] w fun e w' => e = .returned (.int .i64 10) ∧ Below w.heap.size w w' := by
  go_enter Try.func83, Try.ntmps83
  go_wp2_with fail
  refine (rck_no p _ h).mono ?_
  rintro e w1 ⟨rfl, hb⟩
  obtain ⟨hc, hf⟩ := bcell hb
  go_wp2_with fail
  go_ret
  exact ⟨rfl, (box2 _ _ _).trans (hb.mono (by simp only [World.size_alloc]; omega))⟩
set_option maxHeartbeats 400000 in
theorem rcheck_pt (p : Pap) (t : Pt) (w : World) (h : p.Ok) (ht : ¬ t.Ok) :
    Calls Try.prog 83 #[p.v, t.v] w fun e w' => e = .returned (.int .i64 11) ∧ Below w.heap.size w w' := by
  go_enter Try.func83, Try.ntmps83
  go_wp2_with fail
  refine (rck_ok p _ h).mono ?_
  rintro e w1 ⟨rfl, hb⟩
  obtain ⟨hc, hf⟩ := bcell hb
  have hz := hb.size
  simp only [World.size_alloc] at hz
  go_wp2_with fail
  refine (right_f t _ ht).mono ?_
  rintro e w2 ⟨rfl, hb2⟩
  go_wp2_with fail
  go_ret
  exact ⟨rfl, ((box2 _ _ _).trans (hb.mono (by simp only [World.size_alloc]; omega))).trans (hb2.mono (by omega))⟩
set_option maxHeartbeats 400000 in
theorem rcheck_ok (p : Pap) (t : Pt) (w : World) (h : p.Ok) (ht : t.Ok) :
    Calls Try.prog 83 #[p.v, t.v] w fun e w' => e = .returned (.int .i64 0) ∧ Below w.heap.size w w' := by
  go_enter Try.func83, Try.ntmps83
  go_wp2_with fail
  refine (rck_ok p _ h).mono ?_
  rintro e w1 ⟨rfl, hb⟩
  obtain ⟨hc, hf⟩ := bcell hb
  have hz := hb.size
  simp only [World.size_alloc] at hz
  go_wp2_with fail
  refine (right_t t _ ht).mono ?_
  rintro e w2 ⟨rfl, hb2⟩
  go_wp2_with fail
  go_ret
  exact ⟨rfl, ((box2 _ _ _).trans (hb.mono (by simp only [World.size_alloc]; omega))).trans (hb2.mono (by omega))⟩
theorem rcheck_any (p : Pap) (t : Pt) (w : World) :
    Calls Try.prog 83 #[p.v, t.v] w fun e w' => e = .returned (.int .i64 (ptE p t)) ∧ Below w.heap.size w w' := by
  unfold ptE
  by_cases h : p.Ok
  · by_cases ht : t.Ok
    · rw [if_pos h, if_pos ht]; exact rcheck_ok p t w h ht
    · rw [if_pos h, if_neg ht]; exact rcheck_pt p t w h ht
  · rw [if_neg h]; exact rcheck_bad p t w h
theorem low_cell {B : Nat} {W w1 : World} {b o : Nat} {v : Value} (hb : Below B W w1) (hl : b < B) (h : W.cell? ⟨b, o, none⟩ = some v) : w1.cell? ⟨b, o, none⟩ = some v := (hb.cell (p := ⟨b, o, none⟩) hl).trans h
theorem low_frozen {B : Nat} {W w1 : World} {b o : Nat} {v : Bool} (hb : Below B W w1) (hl : b < B) (h : W.frozen? ⟨b, o, none⟩ = v) : w1.frozen? ⟨b, o, none⟩ = v := (hb.frozen (p := ⟨b, o, none⟩) hl).trans h
theorem still_tail {P : Program} {id : Nat} {Q : Exit → Act → World → Prop} {a : Act} {w : World} {l : List Oper} (n : Nat) (hm : P.follows .mixedOrders = true) (hB : Region.lexTailB .any l.toArray n = true)
    (h : wpStill P l.toArray w.drew (fun a' => wpList P l.toArray Q (l.drop n) a' w.drew) (l.take n) a) : (Code.region id l.toArray true).wp P Q a w := wp_region_still_tail n hm hB h
set_option maxRecDepth 100000 in
set_option maxHeartbeats 1000000 in
theorem places_any (n h lo hi : Int) (w : World) (hn : 0 ≤ n ∧ n ≤ 400000) (hh : 0 ≤ h ∧ h ≤ 5000) (hs : 900 ≤ lo ∧ lo ≤ hi ∧ hi ≤ 1100) :
    Calls Try.prog 84 #[.int .i64 n, .int .i64 h, .agg #[.int .i64 lo, .int .i64 hi]] w fun e w' => e = .returned (.agg #[.int .i64 (prLo n h hi), .int .i64 (prHi n h lo)]) ∧ Below w.heap.size w w' := by
  go_enter Try.func84, Try.ntmps84
  go_wp2_with fail
  have g1 : IntKind.i64.wrap (n - h) = n - h := IntWalk.i64_in _ (by omega)
  have g2 : IntKind.i64.wrap ((n - h) * 1000) = (n - h) * 1000 := IntWalk.i64_in _ (by omega)
  have g3 : IntKind.i64.wrap (n + h) = n + h := IntWalk.i64_in _ (by omega)
  have g4 : IntKind.i64.wrap ((n + h) * 1000) = (n + h) * 1000 := IntWalk.i64_in _ (by omega)
  refine still_tail 16 (by kernel_rfl) (by kernel_rfl) ?_
  simp only [List.take_succ_cons, List.take_zero, List.drop_succ_cons, List.drop_zero]
  repeat still_step
  still_call ((rfloor_any _ _ _ (by omega) (by omega) (by omega) (by omega)).mono fun _ _ h => ⟨h.1, h.2.symm⟩)
  repeat still_step
  still_call ((rfloor_any _ _ _ (by omega) (by omega) (by omega) (by omega)).mono fun _ _ h => ⟨h.1, h.2.symm⟩)
  repeat still_step
  refine wpStill_nil ?_
  go_wp2_with fail
  refine bodyPost_ret (v := .agg #[.int .i64 (prLo n h hi), .int .i64 (prHi n h lo)]) ?_ rfl ⟨rfl, ?_⟩
  · simp [results, Try.results84, go_sem, prLo, prHi]
  · exact ((box1 _ _).alloc (by simp) _).drew
end Go.Proofs.Ytmeljcbefnojfaa
