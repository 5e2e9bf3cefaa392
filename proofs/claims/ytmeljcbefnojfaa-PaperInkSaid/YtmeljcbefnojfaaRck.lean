import Derived.Test.YtmeljcbefnojfaaNo
namespace Go.Proofs.Ytmeljcbefnojfaa
open Go.RowKit
set_option maxHeartbeats 400000 in
theorem within_any (n a b : Int) (w : World) :
    Calls Try.prog 77 #[.int .i64 n, .int .i64 a, .int .i64 b] w fun e w' => e = .returned (.bool (btw n a b)) ∧ w = w' := by
  by_cases h : a ≤ n
  · have h1 : decide (a ≤ n) = true := by simpa using h
    go_enter Try.func77, Try.ntmps77
    go_wp2
    go_ret
    exact ⟨by simp [btw, h], rfl⟩
  · have h1 : decide (a ≤ n) = false := by simpa using h
    go_enter Try.func77, Try.ntmps77
    go_wp2
    go_ret
    exact ⟨by simp [btw]; omega, rfl⟩
theorem within_t (n a b : Int) (w : World) (h : a ≤ n ∧ n ≤ b) :
    Calls Try.prog 77 #[.int .i64 n, .int .i64 a, .int .i64 b] w fun e w' => e = .returned (.bool true) ∧ w = w' :=
  (within_any n a b w).mono fun _ _ ⟨he, hw⟩ => ⟨by rw [he]; simp [btw, h], hw⟩
theorem within_f (n a b : Int) (w : World) (h : ¬ (a ≤ n ∧ n ≤ b)) :
    Calls Try.prog 77 #[.int .i64 n, .int .i64 a, .int .i64 b] w fun e w' => e = .returned (.bool false) ∧ w = w' :=
  (within_any n a b w).mono fun _ _ ⟨he, hw⟩ => ⟨by rw [he]; simp only [btw, decide_eq_false h], hw⟩
set_option maxHeartbeats 400000 in
theorem shrunk_any (a b : Int) (w : World) :
    Calls Try.prog 78 #[.agg #[.int .i64 a, .int .i64 b]] w fun e w' => e = .returned (.bool (shr a b)) ∧ Below w.heap.size w w' := by
  by_cases h : 900 ≤ a
  · by_cases h2 : a ≤ b
    · have h1 : decide (900 ≤ a) = true := by simpa using h
      have h3 : decide (a ≤ b) = true := by simpa using h2
      go_enter Try.func78, Try.ntmps78
      go_wp2
      go_ret
      exact ⟨by simp [shr, h, h2], (Below.refl _ _).alloc (Nat.le_refl _) _⟩
    · have h1 : decide (900 ≤ a) = true := by simpa using h
      have h3 : decide (a ≤ b) = false := by simpa using h2
      go_enter Try.func78, Try.ntmps78
      go_wp2
      go_ret
      exact ⟨by simp [shr]; omega, (Below.refl _ _).alloc (Nat.le_refl _) _⟩
  · have h1 : decide (900 ≤ a) = false := by simpa using h
    go_enter Try.func78, Try.ntmps78
    go_wp2
    go_ret
    exact ⟨by simp [shr]; omega, (Below.refl _ _).alloc (Nat.le_refl _) _⟩
theorem shrunk_t (a b : Int) (w : World) (h : 900 ≤ a ∧ a ≤ b ∧ b ≤ 1100) :
    Calls Try.prog 78 #[.agg #[.int .i64 a, .int .i64 b]] w fun e w' => e = .returned (.bool true) ∧ Below w.heap.size w w' :=
  (shrunk_any a b w).mono fun _ _ ⟨he, hw⟩ => ⟨by rw [he]; simp only [shr, decide_eq_true h], hw⟩
theorem shrunk_f (a b : Int) (w : World) (h : ¬ (900 ≤ a ∧ a ≤ b ∧ b ≤ 1100)) :
    Calls Try.prog 78 #[.agg #[.int .i64 a, .int .i64 b]] w fun e w' => e = .returned (.bool false) ∧ Below w.heap.size w w' :=
  (shrunk_any a b w).mono fun _ _ ⟨he, hw⟩ => ⟨by rw [he]; simp only [shr, decide_eq_false h], hw⟩
set_option maxHeartbeats 1000000 in
theorem rck_no1 (p : Pap) (w : World)  (h : ¬ (1 ≤ p.pitch ∧ p.pitch ≤ 10000)) :
    Calls Try.prog 28 #[p.v] w fun e w' => e = .returned (.int .i64 10) ∧ Below w.heap.size w w' := by
  go_enter Try.func28, Try.ntmps28
  go_wp2_with (first | (go_at_call 77; refine (within_t _ _ _ _ (by assumption)).mono ?_; rintro e w' ⟨rfl, rfl⟩) | (go_at_call 77; refine (within_f _ _ _ _ (by assumption)).mono ?_; rintro e w' ⟨rfl, rfl⟩) | fail)
  go_ret
  exact ⟨rfl, (Below.refl _ _).alloc (Nat.le_refl _) _⟩
set_option maxHeartbeats 1000000 in
theorem rck_no2 (p : Pap) (w : World) (h1 : 1 ≤ p.pitch ∧ p.pitch ≤ 10000) (h : ¬ (1 ≤ p.height ∧ p.height ≤ 400000)) :
    Calls Try.prog 28 #[p.v] w fun e w' => e = .returned (.int .i64 10) ∧ Below w.heap.size w w' := by
  go_enter Try.func28, Try.ntmps28
  go_wp2_with (first | (go_at_call 77; refine (within_t _ _ _ _ (by assumption)).mono ?_; rintro e w' ⟨rfl, rfl⟩) | (go_at_call 77; refine (within_f _ _ _ _ (by assumption)).mono ?_; rintro e w' ⟨rfl, rfl⟩) | fail)
  go_ret
  exact ⟨rfl, (Below.refl _ _).alloc (Nat.le_refl _) _⟩
set_option maxHeartbeats 1000000 in
theorem rck_no3 (p : Pap) (w : World) (h1 : 1 ≤ p.pitch ∧ p.pitch ≤ 10000) (h2 : 1 ≤ p.height ∧ p.height ≤ 400000) (h : ¬ (1 ≤ p.cols ∧ p.cols ≤ 200)) :
    Calls Try.prog 28 #[p.v] w fun e w' => e = .returned (.int .i64 10) ∧ Below w.heap.size w w' := by
  go_enter Try.func28, Try.ntmps28
  go_wp2_with (first | (go_at_call 77; refine (within_t _ _ _ _ (by assumption)).mono ?_; rintro e w' ⟨rfl, rfl⟩) | (go_at_call 77; refine (within_f _ _ _ _ (by assumption)).mono ?_; rintro e w' ⟨rfl, rfl⟩) | fail)
  go_ret
  exact ⟨rfl, (Below.refl _ _).alloc (Nat.le_refl _) _⟩
set_option maxHeartbeats 1000000 in
theorem rck_no4 (p : Pap) (w : World) (h1 : 1 ≤ p.pitch ∧ p.pitch ≤ 10000) (h2 : 1 ≤ p.height ∧ p.height ≤ 400000) (h3 : 1 ≤ p.cols ∧ p.cols ≤ 200) (h : ¬ (900 ≤ p.al ∧ p.al ≤ p.ah ∧ p.ah ≤ 1100)) :
    Calls Try.prog 28 #[p.v] w fun e w' => e = .returned (.int .i64 10) ∧ Below w.heap.size w w' := by
  go_enter Try.func28, Try.ntmps28
  go_wp2_with (first | (go_at_call 77; refine (within_t _ _ _ _ (by assumption)).mono ?_; rintro e w' ⟨rfl, rfl⟩) | (go_at_call 77; refine (within_f _ _ _ _ (by assumption)).mono ?_; rintro e w' ⟨rfl, rfl⟩) | fail)
  refine (shrunk_f _ _ _ (by assumption)).mono ?_
  rintro e w1 ⟨rfl, hb⟩
  obtain ⟨hc, hf⟩ := bcell hb
  have hz : w.heap.size + 1 ≤ w1.heap.size := by have := hb.size; simpa using this
  have z0 : w.heap.size < w1.heap.size := by omega
  go_wp2_with fail
  go_ret
  exact ⟨rfl, ((Below.refl _ _).alloc (Nat.le_refl _) _).trans (hb.mono (by simp))⟩
set_option maxHeartbeats 1000000 in
theorem rck_no5 (p : Pap) (w : World) (h1 : 1 ≤ p.pitch ∧ p.pitch ≤ 10000) (h2 : 1 ≤ p.height ∧ p.height ≤ 400000) (h3 : 1 ≤ p.cols ∧ p.cols ≤ 200) (h4 : 900 ≤ p.al ∧ p.al ≤ p.ah ∧ p.ah ≤ 1100) (h : ¬ (900 ≤ p.cl ∧ p.cl ≤ p.ch ∧ p.ch ≤ 1100)) :
    Calls Try.prog 28 #[p.v] w fun e w' => e = .returned (.int .i64 10) ∧ Below w.heap.size w w' := by
  go_enter Try.func28, Try.ntmps28
  go_wp2_with (first | (go_at_call 77; refine (within_t _ _ _ _ (by assumption)).mono ?_; rintro e w' ⟨rfl, rfl⟩) | (go_at_call 77; refine (within_f _ _ _ _ (by assumption)).mono ?_; rintro e w' ⟨rfl, rfl⟩) | fail)
  refine (shrunk_t _ _ _ (by assumption)).mono ?_
  rintro e w1 ⟨rfl, hb⟩
  obtain ⟨hc, hf⟩ := bcell hb
  have hz : w.heap.size + 1 ≤ w1.heap.size := by have := hb.size; simpa using this
  have z0 : w.heap.size < w1.heap.size := by omega
  go_wp2_with fail
  refine (shrunk_f _ _ _ (by assumption)).mono ?_
  rintro e w2 ⟨rfl, hb2⟩
  obtain ⟨hc2, hf2⟩ := bcell hb2
  have hz2 := hb2.size
  have z2 : w.heap.size < w2.heap.size := by omega
  go_wp2_with (first | (go_at_call 77; refine (within_t _ _ _ _ (by assumption)).mono ?_; rintro e w' ⟨rfl, rfl⟩) | (go_at_call 77; refine (within_f _ _ _ _ (by assumption)).mono ?_; rintro e w' ⟨rfl, rfl⟩) | fail)
  go_ret
  exact ⟨rfl, (((Below.refl _ _).alloc (Nat.le_refl _) _).trans (hb.mono (by simp))).trans (hb2.mono (by omega))⟩
set_option maxHeartbeats 1000000 in
theorem rck_no6 (p : Pap) (w : World) (h1 : 1 ≤ p.pitch ∧ p.pitch ≤ 10000) (h2 : 1 ≤ p.height ∧ p.height ≤ 400000) (h3 : 1 ≤ p.cols ∧ p.cols ≤ 200) (h4 : 900 ≤ p.al ∧ p.al ≤ p.ah ∧ p.ah ≤ 1100) (h5 : 900 ≤ p.cl ∧ p.cl ≤ p.ch ∧ p.ch ≤ 1100) (h : ¬ (p.radius = 0 ∨ p.height ≤ p.radius ∧ p.radius ≤ 4000000)) :
    Calls Try.prog 28 #[p.v] w fun e w' => e = .returned (.int .i64 10) ∧ Below w.heap.size w w' := by
  have hr : ¬ p.radius = 0 := fun e => h (.inl e)
  have e1 : (p.radius == 0) = false := by simp [hr]
  have e2 : (p.radius != 0) = true := by simp [hr]
  have h' : ¬ (p.height ≤ p.radius ∧ p.radius ≤ 4000000) := fun e => h (.inr e)
  clear hr h
  go_enter Try.func28, Try.ntmps28
  go_wp2_with (first | (go_at_call 77; refine (within_t _ _ _ _ (by assumption)).mono ?_; rintro e w' ⟨rfl, rfl⟩) | (go_at_call 77; refine (within_f _ _ _ _ (by assumption)).mono ?_; rintro e w' ⟨rfl, rfl⟩) | fail)
  refine (shrunk_t _ _ _ (by assumption)).mono ?_
  rintro e w1 ⟨rfl, hb⟩
  obtain ⟨hc, hf⟩ := bcell hb
  have hz : w.heap.size + 1 ≤ w1.heap.size := by have := hb.size; simpa using this
  have z0 : w.heap.size < w1.heap.size := by omega
  go_wp2_with fail
  refine (shrunk_t _ _ _ (by assumption)).mono ?_
  rintro e w2 ⟨rfl, hb2⟩
  obtain ⟨hc2, hf2⟩ := bcell hb2
  have hz2 := hb2.size
  have z2 : w.heap.size < w2.heap.size := by omega
  go_wp2_with (first | (go_at_call 77; refine (within_t _ _ _ _ (by assumption)).mono ?_; rintro e w' ⟨rfl, rfl⟩) | (go_at_call 77; refine (within_f _ _ _ _ (by assumption)).mono ?_; rintro e w' ⟨rfl, rfl⟩) | fail)
  go_ret
  exact ⟨rfl, (((Below.refl _ _).alloc (Nat.le_refl _) _).trans (hb.mono (by simp))).trans (hb2.mono (by omega))⟩
set_option maxHeartbeats 1000000 in
theorem rck_no7 (p : Pap) (w : World) (h1 : 1 ≤ p.pitch ∧ p.pitch ≤ 10000) (h2 : 1 ≤ p.height ∧ p.height ≤ 400000) (h3 : 1 ≤ p.cols ∧ p.cols ≤ 200) (h4 : 900 ≤ p.al ∧ p.al ≤ p.ah ∧ p.ah ≤ 1100) (h5 : 900 ≤ p.cl ∧ p.cl ≤ p.ch ∧ p.ch ≤ 1100) (h6 : p.radius = 0 ∨ p.height ≤ p.radius ∧ p.radius ≤ 4000000) (h : ¬ (0 ≤ p.low ∧ p.low < p.high ∧ p.high ≤ 12000)) :
    Calls Try.prog 28 #[p.v] w fun e w' => e = .returned (.int .i64 10) ∧ Below w.heap.size w w' := by
  have cases4 : p.low < 0 ∨ (0 ≤ p.low ∧ p.low ≥ p.high) ∨ (0 ≤ p.low ∧ p.low < p.high ∧ p.high > 12000) := by omega
  clear h
  by_cases hr : p.radius = 0
  · rcases cases4 with a | ⟨a, b⟩ | ⟨a, b, c⟩
    · have d1 : decide (p.low < 0) = true := by simp; omega
      have e1 : (p.radius == 0) = true := by simp [hr]
      have e2 : (p.radius != 0) = false := by simp [hr]
      have HR := Lib.hid hr
      clear hr h6
      go_enter Try.func28, Try.ntmps28
      go_wp2_with (first | (go_at_call 77; refine (within_t _ _ _ _ (by assumption)).mono ?_; rintro e w' ⟨rfl, rfl⟩) | (go_at_call 77; refine (within_f _ _ _ _ (by assumption)).mono ?_; rintro e w' ⟨rfl, rfl⟩) | fail)
      refine (shrunk_t _ _ _ (by assumption)).mono ?_
      rintro e w1 ⟨rfl, hb⟩
      obtain ⟨hc, hf⟩ := bcell hb
      have hz : w.heap.size + 1 ≤ w1.heap.size := by have := hb.size; simpa using this
      have z0 : w.heap.size < w1.heap.size := by omega
      go_wp2_with fail
      refine (shrunk_t _ _ _ (by assumption)).mono ?_
      rintro e w2 ⟨rfl, hb2⟩
      obtain ⟨hc2, hf2⟩ := bcell hb2
      have hz2 := hb2.size
      have z2 : w.heap.size < w2.heap.size := by omega
      go_wp2_with (first | (go_at_call 77; refine (within_t _ _ _ _ (by assumption)).mono ?_; rintro e w' ⟨rfl, rfl⟩) | (go_at_call 77; refine (within_f _ _ _ _ (by assumption)).mono ?_; rintro e w' ⟨rfl, rfl⟩) | fail)
      go_ret
      exact ⟨rfl, (((Below.refl _ _).alloc (Nat.le_refl _) _).trans (hb.mono (by simp))).trans (hb2.mono (by omega))⟩
    · have d1 : decide (p.low < 0) = false := by simp; omega
      have d2 : decide (p.low ≥ p.high) = true := by simp; omega
      have e1 : (p.radius == 0) = true := by simp [hr]
      have e2 : (p.radius != 0) = false := by simp [hr]
      have HR := Lib.hid hr
      clear hr h6
      go_enter Try.func28, Try.ntmps28
      go_wp2_with (first | (go_at_call 77; refine (within_t _ _ _ _ (by assumption)).mono ?_; rintro e w' ⟨rfl, rfl⟩) | (go_at_call 77; refine (within_f _ _ _ _ (by assumption)).mono ?_; rintro e w' ⟨rfl, rfl⟩) | fail)
      refine (shrunk_t _ _ _ (by assumption)).mono ?_
      rintro e w1 ⟨rfl, hb⟩
      obtain ⟨hc, hf⟩ := bcell hb
      have hz : w.heap.size + 1 ≤ w1.heap.size := by have := hb.size; simpa using this
      have z0 : w.heap.size < w1.heap.size := by omega
      go_wp2_with fail
      refine (shrunk_t _ _ _ (by assumption)).mono ?_
      rintro e w2 ⟨rfl, hb2⟩
      obtain ⟨hc2, hf2⟩ := bcell hb2
      have hz2 := hb2.size
      have z2 : w.heap.size < w2.heap.size := by omega
      go_wp2_with (first | (go_at_call 77; refine (within_t _ _ _ _ (by assumption)).mono ?_; rintro e w' ⟨rfl, rfl⟩) | (go_at_call 77; refine (within_f _ _ _ _ (by assumption)).mono ?_; rintro e w' ⟨rfl, rfl⟩) | fail)
      go_ret
      exact ⟨rfl, (((Below.refl _ _).alloc (Nat.le_refl _) _).trans (hb.mono (by simp))).trans (hb2.mono (by omega))⟩
    · have d1 : decide (p.low < 0) = false := by simp; omega
      have d2 : decide (p.low ≥ p.high) = false := by simp; omega
      have d3 : decide (p.high > 12000) = true := by simp; omega
      have e1 : (p.radius == 0) = true := by simp [hr]
      have e2 : (p.radius != 0) = false := by simp [hr]
      have HR := Lib.hid hr
      clear hr h6
      go_enter Try.func28, Try.ntmps28
      go_wp2_with (first | (go_at_call 77; refine (within_t _ _ _ _ (by assumption)).mono ?_; rintro e w' ⟨rfl, rfl⟩) | (go_at_call 77; refine (within_f _ _ _ _ (by assumption)).mono ?_; rintro e w' ⟨rfl, rfl⟩) | fail)
      refine (shrunk_t _ _ _ (by assumption)).mono ?_
      rintro e w1 ⟨rfl, hb⟩
      obtain ⟨hc, hf⟩ := bcell hb
      have hz : w.heap.size + 1 ≤ w1.heap.size := by have := hb.size; simpa using this
      have z0 : w.heap.size < w1.heap.size := by omega
      go_wp2_with fail
      refine (shrunk_t _ _ _ (by assumption)).mono ?_
      rintro e w2 ⟨rfl, hb2⟩
      obtain ⟨hc2, hf2⟩ := bcell hb2
      have hz2 := hb2.size
      have z2 : w.heap.size < w2.heap.size := by omega
      go_wp2_with (first | (go_at_call 77; refine (within_t _ _ _ _ (by assumption)).mono ?_; rintro e w' ⟨rfl, rfl⟩) | (go_at_call 77; refine (within_f _ _ _ _ (by assumption)).mono ?_; rintro e w' ⟨rfl, rfl⟩) | fail)
      go_ret
      exact ⟨rfl, (((Below.refl _ _).alloc (Nat.le_refl _) _).trans (hb.mono (by simp))).trans (hb2.mono (by omega))⟩
  · rcases cases4 with a | ⟨a, b⟩ | ⟨a, b, c⟩
    · have d1 : decide (p.low < 0) = true := by simp; omega
      have e1 : (p.radius == 0) = false := by simp [hr]
      have e2 : (p.radius != 0) = true := by simp [hr]
      have h6' : p.height ≤ p.radius ∧ p.radius ≤ 4000000 := by omega
      clear hr h6
      go_enter Try.func28, Try.ntmps28
      go_wp2_with (first | (go_at_call 77; refine (within_t _ _ _ _ (by assumption)).mono ?_; rintro e w' ⟨rfl, rfl⟩) | (go_at_call 77; refine (within_f _ _ _ _ (by assumption)).mono ?_; rintro e w' ⟨rfl, rfl⟩) | fail)
      refine (shrunk_t _ _ _ (by assumption)).mono ?_
      rintro e w1 ⟨rfl, hb⟩
      obtain ⟨hc, hf⟩ := bcell hb
      have hz : w.heap.size + 1 ≤ w1.heap.size := by have := hb.size; simpa using this
      have z0 : w.heap.size < w1.heap.size := by omega
      go_wp2_with fail
      refine (shrunk_t _ _ _ (by assumption)).mono ?_
      rintro e w2 ⟨rfl, hb2⟩
      obtain ⟨hc2, hf2⟩ := bcell hb2
      have hz2 := hb2.size
      have z2 : w.heap.size < w2.heap.size := by omega
      go_wp2_with (first | (go_at_call 77; refine (within_t _ _ _ _ (by assumption)).mono ?_; rintro e w' ⟨rfl, rfl⟩) | (go_at_call 77; refine (within_f _ _ _ _ (by assumption)).mono ?_; rintro e w' ⟨rfl, rfl⟩) | fail)
      go_ret
      exact ⟨rfl, (((Below.refl _ _).alloc (Nat.le_refl _) _).trans (hb.mono (by simp))).trans (hb2.mono (by omega))⟩
    · have d1 : decide (p.low < 0) = false := by simp; omega
      have d2 : decide (p.low ≥ p.high) = true := by simp; omega
      have e1 : (p.radius == 0) = false := by simp [hr]
      have e2 : (p.radius != 0) = true := by simp [hr]
      have h6' : p.height ≤ p.radius ∧ p.radius ≤ 4000000 := by omega
      clear hr h6
      go_enter Try.func28, Try.ntmps28
      go_wp2_with (first | (go_at_call 77; refine (within_t _ _ _ _ (by assumption)).mono ?_; rintro e w' ⟨rfl, rfl⟩) | (go_at_call 77; refine (within_f _ _ _ _ (by assumption)).mono ?_; rintro e w' ⟨rfl, rfl⟩) | fail)
      refine (shrunk_t _ _ _ (by assumption)).mono ?_
      rintro e w1 ⟨rfl, hb⟩
      obtain ⟨hc, hf⟩ := bcell hb
      have hz : w.heap.size + 1 ≤ w1.heap.size := by have := hb.size; simpa using this
      have z0 : w.heap.size < w1.heap.size := by omega
      go_wp2_with fail
      refine (shrunk_t _ _ _ (by assumption)).mono ?_
      rintro e w2 ⟨rfl, hb2⟩
      obtain ⟨hc2, hf2⟩ := bcell hb2
      have hz2 := hb2.size
      have z2 : w.heap.size < w2.heap.size := by omega
      go_wp2_with (first | (go_at_call 77; refine (within_t _ _ _ _ (by assumption)).mono ?_; rintro e w' ⟨rfl, rfl⟩) | (go_at_call 77; refine (within_f _ _ _ _ (by assumption)).mono ?_; rintro e w' ⟨rfl, rfl⟩) | fail)
      go_ret
      exact ⟨rfl, (((Below.refl _ _).alloc (Nat.le_refl _) _).trans (hb.mono (by simp))).trans (hb2.mono (by omega))⟩
    · have d1 : decide (p.low < 0) = false := by simp; omega
      have d2 : decide (p.low ≥ p.high) = false := by simp; omega
      have d3 : decide (p.high > 12000) = true := by simp; omega
      have e1 : (p.radius == 0) = false := by simp [hr]
      have e2 : (p.radius != 0) = true := by simp [hr]
      have h6' : p.height ≤ p.radius ∧ p.radius ≤ 4000000 := by omega
      clear hr h6
      go_enter Try.func28, Try.ntmps28
      go_wp2_with (first | (go_at_call 77; refine (within_t _ _ _ _ (by assumption)).mono ?_; rintro e w' ⟨rfl, rfl⟩) | (go_at_call 77; refine (within_f _ _ _ _ (by assumption)).mono ?_; rintro e w' ⟨rfl, rfl⟩) | fail)
      refine (shrunk_t _ _ _ (by assumption)).mono ?_
      rintro e w1 ⟨rfl, hb⟩
      obtain ⟨hc, hf⟩ := bcell hb
      have hz : w.heap.size + 1 ≤ w1.heap.size := by have := hb.size; simpa using this
      have z0 : w.heap.size < w1.heap.size := by omega
      go_wp2_with fail
      refine (shrunk_t _ _ _ (by assumption)).mono ?_
      rintro e w2 ⟨rfl, hb2⟩
      obtain ⟨hc2, hf2⟩ := bcell hb2
      have hz2 := hb2.size
      have z2 : w.heap.size < w2.heap.size := by omega
      go_wp2_with (first | (go_at_call 77; refine (within_t _ _ _ _ (by assumption)).mono ?_; rintro e w' ⟨rfl, rfl⟩) | (go_at_call 77; refine (within_f _ _ _ _ (by assumption)).mono ?_; rintro e w' ⟨rfl, rfl⟩) | fail)
      go_ret
      exact ⟨rfl, (((Below.refl _ _).alloc (Nat.le_refl _) _).trans (hb.mono (by simp))).trans (hb2.mono (by omega))⟩
set_option maxHeartbeats 1000000 in
theorem rck_no8 (p : Pap) (w : World) (h1 : 1 ≤ p.pitch ∧ p.pitch ≤ 10000) (h2 : 1 ≤ p.height ∧ p.height ≤ 400000) (h3 : 1 ≤ p.cols ∧ p.cols ≤ 200) (h4 : 900 ≤ p.al ∧ p.al ≤ p.ah ∧ p.ah ≤ 1100) (h5 : 900 ≤ p.cl ∧ p.cl ≤ p.ch ∧ p.ch ≤ 1100) (h6 : p.radius = 0 ∨ p.height ≤ p.radius ∧ p.radius ≤ 4000000) (h7 : 0 ≤ p.low ∧ p.low < p.high ∧ p.high ≤ 12000) (h : ¬ (p.high - p.low ≤ p.height)) :
    Calls Try.prog 28 #[p.v] w fun e w' => e = .returned (.int .i64 10) ∧ Below w.heap.size w w' := by
  have d1 : decide (p.low < 0) = false := by simp; omega
  have d2 : decide (p.low ≥ p.high) = false := by simp; omega
  have d3 : decide (p.high > 12000) = false := by simp; omega
  have d4 : decide (p.high - p.low > p.height) = true := by simp; omega
  obtain ⟨h71, h72, h73⟩ := h7
  have h8 : p.high - p.low > p.height := by omega
  clear h
  by_cases hr : p.radius = 0
  · have e1 : (p.radius == 0) = true := by simp [hr]
    have e2 : (p.radius != 0) = false := by simp [hr]
    have HR := Lib.hid hr
    clear hr h6
    go_enter Try.func28, Try.ntmps28
    go_wp2_with (first | (go_at_call 77; refine (within_t _ _ _ _ (by assumption)).mono ?_; rintro e w' ⟨rfl, rfl⟩) | (go_at_call 77; refine (within_f _ _ _ _ (by assumption)).mono ?_; rintro e w' ⟨rfl, rfl⟩) | fail)
    refine (shrunk_t _ _ _ (by assumption)).mono ?_
    rintro e w1 ⟨rfl, hb⟩
    obtain ⟨hc, hf⟩ := bcell hb
    have hz : w.heap.size + 1 ≤ w1.heap.size := by have := hb.size; simpa using this
    have z0 : w.heap.size < w1.heap.size := by omega
    go_wp2_with fail
    refine (shrunk_t _ _ _ (by assumption)).mono ?_
    rintro e w2 ⟨rfl, hb2⟩
    obtain ⟨hc2, hf2⟩ := bcell hb2
    have hz2 := hb2.size
    have z2 : w.heap.size < w2.heap.size := by omega
    go_wp2_with (first | (go_at_call 77; refine (within_t _ _ _ _ (by assumption)).mono ?_; rintro e w' ⟨rfl, rfl⟩) | (go_at_call 77; refine (within_f _ _ _ _ (by assumption)).mono ?_; rintro e w' ⟨rfl, rfl⟩) | fail)
    go_ret
    exact ⟨rfl, (((Below.refl _ _).alloc (Nat.le_refl _) _).trans (hb.mono (by simp))).trans (hb2.mono (by omega))⟩
  · have e1 : (p.radius == 0) = false := by simp [hr]
    have e2 : (p.radius != 0) = true := by simp [hr]
    have h6' : p.height ≤ p.radius ∧ p.radius ≤ 4000000 := by omega
    clear hr h6
    go_enter Try.func28, Try.ntmps28
    go_wp2_with (first | (go_at_call 77; refine (within_t _ _ _ _ (by assumption)).mono ?_; rintro e w' ⟨rfl, rfl⟩) | (go_at_call 77; refine (within_f _ _ _ _ (by assumption)).mono ?_; rintro e w' ⟨rfl, rfl⟩) | fail)
    refine (shrunk_t _ _ _ (by assumption)).mono ?_
    rintro e w1 ⟨rfl, hb⟩
    obtain ⟨hc, hf⟩ := bcell hb
    have hz : w.heap.size + 1 ≤ w1.heap.size := by have := hb.size; simpa using this
    have z0 : w.heap.size < w1.heap.size := by omega
    go_wp2_with fail
    refine (shrunk_t _ _ _ (by assumption)).mono ?_
    rintro e w2 ⟨rfl, hb2⟩
    obtain ⟨hc2, hf2⟩ := bcell hb2
    have hz2 := hb2.size
    have z2 : w.heap.size < w2.heap.size := by omega
    go_wp2_with (first | (go_at_call 77; refine (within_t _ _ _ _ (by assumption)).mono ?_; rintro e w' ⟨rfl, rfl⟩) | (go_at_call 77; refine (within_f _ _ _ _ (by assumption)).mono ?_; rintro e w' ⟨rfl, rfl⟩) | fail)
    go_ret
    exact ⟨rfl, (((Below.refl _ _).alloc (Nat.le_refl _) _).trans (hb.mono (by simp))).trans (hb2.mono (by omega))⟩
set_option maxHeartbeats 1000000 in
theorem rck_yes (p : Pap) (w : World) (h1 : 1 ≤ p.pitch ∧ p.pitch ≤ 10000) (h2 : 1 ≤ p.height ∧ p.height ≤ 400000) (h3 : 1 ≤ p.cols ∧ p.cols ≤ 200) (h4 : 900 ≤ p.al ∧ p.al ≤ p.ah ∧ p.ah ≤ 1100) (h5 : 900 ≤ p.cl ∧ p.cl ≤ p.ch ∧ p.ch ≤ 1100) (h6 : p.radius = 0 ∨ p.height ≤ p.radius ∧ p.radius ≤ 4000000) (h7 : 0 ≤ p.low ∧ p.low < p.high ∧ p.high ≤ 12000) (h8 : p.high - p.low ≤ p.height) :
    Calls Try.prog 28 #[p.v] w fun e w' => e = .returned (.int .i64 0) ∧ Below w.heap.size w w' := by
  have d1 : decide (p.low < 0) = false := by simp; omega
  have d2 : decide (p.low ≥ p.high) = false := by simp; omega
  have d3 : decide (p.high > 12000) = false := by simp; omega
  have d4 : decide (p.high - p.low > p.height) = false := by simp; omega
  obtain ⟨h71, h72, h73⟩ := h7
  by_cases hr : p.radius = 0
  · have e1 : (p.radius == 0) = true := by simp [hr]
    have e2 : (p.radius != 0) = false := by simp [hr]
    have HR := Lib.hid hr
    clear hr h6
    go_enter Try.func28, Try.ntmps28
    go_wp2_with (first | (go_at_call 77; refine (within_t _ _ _ _ (by assumption)).mono ?_; rintro e w' ⟨rfl, rfl⟩) | (go_at_call 77; refine (within_f _ _ _ _ (by assumption)).mono ?_; rintro e w' ⟨rfl, rfl⟩) | fail)
    refine (shrunk_t _ _ _ (by assumption)).mono ?_
    rintro e w1 ⟨rfl, hb⟩
    obtain ⟨hc, hf⟩ := bcell hb
    have hz : w.heap.size + 1 ≤ w1.heap.size := by have := hb.size; simpa using this
    have z0 : w.heap.size < w1.heap.size := by omega
    go_wp2_with fail
    refine (shrunk_t _ _ _ (by assumption)).mono ?_
    rintro e w2 ⟨rfl, hb2⟩
    obtain ⟨hc2, hf2⟩ := bcell hb2
    have hz2 := hb2.size
    have z2 : w.heap.size < w2.heap.size := by omega
    go_wp2_with (first | (go_at_call 77; refine (within_t _ _ _ _ (by assumption)).mono ?_; rintro e w' ⟨rfl, rfl⟩) | (go_at_call 77; refine (within_f _ _ _ _ (by assumption)).mono ?_; rintro e w' ⟨rfl, rfl⟩) | fail)
    go_ret
    exact ⟨rfl, (((Below.refl _ _).alloc (Nat.le_refl _) _).trans (hb.mono (by simp))).trans (hb2.mono (by omega))⟩
  · have e1 : (p.radius == 0) = false := by simp [hr]
    have e2 : (p.radius != 0) = true := by simp [hr]
    have h6' : p.height ≤ p.radius ∧ p.radius ≤ 4000000 := by omega
    clear hr h6
    go_enter Try.func28, Try.ntmps28
    go_wp2_with (first | (go_at_call 77; refine (within_t _ _ _ _ (by assumption)).mono ?_; rintro e w' ⟨rfl, rfl⟩) | (go_at_call 77; refine (within_f _ _ _ _ (by assumption)).mono ?_; rintro e w' ⟨rfl, rfl⟩) | fail)
    refine (shrunk_t _ _ _ (by assumption)).mono ?_
    rintro e w1 ⟨rfl, hb⟩
    obtain ⟨hc, hf⟩ := bcell hb
    have hz : w.heap.size + 1 ≤ w1.heap.size := by have := hb.size; simpa using this
    have z0 : w.heap.size < w1.heap.size := by omega
    go_wp2_with fail
    refine (shrunk_t _ _ _ (by assumption)).mono ?_
    rintro e w2 ⟨rfl, hb2⟩
    obtain ⟨hc2, hf2⟩ := bcell hb2
    have hz2 := hb2.size
    have z2 : w.heap.size < w2.heap.size := by omega
    go_wp2_with (first | (go_at_call 77; refine (within_t _ _ _ _ (by assumption)).mono ?_; rintro e w' ⟨rfl, rfl⟩) | (go_at_call 77; refine (within_f _ _ _ _ (by assumption)).mono ?_; rintro e w' ⟨rfl, rfl⟩) | fail)
    go_ret
    exact ⟨rfl, (((Below.refl _ _).alloc (Nat.le_refl _) _).trans (hb.mono (by simp))).trans (hb2.mono (by omega))⟩
theorem rck_no (p : Pap) (w : World) (h : ¬ p.Ok) :
    Calls Try.prog 28 #[p.v] w fun e w' => e = .returned (.int .i64 10) ∧ Below w.heap.size w w' := by
  by_cases h1 : 1 ≤ p.pitch ∧ p.pitch ≤ 10000
  case neg => exact rck_no1 p w  h1
  by_cases h2 : 1 ≤ p.height ∧ p.height ≤ 400000
  case neg => exact rck_no2 p w h1 h2
  by_cases h3 : 1 ≤ p.cols ∧ p.cols ≤ 200
  case neg => exact rck_no3 p w h1 h2 h3
  by_cases h4 : 900 ≤ p.al ∧ p.al ≤ p.ah ∧ p.ah ≤ 1100
  case neg => exact rck_no4 p w h1 h2 h3 h4
  by_cases h5 : 900 ≤ p.cl ∧ p.cl ≤ p.ch ∧ p.ch ≤ 1100
  case neg => exact rck_no5 p w h1 h2 h3 h4 h5
  by_cases h6 : p.radius = 0 ∨ p.height ≤ p.radius ∧ p.radius ≤ 4000000
  case neg => exact rck_no6 p w h1 h2 h3 h4 h5 h6
  by_cases h7 : 0 ≤ p.low ∧ p.low < p.high ∧ p.high ≤ 12000
  case neg => exact rck_no7 p w h1 h2 h3 h4 h5 h6 h7
  by_cases h8 : p.high - p.low ≤ p.height
  case neg => exact rck_no8 p w h1 h2 h3 h4 h5 h6 h7 h8
  exact absurd ⟨h1, h2, h6, h7, h8, h3, h4, h5⟩ h
theorem rck_ok (p : Pap) (w : World) (h : p.Ok) :
    Calls Try.prog 28 #[p.v] w fun e w' => e = .returned (.int .i64 0) ∧ Below w.heap.size w w' := by
  obtain ⟨h1, h2, h6, h7, h8, h3, h4, h5⟩ := h
  exact rck_yes p w h1 h2 h3 h4 h5 h6 h7 h8
end Go.Proofs.Ytmeljcbefnojfaa
