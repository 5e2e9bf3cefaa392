import Derived.Test.YtmeljcbefnojfaaBase
namespace Go.Proofs.Ytmeljcbefnojfaa
open Go.RowKit
set_option maxHeartbeats 1000000 in
theorem checkPaper_no1 (p : Pap) (w : World)  (h : ¬ (1 ≤ p.pitch ∧ p.pitch ≤ 10000)) :
    Calls Try.prog 27 #[p.v] w fun e w' => e = .returned (.int .i64 10) ∧ Below w.heap.size w w' := by
  go_enter Try.func27, Try.ntmps27
  go_wp2_with (first | (go_at_call 75; refine (between_t _ _ _ _ (by assumption)).mono ?_; rintro e w' ⟨rfl, rfl⟩) | (go_at_call 75; refine (between_f _ _ _ _ (by assumption)).mono ?_; rintro e w' ⟨rfl, rfl⟩) | fail)
  go_ret
  exact ⟨rfl, (Below.refl _ _).alloc (Nat.le_refl _) _⟩
set_option maxHeartbeats 1000000 in
theorem checkPaper_no2 (p : Pap) (w : World) (h1 : 1 ≤ p.pitch ∧ p.pitch ≤ 10000) (h : ¬ (1 ≤ p.height ∧ p.height ≤ 400000)) :
    Calls Try.prog 27 #[p.v] w fun e w' => e = .returned (.int .i64 10) ∧ Below w.heap.size w w' := by
  go_enter Try.func27, Try.ntmps27
  go_wp2_with (first | (go_at_call 75; refine (between_t _ _ _ _ (by assumption)).mono ?_; rintro e w' ⟨rfl, rfl⟩) | (go_at_call 75; refine (between_f _ _ _ _ (by assumption)).mono ?_; rintro e w' ⟨rfl, rfl⟩) | fail)
  go_ret
  exact ⟨rfl, (Below.refl _ _).alloc (Nat.le_refl _) _⟩
set_option maxHeartbeats 1000000 in
theorem checkPaper_no3 (p : Pap) (w : World) (h1 : 1 ≤ p.pitch ∧ p.pitch ≤ 10000) (h2 : 1 ≤ p.height ∧ p.height ≤ 400000) (h : ¬ (p.radius = 0 ∨ p.height ≤ p.radius ∧ p.radius ≤ 4000000)) :
    Calls Try.prog 27 #[p.v] w fun e w' => e = .returned (.int .i64 10) ∧ Below w.heap.size w w' := by
  have hr : ¬ p.radius = 0 := fun e => h (.inl e)
  have e1 : (p.radius == 0) = false := by simp [hr]
  have e2 : (p.radius != 0) = true := by simp [hr]
  have h' : ¬ (p.height ≤ p.radius ∧ p.radius ≤ 4000000) := fun e => h (.inr e)
  clear hr h
  go_enter Try.func27, Try.ntmps27
  go_wp2_with (first | (go_at_call 75; refine (between_t _ _ _ _ (by assumption)).mono ?_; rintro e w' ⟨rfl, rfl⟩) | (go_at_call 75; refine (between_f _ _ _ _ (by assumption)).mono ?_; rintro e w' ⟨rfl, rfl⟩) | fail)
  go_ret
  exact ⟨rfl, (Below.refl _ _).alloc (Nat.le_refl _) _⟩
set_option maxHeartbeats 1000000 in
theorem checkPaper_no4 (p : Pap) (w : World) (h1 : 1 ≤ p.pitch ∧ p.pitch ≤ 10000) (h2 : 1 ≤ p.height ∧ p.height ≤ 400000) (h3 : p.radius = 0 ∨ p.height ≤ p.radius ∧ p.radius ≤ 4000000) (h : ¬ (0 ≤ p.low ∧ p.low < p.high ∧ p.high ≤ 12000)) :
    Calls Try.prog 27 #[p.v] w fun e w' => e = .returned (.int .i64 10) ∧ Below w.heap.size w w' := by
  have cases4 : p.low < 0 ∨ (0 ≤ p.low ∧ p.low ≥ p.high) ∨ (0 ≤ p.low ∧ p.low < p.high ∧ p.high > 12000) := by omega
  clear h
  by_cases hr : p.radius = 0
  · rcases cases4 with a | ⟨a, b⟩ | ⟨a, b, c⟩
    · have d1 : decide (p.low < 0) = true := by simp; omega
      have e1 : (p.radius == 0) = true := by simp [hr]
      have e2 : (p.radius != 0) = false := by simp [hr]
      have HR := Lib.hid hr
      clear hr h3
      go_enter Try.func27, Try.ntmps27
      go_wp2_with (first | (go_at_call 75; refine (between_t _ _ _ _ (by assumption)).mono ?_; rintro e w' ⟨rfl, rfl⟩) | (go_at_call 75; refine (between_f _ _ _ _ (by assumption)).mono ?_; rintro e w' ⟨rfl, rfl⟩) | fail)
      go_ret
      exact ⟨rfl, (Below.refl _ _).alloc (Nat.le_refl _) _⟩
    · have d1 : decide (p.low < 0) = false := by simp; omega
      have d2 : decide (p.low ≥ p.high) = true := by simp; omega
      have e1 : (p.radius == 0) = true := by simp [hr]
      have e2 : (p.radius != 0) = false := by simp [hr]
      have HR := Lib.hid hr
      clear hr h3
      go_enter Try.func27, Try.ntmps27
      go_wp2_with (first | (go_at_call 75; refine (between_t _ _ _ _ (by assumption)).mono ?_; rintro e w' ⟨rfl, rfl⟩) | (go_at_call 75; refine (between_f _ _ _ _ (by assumption)).mono ?_; rintro e w' ⟨rfl, rfl⟩) | fail)
      go_ret
      exact ⟨rfl, (Below.refl _ _).alloc (Nat.le_refl _) _⟩
    · have d1 : decide (p.low < 0) = false := by simp; omega
      have d2 : decide (p.low ≥ p.high) = false := by simp; omega
      have d3 : decide (p.high > 12000) = true := by simp; omega
      have e1 : (p.radius == 0) = true := by simp [hr]
      have e2 : (p.radius != 0) = false := by simp [hr]
      have HR := Lib.hid hr
      clear hr h3
      go_enter Try.func27, Try.ntmps27
      go_wp2_with (first | (go_at_call 75; refine (between_t _ _ _ _ (by assumption)).mono ?_; rintro e w' ⟨rfl, rfl⟩) | (go_at_call 75; refine (between_f _ _ _ _ (by assumption)).mono ?_; rintro e w' ⟨rfl, rfl⟩) | fail)
      go_ret
      exact ⟨rfl, (Below.refl _ _).alloc (Nat.le_refl _) _⟩
  · rcases cases4 with a | ⟨a, b⟩ | ⟨a, b, c⟩
    · have d1 : decide (p.low < 0) = true := by simp; omega
      have e1 : (p.radius == 0) = false := by simp [hr]
      have e2 : (p.radius != 0) = true := by simp [hr]
      have h3' : p.height ≤ p.radius ∧ p.radius ≤ 4000000 := by omega
      clear hr h3
      go_enter Try.func27, Try.ntmps27
      go_wp2_with (first | (go_at_call 75; refine (between_t _ _ _ _ (by assumption)).mono ?_; rintro e w' ⟨rfl, rfl⟩) | (go_at_call 75; refine (between_f _ _ _ _ (by assumption)).mono ?_; rintro e w' ⟨rfl, rfl⟩) | fail)
      go_ret
      exact ⟨rfl, (Below.refl _ _).alloc (Nat.le_refl _) _⟩
    · have d1 : decide (p.low < 0) = false := by simp; omega
      have d2 : decide (p.low ≥ p.high) = true := by simp; omega
      have e1 : (p.radius == 0) = false := by simp [hr]
      have e2 : (p.radius != 0) = true := by simp [hr]
      have h3' : p.height ≤ p.radius ∧ p.radius ≤ 4000000 := by omega
      clear hr h3
      go_enter Try.func27, Try.ntmps27
      go_wp2_with (first | (go_at_call 75; refine (between_t _ _ _ _ (by assumption)).mono ?_; rintro e w' ⟨rfl, rfl⟩) | (go_at_call 75; refine (between_f _ _ _ _ (by assumption)).mono ?_; rintro e w' ⟨rfl, rfl⟩) | fail)
      go_ret
      exact ⟨rfl, (Below.refl _ _).alloc (Nat.le_refl _) _⟩
    · have d1 : decide (p.low < 0) = false := by simp; omega
      have d2 : decide (p.low ≥ p.high) = false := by simp; omega
      have d3 : decide (p.high > 12000) = true := by simp; omega
      have e1 : (p.radius == 0) = false := by simp [hr]
      have e2 : (p.radius != 0) = true := by simp [hr]
      have h3' : p.height ≤ p.radius ∧ p.radius ≤ 4000000 := by omega
      clear hr h3
      go_enter Try.func27, Try.ntmps27
      go_wp2_with (first | (go_at_call 75; refine (between_t _ _ _ _ (by assumption)).mono ?_; rintro e w' ⟨rfl, rfl⟩) | (go_at_call 75; refine (between_f _ _ _ _ (by assumption)).mono ?_; rintro e w' ⟨rfl, rfl⟩) | fail)
      go_ret
      exact ⟨rfl, (Below.refl _ _).alloc (Nat.le_refl _) _⟩
set_option maxHeartbeats 1000000 in
theorem checkPaper_no5 (p : Pap) (w : World) (h1 : 1 ≤ p.pitch ∧ p.pitch ≤ 10000) (h2 : 1 ≤ p.height ∧ p.height ≤ 400000) (h3 : p.radius = 0 ∨ p.height ≤ p.radius ∧ p.radius ≤ 4000000) (h4 : 0 ≤ p.low ∧ p.low < p.high ∧ p.high ≤ 12000) (h : ¬ (p.high - p.low ≤ p.height)) :
    Calls Try.prog 27 #[p.v] w fun e w' => e = .returned (.int .i64 10) ∧ Below w.heap.size w w' := by
  have d1 : decide (p.low < 0) = false := by simp; omega
  have d2 : decide (p.low ≥ p.high) = false := by simp; omega
  have d3 : decide (p.high > 12000) = false := by simp; omega
  have d4 : decide (p.high - p.low > p.height) = true := by simp; omega
  obtain ⟨h41, h42, h43⟩ := h4
  have h5 : p.high - p.low > p.height := by omega
  clear h
  by_cases hr : p.radius = 0
  · have e1 : (p.radius == 0) = true := by simp [hr]
    have e2 : (p.radius != 0) = false := by simp [hr]
    have HR := Lib.hid hr
    clear hr h3
    go_enter Try.func27, Try.ntmps27
    go_wp2_with (first | (go_at_call 75; refine (between_t _ _ _ _ (by assumption)).mono ?_; rintro e w' ⟨rfl, rfl⟩) | (go_at_call 75; refine (between_f _ _ _ _ (by assumption)).mono ?_; rintro e w' ⟨rfl, rfl⟩) | fail)
    go_ret
    exact ⟨rfl, (Below.refl _ _).alloc (Nat.le_refl _) _⟩
  · have e1 : (p.radius == 0) = false := by simp [hr]
    have e2 : (p.radius != 0) = true := by simp [hr]
    have h3' : p.height ≤ p.radius ∧ p.radius ≤ 4000000 := by omega
    clear hr h3
    go_enter Try.func27, Try.ntmps27
    go_wp2_with (first | (go_at_call 75; refine (between_t _ _ _ _ (by assumption)).mono ?_; rintro e w' ⟨rfl, rfl⟩) | (go_at_call 75; refine (between_f _ _ _ _ (by assumption)).mono ?_; rintro e w' ⟨rfl, rfl⟩) | fail)
    go_ret
    exact ⟨rfl, (Below.refl _ _).alloc (Nat.le_refl _) _⟩
set_option maxHeartbeats 1000000 in
theorem checkPaper_no6 (p : Pap) (w : World) (h1 : 1 ≤ p.pitch ∧ p.pitch ≤ 10000) (h2 : 1 ≤ p.height ∧ p.height ≤ 400000) (h3 : p.radius = 0 ∨ p.height ≤ p.radius ∧ p.radius ≤ 4000000) (h4 : 0 ≤ p.low ∧ p.low < p.high ∧ p.high ≤ 12000) (h5 : p.high - p.low ≤ p.height) (h : ¬ (1 ≤ p.cols ∧ p.cols ≤ 200)) :
    Calls Try.prog 27 #[p.v] w fun e w' => e = .returned (.int .i64 10) ∧ Below w.heap.size w w' := by
  have d1 : decide (p.low < 0) = false := by simp; omega
  have d2 : decide (p.low ≥ p.high) = false := by simp; omega
  have d3 : decide (p.high > 12000) = false := by simp; omega
  have d4 : decide (p.high - p.low > p.height) = false := by simp; omega
  obtain ⟨h41, h42, h43⟩ := h4
  by_cases hr : p.radius = 0
  · have e1 : (p.radius == 0) = true := by simp [hr]
    have e2 : (p.radius != 0) = false := by simp [hr]
    have HR := Lib.hid hr
    clear hr h3
    go_enter Try.func27, Try.ntmps27
    go_wp2_with (first | (go_at_call 75; refine (between_t _ _ _ _ (by assumption)).mono ?_; rintro e w' ⟨rfl, rfl⟩) | (go_at_call 75; refine (between_f _ _ _ _ (by assumption)).mono ?_; rintro e w' ⟨rfl, rfl⟩) | fail)
    go_ret
    exact ⟨rfl, (Below.refl _ _).alloc (Nat.le_refl _) _⟩
  · have e1 : (p.radius == 0) = false := by simp [hr]
    have e2 : (p.radius != 0) = true := by simp [hr]
    have h3' : p.height ≤ p.radius ∧ p.radius ≤ 4000000 := by omega
    clear hr h3
    go_enter Try.func27, Try.ntmps27
    go_wp2_with (first | (go_at_call 75; refine (between_t _ _ _ _ (by assumption)).mono ?_; rintro e w' ⟨rfl, rfl⟩) | (go_at_call 75; refine (between_f _ _ _ _ (by assumption)).mono ?_; rintro e w' ⟨rfl, rfl⟩) | fail)
    go_ret
    exact ⟨rfl, (Below.refl _ _).alloc (Nat.le_refl _) _⟩
set_option maxHeartbeats 1000000 in
theorem checkPaper_no7 (p : Pap) (w : World) (h1 : 1 ≤ p.pitch ∧ p.pitch ≤ 10000) (h2 : 1 ≤ p.height ∧ p.height ≤ 400000) (h3 : p.radius = 0 ∨ p.height ≤ p.radius ∧ p.radius ≤ 4000000) (h4 : 0 ≤ p.low ∧ p.low < p.high ∧ p.high ≤ 12000) (h5 : p.high - p.low ≤ p.height) (h6 : 1 ≤ p.cols ∧ p.cols ≤ 200) (h : ¬ (900 ≤ p.al ∧ p.al ≤ p.ah ∧ p.ah ≤ 1100)) :
    Calls Try.prog 27 #[p.v] w fun e w' => e = .returned (.int .i64 10) ∧ Below w.heap.size w w' := by
  have d1 : decide (p.low < 0) = false := by simp; omega
  have d2 : decide (p.low ≥ p.high) = false := by simp; omega
  have d3 : decide (p.high > 12000) = false := by simp; omega
  have d4 : decide (p.high - p.low > p.height) = false := by simp; omega
  obtain ⟨h41, h42, h43⟩ := h4
  by_cases hr : p.radius = 0
  · have e1 : (p.radius == 0) = true := by simp [hr]
    have e2 : (p.radius != 0) = false := by simp [hr]
    have HR := Lib.hid hr
    clear hr h3
    go_enter Try.func27, Try.ntmps27
    go_wp2_with (first | (go_at_call 75; refine (between_t _ _ _ _ (by assumption)).mono ?_; rintro e w' ⟨rfl, rfl⟩) | (go_at_call 75; refine (between_f _ _ _ _ (by assumption)).mono ?_; rintro e w' ⟨rfl, rfl⟩) | fail)
    refine (isShrinkage_f _ _ _ (by assumption)).mono ?_
    rintro e w1 ⟨rfl, hb⟩
    obtain ⟨hc, hf⟩ := bcell hb
    have hz : w.heap.size + 1 ≤ w1.heap.size := by have := hb.size; simpa using this
    go_wp2_with fail
    go_ret
    exact ⟨rfl, ((Below.refl _ _).alloc (Nat.le_refl _) _).trans (hb.mono (by simp))⟩
  · have e1 : (p.radius == 0) = false := by simp [hr]
    have e2 : (p.radius != 0) = true := by simp [hr]
    have h3' : p.height ≤ p.radius ∧ p.radius ≤ 4000000 := by omega
    clear hr h3
    go_enter Try.func27, Try.ntmps27
    go_wp2_with (first | (go_at_call 75; refine (between_t _ _ _ _ (by assumption)).mono ?_; rintro e w' ⟨rfl, rfl⟩) | (go_at_call 75; refine (between_f _ _ _ _ (by assumption)).mono ?_; rintro e w' ⟨rfl, rfl⟩) | fail)
    refine (isShrinkage_f _ _ _ (by assumption)).mono ?_
    rintro e w1 ⟨rfl, hb⟩
    obtain ⟨hc, hf⟩ := bcell hb
    have hz : w.heap.size + 1 ≤ w1.heap.size := by have := hb.size; simpa using this
    go_wp2_with fail
    go_ret
    exact ⟨rfl, ((Below.refl _ _).alloc (Nat.le_refl _) _).trans (hb.mono (by simp))⟩
set_option maxHeartbeats 1000000 in
theorem checkPaper_no8 (p : Pap) (w : World) (h1 : 1 ≤ p.pitch ∧ p.pitch ≤ 10000) (h2 : 1 ≤ p.height ∧ p.height ≤ 400000) (h3 : p.radius = 0 ∨ p.height ≤ p.radius ∧ p.radius ≤ 4000000) (h4 : 0 ≤ p.low ∧ p.low < p.high ∧ p.high ≤ 12000) (h5 : p.high - p.low ≤ p.height) (h6 : 1 ≤ p.cols ∧ p.cols ≤ 200) (h7 : 900 ≤ p.al ∧ p.al ≤ p.ah ∧ p.ah ≤ 1100) (h : ¬ (900 ≤ p.cl ∧ p.cl ≤ p.ch ∧ p.ch ≤ 1100)) :
    Calls Try.prog 27 #[p.v] w fun e w' => e = .returned (.int .i64 10) ∧ Below w.heap.size w w' := by
  have d1 : decide (p.low < 0) = false := by simp; omega
  have d2 : decide (p.low ≥ p.high) = false := by simp; omega
  have d3 : decide (p.high > 12000) = false := by simp; omega
  have d4 : decide (p.high - p.low > p.height) = false := by simp; omega
  obtain ⟨h41, h42, h43⟩ := h4
  by_cases hr : p.radius = 0
  · have e1 : (p.radius == 0) = true := by simp [hr]
    have e2 : (p.radius != 0) = false := by simp [hr]
    have HR := Lib.hid hr
    clear hr h3
    go_enter Try.func27, Try.ntmps27
    go_wp2_with (first | (go_at_call 75; refine (between_t _ _ _ _ (by assumption)).mono ?_; rintro e w' ⟨rfl, rfl⟩) | (go_at_call 75; refine (between_f _ _ _ _ (by assumption)).mono ?_; rintro e w' ⟨rfl, rfl⟩) | fail)
    refine (isShrinkage_t _ _ _ (by assumption)).mono ?_
    rintro e w1 ⟨rfl, hb⟩
    obtain ⟨hc, hf⟩ := bcell hb
    have hz : w.heap.size + 1 ≤ w1.heap.size := by have := hb.size; simpa using this
    go_wp2_with fail
    refine (isShrinkage_f _ _ _ (by assumption)).mono ?_
    rintro e w2 ⟨rfl, hb2⟩
    go_wp2_with fail
    go_ret
    exact ⟨rfl, (((Below.refl _ _).alloc (Nat.le_refl _) _).trans (hb.mono (by simp))).trans (hb2.mono (by omega))⟩
  · have e1 : (p.radius == 0) = false := by simp [hr]
    have e2 : (p.radius != 0) = true := by simp [hr]
    have h3' : p.height ≤ p.radius ∧ p.radius ≤ 4000000 := by omega
    clear hr h3
    go_enter Try.func27, Try.ntmps27
    go_wp2_with (first | (go_at_call 75; refine (between_t _ _ _ _ (by assumption)).mono ?_; rintro e w' ⟨rfl, rfl⟩) | (go_at_call 75; refine (between_f _ _ _ _ (by assumption)).mono ?_; rintro e w' ⟨rfl, rfl⟩) | fail)
    refine (isShrinkage_t _ _ _ (by assumption)).mono ?_
    rintro e w1 ⟨rfl, hb⟩
    obtain ⟨hc, hf⟩ := bcell hb
    have hz : w.heap.size + 1 ≤ w1.heap.size := by have := hb.size; simpa using this
    go_wp2_with fail
    refine (isShrinkage_f _ _ _ (by assumption)).mono ?_
    rintro e w2 ⟨rfl, hb2⟩
    go_wp2_with fail
    go_ret
    exact ⟨rfl, (((Below.refl _ _).alloc (Nat.le_refl _) _).trans (hb.mono (by simp))).trans (hb2.mono (by omega))⟩
theorem checkPaper_no (p : Pap) (w : World) (h : ¬ p.Ok) :
    Calls Try.prog 27 #[p.v] w fun e w' => e = .returned (.int .i64 10) ∧ Below w.heap.size w w' := by
  by_cases h1 : 1 ≤ p.pitch ∧ p.pitch ≤ 10000
  case neg => exact checkPaper_no1 p w  h1
  by_cases h2 : 1 ≤ p.height ∧ p.height ≤ 400000
  case neg => exact checkPaper_no2 p w h1 h2
  by_cases h3 : p.radius = 0 ∨ p.height ≤ p.radius ∧ p.radius ≤ 4000000
  case neg => exact checkPaper_no3 p w h1 h2 h3
  by_cases h4 : 0 ≤ p.low ∧ p.low < p.high ∧ p.high ≤ 12000
  case neg => exact checkPaper_no4 p w h1 h2 h3 h4
  by_cases h5 : p.high - p.low ≤ p.height
  case neg => exact checkPaper_no5 p w h1 h2 h3 h4 h5
  by_cases h6 : 1 ≤ p.cols ∧ p.cols ≤ 200
  case neg => exact checkPaper_no6 p w h1 h2 h3 h4 h5 h6
  by_cases h7 : 900 ≤ p.al ∧ p.al ≤ p.ah ∧ p.ah ≤ 1100
  case neg => exact checkPaper_no7 p w h1 h2 h3 h4 h5 h6 h7
  by_cases h8 : 900 ≤ p.cl ∧ p.cl ≤ p.ch ∧ p.ch ≤ 1100
  case neg => exact checkPaper_no8 p w h1 h2 h3 h4 h5 h6 h7 h8
  exact absurd ⟨h1, h2, h3, h4, h5, h6, h7, h8⟩ h
end Go.Proofs.Ytmeljcbefnojfaa
