import Derived.Test.YtmeljcbefnojfaaMea
import Derived.Test.YtmeljcbefnojfaaShr
namespace Go.Proofs.Ytmeljcbefnojfaa
open Go.RowKit
set_option maxHeartbeats 1000000 in
theorem Means_err (p : Pap) (t : Pt) (c : Int) (w : World) (h : ptE p t ≠ 0) :
    Calls Try.prog 46 #[p.v, t.v, .int .i64 c] w fun e w' => e = .returned (.tuple #[.slice none 0 0, .int .i64 (ptE p t)]) ∧ Below w.heap.size w w' := by
  have d : (ptE p t == 0) = false := by simpa using h
  have d' : (ptE p t != 0) = true := by simpa using h
  clear h
  go_enter Try.func46, Try.ntmps46
  go_wp2_with fail
  refine (check_any p t _).mono ?_
  rintro e w1 ⟨rfl, hb⟩
  obtain ⟨hc, hf⟩ := bcell hb
  have hz := hb.size
  simp only [World.size_alloc] at hz
  go_wp2_with fail
  go_ret2
  exact ⟨rfl, (box2 _ _ _).trans (hb.mono (by simp only [World.size_alloc]; omega))⟩
set_option maxHeartbeats 1000000 in
theorem Means_arg (p : Pap) (t : Pt) (c : Int) (w : World) (h : p.Ok) (ht : t.Ok) (hc : ¬ (0 ≤ c ∧ c ≤ p.cols - 1)) :
    Calls Try.prog 46 #[p.v, t.v, .int .i64 c] w fun e w' => e = .returned (.tuple #[.slice none 0 0, .int .i64 1]) ∧ Below w.heap.size w w' := by
  have hco := h.cols
  go_enter Try.func46, Try.ntmps46
  go_wp2_with fail
  refine (check_ok p t _ h ht).mono ?_
  rintro e w1 ⟨rfl, hb⟩
  obtain ⟨hc1, hf⟩ := bcell hb
  have hz := hb.size
  simp only [World.size_alloc] at hz
  have z0 : w.heap.size < w1.heap.size := by omega
  go_wp2_with fail
  refine (between_f _ _ _ _ hc).mono ?_
  rintro e w2 ⟨rfl, rfl⟩
  go_wp2_with fail
  go_ret2
  exact ⟨rfl, (box2 _ _ _).trans (hb.mono (by simp only [World.size_alloc]; omega))⟩
end Go.Proofs.Ytmeljcbefnojfaa
