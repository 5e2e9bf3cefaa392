import Derived.Test.YtkidhmajlpceeaaAdd
namespace Go.Proofs.Ytkidhmajlpceeaa
open Go.RowKit
/-- by how much a pen may move between two offsets -/
def chg (p : Pn) (f t : Int) : Int × Int := (if t = -p.b then -p.r + p.b + f else 0, if t = p.b then p.r - p.b + f else 0)
set_option maxHeartbeats 2000000 in
theorem changes_any (p : Pn) (f t : Int) (w : World) (h : p.Ok) (hf : -8 ≤ f ∧ f ≤ 8) :
    Calls Try.prog 75 #[p.v, .int .i64 f, .int .i64 t] w fun e w' => e = .returned (.agg #[.int .i64 (chg p f t).1, .int .i64 (chg p f t).2]) ∧ Below w.heap.size w w' := by
  obtain ⟨b1, b2⟩ := h.b
  obtain ⟨r1, r2⟩ := h.r
  obtain ⟨f1, f2⟩ := hf
  clear h
  have d0 : (p.b == p.b) = true := by simp
  by_cases e1 : t = p.b
  · subst e1
    by_cases e2 : p.b = -p.b
    · have hc : chg p f p.b = (-p.r + p.b + f, p.r - p.b + f) := by unfold chg; rw [if_pos e2, if_pos rfl]
      have d2 : (p.b == -p.b) = true := by simpa using e2
      rw [hc]
      clear hc e2
      go_enter Try.func75, Try.ntmps75
      go_wp2_with fail
      exact bodyPost_ret (v := .agg #[.int .i64 (-p.r + p.b + f), .int .i64 (p.r - p.b + f)]) (by simp [results, Try.results75, go_sem]) rfl ⟨rfl, by (repeat' first | exact box3 _ _ _ _ | refine set1 ?_ (by omega) _ _)⟩
    · have hc : chg p f p.b = (0, p.r - p.b + f) := by unfold chg; rw [if_neg e2, if_pos rfl]
      have d2 : (p.b == -p.b) = false := by simpa using e2
      rw [hc]
      clear hc e2
      go_enter Try.func75, Try.ntmps75
      go_wp2_with fail
      exact bodyPost_ret (v := .agg #[.int .i64 0, .int .i64 (p.r - p.b + f)]) (by simp [results, Try.results75, go_sem]) rfl ⟨rfl, by (repeat' first | exact box3 _ _ _ _ | refine set1 ?_ (by omega) _ _)⟩
  · have d1 : (t == p.b) = false := by simpa using e1
    by_cases e2 : t = -p.b
    · have hc : chg p f t = (-p.r + p.b + f, 0) := by unfold chg; rw [if_pos e2, if_neg e1]
      have d2 : (t == -p.b) = true := by simpa using e2
      rw [hc]
      clear hc e2 e1
      go_enter Try.func75, Try.ntmps75
      go_wp2_with fail
      exact bodyPost_ret (v := .agg #[.int .i64 (-p.r + p.b + f), .int .i64 0]) (by simp [results, Try.results75, go_sem]) rfl ⟨rfl, by (repeat' first | exact box3 _ _ _ _ | refine set1 ?_ (by omega) _ _)⟩
    · have hc : chg p f t = (0, 0) := by unfold chg; rw [if_neg e2, if_neg e1]
      have d2 : (t == -p.b) = false := by simpa using e2
      rw [hc]
      clear hc e2 e1
      go_enter Try.func75, Try.ntmps75
      go_wp2_with fail
      exact bodyPost_ret (v := .agg #[.int .i64 0, .int .i64 0]) (by simp [results, Try.results75, go_sem]) rfl ⟨rfl, by (repeat' first | exact box3 _ _ _ _ | refine set1 ?_ (by omega) _ _)⟩
end Go.Proofs.Ytkidhmajlpceeaa
