import Derived.Test.YtmeljcbefnojfaaLev
import Derived.RegionTactic
namespace Go.Proofs.Ytmeljcbefnojfaa
open Go.RowKit
theorem mxz (n d : Int) (h : 0 ≤ d) : max 0 (n.tdiv d) = max 0 (n / d) := by
  by_cases h0 : 0 ≤ n
  · rw [Int.tdiv_eq_ediv_of_nonneg h0]
  · obtain ⟨m, rfl⟩ : ∃ m, n = -m := ⟨-n, by omega⟩
    have h1 : (-m).tdiv d ≤ 0 := by
      rw [Int.neg_tdiv]
      have := Int.tdiv_nonneg (a := m) (b := d) (by omega) h
      omega
    have h2 : -m / d ≤ 0 := by
      rcases Int.lt_or_eq_of_le h with h | h
      · exact Int.le_of_lt (Int.ediv_neg_of_neg_of_pos (by omega) h)
      · subst h; simp
    omega
/-- the printed lengths -/
def prLo (n h hi : Int) : Int := max 0 ((n - h) * 1000 / hi)
def prHi (n h lo : Int) : Int := (n + h) * 1000 / lo
theorem spanv {a b c d : Int} (h1 : a = c) (h2 : b = d) : Value.agg #[.int .i64 a, .int .i64 b] = .agg #[.int .i64 c, .int .i64 d] := by rw [h1, h2]
set_option maxHeartbeats 400000 in
theorem printed_any (n h lo hi : Int) (w : World) (hn : 0 ≤ n ∧ n ≤ 400000) (hh : 0 ≤ h ∧ h ≤ 5000) (hs : 900 ≤ lo ∧ lo ≤ hi ∧ hi ≤ 1100) :
    Calls Try.prog 118 #[.int .i64 n, .int .i64 h, .agg #[.int .i64 lo, .int .i64 hi]] w fun e w' => e = .returned (.agg #[.int .i64 (prLo n h hi), .int .i64 (prHi n h lo)]) ∧ Below w.heap.size w w' := by
  go_enter Try.func118, Try.ntmps118
  go_wp2_with fail
  go_region
  go_wp2_with fail
  refine bodyPost_ret (v := .agg #[.int .i64 (max 0 (((n - h) * 1000).tdiv hi)), .int .i64 ((n + h) * 1000 / lo)]) (by simp [results, Try.results118, go_sem]) rfl ⟨?_, ((box1 _ _).alloc (by simp) _).drew⟩
  rw [mxz _ _ (by omega)]
  rfl

/-- a point's numbers -/
structure Pt where
  x : Int
  y : Int
  half : Int
abbrev Pt.v (t : Pt) : Value := .agg #[.int .i64 t.x, .int .i64 t.y, .int .i64 t.half]
structure Pt.Ok (t : Pt) : Prop where
  x : 0 ≤ t.x ∧ t.x ≤ 400000
  y : 0 ≤ t.y ∧ t.y ≤ 400000
  half : 0 ≤ t.half ∧ t.half ≤ 5000

theorem box2 (w : World) (o o2 : Obj) : Below w.heap.size w ((w.alloc o).alloc o2) := (box1 w o).alloc (by simp only [World.size_alloc]; omega) _
theorem box3 (w : World) (o o2 o3 : Obj) : Below w.heap.size w (((w.alloc o).alloc o2).alloc o3) := (box2 w o o2).alloc (by simp only [World.size_alloc]; omega) _
theorem box4 (w : World) (o o2 o3 o4 : Obj) : Below w.heap.size w ((((w.alloc o).alloc o2).alloc o3).alloc o4) := (box3 w o o2 o3).alloc (by simp only [World.size_alloc]; omega) _
theorem set1 {B b : Nat} {a w : World} (h : Below B a w) (hb : B ≤ b) (o : Nat) (u : Value) : Below B a (w.setCell ⟨b, o, none⟩ u) := h.setCell (p := ⟨b, o, none⟩) hb u

def alongLo (p : Pap) (t : Pt) : Int := prLo t.x t.half p.ah
def alongHi (p : Pap) (t : Pt) : Int := prHi t.x t.half p.al
def acrossLo (p : Pap) (t : Pt) : Int := prLo t.y t.half p.ch
def acrossHi (p : Pap) (t : Pt) : Int := prHi t.y t.half p.cl

set_option maxHeartbeats 400000 in
theorem along_any (p : Pap) (t : Pt) (w : World) (h : p.Ok) (ht : t.Ok) :
    Calls Try.prog 82 #[p.v, t.v] w fun e w' => e = .returned (.agg #[.int .i64 (alongLo p t), .int .i64 (alongHi p t)]) ∧ Below w.heap.size w w' := by
  have hp := h.along
  obtain ⟨hx, hy, hh⟩ := ht
  go_enter Try.func82, Try.ntmps82
  go_wp2_with fail
  refine (printed_any _ _ _ _ _ hx hh hp).mono ?_
  rintro e w1 ⟨rfl, hb⟩
  obtain ⟨hc, hf⟩ := bcell hb
  have hz := hb.size
  simp only [World.size_alloc] at hz
  go_wp2_with fail
  refine bodyPost_ret (v := .agg #[.int .i64 (prLo t.x t.half p.ah), .int .i64 (prHi t.x t.half p.al)]) ?_ rfl ⟨rfl, ?_⟩
  · simp [results, Try.results82, go_sem, hc]
  · exact set1 (set1 ((box3 _ _ _ _).trans (hb.mono (by simp only [World.size_alloc]; omega))) (by omega) _ _) (by omega) _ _
set_option maxHeartbeats 400000 in
theorem across_any (p : Pap) (t : Pt) (w : World) (h : p.Ok) (ht : t.Ok) :
    Calls Try.prog 85 #[p.v, t.v] w fun e w' => e = .returned (.agg #[.int .i64 (acrossLo p t), .int .i64 (acrossHi p t)]) ∧ Below w.heap.size w w' := by
  have hp := h.across
  obtain ⟨hx, hy, hh⟩ := ht
  go_enter Try.func85, Try.ntmps85
  go_wp2_with fail
  refine (printed_any _ _ _ _ _ hy hh hp).mono ?_
  rintro e w1 ⟨rfl, hb⟩
  obtain ⟨hc, hf⟩ := bcell hb
  have hz := hb.size
  simp only [World.size_alloc] at hz
  go_wp2_with fail
  refine bodyPost_ret (v := .agg #[.int .i64 (prLo t.y t.half p.ch), .int .i64 (prHi t.y t.half p.cl)]) ?_ rfl ⟨rfl, ?_⟩
  · simp [results, Try.results85, go_sem, hc]
  · exact set1 (set1 ((box3 _ _ _ _).trans (hb.mono (by simp only [World.size_alloc]; omega))) (by omega) _ _) (by omega) _ _

set_option maxHeartbeats 400000 in
theorem isPoint_t (t : Pt) (w : World) (h : t.Ok) :
    Calls Try.prog 69 #[t.v] w fun e w' => e = .returned (.bool true) ∧ Below w.heap.size w w' := by
  obtain ⟨h1, h2, h3⟩ := h
  go_enter Try.func69, Try.ntmps69
  go_wp2_with (first | (go_at_call 75; refine (between_t _ _ _ _ (by assumption)).mono ?_; rintro e w' ⟨rfl, rfl⟩) | fail)
  go_ret
  exact ⟨rfl, box1 _ _⟩
set_option maxHeartbeats 400000 in
theorem isPoint_f (t : Pt) (w : World) (h : ¬ t.Ok) :
    Calls Try.prog 69 #[t.v] w fun e w' => e = .returned (.bool false) ∧ Below w.heap.size w w' := by
  by_cases h1 : 0 ≤ t.x ∧ t.x ≤ 400000
  · by_cases h2 : 0 ≤ t.y ∧ t.y ≤ 400000
    · have h3 : ¬ (0 ≤ t.half ∧ t.half ≤ 5000) := fun h3 => h ⟨h1, h2, h3⟩
      clear h
      go_enter Try.func69, Try.ntmps69
      go_wp2_with (first | (go_at_call 75; refine (between_t _ _ _ _ (by assumption)).mono ?_; rintro e w' ⟨rfl, rfl⟩) | (go_at_call 75; refine (between_f _ _ _ _ (by assumption)).mono ?_; rintro e w' ⟨rfl, rfl⟩) | fail)
      go_ret
      exact ⟨rfl, box1 _ _⟩
    · clear h
      go_enter Try.func69, Try.ntmps69
      go_wp2_with (first | (go_at_call 75; refine (between_t _ _ _ _ (by assumption)).mono ?_; rintro e w' ⟨rfl, rfl⟩) | (go_at_call 75; refine (between_f _ _ _ _ (by assumption)).mono ?_; rintro e w' ⟨rfl, rfl⟩) | fail)
      go_ret
      exact ⟨rfl, box1 _ _⟩
  · clear h
    go_enter Try.func69, Try.ntmps69
    go_wp2_with (first | (go_at_call 75; refine (between_f _ _ _ _ (by assumption)).mono ?_; rintro e w' ⟨rfl, rfl⟩) | fail)
    go_ret
    exact ⟨rfl, box1 _ _⟩
set_option maxHeartbeats 400000 in
theorem check_bad (p : Pap) (t : Pt) (w : World) (h : ¬ p.Ok) :
    Calls Try.prog 81 #[p.v, t.v] w fun e w' => e = .returned (.int .i64 10) ∧ Below w.heap.size w w' := by
  go_enter Try.func81, Try.ntmps81
  go_wp2_with fail
  refine (checkPaper_no p _ h).mono ?_
  rintro e w1 ⟨rfl, hb⟩
  obtain ⟨hc, hf⟩ := bcell hb
  go_wp2_with fail
  go_ret
  exact ⟨rfl, (box2 _ _ _).trans (hb.mono (by simp only [World.size_alloc]; omega))⟩
set_option maxHeartbeats 400000 in
theorem check_pt (p : Pap) (t : Pt) (w : World) (h : p.Ok) (ht : ¬ t.Ok) :
    Calls Try.prog 81 #[p.v, t.v] w fun e w' => e = .returned (.int .i64 11) ∧ Below w.heap.size w w' := by
  go_enter Try.func81, Try.ntmps81
  go_wp2_with fail
  refine (checkPaper_ok p _ h).mono ?_
  rintro e w1 ⟨rfl, hb⟩
  obtain ⟨hc, hf⟩ := bcell hb
  have hz := hb.size
  simp only [World.size_alloc] at hz
  go_wp2_with fail
  refine (isPoint_f t _ ht).mono ?_
  rintro e w2 ⟨rfl, hb2⟩
  go_wp2_with fail
  go_ret
  exact ⟨rfl, ((box2 _ _ _).trans (hb.mono (by simp only [World.size_alloc]; omega))).trans (hb2.mono (by omega))⟩
set_option maxHeartbeats 400000 in
theorem check_ok (p : Pap) (t : Pt) (w : World) (h : p.Ok) (ht : t.Ok) :
    Calls Try.prog 81 #[p.v, t.v] w fun e w' => e = .returned (.int .i64 0) ∧ Below w.heap.size w w' := by
  go_enter Try.func81, Try.ntmps81
  go_wp2_with fail
  refine (checkPaper_ok p _ h).mono ?_
  rintro e w1 ⟨rfl, hb⟩
  obtain ⟨hc, hf⟩ := bcell hb
  have hz := hb.size
  simp only [World.size_alloc] at hz
  go_wp2_with fail
  refine (isPoint_t t _ ht).mono ?_
  rintro e w2 ⟨rfl, hb2⟩
  go_wp2_with fail
  go_ret
  exact ⟨rfl, ((box2 _ _ _).trans (hb.mono (by simp only [World.size_alloc]; omega))).trans (hb2.mono (by omega))⟩
end Go.Proofs.Ytmeljcbefnojfaa
