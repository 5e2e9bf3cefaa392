import Derived.Test.YtmeljcbefnojfaaNo
import Derived.Deep.QuietTactic
import Derived.BigQuiet
import Derived.RegionTactic
import Derived.Deep.RegionHeld3
namespace Go.Proofs.Ytmeljcbefnojfaa
open Go.RowKit
theorem box1 (w : World) (o : Obj) : Below w.heap.size w (w.alloc o) := (Below.refl _ _).alloc (Nat.le_refl _) _

set_option maxHeartbeats 400000 in
theorem checkHeight_bad (p : Pap) (y : Int) (w : World) (h : ¬ p.Ok) :
    Calls Try.prog 92 #[p.v, .int .i64 y] w fun e w' => e = .returned (.int .i64 10) ∧ Below w.heap.size w w' := by
  go_enter Try.func92, Try.ntmps92
  go_wp2_with fail
  refine (checkPaper_no p _ h).mono ?_
  rintro e w1 ⟨rfl, hb⟩
  obtain ⟨hc, hf⟩ := bcell hb
  go_wp2_with fail
  go_ret
  exact ⟨rfl, (box1 _ _).trans (hb.mono (by simp))⟩
set_option maxHeartbeats 400000 in
theorem checkHeight_arg (p : Pap) (y : Int) (w : World) (h : p.Ok) (hy : ¬ (0 ≤ y ∧ y ≤ p.height)) :
    Calls Try.prog 92 #[p.v, .int .i64 y] w fun e w' => e = .returned (.int .i64 1) ∧ Below w.heap.size w w' := by
  go_enter Try.func92, Try.ntmps92
  go_wp2_with fail
  refine (checkPaper_ok p _ h).mono ?_
  rintro e w1 ⟨rfl, hb⟩
  obtain ⟨hc, hf⟩ := bcell hb
  go_wp2_with fail
  refine (between_f _ _ _ _ hy).mono ?_
  rintro e w2 ⟨rfl, rfl⟩
  go_wp2_with fail
  go_ret
  exact ⟨rfl, (box1 _ _).trans (hb.mono (by simp))⟩
set_option maxHeartbeats 400000 in
theorem checkHeight_ok (p : Pap) (y : Int) (w : World) (h : p.Ok) (hy : 0 ≤ y ∧ y ≤ p.height) :
    Calls Try.prog 92 #[p.v, .int .i64 y] w fun e w' => e = .returned (.int .i64 0) ∧ Below w.heap.size w w' := by
  go_enter Try.func92, Try.ntmps92
  go_wp2_with fail
  refine (checkPaper_ok p _ h).mono ?_
  rintro e w1 ⟨rfl, hb⟩
  obtain ⟨hc, hf⟩ := bcell hb
  go_wp2_with fail
  refine (between_t _ _ _ _ hy).mono ?_
  rintro e w2 ⟨rfl, rfl⟩
  go_wp2_with fail
  go_ret
  exact ⟨rfl, (box1 _ _).trans (hb.mono (by simp))⟩

/-- the level of a height -/
def lev (p : Pap) (y : Int) : Int := p.low + y * (p.high - p.low) / p.height
theorem mul_bd {a b A B : Int} (h0 : 0 ≤ a) (h1 : a ≤ A) (h2 : 0 ≤ b) (h3 : b ≤ B) : 0 ≤ a * b ∧ a * b ≤ A * B :=
  ⟨Int.mul_nonneg h0 h2, Int.mul_le_mul h1 h3 h2 (by omega)⟩
theorem div_bd {a b : Int} (h0 : 0 ≤ a) (h1 : 1 ≤ b) : 0 ≤ a / b ∧ a / b ≤ a :=
  ⟨Int.ediv_nonneg h0 (by omega), Int.ediv_le_self _ h0⟩
set_option maxHeartbeats 400000 in
theorem level_any (p : Pap) (y : Int) (w : World) (h : p.Ok) (hy : 0 ≤ y ∧ y ≤ p.height) :
    Calls Try.prog 95 #[p.v, .int .i64 y] w fun e w' => e = .returned (.int .i64 (lev p y)) ∧ Below w.heap.size w w' := by
  obtain ⟨h1, h2, h3, h4, h5, h6, h7, h8⟩ := h
  have hm := mul_bd (a := y) (b := p.high - p.low) (A := 400000) (B := 12000) (by omega) (by omega) (by omega) (by omega)
  have hd := div_bd (b := p.height) hm.1 h2.1
  obtain ⟨hm1, hm2⟩ := hm
  obtain ⟨hd1, hd2⟩ := hd
  clear h3 h7 h8
  go_enter Try.func95, Try.ntmps95
  go_wp2_with fail
  go_quiet (fail)
  go_wp2_with fail
  go_ret
  exact ⟨rfl, below_drewN (box1 _ _) _⟩

/-- division of what is not negative, rounded up -/
def cdiv (n b : Int) : Int := (n + b - 1) / b
set_option maxHeartbeats 400000 in
theorem ceilDiv_any (n b : Int) (w : World) (h0 : 0 ≤ n) (h1 : n ≤ 1000000000000000) (h2 : 1 ≤ b) (h3 : b ≤ 1000000000000000) :
    Calls Try.prog 123 #[.int .i64 n, .int .i64 b] w fun e w' => e = .returned (.int .i64 (cdiv n b)) ∧ w = w' := by
  have hd := div_bd (a := n + b - 1) (b := b) (by omega) h2
  obtain ⟨hd1, hd2⟩ := hd
  go_enter Try.func123, Try.ntmps123
  go_wp2_with fail
  go_ret
  exact ⟨rfl, rfl⟩

/-- the least height at which no level is less -/
def lowst (p : Pap) (l : Int) : Int := cdiv ((l - p.low) * p.height) (p.high - p.low)
set_option maxHeartbeats 400000 in
theorem lowest_any (p : Pap) (l : Int) (w : World) (h : p.Ok) (hl : p.low ≤ l ∧ l ≤ p.high + 1) :
    Calls Try.prog 96 #[p.v, .int .i64 l] w fun e w' => e = .returned (.int .i64 (lowst p l)) ∧ Below w.heap.size w w' := by
  obtain ⟨h1, h2, h3, h4, h5, h6, h7, h8⟩ := h
  have hm := mul_bd (a := l - p.low) (b := p.height) (A := 12001) (B := 400000) (by omega) (by omega) (by omega) (by omega)
  obtain ⟨hm1, hm2⟩ := hm
  clear h3 h7 h8
  go_enter Try.func96, Try.ntmps96
  go_wp2_with fail
  refine (ceilDiv_any _ _ _ (by omega) (by omega) (by omega) (by omega)).mono ?_
  rintro e w1 ⟨rfl, rfl⟩
  go_wp2_with fail
  go_ret
  exact ⟨rfl, box1 _ _⟩
end Go.Proofs.Ytmeljcbefnojfaa
namespace Go.Proofs.Ytmeljcbefnojfaa
open Go.RowKit
theorem mxz (n d : Int) (h : 0 ≤ d) : max 0 (n.tdiv d) = max 0 (n / d) := by
  by_cases h0 : 0 ≤ n
  · rw [Int.tdiv_eq_ediv_of_nonneg h0]
  · obtain ⟨m, rfl⟩ : ∃ m, n = -m := ⟨-n, by omega⟩
    have h1 : (-m).tdiv d ≤ 0 := by
      rw [Int.neg_tdiv]
      have := Int.tdiv_nonneg (a := m) (b := d) (by omega) h
      omega
    have h2 : -m / d ≤ 0 := by
      rcases Int.lt_or_eq_of_le h with h | h
      · exact Int.le_of_lt (Int.ediv_neg_of_neg_of_pos (by omega) h)
      · subst h; simp
    omega
/-- the printed lengths -/
def prLo (n h hi : Int) : Int := max 0 ((n - h) * 1000 / hi)
def prHi (n h lo : Int) : Int := (n + h) * 1000 / lo
theorem spanv {a b c d : Int} (h1 : a = c) (h2 : b = d) : Value.agg #[.int .i64 a, .int .i64 b] = .agg #[.int .i64 c, .int .i64 d] := by rw [h1, h2]
set_option maxHeartbeats 400000 in
theorem printed_any (n h lo hi : Int) (w : World) (hn : 0 ≤ n ∧ n ≤ 400000) (hh : 0 ≤ h ∧ h ≤ 5000) (hs : 900 ≤ lo ∧ lo ≤ hi ∧ hi ≤ 1100) :
    Calls Try.prog 118 #[.int .i64 n, .int .i64 h, .agg #[.int .i64 lo, .int .i64 hi]] w fun e w' => e = .returned (.agg #[.int .i64 (prLo n h hi), .int .i64 (prHi n h lo)]) ∧ Below w.heap.size w w' := by
  go_enter Try.func118, Try.ntmps118
  go_wp2_with fail
  go_region
  go_wp2_with fail
  refine bodyPost_ret (v := .agg #[.int .i64 (max 0 (((n - h) * 1000).tdiv hi)), .int .i64 ((n + h) * 1000 / lo)]) (by simp [results, Try.results118, go_sem]) rfl ⟨?_, ((box1 _ _).alloc (by simp) _).drew⟩
  rw [mxz _ _ (by omega)]
  rfl

/-- a point's numbers -/
structure Pt where
  x : Int
  y : Int
  half : Int
abbrev Pt.v (t : Pt) : Value := .agg #[.int .i64 t.x, .int .i64 t.y, .int .i64 t.half]
structure Pt.Ok (t : Pt) : Prop where
  x : 0 ≤ t.x ∧ t.x ≤ 400000
  y : 0 ≤ t.y ∧ t.y ≤ 400000
  half : 0 ≤ t.half ∧ t.half ≤ 5000

theorem box2 (w : World) (o o2 : Obj) : Below w.heap.size w ((w.alloc o).alloc o2) := (box1 w o).alloc (by simp only [World.size_alloc]; omega) _
theorem box3 (w : World) (o o2 o3 : Obj) : Below w.heap.size w (((w.alloc o).alloc o2).alloc o3) := (box2 w o o2).alloc (by simp only [World.size_alloc]; omega) _
theorem box4 (w : World) (o o2 o3 o4 : Obj) : Below w.heap.size w ((((w.alloc o).alloc o2).alloc o3).alloc o4) := (box3 w o o2 o3).alloc (by simp only [World.size_alloc]; omega) _
theorem set1 {B b : Nat} {a w : World} (h : Below B a w) (hb : B ≤ b) (o : Nat) (u : Value) : Below B a (w.setCell ⟨b, o, none⟩ u) := h.setCell (p := ⟨b, o, none⟩) hb u

def alongLo (p : Pap) (t : Pt) : Int := prLo t.x t.half p.ah
def alongHi (p : Pap) (t : Pt) : Int := prHi t.x t.half p.al
def acrossLo (p : Pap) (t : Pt) : Int := prLo t.y t.half p.ch
def acrossHi (p : Pap) (t : Pt) : Int := prHi t.y t.half p.cl

set_option maxHeartbeats 400000 in
theorem along_any (p : Pap) (t : Pt) (w : World) (h : p.Ok) (ht : t.Ok) :
    Calls Try.prog 82 #[p.v, t.v] w fun e w' => e = .returned (.agg #[.int .i64 (alongLo p t), .int .i64 (alongHi p t)]) ∧ Below w.heap.size w w' := by
  have hp := h.along
  obtain ⟨hx, hy, hh⟩ := ht
  go_enter Try.func82, Try.ntmps82
  go_wp2_with fail
  refine (printed_any _ _ _ _ _ hx hh hp).mono ?_
  rintro e w1 ⟨rfl, hb⟩
  obtain ⟨hc, hf⟩ := bcell hb
  have hz := hb.size
  simp only [World.size_alloc] at hz
  go_wp2_with fail
  refine bodyPost_ret (v := .agg #[.int .i64 (prLo t.x t.half p.ah), .int .i64 (prHi t.x t.half p.al)]) ?_ rfl ⟨rfl, ?_⟩
  · simp [results, Try.results82, go_sem, hc]
  · exact set1 (set1 ((box3 _ _ _ _).trans (hb.mono (by simp only [World.size_alloc]; omega))) (by omega) _ _) (by omega) _ _
set_option maxHeartbeats 400000 in
theorem across_any (p : Pap) (t : Pt) (w : World) (h : p.Ok) (ht : t.Ok) :
    Calls Try.prog 85 #[p.v, t.v] w fun e w' => e = .returned (.agg #[.int .i64 (acrossLo p t), .int .i64 (acrossHi p t)]) ∧ Below w.heap.size w w' := by
  have hp := h.across
  obtain ⟨hx, hy, hh⟩ := ht
  go_enter Try.func85, Try.ntmps85
  go_wp2_with fail
  refine (printed_any _ _ _ _ _ hy hh hp).mono ?_
  rintro e w1 ⟨rfl, hb⟩
  obtain ⟨hc, hf⟩ := bcell hb
  have hz := hb.size
  simp only [World.size_alloc] at hz
  go_wp2_with fail
  refine bodyPost_ret (v := .agg #[.int .i64 (prLo t.y t.half p.ch), .int .i64 (prHi t.y t.half p.cl)]) ?_ rfl ⟨rfl, ?_⟩
  · simp [results, Try.results85, go_sem, hc]
  · exact set1 (set1 ((box3 _ _ _ _).trans (hb.mono (by simp only [World.size_alloc]; omega))) (by omega) _ _) (by omega) _ _

set_option maxHeartbeats 400000 in
theorem isPoint_t (t : Pt) (w : World) (h : t.Ok) :
    Calls Try.prog 69 #[t.v] w fun e w' => e = .returned (.bool true) ∧ Below w.heap.size w w' := by
  obtain ⟨h1, h2, h3⟩ := h
  go_enter Try.func69, Try.ntmps69
  go_wp2_with (first | (go_at_call 75; refine (between_t _ _ _ _ (by assumption)).mono ?_; rintro e w' ⟨rfl, rfl⟩) | fail)
  go_ret
  exact ⟨rfl, box1 _ _⟩
set_option maxHeartbeats 400000 in
theorem isPoint_f (t : Pt) (w : World) (h : ¬ t.Ok) :
    Calls Try.prog 69 #[t.v] w fun e w' => e = .returned (.bool false) ∧ Below w.heap.size w w' := by
  by_cases h1 : 0 ≤ t.x ∧ t.x ≤ 400000
  · by_cases h2 : 0 ≤ t.y ∧ t.y ≤ 400000
    · have h3 : ¬ (0 ≤ t.half ∧ t.half ≤ 5000) := fun h3 => h ⟨h1, h2, h3⟩
      clear h
      go_enter Try.func69, Try.ntmps69
      go_wp2_with (first | (go_at_call 75; refine (between_t _ _ _ _ (by assumption)).mono ?_; rintro e w' ⟨rfl, rfl⟩) | (go_at_call 75; refine (between_f _ _ _ _ (by assumption)).mono ?_; rintro e w' ⟨rfl, rfl⟩) | fail)
      go_ret
      exact ⟨rfl, box1 _ _⟩
    · clear h
      go_enter Try.func69, Try.ntmps69
      go_wp2_with (first | (go_at_call 75; refine (between_t _ _ _ _ (by assumption)).mono ?_; rintro e w' ⟨rfl, rfl⟩) | (go_at_call 75; refine (between_f _ _ _ _ (by assumption)).mono ?_; rintro e w' ⟨rfl, rfl⟩) | fail)
      go_ret
      exact ⟨rfl, box1 _ _⟩
  · clear h
    go_enter Try.func69, Try.ntmps69
    go_wp2_with (first | (go_at_call 75; refine (between_f _ _ _ _ (by assumption)).mono ?_; rintro e w' ⟨rfl, rfl⟩) | fail)
    go_ret
    exact ⟨rfl, box1 _ _⟩
set_option maxHeartbeats 400000 in
theorem check_bad (p : Pap) (t : Pt) (w : World) (h : ¬ p.Ok) :
    Calls Try.prog 81 #[p.v, t.v] w fun e w' => e = .returned (.int .i64 10) ∧ Below w.heap.size w w' := by
  go_enter Try.func81, Try.ntmps81
  go_wp2_with fail
  refine (checkPaper_no p _ h).mono ?_
  rintro e w1 ⟨rfl, hb⟩
  obtain ⟨hc, hf⟩ := bcell hb
  go_wp2_with fail
  go_ret
  exact ⟨rfl, (box2 _ _ _).trans (hb.mono (by simp only [World.size_alloc]; omega))⟩
set_option maxHeartbeats 400000 in
theorem check_pt (p : Pap) (t : Pt) (w : World) (h : p.Ok) (ht : ¬ t.Ok) :
    Calls Try.prog 81 #[p.v, t.v] w fun e w' => e = .returned (.int .i64 11) ∧ Below w.heap.size w w' := by
  go_enter Try.func81, Try.ntmps81
  go_wp2_with fail
  refine (checkPaper_ok p _ h).mono ?_
  rintro e w1 ⟨rfl, hb⟩
  obtain ⟨hc, hf⟩ := bcell hb
  have hz := hb.size
  simp only [World.size_alloc] at hz
  go_wp2_with fail
  refine (isPoint_f t _ ht).mono ?_
  rintro e w2 ⟨rfl, hb2⟩
  go_wp2_with fail
  go_ret
  exact ⟨rfl, ((box2 _ _ _).trans (hb.mono (by simp only [World.size_alloc]; omega))).trans (hb2.mono (by omega))⟩
set_option maxHeartbeats 400000 in
theorem check_ok (p : Pap) (t : Pt) (w : World) (h : p.Ok) (ht : t.Ok) :
    Calls Try.prog 81 #[p.v, t.v] w fun e w' => e = .returned (.int .i64 0) ∧ Below w.heap.size w w' := by
  go_enter Try.func81, Try.ntmps81
  go_wp2_with fail
  refine (checkPaper_ok p _ h).mono ?_
  rintro e w1 ⟨rfl, hb⟩
  obtain ⟨hc, hf⟩ := bcell hb
  have hz := hb.size
  simp only [World.size_alloc] at hz
  go_wp2_with fail
  refine (isPoint_t t _ ht).mono ?_
  rintro e w2 ⟨rfl, hb2⟩
  go_wp2_with fail
  go_ret
  exact ⟨rfl, ((box2 _ _ _).trans (hb.mono (by simp only [World.size_alloc]; omega))).trans (hb2.mono (by omega))⟩
end Go.Proofs.Ytmeljcbefnojfaa
namespace Go.Proofs.Ytmeljcbefnojfaa
open Go.RowKit
/-- what a cell holds -/
def cellAt (w : World) (b o : Nat) : Value := (w.cell? ⟨b, o, none⟩).getD undef
theorem cellAt_ok {w : World} {b o : Nat} {v : Value} (h : w.cell? ⟨b, o, none⟩ = some v) : w.cell? ⟨b, o, none⟩ = some (cellAt w b o) := by unfold cellAt; rw [h]; rfl
theorem cell_up {w1 W : World} {b o : Nat} {v : Value} (hb : Below W.heap.size W w1) (hl : b < W.heap.size) (h : W.cell? ⟨b, o, none⟩ = some v) : w1.cell? ⟨b, o, none⟩ = some v := (hb.cell (p := ⟨b, o, none⟩) hl).trans h
theorem frozen_up {w1 W : World} {b o : Nat} {v : Bool} (hb : Below W.heap.size W w1) (hl : b < W.heap.size) (h : W.frozen? ⟨b, o, none⟩ = v) : w1.frozen? ⟨b, o, none⟩ = v := (hb.frozen (p := ⟨b, o, none⟩) hl).trans h
theorem isSome_of_setCell {w : World} {a b : Addr} {v : Value} (h : ((w.setCell a v).cell? b).isSome = true) : (w.cell? b).isSome = true := by
  by_cases hab : a = b
  · subst hab
    simp only [World.setCell, World.cell?, Array.getElem?_modify, if_true] at h ⊢
    cases hh : w.heap[a.block]? with
    | none => simp [hh] at h
    | some x =>
      cases x <;> simp only [hh, Option.map_some] at h ⊢ <;> first | exact h | (cases hs : a.spot.isSome <;> simp_all)
  · rw [World.cell?_setCell_other _ _ _ _ hab] at h
    exact h
theorem two_cells {w : World} {b : Nat} {x y u v : Value} (h0 : ((w.setCell ⟨b, 0, none⟩ x).setCell ⟨b, 1, none⟩ y).cell? ⟨b, 0, none⟩ = some u) (h1 : ((w.setCell ⟨b, 0, none⟩ x).setCell ⟨b, 1, none⟩ y).cell? ⟨b, 1, none⟩ = some v) :
    ((w.setCell ⟨b, 0, none⟩ x).setCell ⟨b, 1, none⟩ y).cell? ⟨b, 0, none⟩ = some x ∧ ((w.setCell ⟨b, 0, none⟩ x).setCell ⟨b, 1, none⟩ y).cell? ⟨b, 1, none⟩ = some y ∧ w.cell? ⟨b, 0, none⟩ = some (cellAt w b 0) := by
  have e0 := isSome_of_setCell (by rw [h0]; rfl : (((w.setCell ⟨b, 0, none⟩ x).setCell ⟨b, 1, none⟩ y).cell? ⟨b, 0, none⟩).isSome = true)
  have e1 := isSome_of_setCell (by rw [h1]; rfl : (((w.setCell ⟨b, 0, none⟩ x).setCell ⟨b, 1, none⟩ y).cell? ⟨b, 1, none⟩).isSome = true)
  have e2 := isSome_of_setCell e0
  have e3 := isSome_of_setCell e1
  refine ⟨?_, World.cell?_setCell_same' _ _ _ e1, ?_⟩
  · rw [World.cell?_setCell_other _ _ _ _ (by simp)]
    exact World.cell?_setCell_same' _ _ _ e2
  · obtain ⟨u, hu⟩ := Option.isSome_iff_exists.1 e2
    simp [cellAt, hu]
abbrev spv (a b : Int) : Value := .agg #[.int .i64 a, .int .i64 b]

set_option maxHeartbeats 400000 in
theorem heightsOf_none (p : Pap) (t : Pt) (w : World) (h : p.Ok) (ht : t.Ok) (hn : acrossLo p t > p.height) :
    Calls Try.prog 88 #[p.v, t.v] w fun e w' => e = .returned (.tuple #[.agg #[.int .i64 0, .int .i64 0], .bool false]) ∧ Below w.heap.size w w' := by
  go_enter Try.func88, Try.ntmps88
  go_wp2_with fail
  refine (across_any p t _ h ht).mono ?_
  rintro e w1 ⟨rfl, hb⟩
  obtain ⟨hc, hf⟩ := bcell hb
  have hz := hb.size
  simp only [World.size_alloc] at hz
  have z0 : w.heap.size < w1.heap.size := by omega
  have z1 : w.heap.size + 1 < w1.heap.size := by omega
  have z2 : w.heap.size + 1 + 1 < w1.heap.size := by omega
  have d : decide (acrossLo p t > p.height) = true := by simpa using hn
  go_wp2_with fail
  refine bodyPost_ret (v := .tuple #[.agg #[.int .i64 0, .int .i64 0], .bool false]) ?_ rfl ⟨rfl, ?_⟩
  · simp [results, Try.results88, go_sem, hc, z2]
  · exact (set1 (set1 ((box3 _ _ _ _).trans (hb.mono (by simp only [World.size_alloc]; omega))) (by omega) _ _) (by omega) _ _).alloc (by simp only [World.size_setCell]; omega) _
set_option maxHeartbeats 400000 in
theorem heightsOf_some (p : Pap) (t : Pt) (w : World) (h : p.Ok) (ht : t.Ok) (hn : acrossLo p t ≤ p.height) :
    Calls Try.prog 88 #[p.v, t.v] w fun e w' => e = .returned (.tuple #[.agg #[.int .i64 (acrossLo p t), .int .i64 (min (acrossHi p t) p.height)], .bool true]) ∧ Below w.heap.size w w' := by
  go_enter Try.func88, Try.ntmps88
  go_wp2_with fail
  refine (across_any p t _ h ht).mono ?_
  rintro e w1 ⟨rfl, hb⟩
  obtain ⟨hc, hf⟩ := bcell hb
  have hz := hb.size
  simp only [World.size_alloc] at hz
  have z0 : w.heap.size < w1.heap.size := by omega
  have z1 : w.heap.size + 1 < w1.heap.size := by omega
  have z2 : w.heap.size + 1 + 1 < w1.heap.size := by omega
  have d : decide (acrossLo p t > p.height) = false := by simp; omega
  go_wp2_with fail
  refine bodyPost_ret (v := .tuple #[.agg #[.int .i64 (acrossLo p t), .int .i64 (min (acrossHi p t) p.height)], .bool true]) ?_ rfl ⟨rfl, ?_⟩
  · simp [results, Try.results88, go_sem, hc, z2]
  · exact (set1 (set1 ((box3 _ _ _ _).trans (hb.mono (by simp only [World.size_alloc]; omega))) (by omega) _ _) (by omega) _ _).alloc (by simp only [World.size_setCell]; omega) _
set_option maxHeartbeats 1000000 in
theorem levelsOf_any (p : Pap) (lo hi : Int) (w : World) (h : p.Ok) (hl : 0 ≤ lo ∧ lo ≤ p.height) (hh : 0 ≤ hi ∧ hi ≤ p.height) :
    Calls Try.prog 89 #[p.v, .agg #[.int .i64 lo, .int .i64 hi]] w fun e w' => e = .returned (.agg #[.int .i64 (lev p lo), .int .i64 (lev p hi)]) ∧ Below w.heap.size w w' := by
  have HL := Lib.hid h
  clear h
  have hB := box3 w (.cells #[.int .i64 p.pitch, .int .i64 p.height, .int .i64 p.radius, .int .i64 p.low, .int .i64 p.high, .int .i64 p.cols, .int .i64 p.al, .int .i64 p.ah, .int .i64 p.cl, .int .i64 p.ch] 25) (.cells #[.int .i64 lo, .int .i64 hi] 23) (.cells #[.int .i64 0, .int .i64 0] 23)
  go_enter Try.func89, Try.ntmps89
  go_wp2_with fail
  go_region_held3 (fun w' => w'.cell? ⟨w.heap.size, 0, none⟩ = some (.int .i64 p.pitch) ∧ w'.cell? ⟨w.heap.size, 1, none⟩ = some (.int .i64 p.height) ∧ w'.cell? ⟨w.heap.size, 2, none⟩ = some (.int .i64 p.radius) ∧ w'.cell? ⟨w.heap.size, 3, none⟩ = some (.int .i64 p.low) ∧ w'.cell? ⟨w.heap.size, 4, none⟩ = some (.int .i64 p.high) ∧ w'.cell? ⟨w.heap.size, 5, none⟩ = some (.int .i64 p.cols) ∧ w'.cell? ⟨w.heap.size, 6, none⟩ = some (.int .i64 p.al) ∧ w'.cell? ⟨w.heap.size, 7, none⟩ = some (.int .i64 p.ah) ∧ w'.cell? ⟨w.heap.size, 8, none⟩ = some (.int .i64 p.cl) ∧ w'.cell? ⟨w.heap.size, 9, none⟩ = some (.int .i64 p.ch) ∧ w'.cell? ⟨w.heap.size + 1, 0, none⟩ = some (.int .i64 (lo)) ∧ w'.cell? ⟨w.heap.size + 1, 1, none⟩ = some (.int .i64 (hi)) ∧ w'.cell? ⟨w.heap.size + 1 + 1, 0, none⟩ = some (cellAt w' (w.heap.size + 1 + 1) 0) ∧ w'.cell? ⟨w.heap.size + 1 + 1, 1, none⟩ = some (cellAt w' (w.heap.size + 1 + 1) 1) ∧ w'.frozen? ⟨w.heap.size + 1 + 1, 0, none⟩ = false ∧ w'.frozen? ⟨w.heap.size + 1 + 1, 1, none⟩ = false ∧ Below w.heap.size w w' ∧ w.heap.size + 1 + 1 + 1 ≤ w'.heap.size)
    (first | (go_split_ands; (repeat' apply And.intro); all_goals first | assumption | (go_simp; done) | (unfold cellAt; go_simp; done) | exact hB.drew | ((try simp only [World.size_drew, World.size_alloc]); omega)) | (go_split_ands; (repeat' apply And.intro); all_goals first | exact cell_up hb (by (try simp only [World.size_drew, World.size_alloc]); omega) (by assumption) | exact frozen_up hb (by (try simp only [World.size_drew, World.size_alloc]); omega) (by assumption) | exact cellAt_ok (cell_up hb (by (try simp only [World.size_drew, World.size_alloc]); omega) (by assumption)) | exact Below.trans (by assumption) (hb.mono (by (try simp only [World.size_drew, World.size_alloc]); omega)) | (have := hb.size; (try simp only [World.size_drew, World.size_alloc] at this); omega)) | (go_split_ands; (repeat' apply And.intro); all_goals first | assumption | exact set1 (set1 (by assumption) (by omega) _ _) (by omega) _ _ | (go_simp; done) | (unfold cellAt; go_simp; done)))
    ((go_at_call 95; refine (level_any p _ _ HL.out (by assumption)).mono ?_; rintro e w1 ⟨rfl, hb⟩))
  all_goals
    go_wp2_with fail
    rename_i hS
    obtain ⟨-, -, -, -, -, -, -, -, -, -, -, -, s0, s1, -, -, hBB, -⟩ := hS
    obtain ⟨t0, t1, -⟩ := two_cells s0 s1
    refine bodyPost_ret (v := .agg #[.int .i64 (lev p lo), .int .i64 (lev p hi)]) ?_ rfl ⟨rfl, hBB⟩
    clear s0 s1
    simp [results, Try.results89, go_sem, t0, t1]
end Go.Proofs.Ytmeljcbefnojfaa
namespace Go.Proofs.Ytmeljcbefnojfaa
open Go.RowKit
/-- the arc at a height -/
def arcOf (p : Pap) (y : Int) : Int := if p.radius = 0 then 0 else y * (p.height - y) / (2 * p.radius)
set_option maxHeartbeats 400000 in
theorem arcs_zero (p : Pap) (w : World) (hr : p.radius = 0) :
    Calls Try.prog 93 #[p.v] w fun e w' => e = .returned (.func (.func 121) #[] #[]) ∧ Below w.heap.size w w' := by
  have e1 : (p.radius == 0) = true := by simp [hr]
  have HR := Lib.hid hr
  clear hr
  go_enter Try.func93, Try.ntmps93
  go_wp2_with fail
  go_ret
  exact ⟨rfl, box1 _ _⟩
/-- a block that holds a paper -/
def HasPap (p : Pap) (b : Nat) (w : World) : Prop := w.cell? ⟨b, 0, none⟩ = some (.int .i64 p.pitch) ∧ w.cell? ⟨b, 1, none⟩ = some (.int .i64 p.height) ∧ w.cell? ⟨b, 2, none⟩ = some (.int .i64 p.radius) ∧ w.cell? ⟨b, 3, none⟩ = some (.int .i64 p.low) ∧ w.cell? ⟨b, 4, none⟩ = some (.int .i64 p.high) ∧ w.cell? ⟨b, 5, none⟩ = some (.int .i64 p.cols) ∧ w.cell? ⟨b, 6, none⟩ = some (.int .i64 p.al) ∧ w.cell? ⟨b, 7, none⟩ = some (.int .i64 p.ah) ∧ w.cell? ⟨b, 8, none⟩ = some (.int .i64 p.cl) ∧ w.cell? ⟨b, 9, none⟩ = some (.int .i64 p.ch)
theorem HasPap.up {p : Pap} {b : Nat} {W w1 : World} (h : HasPap p b W) {B : Nat} (hb : Below B W w1) (hl : b < B) : HasPap p b w1 := by
  unfold HasPap at *
  have hc : ∀ o, w1.cell? ⟨b, o, none⟩ = W.cell? ⟨b, o, none⟩ := fun o => hb.cell (p := ⟨b, o, none⟩) hl
  simp only [hc]
  exact h
set_option maxHeartbeats 400000 in
theorem arcs_pos (p : Pap) (w : World) (hr : ¬ p.radius = 0) :
    Calls Try.prog 93 #[p.v] w fun e w' => e = .returned (.func (.func 122) #[] #[.pointer (some ⟨w.heap.size, 0, none⟩)]) ∧ Below w.heap.size w w' ∧ HasPap p w.heap.size w' ∧ w.heap.size < w'.heap.size := by
  have e1 : (p.radius == 0) = false := by simp [hr]
  clear hr
  go_enter Try.func93, Try.ntmps93
  go_wp2_with fail
  go_ret
  exact ⟨rfl, box1 _ _, by simp [HasPap], by simp⟩
set_option maxHeartbeats 400000 in
theorem arcs1_any (p : Pap) (y : Int) (w : World) (hr : p.radius = 0) :
    Calls Try.prog 121 #[.int .i64 y] w fun e w' => e = .returned (.int .i64 (arcOf p y)) ∧ w = w' := by
  have e : arcOf p y = 0 := by simp [arcOf, hr]
  rw [e]
  clear e hr
  go_enter Try.func121, Try.ntmps121
  go_wp2_with fail
  go_ret
  exact ⟨rfl, rfl⟩
set_option maxHeartbeats 400000 in
theorem arcs2_any (p : Pap) (y : Int) (b : Nat) (w : World) (h : p.Ok) (hy : 0 ≤ y ∧ y ≤ p.height) (hr : ¬ p.radius = 0) (hp : HasPap p b w) :
    Calls Try.prog 122 #[.int .i64 y, .pointer (some ⟨b, 0, none⟩)] w fun e w' => e = .returned (.int .i64 (arcOf p y)) ∧ w = w' := by
  have e : arcOf p y = y * (p.height - y) / (2 * p.radius) := by simp [arcOf, hr]
  rw [e]
  obtain ⟨h1, h2, h3, h4, h5, h6, h7, h8⟩ := h
  have h3' : p.height ≤ p.radius ∧ p.radius ≤ 4000000 := by omega
  have hm := mul_bd (a := y) (b := p.height - y) (A := 400000) (B := 400000) (by omega) (by omega) (by omega) (by omega)
  obtain ⟨hm1, hm2⟩ := hm
  obtain ⟨-, c1, c2, -⟩ := hp
  clear e h3 hr h4 h5 h6 h7 h8
  go_enter Try.func122, Try.ntmps122
  go_wp2_with fail
  go_ret
  exact ⟨rfl, rfl⟩
/-- the value of an arc's function: in every world in which w lies -/
def IsArc (p : Pap) (v : Value) (w : World) : Prop :=
  (p.radius = 0 ∧ v = .func (.func 121) #[] #[]) ∨ (¬ p.radius = 0 ∧ ∃ b, v = .func (.func 122) #[] #[.pointer (some ⟨b, 0, none⟩)] ∧ HasPap p b w ∧ b < w.heap.size)
end Go.Proofs.Ytmeljcbefnojfaa
namespace Go.Proofs.Ytmeljcbefnojfaa
open Go.RowKit
open Classical in
/-- the error of a height on a paper -/
noncomputable def htE (p : Pap) (y : Int) : Int := if p.Ok then (if 0 ≤ y ∧ y ≤ p.height then 0 else 1) else 10
open Classical in
noncomputable def arcV (p : Pap) (y : Int) : Int := if htE p y = 0 then arcOf p y else 0
open Classical in
noncomputable def levV (p : Pap) (y : Int) : Int := if htE p y = 0 then lev p y else 0
theorem htE_ok {p : Pap} {y : Int} (h : p.Ok) (hy : 0 ≤ y ∧ y ≤ p.height) : htE p y = 0 := by unfold htE; rw [if_pos h, if_pos hy]
theorem htE_arg {p : Pap} {y : Int} (h : p.Ok) (hy : ¬ (0 ≤ y ∧ y ≤ p.height)) : htE p y = 1 := by unfold htE; rw [if_pos h, if_neg hy]
theorem htE_bad {p : Pap} {y : Int} (h : ¬ p.Ok) : htE p y = 10 := by unfold htE; rw [if_neg h]
theorem htE_iff {p : Pap} {y : Int} : htE p y = 0 ↔ p.Ok ∧ 0 ≤ y ∧ y ≤ p.height := by
  unfold htE
  by_cases h : p.Ok
  · rw [if_pos h]
    by_cases hy : 0 ≤ y ∧ y ≤ p.height
    · rw [if_pos hy]; simp [h, hy]
    · rw [if_neg hy]; simp [h]; omega
  · rw [if_neg h]; simp [h]
theorem arcV_ok {p : Pap} {y : Int} (h : p.Ok) (hy : 0 ≤ y ∧ y ≤ p.height) : arcV p y = arcOf p y := by unfold arcV; rw [if_pos (htE_ok h hy)]
theorem levV_ok {p : Pap} {y : Int} (h : p.Ok) (hy : 0 ≤ y ∧ y ≤ p.height) : levV p y = lev p y := by unfold levV; rw [if_pos (htE_ok h hy)]

set_option maxHeartbeats 400000 in
theorem Arc_bad (p : Pap) (y : Int) (w : World) (h : ¬ p.Ok) :
    Calls Try.prog 40 #[p.v, .int .i64 y] w fun e w' => e = .returned (.tuple #[.int .i64 0, .int .i64 10]) ∧ Below w.heap.size w w' := by
  go_enter Try.func40, Try.ntmps40
  go_wp2_with fail
  refine (checkHeight_bad p y _ h).mono ?_
  rintro e w1 ⟨rfl, hb⟩
  go_wp2_with fail
  go_ret2
  exact ⟨rfl, (box1 _ _).trans (hb.mono (by simp only [World.size_alloc]; omega))⟩
set_option maxHeartbeats 400000 in
theorem Arc_arg (p : Pap) (y : Int) (w : World) (h : p.Ok) (hy : ¬ (0 ≤ y ∧ y ≤ p.height)) :
    Calls Try.prog 40 #[p.v, .int .i64 y] w fun e w' => e = .returned (.tuple #[.int .i64 0, .int .i64 1]) ∧ Below w.heap.size w w' := by
  go_enter Try.func40, Try.ntmps40
  go_wp2_with fail
  refine (checkHeight_arg p y _ h hy).mono ?_
  rintro e w1 ⟨rfl, hb⟩
  go_wp2_with fail
  go_ret2
  exact ⟨rfl, (box1 _ _).trans (hb.mono (by simp only [World.size_alloc]; omega))⟩
set_option maxHeartbeats 400000 in
theorem Arc_ok (p : Pap) (y : Int) (w : World) (h : p.Ok) (hy : 0 ≤ y ∧ y ≤ p.height) :
    Calls Try.prog 40 #[p.v, .int .i64 y] w fun e w' => e = .returned (.tuple #[.int .i64 (arcOf p y), .int .i64 0]) ∧ Below w.heap.size w w' := by
  by_cases hr : p.radius = 0
  · have HR := Lib.hid hr
    clear hr
    go_enter Try.func40, Try.ntmps40
    go_wp2_with fail
    refine (checkHeight_ok p y _ h hy).mono ?_
    rintro e w1 ⟨rfl, hb⟩
    obtain ⟨hc, hf⟩ := bcell hb
    have hz := hb.size
    simp only [World.size_alloc] at hz
    go_wp2_with fail
    refine (arcs_zero p _ HR.out).mono ?_
    rintro e w2 ⟨rfl, hb2⟩
    go_wp2_with fail
    refine (arcs1_any p y _ HR.out).mono ?_
    rintro e w3 ⟨rfl, rfl⟩
    go_wp2_with fail
    go_ret2
    exact ⟨rfl, ((box1 _ _).trans (hb.mono (by simp only [World.size_alloc]; omega))).trans (hb2.mono (by omega))⟩
  · go_enter Try.func40, Try.ntmps40
    go_wp2_with fail
    refine (checkHeight_ok p y _ h hy).mono ?_
    rintro e w1 ⟨rfl, hb⟩
    obtain ⟨hc, hf⟩ := bcell hb
    have hz := hb.size
    simp only [World.size_alloc] at hz
    go_wp2_with fail
    refine (arcs_pos p _ hr).mono ?_
    rintro e w2 ⟨rfl, hb2, hp2, hz2⟩
    have H2 := Lib.hid hp2
    clear hp2
    go_wp2_with fail
    refine (arcs2_any p y _ _ h hy hr H2.out).mono ?_
    rintro e w3 ⟨rfl, rfl⟩
    go_wp2_with fail
    go_ret2
    exact ⟨rfl, ((box1 _ _).trans (hb.mono (by simp only [World.size_alloc]; omega))).trans (hb2.mono (by omega))⟩
theorem Arc_any (p : Pap) (y : Int) (w : World) :
    Calls Try.prog 40 #[p.v, .int .i64 y] w fun e w' => e = .returned (.tuple #[.int .i64 (arcV p y), .int .i64 (htE p y)]) ∧ Below w.heap.size w w' := by
  by_cases h : p.Ok
  · by_cases hy : 0 ≤ y ∧ y ≤ p.height
    · rw [arcV_ok h hy, htE_ok h hy]; exact Arc_ok p y w h hy
    · have e1 : arcV p y = 0 := by unfold arcV; rw [if_neg (by rw [htE_arg h hy]; decide)]
      rw [e1, htE_arg h hy]; exact Arc_arg p y w h hy
  · have e1 : arcV p y = 0 := by unfold arcV; rw [if_neg (by rw [htE_bad h]; decide)]
    rw [e1, htE_bad h]; exact Arc_bad p y w h

set_option maxHeartbeats 400000 in
theorem Level_bad (p : Pap) (y : Int) (w : World) (h : ¬ p.Ok) :
    Calls Try.prog 42 #[p.v, .int .i64 y] w fun e w' => e = .returned (.tuple #[.int .i64 0, .int .i64 10]) ∧ Below w.heap.size w w' := by
  go_enter Try.func42, Try.ntmps42
  go_wp2_with fail
  refine (checkHeight_bad p y _ h).mono ?_
  rintro e w1 ⟨rfl, hb⟩
  go_wp2_with fail
  go_ret2
  exact ⟨rfl, (box1 _ _).trans (hb.mono (by simp only [World.size_alloc]; omega))⟩
set_option maxHeartbeats 400000 in
theorem Level_arg (p : Pap) (y : Int) (w : World) (h : p.Ok) (hy : ¬ (0 ≤ y ∧ y ≤ p.height)) :
    Calls Try.prog 42 #[p.v, .int .i64 y] w fun e w' => e = .returned (.tuple #[.int .i64 0, .int .i64 1]) ∧ Below w.heap.size w w' := by
  go_enter Try.func42, Try.ntmps42
  go_wp2_with fail
  refine (checkHeight_arg p y _ h hy).mono ?_
  rintro e w1 ⟨rfl, hb⟩
  go_wp2_with fail
  go_ret2
  exact ⟨rfl, (box1 _ _).trans (hb.mono (by simp only [World.size_alloc]; omega))⟩
set_option maxHeartbeats 400000 in
theorem Level_ok (p : Pap) (y : Int) (w : World) (h : p.Ok) (hy : 0 ≤ y ∧ y ≤ p.height) :
    Calls Try.prog 42 #[p.v, .int .i64 y] w fun e w' => e = .returned (.tuple #[.int .i64 (lev p y), .int .i64 0]) ∧ Below w.heap.size w w' := by
  go_enter Try.func42, Try.ntmps42
  go_wp2_with fail
  refine (checkHeight_ok p y _ h hy).mono ?_
  rintro e w1 ⟨rfl, hb⟩
  obtain ⟨hc, hf⟩ := bcell hb
  have hz := hb.size
  simp only [World.size_alloc] at hz
  go_wp2_with fail
  refine (level_any p y _ h hy).mono ?_
  rintro e w2 ⟨rfl, hb2⟩
  go_wp2_with fail
  go_ret2
  exact ⟨rfl, ((box1 _ _).trans (hb.mono (by simp only [World.size_alloc]; omega))).trans (hb2.mono (by omega))⟩
theorem Level_any (p : Pap) (y : Int) (w : World) :
    Calls Try.prog 42 #[p.v, .int .i64 y] w fun e w' => e = .returned (.tuple #[.int .i64 (levV p y), .int .i64 (htE p y)]) ∧ Below w.heap.size w w' := by
  by_cases h : p.Ok
  · by_cases hy : 0 ≤ y ∧ y ≤ p.height
    · rw [levV_ok h hy, htE_ok h hy]; exact Level_ok p y w h hy
    · have e1 : levV p y = 0 := by unfold levV; rw [if_neg (by rw [htE_arg h hy]; decide)]
      rw [e1, htE_arg h hy]; exact Level_arg p y w h hy
  · have e1 : levV p y = 0 := by unfold levV; rw [if_neg (by rw [htE_bad h]; decide)]
    rw [e1, htE_bad h]; exact Level_bad p y w h

open Classical in
/-- the error of a level on a paper -/
noncomputable def lvE (p : Pap) (l : Int) : Int := if p.Ok then (if p.low ≤ l ∧ l ≤ p.high then 0 else 1) else 10
open Classical in
noncomputable def hsLo (p : Pap) (l : Int) : Int := if lvE p l = 0 then lowst p l else 0
open Classical in
noncomputable def hsHi (p : Pap) (l : Int) : Int := if lvE p l = 0 then min (lowst p (l + 1) - 1) p.height else 0
theorem lvE_ok {p : Pap} {y : Int} (h : p.Ok) (hy : p.low ≤ y ∧ y ≤ p.high) : lvE p y = 0 := by unfold lvE; rw [if_pos h, if_pos hy]
theorem lvE_arg {p : Pap} {y : Int} (h : p.Ok) (hy : ¬ (p.low ≤ y ∧ y ≤ p.high)) : lvE p y = 1 := by unfold lvE; rw [if_pos h, if_neg hy]
theorem lvE_bad {p : Pap} {y : Int} (h : ¬ p.Ok) : lvE p y = 10 := by unfold lvE; rw [if_neg h]
theorem lvE_iff {p : Pap} {y : Int} : lvE p y = 0 ↔ p.Ok ∧ p.low ≤ y ∧ y ≤ p.high := by
  unfold lvE
  by_cases h : p.Ok
  · rw [if_pos h]
    by_cases hy : p.low ≤ y ∧ y ≤ p.high
    · rw [if_pos hy]; simp [h, hy]
    · rw [if_neg hy]; simp [h]; omega
  · rw [if_neg h]; simp [h]
set_option maxHeartbeats 400000 in
theorem Heights_bad (p : Pap) (l : Int) (w : World) (h : ¬ p.Ok) :
    Calls Try.prog 44 #[p.v, .int .i64 l] w fun e w' => e = .returned (.tuple #[.agg #[.int .i64 0, .int .i64 0], .int .i64 10]) ∧ Below w.heap.size w w' := by
  go_enter Try.func44, Try.ntmps44
  go_wp2_with fail
  refine (checkPaper_no p _ h).mono ?_
  rintro e w1 ⟨rfl, hb⟩
  obtain ⟨hc, hf⟩ := bcell hb
  have hz := hb.size
  simp only [World.size_alloc] at hz
  go_wp2_with fail
  refine bodyPost_ret (v := .tuple #[.agg #[.int .i64 0, .int .i64 0], .int .i64 10]) ?_ rfl ⟨rfl, ?_⟩
  · simp [results, Try.results44, go_sem, hc]
  · exact set1 (set1 ((box2 _ _ _).trans (hb.mono (by simp only [World.size_alloc]; omega))) (by omega) _ _) (by omega) _ _
set_option maxHeartbeats 400000 in
theorem Heights_arg (p : Pap) (l : Int) (w : World) (h : p.Ok) (hl : ¬ (p.low ≤ l ∧ l ≤ p.high)) :
    Calls Try.prog 44 #[p.v, .int .i64 l] w fun e w' => e = .returned (.tuple #[.agg #[.int .i64 0, .int .i64 0], .int .i64 1]) ∧ Below w.heap.size w w' := by
  go_enter Try.func44, Try.ntmps44
  go_wp2_with fail
  refine (checkPaper_ok p _ h).mono ?_
  rintro e w1 ⟨rfl, hb⟩
  obtain ⟨hc, hf⟩ := bcell hb
  have hz := hb.size
  simp only [World.size_alloc] at hz
  go_wp2_with fail
  refine (between_f _ _ _ _ hl).mono ?_
  rintro e w2 ⟨rfl, rfl⟩
  go_wp2_with fail
  refine bodyPost_ret (v := .tuple #[.agg #[.int .i64 0, .int .i64 0], .int .i64 1]) ?_ rfl ⟨rfl, ?_⟩
  · simp [results, Try.results44, go_sem, hc]
  · exact set1 (set1 ((box2 _ _ _).trans (hb.mono (by simp only [World.size_alloc]; omega))) (by omega) _ _) (by omega) _ _
theorem lowst_bd {p : Pap} {l : Int} (h : p.Ok) (hl : p.low ≤ l ∧ l ≤ p.high + 1) : 0 ≤ lowst p l ∧ lowst p l ≤ 5000000000 := by
  obtain ⟨h1, h2, h3, h4, h5, h6, h7, h8⟩ := h
  have hm := mul_bd (a := l - p.low) (b := p.height) (A := 12001) (B := 400000) (by omega) (by omega) (by omega) (by omega)
  have hd := div_bd (a := (l - p.low) * p.height + (p.high - p.low) - 1) (b := p.high - p.low) (by omega) (by omega)
  unfold lowst cdiv
  omega
set_option maxHeartbeats 1000000 in
theorem Heights_ok (p : Pap) (l : Int) (w : World) (h : p.Ok) (hl : p.low ≤ l ∧ l ≤ p.high) :
    Calls Try.prog 44 #[p.v, .int .i64 l] w fun e w' => e = .returned (.tuple #[.agg #[.int .i64 (lowst p l), .int .i64 (min (lowst p (l + 1) - 1) p.height)], .int .i64 0]) ∧ Below w.heap.size w w' := by
  obtain ⟨l0, l1⟩ := lowst_bd (l := l + 1) h (by omega)
  obtain ⟨k0, k1, k2⟩ := h.low
  obtain ⟨j0, j1⟩ := hl
  go_enter Try.func44, Try.ntmps44
  go_wp2_with fail
  refine (checkPaper_ok p _ h).mono ?_
  rintro e w1 ⟨rfl, hb⟩
  obtain ⟨hc, hf⟩ := bcell hb
  have hz := hb.size
  simp only [World.size_alloc] at hz
  have z0 : w.heap.size < w1.heap.size := by omega
  have z1 : w.heap.size + 1 < w1.heap.size := by omega
  go_wp2_with fail
  refine (between_t _ _ _ _ ⟨j0, j1⟩).mono ?_
  rintro e w2 ⟨rfl, rfl⟩
  go_wp2_with fail
  refine (lowest_any p l _ h (by omega)).mono ?_
  rintro e w2 ⟨rfl, hb2⟩
  obtain ⟨hc2, hf2⟩ := bcell hb2
  have hz2 := hb2.size
  go_wp2_with fail
  refine (lowest_any p (l + 1) _ h (by omega)).mono ?_
  rintro e w3 ⟨rfl, hb3⟩
  obtain ⟨hc3, hf3⟩ := bcell hb3
  have z02 : w.heap.size < w2.heap.size := by omega
  have z12 : w.heap.size + 1 < w2.heap.size := by omega
  have hz3 := hb3.size
  go_wp2_with fail
  refine bodyPost_ret (v := .tuple #[.agg #[.int .i64 (lowst p l), .int .i64 (min (lowst p (l + 1) - 1) p.height)], .int .i64 0]) ?_ rfl ⟨rfl, ?_⟩
  · simp [results, Try.results44, go_sem, hc, hc2, hc3, z1, z12]
  · exact set1 (set1 ((((box2 _ _ _).trans (hb.mono (by simp only [World.size_alloc]; omega))).trans (hb2.mono (by omega))).trans (hb3.mono (by omega))) (by omega) _ _) (by omega) _ _
theorem Heights_any (p : Pap) (l : Int) (w : World) :
    Calls Try.prog 44 #[p.v, .int .i64 l] w fun e w' => e = .returned (.tuple #[.agg #[.int .i64 (hsLo p l), .int .i64 (hsHi p l)], .int .i64 (lvE p l)]) ∧ Below w.heap.size w w' := by
  by_cases h : p.Ok
  · by_cases hl : p.low ≤ l ∧ l ≤ p.high
    · have e1 : hsLo p l = lowst p l := by unfold hsLo; rw [if_pos (lvE_ok h hl)]
      have e2 : hsHi p l = min (lowst p (l + 1) - 1) p.height := by unfold hsHi; rw [if_pos (lvE_ok h hl)]
      rw [e1, e2, lvE_ok h hl]; exact Heights_ok p l w h hl
    · have e1 : hsLo p l = 0 := by unfold hsLo; rw [if_neg (by rw [lvE_arg h hl]; decide)]
      have e2 : hsHi p l = 0 := by unfold hsHi; rw [if_neg (by rw [lvE_arg h hl]; decide)]
      rw [e1, e2, lvE_arg h hl]; exact Heights_arg p l w h hl
  · have e1 : hsLo p l = 0 := by unfold hsLo; rw [if_neg (by rw [lvE_bad h]; decide)]
    have e2 : hsHi p l = 0 := by unfold hsHi; rw [if_neg (by rw [lvE_bad h]; decide)]
    rw [e1, e2, lvE_bad h]; exact Heights_bad p l w h
end Go.Proofs.Ytmeljcbefnojfaa
namespace Go.Proofs.Ytmeljcbefnojfaa
open Go.RowKit
theorem neg_cdiv {n b : Int} (hb : 1 ≤ b) : -(cdiv (-n) b) = n / b := by
  unfold cdiv
  have h1 := Int.mul_ediv_add_emod n b
  have h2 := Int.emod_nonneg n (by omega : b ≠ 0)
  have h3 := Int.emod_lt_of_pos n (by omega : 0 < b)
  have h4 := Int.mul_ediv_add_emod (-n + b - 1) b
  have h5 := Int.emod_nonneg (-n + b - 1) (by omega : b ≠ 0)
  have h6 := Int.emod_lt_of_pos (-n + b - 1) (by omega : 0 < b)
  have h7 : b * (n / b + (-n + b - 1) / b) = b - 1 - n % b - (-n + b - 1) % b := by rw [Int.mul_add]; omega
  have h8 : n / b + (-n + b - 1) / b = 0 := by
    generalize n / b + (-n + b - 1) / b = q at h7
    rcases Int.lt_trichotomy q 0 with hq | hq | hq
    · have : b * q ≤ b * (-1) := Int.mul_le_mul_of_nonneg_left (by omega) (by omega)
      omega
    · exact hq
    · have : b * 1 ≤ b * q := Int.mul_le_mul_of_nonneg_left (by omega) (by omega)
      omega
  omega
theorem ediv_bd {n b : Int} (hb : 1 ≤ b) (h0 : -1000000000 ≤ n) (h1 : n ≤ 1000000000) : -1000000000 ≤ n / b ∧ n / b ≤ 1000000000 := by
  constructor
  · exact Int.le_ediv_of_mul_le (by omega) (by have : -1000000000 * b ≤ -1000000000 * 1 := Int.mul_le_mul_of_nonpos_left (by omega) (by omega); omega)
  · rcases Int.le_total 0 n with h | h
    · have := div_bd h hb; omega
    · have : n / b ≤ 0 := by
        rcases Int.lt_or_eq_of_le h with h' | h'
        · exact Int.le_of_lt (Int.ediv_neg_of_neg_of_pos h' (by omega))
        · subst h'; simp
      omega
set_option maxHeartbeats 400000 in
theorem floorDiv_any (n b : Int) (w : World) (h0 : -1000000000 ≤ n) (h1 : n ≤ 1000000000) (h2 : 1 ≤ b) (h3 : b ≤ 1000000000) :
    Calls Try.prog 119 #[.int .i64 n, .int .i64 b] w fun e w' => e = .returned (.int .i64 (n / b)) ∧ w = w' := by
  by_cases hn : n < 0
  · have hk : 0 ≤ cdiv (-n) b ∧ cdiv (-n) b ≤ 2000000000 := by
      have := div_bd (a := -n + b - 1) (b := b) (by omega) h2
      unfold cdiv; omega
    obtain ⟨k0, k1⟩ := hk
    rw [← neg_cdiv h2]
    go_enter Try.func119, Try.ntmps119
    go_wp2_with fail
    refine (ceilDiv_any (-n) b _ (by omega) (by omega) h2 (by omega)).mono ?_
    rintro e w1 ⟨rfl, rfl⟩
    go_wp2_with fail
    go_ret
    exact ⟨rfl, rfl⟩
  · have hn' : 0 ≤ n := by omega
    go_enter Try.func119, Try.ntmps119
    go_wp2_with fail
    go_ret
    exact ⟨rfl, rfl⟩
theorem HasPap.drewN {p : Pap} {b : Nat} {w : World} (h : HasPap p b w) (n : Nat) : HasPap p b (w.drewN n) := by
  unfold HasPap at *
  have hc : ∀ o, (w.drewN n).cell? ⟨b, o, none⟩ = w.cell? ⟨b, o, none⟩ := fun o => (below_drewN (Below.refl (b + 1) w) n).cell (p := ⟨b, o, none⟩) (Nat.lt_succ_self b)
  simp only [hc]
  exact h
def clMid (p : Pap) (lo hi : Int) : Int := min (max (p.height / 2) lo) hi
/-- the least and the greatest arc between two heights -/
def arLo (p : Pap) (lo hi : Int) : Int := min (arcOf p lo) (arcOf p hi)
def arHi (p : Pap) (lo hi : Int) : Int := arcOf p (clMid p lo hi)
def colLo (p : Pap) (t : Pt) (lo hi : Int) : Int := max 0 ((alongLo p t - arHi p lo hi) / p.pitch)
def colHi (p : Pap) (t : Pt) (lo hi : Int) : Int := min (p.cols - 1) ((alongHi p t - arLo p lo hi) / p.pitch)
theorem arcOf_bd {p : Pap} {y : Int} (h : p.Ok) (hy : 0 ≤ y ∧ y ≤ p.height) : 0 ≤ arcOf p y ∧ arcOf p y ≤ 160000000000 := by
  unfold arcOf
  by_cases hr : p.radius = 0
  · rw [if_pos hr]; omega
  · rw [if_neg hr]
    have h3 := h.radius
    have h2 := h.height
    have hm := mul_bd (a := y) (b := p.height - y) (A := 400000) (B := 400000) (by omega) (by omega) (by omega) (by omega)
    have hd := div_bd (a := y * (p.height - y)) (b := 2 * p.radius) (by omega) (by omega)
    omega
/-- arcs are not higher than the paper -/
theorem arcOf_le {p : Pap} {y : Int} (h : p.Ok) (hy : 0 ≤ y ∧ y ≤ p.height) : arcOf p y ≤ p.height := by
  unfold arcOf
  have h2 := h.height
  by_cases hr : p.radius = 0
  · rw [if_pos hr]; omega
  · rw [if_neg hr]
    have h3 := h.radius
    have hm : y * (p.height - y) ≤ p.height * (2 * p.radius) := Int.mul_le_mul hy.2 (by omega) (by omega) (by omega)
    exact Int.ediv_le_of_le_mul (by omega) hm
theorem alongLo_bd {p : Pap} {t : Pt} (h : p.Ok) (ht : t.Ok) : 0 ≤ alongLo p t ∧ alongLo p t ≤ 450000 := by
  have h7 := h.along
  have hx := ht.x
  have hh := ht.half
  unfold alongLo prLo
  have : (t.x - t.half) * 1000 / p.ah ≤ 450000 := Int.ediv_le_of_le_mul (by omega) (by omega)
  omega
theorem alongHi_bd {p : Pap} {t : Pt} (h : p.Ok) (ht : t.Ok) : 0 ≤ alongHi p t ∧ alongHi p t ≤ 450000 := by
  have h7 := h.along
  have hx := ht.x
  have hh := ht.half
  unfold alongHi prHi
  have h1 : (t.x + t.half) * 1000 / p.al ≤ 450000 := Int.ediv_le_of_le_mul (by omega) (by omega)
  have h2 : 0 ≤ (t.x + t.half) * 1000 / p.al := Int.ediv_nonneg (by omega) (by omega)
  omega
theorem acrossLo_bd {p : Pap} {t : Pt} (h : p.Ok) (ht : t.Ok) : 0 ≤ acrossLo p t ∧ acrossLo p t ≤ 450000 := by
  have h7 := h.across
  have hx := ht.y
  have hh := ht.half
  unfold acrossLo prLo
  have : (t.y - t.half) * 1000 / p.ch ≤ 450000 := Int.ediv_le_of_le_mul (by omega) (by omega)
  omega
theorem acrossHi_bd {p : Pap} {t : Pt} (h : p.Ok) (ht : t.Ok) : acrossLo p t ≤ acrossHi p t ∧ acrossHi p t ≤ 450000 := by
  have h7 := h.across
  have hx := ht.y
  have hh := ht.half
  unfold acrossHi acrossLo prHi prLo
  have h1 : (t.y + t.half) * 1000 / p.cl ≤ 450000 := Int.ediv_le_of_le_mul (by omega) (by omega)
  have h2 : 0 ≤ (t.y + t.half) * 1000 / p.cl := Int.ediv_nonneg (by omega) (by omega)
  have h3 : (t.y - t.half) * 1000 / p.ch ≤ (t.y + t.half) * 1000 / p.cl := by
    rcases Int.le_total 0 (t.y - t.half) with h0 | h0
    · refine Int.le_trans (Int.ediv_le_ediv (a := (t.y - t.half) * 1000) (b := (t.y + t.half) * 1000) (c := p.ch) (by omega) (by omega)) ?_
      refine Int.le_ediv_of_mul_le (by omega) ?_
      have e1 := Int.ediv_mul_le ((t.y + t.half) * 1000) (by omega : p.ch ≠ 0)
      have e2 : 0 ≤ (t.y + t.half) * 1000 / p.ch := Int.ediv_nonneg (by omega) (by omega)
      have e3 : (t.y + t.half) * 1000 / p.ch * p.cl ≤ (t.y + t.half) * 1000 / p.ch * p.ch := Int.mul_le_mul_of_nonneg_left (by omega) e2
      omega
    · refine Int.le_trans ?_ h2
      rcases Int.lt_or_eq_of_le h0 with h' | h'
      · exact Int.le_of_lt (Int.ediv_neg_of_neg_of_pos (by omega) (by omega))
      · rw [h']; simp
  omega
end Go.Proofs.Ytmeljcbefnojfaa
