import Derived.Test.YtmeljcbefnojfaaPts
import Derived.Deep.RegionHeld3
namespace Go.Proofs.Ytmeljcbefnojfaa
open Go.RowKit
/-- what a cell holds -/
def cellAt (w : World) (b o : Nat) : Value := (w.cell? ⟨b, o, none⟩).getD undef
theorem cellAt_ok {w : World} {b o : Nat} {v : Value} (h : w.cell? ⟨b, o, none⟩ = some v) : w.cell? ⟨b, o, none⟩ = some (cellAt w b o) := by unfold cellAt; rw [h]; rfl
theorem cell_up {w1 W : World} {b o : Nat} {v : Value} (hb : Below W.heap.size W w1) (hl : b < W.heap.size) (h : W.cell? ⟨b, o, none⟩ = some v) : w1.cell? ⟨b, o, none⟩ = some v := (hb.cell (p := ⟨b, o, none⟩) hl).trans h
theorem frozen_up {w1 W : World} {b o : Nat} {v : Bool} (hb : Below W.heap.size W w1) (hl : b < W.heap.size) (h : W.frozen? ⟨b, o, none⟩ = v) : w1.frozen? ⟨b, o, none⟩ = v := (hb.frozen (p := ⟨b, o, none⟩) hl).trans h
theorem isSome_of_setCell {w : World} {a b : Addr} {v : Value} (h : ((w.setCell a v).cell? b).isSome = true) : (w.cell? b).isSome = true := by
  by_cases hab : a = b
  · subst hab
    simp only [World.setCell, World.cell?, Array.getElem?_modify, if_true] at h ⊢
    cases hh : w.heap[a.block]? with
    | none => simp [hh] at h
    | some x =>
      cases x <;> simp only [hh, Option.map_some] at h ⊢ <;> first | exact h | (cases hs : a.spot.isSome <;> simp_all)
  · rw [World.cell?_setCell_other _ _ _ _ hab] at h
    exact h
theorem two_cells {w : World} {b : Nat} {x y u v : Value} (h0 : ((w.setCell ⟨b, 0, none⟩ x).setCell ⟨b, 1, none⟩ y).cell? ⟨b, 0, none⟩ = some u) (h1 : ((w.setCell ⟨b, 0, none⟩ x).setCell ⟨b, 1, none⟩ y).cell? ⟨b, 1, none⟩ = some v) :
    ((w.setCell ⟨b, 0, none⟩ x).setCell ⟨b, 1, none⟩ y).cell? ⟨b, 0, none⟩ = some x ∧ ((w.setCell ⟨b, 0, none⟩ x).setCell ⟨b, 1, none⟩ y).cell? ⟨b, 1, none⟩ = some y ∧ w.cell? ⟨b, 0, none⟩ = some (cellAt w b 0) := by
  have e0 := isSome_of_setCell (by rw [h0]; rfl : (((w.setCell ⟨b, 0, none⟩ x).setCell ⟨b, 1, none⟩ y).cell? ⟨b, 0, none⟩).isSome = true)
  have e1 := isSome_of_setCell (by rw [h1]; rfl : (((w.setCell ⟨b, 0, none⟩ x).setCell ⟨b, 1, none⟩ y).cell? ⟨b, 1, none⟩).isSome = true)
  have e2 := isSome_of_setCell e0
  have e3 := isSome_of_setCell e1
  refine ⟨?_, World.cell?_setCell_same' _ _ _ e1, ?_⟩
  · rw [World.cell?_setCell_other _ _ _ _ (by simp)]
    exact World.cell?_setCell_same' _ _ _ e2
  · obtain ⟨u, hu⟩ := Option.isSome_iff_exists.1 e2
    simp [cellAt, hu]
abbrev spv (a b : Int) : Value := .agg #[.int .i64 a, .int .i64 b]

set_option maxHeartbeats 400000 in
theorem heightsOf_none (p : Pap) (t : Pt) (w : World) (h : p.Ok) (ht : t.Ok) (hn : acrossLo p t > p.height) :
    Calls Try.prog 88 #[p.v, t.v] w fun e w' => e = .returned (.tuple #[.agg #[.int .i64 0, .int .i64 0], .bool false]) ∧ Below w.heap.size w w' := by
  go_enter Try.func88, Try.ntmps88
  go_wp2_with fail
  refine (across_any p t _ h ht).mono ?_
  rintro e w1 ⟨rfl, hb⟩
  obtain ⟨hc, hf⟩ := bcell hb
  have hz := hb.size
  simp only [World.size_alloc] at hz
  have z0 : w.heap.size < w1.heap.size := by omega
  have z1 : w.heap.size + 1 < w1.heap.size := by omega
  have z2 : w.heap.size + 1 + 1 < w1.heap.size := by omega
  have d : decide (acrossLo p t > p.height) = true := by simpa using hn
  go_wp2_with fail
  refine bodyPost_ret (v := .tuple #[.agg #[.int .i64 0, .int .i64 0], .bool false]) ?_ rfl ⟨rfl, ?_⟩
  · simp [results, Try.results88, go_sem, hc, z2]
  · exact (set1 (set1 ((box3 _ _ _ _).trans (hb.mono (by simp only [World.size_alloc]; omega))) (by omega) _ _) (by omega) _ _).alloc (by simp only [World.size_setCell]; omega) _
set_option maxHeartbeats 400000 in
theorem heightsOf_some (p : Pap) (t : Pt) (w : World) (h : p.Ok) (ht : t.Ok) (hn : acrossLo p t ≤ p.height) :
    Calls Try.prog 88 #[p.v, t.v] w fun e w' => e = .returned (.tuple #[.agg #[.int .i64 (acrossLo p t), .int .i64 (min (acrossHi p t) p.height)], .bool true]) ∧ Below w.heap.size w w' := by
  go_enter Try.func88, Try.ntmps88
  go_wp2_with fail
  refine (across_any p t _ h ht).mono ?_
  rintro e w1 ⟨rfl, hb⟩
  obtain ⟨hc, hf⟩ := bcell hb
  have hz := hb.size
  simp only [World.size_alloc] at hz
  have z0 : w.heap.size < w1.heap.size := by omega
  have z1 : w.heap.size + 1 < w1.heap.size := by omega
  have z2 : w.heap.size + 1 + 1 < w1.heap.size := by omega
  have d : decide (acrossLo p t > p.height) = false := by simp; omega
  go_wp2_with fail
  refine bodyPost_ret (v := .tuple #[.agg #[.int .i64 (acrossLo p t), .int .i64 (min (acrossHi p t) p.height)], .bool true]) ?_ rfl ⟨rfl, ?_⟩
  · simp [results, Try.results88, go_sem, hc, z2]
  · exact (set1 (set1 ((box3 _ _ _ _).trans (hb.mono (by simp only [World.size_alloc]; omega))) (by omega) _ _) (by omega) _ _).alloc (by simp only [World.size_setCell]; omega) _
set_option maxHeartbeats 1000000 in
theorem levelsOf_any (p : Pap) (lo hi : Int) (w : World) (h : p.Ok) (hl : 0 ≤ lo ∧ lo ≤ p.height) (hh : 0 ≤ hi ∧ hi ≤ p.height) :
    Calls Try.prog 89 #[p.v, .agg #[.int .i64 lo, .int .i64 hi]] w fun e w' => e = .returned (.agg #[.int .i64 (lev p lo), .int .i64 (lev p hi)]) ∧ Below w.heap.size w w' := by
  have HL := Lib.hid h
  clear h
  have hB := box3 w (.cells #[.int .i64 p.pitch, .int .i64 p.height, .int .i64 p.radius, .int .i64 p.low, .int .i64 p.high, .int .i64 p.cols, .int .i64 p.al, .int .i64 p.ah, .int .i64 p.cl, .int .i64 p.ch] 25) (.cells #[.int .i64 lo, .int .i64 hi] 23) (.cells #[.int .i64 0, .int .i64 0] 23)
  go_enter Try.func89, Try.ntmps89
  go_wp2_with fail
  go_region_held3 (fun w' => w'.cell? ⟨w.heap.size, 0, none⟩ = some (.int .i64 p.pitch) ∧ w'.cell? ⟨w.heap.size, 1, none⟩ = some (.int .i64 p.height) ∧ w'.cell? ⟨w.heap.size, 2, none⟩ = some (.int .i64 p.radius) ∧ w'.cell? ⟨w.heap.size, 3, none⟩ = some (.int .i64 p.low) ∧ w'.cell? ⟨w.heap.size, 4, none⟩ = some (.int .i64 p.high) ∧ w'.cell? ⟨w.heap.size, 5, none⟩ = some (.int .i64 p.cols) ∧ w'.cell? ⟨w.heap.size, 6, none⟩ = some (.int .i64 p.al) ∧ w'.cell? ⟨w.heap.size, 7, none⟩ = some (.int .i64 p.ah) ∧ w'.cell? ⟨w.heap.size, 8, none⟩ = some (.int .i64 p.cl) ∧ w'.cell? ⟨w.heap.size, 9, none⟩ = some (.int .i64 p.ch) ∧ w'.cell? ⟨w.heap.size + 1, 0, none⟩ = some (.int .i64 (lo)) ∧ w'.cell? ⟨w.heap.size + 1, 1, none⟩ = some (.int .i64 (hi)) ∧ w'.cell? ⟨w.heap.size + 1 + 1, 0, none⟩ = some (cellAt w' (w.heap.size + 1 + 1) 0) ∧ w'.cell? ⟨w.heap.size + 1 + 1, 1, none⟩ = some (cellAt w' (w.heap.size + 1 + 1) 1) ∧ w'.frozen? ⟨w.heap.size + 1 + 1, 0, none⟩ = false ∧ w'.frozen? ⟨w.heap.size + 1 + 1, 1, none⟩ = false ∧ Below w.heap.size w w' ∧ w.heap.size + 1 + 1 + 1 ≤ w'.heap.size)
    (first | (go_split_ands; (repeat' apply And.intro); all_goals first | assumption | (go_simp; done) | (unfold cellAt; go_simp; done) | exact hB.drew | ((try simp only [World.size_drew, World.size_alloc]); omega)) | (go_split_ands; (repeat' apply And.intro); all_goals first | exact cell_up hb (by (try simp only [World.size_drew, World.size_alloc]); omega) (by assumption) | exact frozen_up hb (by (try simp only [World.size_drew, World.size_alloc]); omega) (by assumption) | exact cellAt_ok (cell_up hb (by (try simp only [World.size_drew, World.size_alloc]); omega) (by assumption)) | exact Below.trans (by assumption) (hb.mono (by (try simp only [World.size_drew, World.size_alloc]); omega)) | (have := hb.size; (try simp only [World.size_drew, World.size_alloc] at this); omega)) | (go_split_ands; (repeat' apply And.intro); all_goals first | assumption | exact set1 (set1 (by assumption) (by omega) _ _) (by omega) _ _ | (go_simp; done) | (unfold cellAt; go_simp; done)))
    ((go_at_call 95; refine (level_any p _ _ HL.out (by assumption)).mono ?_; rintro e w1 ⟨rfl, hb⟩))
  all_goals
    go_wp2_with fail
    rename_i hS
    obtain ⟨-, -, -, -, -, -, -, -, -, -, -, -, s0, s1, -, -, hBB, -⟩ := hS
    obtain ⟨t0, t1, -⟩ := two_cells s0 s1
    refine bodyPost_ret (v := .agg #[.int .i64 (lev p lo), .int .i64 (lev p hi)]) ?_ rfl ⟨rfl, hBB⟩
    clear s0 s1
    simp [results, Try.results89, go_sem, t0, t1]
end Go.Proofs.Ytmeljcbefnojfaa
