import Derived.Test.YtmeljcbefnojfaaAda
namespace Go.Proofs.Ytmeljcbefnojfaa
open Go.RowKit
set_option maxRecDepth 100000 in
set_option maxHeartbeats 2000000 in
theorem add_app (bm base g cap : Nat) (x y a b : Int) (w : World) (hm : w.cell? ⟨bm, 0, none⟩ = some (.slice (some ⟨g, 0, none⟩) 1 cap)) (hf : w.frozen? ⟨bm, 0, none⟩ = false) (hbase : bm < base ∧ base ≤ w.heap.size)
    (hown : w.ownsRow base 23 2 (.slice (some ⟨g, 0, none⟩) 1 cap) 1 [.int .i64 x, .int .i64 y]) (hab : (0 ≤ a ∧ a ≤ 100000000) ∧ 0 ≤ b ∧ b ≤ 100000000) (hx : x ≤ b + 1) (hy : y < a - 1) :
    Calls Try.prog 99 #[.pointer (some ⟨bm, 0, none⟩), .agg #[.int .i64 a, .int .i64 b]] w fun e w' => e = .returned (.tuple #[]) ∧ AddPost bm base (some g) w 2 [.int .i64 x, .int .i64 y, .int .i64 a, .int .i64 b] w' := by
  obtain ⟨i0, i1⟩ := hab
  have hrow := hown
  obtain ⟨hlen, hx | ⟨g1, cap1, cur, e1, e2, e3, e4, e5, e6, e7⟩⟩ := hown
  · cases hx.1
  cases e1
  have hgl : g < w.heap.size := (Array.getElem?_eq_some_iff.1 e3).1
  have hcells := hrow.cells (g := g) rfl
  have cx : w.cell? ⟨g, 0, none⟩ = some (.int .i64 x) := hcells 0 _ rfl
  have cy : w.cell? ⟨g, 1, none⟩ = some (.int .i64 y) := hcells 1 _ rfl
  have hbm : bm < w.heap.size := World.block_lt_of_cell? _ _ hm
  have hgb : g ≠ bm := by omega
  obtain ⟨W0, hW0⟩ : ∃ W0, W0 = (w.alloc (.cells #[.pointer (some ⟨bm, 0, none⟩)] 128)).alloc (.cells #[.int .i64 a, .int .i64 b] 23) := ⟨_, rfl⟩
  have hB : Below w.heap.size w W0 := by rw [hW0]; exact box2 _ _ _
  have k2 : W0.cell? ⟨w.heap.size, 0, none⟩ = some (.pointer (some ⟨bm, 0, none⟩)) := by rw [hW0]; go_simp
  have k3 : W0.cell? ⟨w.heap.size + 1, 0, none⟩ = some (.int .i64 a) := by rw [hW0]; go_simp
  have k4 : W0.cell? ⟨w.heap.size + 1, 1, none⟩ = some (.int .i64 b) := by rw [hW0]; go_simp
  have k5 := cell_up hB hbm hm
  have k6 := cell_up hB hgl cx
  have k7 := cell_up hB hgl cy
  have hS1 := Search_any 131 #[.pointer (some ⟨w.heap.size, 0, none⟩), .pointer (some ⟨w.heap.size + 1, 0, none⟩)] 1 1 W0 (by decide) (by decide) eg_a1
    (fun m i hi => by
      obtain rfl : i = 0 := by omega
      have := add1_any w.heap.size (w.heap.size + 1) bm g cap a y (W0.drewN m) k2 k5 k7 k3 (by omega) (by omega)
      refine this.mono fun e w' h => ⟨by rw [h.1]; simp only [decide_eq_decide, Ending.returned.injEq, Value.bool.injEq]; omega, ?_⟩
      obtain ⟨q, hq⟩ := h.2
      exact ⟨m + q, by rw [hq, World.drewN_drewN]⟩)
  have hS2 := fun q => Search_any 132 #[.pointer (some ⟨w.heap.size, 0, none⟩), .pointer (some ⟨w.heap.size + 1, 0, none⟩)] 1 1 (W0.drewN q) (by decide) (by decide) eg_a2
    (fun m i hi => by
      obtain rfl : i = 0 := by omega
      have := add2_any w.heap.size (w.heap.size + 1) bm g cap b x ((W0.drewN q).drewN m) k2 k5 k6 k4 (by omega) (by omega)
      refine this.mono fun e w' h => ⟨by rw [h.1]; simp only [decide_eq_decide, Ending.returned.injEq, Value.bool.injEq]; omega, ?_⟩
      obtain ⟨q, hq⟩ := h.2
      exact ⟨m + q, by rw [hq, World.drewN_drewN]⟩)
  have H1 := Lib.hid hS1
  have H2 := Lib.hid hS2
  have HW := Lib.hid hW0
  clear hS1 hS2 k2 k3 k4 k5 k6 k7 hW0 hcells
  have z1 : bm < w.heap.size + 1 := by omega
  have z2 : g < w.heap.size + 1 := by omega
  have HCM := Lib.hid e5
  unfold maxLen at e5
  have c1 : (1 : Int) ≤ cap := by omega
  have c2 : (cap : Int) ≤ 9223372036854775807 := by omega
  have HO := Lib.hid hrow
  clear hrow
  go_enter Try.func99, Try.ntmps99
  go_wp2_with fail
  rw [← HW.out]
  refine H1.out.mono ?_
  rintro e w1 ⟨rfl, q1, rfl⟩
  rw [HW.out]
  go_wp2_with fail
  rw [← HW.out]
  refine (H2.out q1).mono ?_
  rintro e w1 ⟨rfl, q2, rfl⟩
  rw [HW.out]
  clear hB
  go_wp2_with fail
  go_region_law (first | (go_simp; go_at_call 133; refine (Replace_app base (w.heap.size + 1 + 1) g cap 1 [.int .i64 x, .int .i64 y] a b _ (by simp only [World.size_alloc, World.heap_drewN]; omega) (by decide) (ownsRow_keep HO.out (by refine Below.alloc ?_ (by simp only [World.size_alloc, World.heap_drewN]; omega) _; first | exact below_drewN (box2 _ _ _) _ | exact (below_drewN (box2 _ _ _) _).drew)) e4 HCM.out (by go_simp) (by go_simp)).mono ?_; rintro e w1 ⟨g', cap', rfl, hown, hgrow, hat, hlt⟩; have hm1 : w1.cell? ⟨bm, 0, none⟩ = some (.slice (some ⟨g, 0, none⟩) 1 cap) := cell_row hgrow (by simp only [World.size_alloc, World.heap_drewN]; omega) (by intro h; cases h; omega) (by go_simp); have ht1 : w1.cell? ⟨w.heap.size, 0, none⟩ = some (.pointer (some ⟨bm, 0, none⟩)) := cell_row hgrow (by simp only [World.size_alloc, World.heap_drewN]; omega) (by intro h; cases h; omega) (by go_simp); have hf1 : w1.frozen? ⟨bm, 0, none⟩ = false := frozen_row hgrow (by simp only [World.size_alloc, World.heap_drewN]; omega) (by intro h; cases h; omega) (by go_simp)))
  all_goals go_end0
  all_goals exact ⟨rfl, addPost_of (by refine Below.alloc ?_ (by simp only [World.size_alloc, World.heap_drewN]; omega) _; first | exact below_drewN (box2 _ _ _) _ | exact (below_drewN (box2 _ _ _) _).drew) hgrow hown hat hm1 hf1 hbase.1⟩
end Go.Proofs.Ytmeljcbefnojfaa
