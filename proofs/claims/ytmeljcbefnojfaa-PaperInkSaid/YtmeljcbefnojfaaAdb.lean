import Derived.Test.YtmeljcbefnojfaaAda
namespace Go.Proofs.Ytmeljcbefnojfaa
open Go.RowKit
set_option maxRecDepth 100000 in
set_option maxHeartbeats 2000000 in
theorem add_nil (bm base : Nat) (a b : Int) (w : World) (hm : w.cell? ⟨bm, 0, none⟩ = some (.slice none 0 0)) (hf : w.frozen? ⟨bm, 0, none⟩ = false) (hbase : bm < base ∧ base ≤ w.heap.size) :
    Calls Try.prog 99 #[.pointer (some ⟨bm, 0, none⟩), .agg #[.int .i64 a, .int .i64 b]] w fun e w' => e = .returned (.tuple #[]) ∧ AddPost bm base none w 1 [.int .i64 a, .int .i64 b] w' := by
  have hbm : bm < w.heap.size := World.block_lt_of_cell? _ _ hm
  have z1 : bm < w.heap.size + 1 := by omega
  go_enter Try.func99, Try.ntmps99
  go_wp2_with fail
  refine (Search_none _ _ _ (by decide)).mono ?_
  rintro e w1 ⟨rfl, rfl⟩
  go_wp2_with fail
  refine (Search_none _ _ _ (by decide)).mono ?_
  rintro e w1 ⟨rfl, rfl⟩
  go_wp2_with fail
  go_region_law (first | (go_simp; go_at_call 133; refine (Replace_nil base (w.heap.size + 1 + 1) a b _ (by simp only [World.size_drew, World.size_alloc]; omega) (by go_simp) (by go_simp)).mono ?_; rintro e w1 ⟨g', cap', rfl, hown, hgrow, hat, hlt⟩; have hbb := (Below.refl _ _).grown hgrow (Nat.le_refl _) (fun k e => by cases e); have hm1 : w1.cell? ⟨bm, 0, none⟩ = some (.slice none 0 0) := cell_up hbb (by simp only [World.size_drew, World.size_alloc]; omega) (by go_simp); have ht1 : w1.cell? ⟨w.heap.size, 0, none⟩ = some (.pointer (some ⟨bm, 0, none⟩)) := cell_up hbb (by simp only [World.size_drew, World.size_alloc]; omega) (by go_simp); have hf1 : w1.frozen? ⟨bm, 0, none⟩ = false := frozen_up hbb (by simp only [World.size_drew, World.size_alloc]; omega) (by go_simp)))
  all_goals go_end0
  all_goals exact ⟨rfl, addPost_of (((box2 w _ _).drew).alloc (by simp only [World.size_drew, World.size_alloc]; omega) _) hgrow hown hat hm1 hf1 hbase.1⟩
end Go.Proofs.Ytmeljcbefnojfaa
