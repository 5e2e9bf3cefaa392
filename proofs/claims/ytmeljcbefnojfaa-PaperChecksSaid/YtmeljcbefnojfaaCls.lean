import Derived.Test.YtmeljcbefnojfaaCol
namespace Go.Proofs.Ytmeljcbefnojfaa
open Go.RowKit
set_option maxHeartbeats 400000 in
theorem columnsOf_none (p : Pap) (t : Pt) (w : World) (h : p.Ok) (ht : t.Ok) (hn : acrossLo p t > p.height) :
    Calls Try.prog 86 #[p.v, t.v] w fun e w' => e = .returned (.tuple #[.agg #[.int .i64 0, .int .i64 0], .bool false]) ∧ Below w.heap.size w w' := by
  go_enter Try.func86, Try.ntmps86
  go_wp2_with fail
  refine (heightsOf_none p t _ h ht hn).mono ?_
  rintro e w1 ⟨rfl, hb⟩
  obtain ⟨hc, hf⟩ := bcell hb
  have hz := hb.size
  simp only [World.size_alloc] at hz
  have z0 : w.heap.size < w1.heap.size := by omega
  have z1 : w.heap.size + 1 < w1.heap.size := by omega
  have z2 : w.heap.size + 1 + 1 < w1.heap.size := by omega
  go_wp2_with fail
  refine bodyPost_ret (v := .tuple #[.agg #[.int .i64 0, .int .i64 0], .bool false]) ?_ rfl ⟨rfl, ?_⟩
  · simp [results, Try.results86, go_sem, hc, z2]
  · exact (set1 (set1 ((box3 _ _ _ _).trans (hb.mono (by simp only [World.size_alloc]; omega))) (by omega) _ _) (by omega) _ _).alloc (by simp only [World.size_setCell]; omega) _
def ColPost (p : Pap) (t : Pt) (lo hi : Int) (e : Ending) : Prop :=
  (colLo p t lo hi > colHi p t lo hi ∧ e = .returned (.tuple #[.agg #[.int .i64 0, .int .i64 0], .bool false])) ∨ (colLo p t lo hi ≤ colHi p t lo hi ∧ e = .returned (.tuple #[.agg #[.int .i64 (colLo p t lo hi), .int .i64 (colHi p t lo hi)], .bool true]))
end Go.Proofs.Ytmeljcbefnojfaa
