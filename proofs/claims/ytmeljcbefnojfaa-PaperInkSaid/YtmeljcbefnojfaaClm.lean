import Derived.Test.YtmeljcbefnojfaaCla
import Derived.Test.YtmeljcbefnojfaaClb
import Derived.Test.YtmeljcbefnojfaaCls
namespace Go.Proofs.Ytmeljcbefnojfaa
open Go.RowKit
def hLo (p : Pap) (t : Pt) : Int := acrossLo p t
def hHi (p : Pap) (t : Pt) : Int := min (acrossHi p t) p.height
def cLo (p : Pap) (t : Pt) : Int := colLo p t (hLo p t) (hHi p t)
def cHi (p : Pap) (t : Pt) : Int := colHi p t (hLo p t) (hHi p t)
def ColSome (p : Pap) (t : Pt) : Prop := hLo p t ≤ p.height ∧ cLo p t ≤ cHi p t
theorem h_bd {p : Pap} {t : Pt} (h : p.Ok) (ht : t.Ok) (hn : hLo p t ≤ p.height) : 0 ≤ hLo p t ∧ hLo p t ≤ hHi p t ∧ hHi p t ≤ p.height := by
  have h1 := acrossLo_bd h ht
  have h2 := acrossHi_bd h ht
  unfold hLo hHi at *
  omega
theorem columnsOf_no (p : Pap) (t : Pt) (w : World) (h : p.Ok) (ht : t.Ok) (hn : ¬ ColSome p t) :
    Calls Try.prog 86 #[p.v, t.v] w fun e w' => e = .returned (.tuple #[.agg #[.int .i64 0, .int .i64 0], .bool false]) ∧ Below w.heap.size w w' := by
  by_cases h1 : hLo p t ≤ p.height
  · have hb := h_bd h ht h1
    by_cases hr : p.radius = 0
    · refine (columnsOf_some0 p t w h ht hr _ _ rfl rfl hb).mono fun e w' hh => ⟨?_, hh.2⟩
      rcases hh.1 with ⟨_, he⟩ | ⟨hl, _⟩
      · exact he
      · exact absurd ⟨h1, hl⟩ hn
    · refine (columnsOf_some1 p t w h ht hr _ _ rfl rfl hb).mono fun e w' hh => ⟨?_, hh.2⟩
      rcases hh.1 with ⟨_, he⟩ | ⟨hl, _⟩
      · exact he
      · exact absurd ⟨h1, hl⟩ hn
  · exact columnsOf_none p t w h ht (by unfold hLo at h1; omega)
theorem columnsOf_yes (p : Pap) (t : Pt) (w : World) (h : p.Ok) (ht : t.Ok) (hn : ColSome p t) :
    Calls Try.prog 86 #[p.v, t.v] w fun e w' => e = .returned (.tuple #[.agg #[.int .i64 (cLo p t), .int .i64 (cHi p t)], .bool true]) ∧ Below w.heap.size w w' := by
  obtain ⟨h1, h2⟩ := hn
  have hb := h_bd h ht h1
  have h2' : ¬ (colLo p t (hLo p t) (hHi p t) > colHi p t (hLo p t) (hHi p t)) := by unfold cLo cHi at h2; omega
  by_cases hr : p.radius = 0
  · refine (columnsOf_some0 p t w h ht hr _ _ rfl rfl hb).mono fun e w' hh => ⟨?_, hh.2⟩
    rcases hh.1 with ⟨hl, _⟩ | ⟨_, he⟩
    · exact absurd hl h2'
    · exact he
  · refine (columnsOf_some1 p t w h ht hr _ _ rfl rfl hb).mono fun e w' hh => ⟨?_, hh.2⟩
    rcases hh.1 with ⟨hl, _⟩ | ⟨_, he⟩
    · exact absurd hl h2'
    · exact he
set_option maxHeartbeats 1000000 in
theorem Columns_err (p : Pap) (t : Pt) (w : World) (h : ptE p t ≠ 0) :
    Calls Try.prog 36 #[p.v, t.v] w fun e w' => e = .returned (.tuple #[.agg #[.int .i64 0, .int .i64 0], .int .i64 (ptE p t)]) ∧ Below w.heap.size w w' := by
  have d : (ptE p t == 0) = false := by simpa using h
  have d' : (ptE p t != 0) = true := by simpa using h
  clear h
  go_enter Try.func36, Try.ntmps36
  go_wp2_with fail
  refine (check_any p t _).mono ?_
  rintro e w1 ⟨rfl, hb⟩
  obtain ⟨hc, hf⟩ := bcell hb
  have hz := hb.size
  simp only [World.size_alloc] at hz
  go_wp2_with fail
  refine bodyPost_ret (v := .tuple #[.agg #[.int .i64 0, .int .i64 0], .int .i64 (ptE p t)]) ?_ rfl ⟨rfl, ?_⟩
  · simp [results, Try.results36, go_sem, hc]
  · exact set1 (set1 ((box3 _ _ _ _).trans (hb.mono (by simp only [World.size_alloc]; omega))) (by omega) _ _) (by omega) _ _
set_option maxHeartbeats 1000000 in
theorem Columns_none (p : Pap) (t : Pt) (w : World) (h : p.Ok) (ht : t.Ok) (hn : ¬ ColSome p t) :
    Calls Try.prog 36 #[p.v, t.v] w fun e w' => e = .returned (.tuple #[.agg #[.int .i64 0, .int .i64 0], .int .i64 3]) ∧ Below w.heap.size w w' := by
  go_enter Try.func36, Try.ntmps36
  go_wp2_with fail
  refine (check_ok p t _ h ht).mono ?_
  rintro e w1 ⟨rfl, hb⟩
  obtain ⟨hc, hf⟩ := bcell hb
  have hz := hb.size
  simp only [World.size_alloc] at hz
  have z0 : w.heap.size < w1.heap.size := by omega
  have z1 : w.heap.size + 1 < w1.heap.size := by omega
  have z2 : w.heap.size + 1 + 1 < w1.heap.size := by omega
  go_wp2_with fail
  refine (columnsOf_no p t _ h ht hn).mono ?_
  rintro e w2 ⟨rfl, hb2⟩
  obtain ⟨hc2, hf2⟩ := bcell hb2
  have hz2 := hb2.size
  have x0 : w.heap.size < w2.heap.size := by omega
  have x1 : w.heap.size + 1 < w2.heap.size := by omega
  have x2 : w.heap.size + 1 + 1 < w2.heap.size := by omega
  go_wp2_with fail
  refine bodyPost_ret (v := .tuple #[.agg #[.int .i64 0, .int .i64 0], .int .i64 3]) ?_ rfl ⟨rfl, ?_⟩
  · simp [results, Try.results36, go_sem, hc, hc2, z2, x2]
  · exact (set1 (set1 (((box3 _ _ _ _).trans (hb.mono (by simp only [World.size_alloc]; omega))).trans (hb2.mono (by omega))) (by omega) _ _) (by omega) _ _).alloc (by simp only [World.size_setCell]; omega) _
set_option maxHeartbeats 1000000 in
theorem Columns_some (p : Pap) (t : Pt) (w : World) (h : p.Ok) (ht : t.Ok) (hn : ColSome p t) :
    Calls Try.prog 36 #[p.v, t.v] w fun e w' => e = .returned (.tuple #[.agg #[.int .i64 (cLo p t), .int .i64 (cHi p t)], .int .i64 0]) ∧ Below w.heap.size w w' := by
  go_enter Try.func36, Try.ntmps36
  go_wp2_with fail
  refine (check_ok p t _ h ht).mono ?_
  rintro e w1 ⟨rfl, hb⟩
  obtain ⟨hc, hf⟩ := bcell hb
  have hz := hb.size
  simp only [World.size_alloc] at hz
  have z0 : w.heap.size < w1.heap.size := by omega
  have z1 : w.heap.size + 1 < w1.heap.size := by omega
  have z2 : w.heap.size + 1 + 1 < w1.heap.size := by omega
  go_wp2_with fail
  refine (columnsOf_yes p t _ h ht hn).mono ?_
  rintro e w2 ⟨rfl, hb2⟩
  obtain ⟨hc2, hf2⟩ := bcell hb2
  have hz2 := hb2.size
  have x0 : w.heap.size < w2.heap.size := by omega
  have x1 : w.heap.size + 1 < w2.heap.size := by omega
  have x2 : w.heap.size + 1 + 1 < w2.heap.size := by omega
  go_wp2_with fail
  refine bodyPost_ret (v := .tuple #[.agg #[.int .i64 (cLo p t), .int .i64 (cHi p t)], .int .i64 0]) ?_ rfl ⟨rfl, ?_⟩
  · simp [results, Try.results36, go_sem, hc, hc2, z2, x2]
  · exact (set1 (set1 (((box3 _ _ _ _).trans (hb.mono (by simp only [World.size_alloc]; omega))).trans (hb2.mono (by omega))) (by omega) _ _) (by omega) _ _).alloc (by simp only [World.size_setCell]; omega) _
open Classical in
noncomputable def clE (p : Pap) (t : Pt) : Int := if ptE p t = 0 then (if ColSome p t then 0 else 3) else ptE p t
open Classical in
noncomputable def clLo (p : Pap) (t : Pt) : Int := if clE p t = 0 then cLo p t else 0
open Classical in
noncomputable def clHi (p : Pap) (t : Pt) : Int := if clE p t = 0 then cHi p t else 0
theorem Columns_any (p : Pap) (t : Pt) (w : World) :
    Calls Try.prog 36 #[p.v, t.v] w fun e w' => e = .returned (.tuple #[.agg #[.int .i64 (clLo p t), .int .i64 (clHi p t)], .int .i64 (clE p t)]) ∧ Below w.heap.size w w' := by
  by_cases h : ptE p t = 0
  · obtain ⟨hp, ht⟩ := ptE_iff.1 h
    by_cases hc : ColSome p t
    · have e0 : clE p t = 0 := by unfold clE; rw [if_pos h, if_pos hc]
      have e1 : clLo p t = cLo p t := by unfold clLo; rw [if_pos e0]
      have e2 : clHi p t = cHi p t := by unfold clHi; rw [if_pos e0]
      rw [e0, e1, e2]; exact Columns_some p t w hp ht hc
    · have e0 : clE p t = 3 := by unfold clE; rw [if_pos h, if_neg hc]
      have e1 : clLo p t = 0 := by unfold clLo; rw [if_neg (by rw [e0]; decide)]
      have e2 : clHi p t = 0 := by unfold clHi; rw [if_neg (by rw [e0]; decide)]
      rw [e0, e1, e2]; exact Columns_none p t w hp ht hc
  · have e0 : clE p t = ptE p t := by unfold clE; rw [if_neg h]
    have e1 : clLo p t = 0 := by unfold clLo; rw [if_neg (by rw [e0]; exact h)]
    have e2 : clHi p t = 0 := by unfold clHi; rw [if_neg (by rw [e0]; exact h)]
    rw [e0, e1, e2]; exact Columns_err p t w h
end Go.Proofs.Ytmeljcbefnojfaa
