import Derived.Test.YtmeljcbefnojfaaRun
import Derived.Test.YtmeljcbefnojfaaJoi
namespace Go.Proofs.Ytmeljcbefnojfaa
open Go.RowKit
set_option maxRecDepth 100000 in
set_option maxHeartbeats 2000000 in
/-- slices.Replace of nothing in the middle: an insert -/
theorem Replace_ins (base bv g cap n i : Nat) (xs : List Value) (x y : Int) (w : World) (hbase : base ≤ w.heap.size) (hn : n ≤ 1000) (hi : i < n) (hgv : bv ≠ g)
    (hown : w.ownsRow base 23 2 (.slice (some ⟨g, 0, none⟩) n cap) n xs) (hxs : ∀ v ∈ xs, v.oneCell' = true) (hv : Row w bv [.int .i64 x, .int .i64 y]) :
    Calls Try.prog 133 #[.slice (some ⟨g, 0, none⟩) n cap, .int .i64 i, .int .i64 i, .slice (some ⟨bv, 0, none⟩) 1 1] w fun e w' => Rep base w (some g) (n + 1) (xs.take (i * 2) ++ [.int .i64 x, .int .i64 y] ++ xs.drop (i * 2)) e w' := by
  obtain ⟨cur, hg, hbg, hnc, hcm, hcl, hct, hxl⟩ := row_own hown
  have H : Hid (Calls Try.prog 143 #[.slice (some ⟨g, 0, none⟩) n cap, .int .i64 i, .slice (some ⟨bv, 0, none⟩) 1 1] w fun e w' => Rep base w (some g) (n + 1) (xs.take (i * 2) ++ [.int .i64 x, .int .i64 y] ++ xs.drop (i * 2)) e w') := by
    by_cases hc : n + 1 ≤ cap
    · exact Lib.hid (Insert_room base bv g cap n i xs x y w hbase (by omega) hi hc hgv hown hxs hv)
    · obtain rfl : cap = n := by omega
      exact Lib.hid (Insert_full base bv g cap i xs x y w hbase (by omega) hi hown hxs hv)
  unfold maxLen at hcm
  have hin : i ≤ n := by omega
  have hi4 : i ≤ cap := by omega
  have hc2' : ¬ (cap = i) := by omega
  generalize xs.take (i * 2) ++ [.int .i64 x, .int .i64 y] ++ xs.drop (i * 2) = ys at *
  clear hown hxs hv hg hct hxl hcl
  go_enter Try.func133, Try.ntmps133
  go_wp2_with fail
  refine H.out.mono ?_
  rintro e w' ⟨g', cap', rfl, hown, hgrow, hat, hlt⟩
  go_wp2_with fail
  go_ret
  exact ⟨_, _, rfl, hown, hgrow, hat, hlt⟩
/-- elements f to t of a list are replaced by one -/
def repL (L : List (Int × Int)) (f t : Nat) (s : Int × Int) : List (Int × Int) := L.take f ++ s :: L.drop t
theorem flatL_take (L : List (Int × Int)) (k : Nat) : flatL (L.take k) = (flatL L).take (k * 2) := by
  induction L generalizing k with
  | nil => simp [flatL]
  | cons q L ih =>
    cases k with
    | zero => simp [flatL]
    | succ k =>
      have := ih k
      simp only [flatL, List.flatMap_cons, List.take_succ_cons] at this ⊢
      rw [this, show (k + 1) * 2 = k * 2 + 1 + 1 by omega]
      simp
theorem flatL_drop (L : List (Int × Int)) (k : Nat) : flatL (L.drop k) = (flatL L).drop (k * 2) := by
  induction L generalizing k with
  | nil => simp [flatL]
  | cons q L ih =>
    cases k with
    | zero => simp [flatL]
    | succ k =>
      have := ih k
      simp only [flatL, List.flatMap_cons, List.drop_succ_cons] at this ⊢
      rw [this, show (k + 1) * 2 = k * 2 + 1 + 1 by omega]
      simp
theorem flatL_rep (L : List (Int × Int)) (f t : Nat) (s : Int × Int) : flatL (repL L f t s) = (flatL L).take (f * 2) ++ [.int .i64 s.1, .int .i64 s.2] ++ (flatL L).drop (t * 2) := by
  rw [← flatL_take, ← flatL_drop]
  simp [repL, flatL]
theorem flatL_one (L : List (Int × Int)) : ∀ v ∈ flatL L, v.oneCell' = true := by
  intro v hv
  simp [flatL] at hv
  obtain ⟨a, b, _, h⟩ := hv
  rcases h with rfl | rfl <;> rfl
theorem repL_length {L : List (Int × Int)} {f t : Nat} {s : Int × Int} (hf : f ≤ t) (ht : t ≤ L.length) : (repL L f t s).length = f + 1 + (L.length - t) := by
  simp [repL]; omega
/-- slices.Replace by one span, in general -/
theorem Replace_any (base bv cap f t : Nat) (A : Option Addr) (L : List (Int × Int)) (s : Int × Int) (w : World) (hbase : base ≤ w.heap.size) (hn : L.length ≤ 1000) (hft : f ≤ t) (ht : t ≤ L.length)
    (hgv : (Value.slice A L.length cap).ownBlock ≠ some bv) (hown : w.ownsRow base 23 2 (.slice A L.length cap) L.length (flatL L)) (hv : Row w bv [.int .i64 s.1, .int .i64 s.2]) :
    Calls Try.prog 133 #[.slice A L.length cap, .int .i64 f, .int .i64 t, .slice (some ⟨bv, 0, none⟩) 1 1] w fun e w' => Rep base w (Value.slice A L.length cap).ownBlock (repL L f t s).length (flatL (repL L f t s)) e w' := by
  have c0 : w.cell? ⟨bv, 0, none⟩ = some (.int .i64 s.1) := by rw [hv.cell]; rfl
  have c1 : w.cell? ⟨bv, 1, none⟩ = some (.int .i64 s.2) := by rw [hv.cell]; rfl
  rw [repL_length hft ht, flatL_rep]
  cases A with
  | none =>
    obtain ⟨h0, h | ⟨g, _, _, e1, _⟩⟩ := hown
    · obtain ⟨h1, h2⟩ := h
      have hl : L = [] := List.eq_nil_of_length_eq_zero h2
      subst hl
      obtain rfl : t = 0 := by simpa using ht
      obtain rfl : f = 0 := by omega
      injection h1 with _ _ hc
      subst hc
      exact Replace_nil base bv s.1 s.2 w hbase c0 c1
    · cases e1
  | some a =>
    obtain ⟨g, rfl⟩ : ∃ g, a = ⟨g, 0, none⟩ := by
      obtain ⟨_, h | ⟨g, _, _, e1, _⟩⟩ := hown
      · cases h.1
      · cases e1; exact ⟨g, rfl⟩
    have hgv' : bv ≠ g := fun e => hgv (by simp [Value.ownBlock, e])
    have e : (Value.slice (some ⟨g, 0, none⟩) L.length cap).ownBlock = some g := rfl
    rw [e]
    obtain ⟨_, _, _, hnc, hcm, _, _, hxl⟩ := row_own hown
    have hxs := flatL_one L
    generalize flatL L = xs at *
    generalize L.length = n at *
    by_cases hi : f = t
    · subst hi
      by_cases hfn : f = n
      · subst hfn
        have := Replace_app base bv g cap f xs s.1 s.2 w hbase (by omega) hown hnc hcm c0 c1
        rw [List.take_of_length_le (by omega), List.drop_eq_nil_of_le (by omega), List.append_nil, show f + 1 + (f - f) = f + 1 by omega]
        exact this
      · have := Replace_ins base bv g cap n f xs s.1 s.2 w hbase hn (by omega) hgv' hown hxs hv
        rw [show f + 1 + (n - f) = n + 1 by omega]
        exact this
    · by_cases htn : t = n
      · subst htn
        have := Replace_end base bv g cap t f xs s.1 s.2 w hbase (by omega) (by omega) hgv' hown hv
        rw [List.drop_eq_nil_of_le (by omega), List.append_nil, show f + 1 + (t - t) = f + 1 by omega]
        exact this
      · exact Replace_mid base bv g cap n f t xs s.1 s.2 w hbase (by omega) (by omega) (by omega) hgv' hown hxs hv
end Go.Proofs.Ytmeljcbefnojfaa
