/- The law PaperMeans returns true for every paper, every point and every three numbers, and leaves its arguments as they were; no condition. -/
import Derived.Test.YtmeljcbefnojfaaRmn
import Derived.Test.YtmeljcbefnojfaaAwa
import Derived.Test.YtmeljcbefnojfaaCad
import Derived.Test.YtmeljcbefnojfaaShs
import Derived.Test.YtmeljcbefnojfaaTrd
import Derived.Test.YtmeljcbefnojfaaOpp
namespace Go.Proofs.Ytmeljcbefnojfaa
open Go.ChangeShapes Go.WideShapes Go.ChangeAt Go.RowKit
set_option maxHeartbeats 1000000 in
theorem RMeans_err (p : Pap) (t : Pt) (c : Int) (w : World) (h : ptE p t ≠ 0) :
    Calls Try.prog 47 #[p.v, t.v, .int .i64 c] w fun e w' => e = .returned (.tuple #[.slice none 0 0, .int .i64 (ptE p t)]) ∧ Below w.heap.size w w' := by
  have d : (ptE p t == 0) = false := by simpa using h
  have d' : (ptE p t != 0) = true := by simpa using h
  clear h
  go_enter Try.func47, Try.ntmps47
  go_wp2_with fail
  refine (rcheck_any p t _).mono ?_
  rintro e w1 ⟨rfl, hb⟩
  go_wp2_with fail
  go_ret2
  exact ⟨rfl, (box2 _ _ _).trans (hb.mono (by simp only [World.size_alloc]; omega))⟩
set_option maxHeartbeats 1000000 in
theorem RMeans_arg (p : Pap) (t : Pt) (c : Int) (w : World) (h : p.Ok) (ht : t.Ok) (hc : ¬ (0 ≤ c ∧ c ≤ p.cols - 1)) :
    Calls Try.prog 47 #[p.v, t.v, .int .i64 c] w fun e w' => e = .returned (.tuple #[.slice none 0 0, .int .i64 1]) ∧ Below w.heap.size w w' := by
  have hco := h.cols
  go_enter Try.func47, Try.ntmps47
  go_wp2_with fail
  refine (rcheck_ok p t _ h ht).mono ?_
  rintro e w1 ⟨rfl, hb⟩
  obtain ⟨hc1, hf⟩ := bcell hb
  have hz := hb.size
  simp only [World.size_alloc] at hz
  have z0 : w.heap.size < w1.heap.size := by omega
  go_wp2_with fail
  refine (within_f _ _ _ _ hc).mono ?_
  rintro e w2 ⟨rfl, rfl⟩
  go_wp2_with fail
  go_ret2
  exact ⟨rfl, (box2 _ _ _).trans (hb.mono (by simp only [World.size_alloc]; omega))⟩
theorem Row0.base {w w0 W : World} {v : Value} {l : List (Int × Int)} (h : Row0 w W v l) (hb : w0.heap.size ≤ w.heap.size) : Row0 w0 W v l := by
  rcases h with h | ⟨h0, g, cap, h1, h2, h3⟩
  · exact .inl h
  · exact .inr ⟨h0, g, cap, h1, by omega, h3⟩
set_option maxHeartbeats 1000000 in
theorem RMeans_ok (p : Pap) (t : Pt) (c : Int) (l : List (Int × Int)) (w : World) (h : p.Ok) (ht : t.Ok) (hc : 0 ≤ c ∧ c ≤ p.cols - 1) (hm : Hid (∀ w, Calls Try.prog 100 #[p.v, t.v, .int .i64 c] w (RPost w l))) :
    Calls Try.prog 47 #[p.v, t.v, .int .i64 c] w (MPost w 0 l) := by
  have hco := h.cols
  go_enter Try.func47, Try.ntmps47
  go_wp2_with fail
  refine (rcheck_ok p t _ h ht).mono ?_
  rintro e w1 ⟨rfl, hb⟩
  obtain ⟨hc1, hf⟩ := bcell hb
  have hz := hb.size
  simp only [World.size_alloc] at hz
  have z0 : w.heap.size < w1.heap.size := by omega
  have z1 : w.heap.size + 1 < w1.heap.size := by omega
  go_wp2_with fail
  refine (within_t _ _ _ _ hc).mono ?_
  rintro e w2 ⟨rfl, rfl⟩
  go_wp2_with fail
  refine (hm.out _).mono ?_
  rintro e w2 ⟨v, rfl, hb2, hr⟩
  go_wp2_with fail
  go_ret2
  exact ⟨_, rfl, ((box2 _ _ _).trans (hb.mono (by simp only [World.size_alloc]; omega))).trans (hb2.mono (by omega)), hr.base (by omega)⟩
set_option maxHeartbeats 400000 in
theorem SameSpans_nil (w : World) : Calls Try.prog 52 #[.slice none 0 0, .slice none 0 0] w fun e w' => e = .returned (.bool true) ∧ Below w.heap.size w w' := by
  go_enter Try.func52, Try.ntmps52
  go_wp2_with fail
  go_loopw [5] (fun i wr => i = .int .i64 0 ∧ wr = w) (fun _ _ => 0)
  case atStart => exact ⟨rfl, rfl⟩
  case round =>
    obtain ⟨rfl, rfl⟩ := hrel
    go_wp2_with fail
    go_ret
    exact ⟨rfl, Below.refl _ _⟩
theorem same_any (v1 v2 : Value) (l : List (Int × Int)) (w1 w2 W : World) (hn : l.length ≤ 1000) (h1 : Row0 w1 W v1 l) (h2 : Row0 w2 W v2 l) :
    Calls Try.prog 52 #[v1, v2] W fun e w' => e = .returned (.bool true) ∧ Below W.heap.size W w' := by
  rcases h1 with ⟨hl, rfl⟩ | ⟨hl, g, cap, rfl, a2, a3, a4, a5, a6⟩
  · rcases h2 with ⟨_, rfl⟩ | ⟨hl', _⟩
    · exact SameSpans_nil W
    · exact absurd hl hl'
  · rcases h2 with ⟨hl', _⟩ | ⟨_, g2, cap2, rfl, b2, b3, b4, b5, b6⟩
    · exact absurd hl' hl
    · refine (SameSpans_true l g g2 cap cap2 W hn a4 b4 a6 b6).mono fun e w' ⟨he, q, hq⟩ => ⟨he, ?_⟩
      rw [hq]; exact below_drewN (Below.refl _ _) q
/-- both of them find the same -/
theorem both_means (p : Pap) (t : Pt) (c : Int) : ∃ er l, (∀ w, Calls Try.prog 46 #[p.v, t.v, .int .i64 c] w (MPost w er l)) ∧ (∀ w, Calls Try.prog 47 #[p.v, t.v, .int .i64 c] w (MPost w er l)) ∧ l.length ≤ 1000 := by
  by_cases h : ptE p t = 0
  · obtain ⟨h1, h2⟩ := ptE_iff.1 h
    by_cases hc : 0 ≤ c ∧ c ≤ p.cols - 1
    · obtain ⟨L, hL⟩ := hts_ex p t c h1 h2
      have hhi : hHi p t ≤ p.height := by unfold hHi; omega
      have hlo := acr_le h1 h2
      have ex : ∃ K1 K2 K3 K4, Ends p t c K1 K2 K3 K4 ∧ L = two K1 (K2 - 1) K3 (K4 - 1) := by
        rcases hL with ⟨hh, rfl⟩ | ⟨hh, K1, K2, K3, K4, hE, rfl⟩
        · refine ⟨hLo p t, hLo p t, max (hLo p t) (midOf p + 1), max (hLo p t) (midOf p + 1), ⟨.inl ⟨by omega, rfl, rfl⟩, .inl ⟨by omega, rfl, rfl⟩⟩, ?_⟩
          unfold two
          rw [if_neg (by omega), if_neg (by omega)]
          rfl
        · exact ⟨K1, K2, K3, K4, hE, rfl⟩
      obtain ⟨K1, K2, K3, K4, hE, rfl⟩ := ex
      obtain ⟨g1, g2⟩ := fk_low hE.below
      obtain ⟨J1, J2, g3, g4, j1, j2⟩ := high_ex h1 hlo.1 hhi hE.above
      have hord : K1 ≤ K2 - 1 → K3 ≤ K4 - 1 → K2 - 1 < K3 := by
        intro f1 f2
        have e1 := (sc_below hE.below (K2 - 1)).1 ⟨f1, Int.le_refl _⟩
        have e2 := (sc_above hE.above K3).1 ⟨Int.le_refl _, f2⟩
        omega
      have hm := means_two h1 hord
      have hll : meansOf p (two K1 (K2 - 1) K3 (K4 - 1)) = if K1 ≤ K2 - 1 then (if p.height - (J2 - 1) ≤ p.height - J1 then joinL [(lev p K1, lev p (K2 - 1))] (lev p (p.height - (J2 - 1)), lev p (p.height - J1)) else [(lev p K1, lev p (K2 - 1))]) else (if p.height - (J2 - 1) ≤ p.height - J1 then [(lev p (p.height - (J2 - 1)), lev p (p.height - J1))] else []) := by
        rw [hm]
        by_cases f2 : K3 ≤ K4 - 1
        · obtain ⟨x1, x2⟩ := j1 f2
          rw [x1, x2]
          simp only [if_pos f2]
          by_cases f1 : K1 ≤ K2 - 1
          · have f3 := hord f1 f2
            rw [if_pos f1, if_pos f1, joinL_one (lev_mono h1 (by omega)) (lev_mono h1 (by omega)) (lev_mono h1 f2)]
          · rw [if_neg f1, if_neg f1]
        · have x := j2 f2
          simp only [if_neg f2, if_neg (show ¬ p.height - (J2 - 1) ≤ p.height - J1 by omega)]
      refine ⟨0, _, fun w => (Means_ok p t c _ w h1 h2 hc hL).mono fun e w' ⟨v, he, hb, hr⟩ => ⟨v, he, hb, row0_of hr⟩, fun w => RMeans_ok p t c _ w h1 h2 hc (Lib.hid fun w => rmeans_core p t c K1 K2 J1 J2 _ w h1 h2 hc g1 g2 g3 g4 hll), ?_⟩
      rw [hm]
      by_cases f1 : K1 ≤ K2 - 1 <;> by_cases f2 : K3 ≤ K4 - 1 <;> by_cases f3 : lev p K3 - 1 ≤ lev p (K2 - 1) <;> simp [f1, f2, f3]
    · exact ⟨1, [], fun w => (Means_arg p t c w h1 h2 hc).mono fun e w' ⟨he, hb⟩ => ⟨_, he, hb, .inl ⟨rfl, rfl⟩⟩, fun w => (RMeans_arg p t c w h1 h2 hc).mono fun e w' ⟨he, hb⟩ => ⟨_, he, hb, .inl ⟨rfl, rfl⟩⟩, by simp⟩
  · exact ⟨ptE p t, [], fun w => (Means_err p t c w h).mono fun e w' ⟨he, hb⟩ => ⟨_, he, hb, .inl ⟨rfl, rfl⟩⟩, fun w => (RMeans_err p t c w h).mono fun e w' ⟨he, hb⟩ => ⟨_, he, hb, .inl ⟨rfl, rfl⟩⟩, by simp⟩
set_option maxRecDepth 100000 in
set_option maxHeartbeats 4000000 in
theorem means_core (p : Pap) (t : Pt) (c x y er : Int) (l : List (Int × Int)) (w : World) (hn : l.length ≤ 1000)
    (K1 : Hid (∀ w, Calls Try.prog 46 #[p.v, t.v, .int .i64 c] w (MPost w er l)))
    (K2 : Hid (∀ w, Calls Try.prog 47 #[p.v, t.v, .int .i64 c] w (MPost w er l))) :
    Calls Try.prog 6 #[p.v, t.v, .int .i64 c, .int .i64 x, .int .i64 y] w fun e w' => e = .returned (.bool true) ∧ Below w.heap.size w w' := by
  go_enter Try.func6, Try.ntmps6
  go_wp2_with fail
  refine (K1.out _).mono ?_
  rintro e w1 ⟨v1, rfl, hb1, hR1⟩
  have hB1_0 : HasPap (p) (w.heap.size) w1 := HasPap.up (by unfold HasPap; go_simp) hb1 (by (try simp only [World.size_alloc]); omega)
  have hB1_1 : HasPt (t) (w.heap.size + 1) w1 := HasPt.up (by unfold HasPt; go_simp) hb1 (by (try simp only [World.size_alloc]); omega)
  have C1 : Below w.heap.size w w1 := by
    refine Below.trans ?_ (hb1.mono ?_)
    · repeat' (first | with_reducible exact Below.refl _ _ | with_reducible exact Below.refl _ _ | with_reducible refine set1 ?_ (by omega) _ _ | with_reducible refine Below.alloc ?_ (by (try simp only [World.size_alloc]); omega) _ | with_reducible refine below_drewN ?_ _ | with_reducible refine Below.drew ?_)
    · (try simp only [World.size_alloc]); omega
  clear hb1
  unfold HasPap at hB1_0
  obtain ⟨f1_0_0, f1_0_1, f1_0_2, f1_0_3, f1_0_4, f1_0_5, f1_0_6, f1_0_7, f1_0_8, f1_0_9⟩ := hB1_0
  have z1_0 : w.heap.size < w1.heap.size := World.block_lt_of_cell? _ _ f1_0_0
  unfold HasPt at hB1_1
  obtain ⟨f1_1_0, f1_1_1, f1_1_2⟩ := hB1_1
  have z1_1 : w.heap.size + 1 < w1.heap.size := World.block_lt_of_cell? _ _ f1_1_0
  have zz1 := C1.size
  go_wp2_with fail
  refine (K2.out _).mono ?_
  rintro e w2 ⟨v2, rfl, hb2, hR2⟩
  have hB2_0 : HasPap (p) (w.heap.size) w2 := HasPap.up (by unfold HasPap; go_simp) hb2 (by (try simp only [World.size_alloc, World.size_setCell]); omega)
  have hB2_1 : HasPt (t) (w.heap.size + 1) w2 := HasPt.up (by unfold HasPt; go_simp) hb2 (by (try simp only [World.size_alloc, World.size_setCell]); omega)
  have C2 : Below w.heap.size w w2 := by
    refine Below.trans ?_ (hb2.mono ?_)
    · repeat' (first | with_reducible exact Below.refl _ _ | with_reducible exact C1 | with_reducible refine set1 ?_ (by omega) _ _ | with_reducible refine Below.alloc ?_ (by (try simp only [World.size_alloc, World.size_setCell]); omega) _ | with_reducible refine below_drewN ?_ _ | with_reducible refine Below.drew ?_)
    · (try simp only [World.size_alloc, World.size_setCell]); omega
  have hR1 := hR1.up hb2
  clear f1_0_0 f1_0_1 f1_0_2 f1_0_3 f1_0_4 f1_0_5 f1_0_6 f1_0_7 f1_0_8 f1_0_9 f1_1_0 f1_1_1 f1_1_2 hb2
  unfold HasPap at hB2_0
  obtain ⟨f2_0_0, f2_0_1, f2_0_2, f2_0_3, f2_0_4, f2_0_5, f2_0_6, f2_0_7, f2_0_8, f2_0_9⟩ := hB2_0
  have z2_0 : w.heap.size < w2.heap.size := World.block_lt_of_cell? _ _ f2_0_0
  unfold HasPt at hB2_1
  obtain ⟨f2_1_0, f2_1_1, f2_1_2⟩ := hB2_1
  have z2_1 : w.heap.size + 1 < w2.heap.size := World.block_lt_of_cell? _ _ f2_1_0
  have zz2 := C2.size
  go_wp2_with fail
  refine (Shrink_any p t x y _).mono ?_
  rintro e w3 ⟨rfl, hb3⟩
  have hB3_0 : HasPap (p) (w.heap.size) w3 := HasPap.up (by unfold HasPap; go_simp) hb3 (by (try simp only [World.size_alloc, World.size_setCell]); omega)
  have hB3_1 : HasPt (t) (w.heap.size + 1) w3 := HasPt.up (by unfold HasPt; go_simp) hb3 (by (try simp only [World.size_alloc, World.size_setCell]); omega)
  have C3 : Below w.heap.size w w3 := by
    refine Below.trans ?_ (hb3.mono ?_)
    · repeat' (first | with_reducible exact Below.refl _ _ | with_reducible exact C2 | with_reducible refine set1 ?_ (by omega) _ _ | with_reducible refine Below.alloc ?_ (by (try simp only [World.size_alloc, World.size_setCell]); omega) _ | with_reducible refine below_drewN ?_ _ | with_reducible refine Below.drew ?_)
    · (try simp only [World.size_alloc, World.size_setCell]); omega
  have hR1 := hR1.up hb3
  have hR2 := hR2.up hb3
  clear f2_0_0 f2_0_1 f2_0_2 f2_0_3 f2_0_4 f2_0_5 f2_0_6 f2_0_7 f2_0_8 f2_0_9 f2_1_0 f2_1_1 f2_1_2 hb3
  unfold HasPap at hB3_0
  obtain ⟨f3_0_0, f3_0_1, f3_0_2, f3_0_3, f3_0_4, f3_0_5, f3_0_6, f3_0_7, f3_0_8, f3_0_9⟩ := hB3_0
  have z3_0 : w.heap.size < w3.heap.size := World.block_lt_of_cell? _ _ f3_0_0
  unfold HasPt at hB3_1
  obtain ⟨f3_1_0, f3_1_1, f3_1_2⟩ := hB3_1
  have z3_1 : w.heap.size + 1 < w3.heap.size := World.block_lt_of_cell? _ _ f3_1_0
  have zz3 := C3.size
  go_wp2_with fail
  refine (RShr_any p t x y _).mono ?_
  rintro e w4 ⟨rfl, hb4⟩
  have hB4_0 : HasPap (p) (w.heap.size) w4 := HasPap.up (by unfold HasPap; go_simp) hb4 (by (try simp only [World.size_alloc]); omega)
  have hB4_1 : HasPt (t) (w.heap.size + 1) w4 := HasPt.up (by unfold HasPt; go_simp) hb4 (by (try simp only [World.size_alloc]); omega)
  have hB4_2 : HasPt (shP p t x y) (w3.heap.size) w4 := HasPt.up (by unfold HasPt; go_simp) hb4 (by (try simp only [World.size_alloc]); omega)
  have C4 : Below w.heap.size w w4 := by
    refine Below.trans ?_ (hb4.mono ?_)
    · repeat' (first | with_reducible exact Below.refl _ _ | with_reducible exact C3 | with_reducible refine set1 ?_ (by omega) _ _ | with_reducible refine Below.alloc ?_ (by (try simp only [World.size_alloc, World.size_setCell]); omega) _ | with_reducible refine below_drewN ?_ _ | with_reducible refine Below.drew ?_)
    · (try simp only [World.size_alloc]); omega
  have hR1 := (hR1.up (box1 w3 _)).up hb4
  have hR2 := (hR2.up (box1 w3 _)).up hb4
  clear f3_0_0 f3_0_1 f3_0_2 f3_0_3 f3_0_4 f3_0_5 f3_0_6 f3_0_7 f3_0_8 f3_0_9 f3_1_0 f3_1_1 f3_1_2 hb4
  unfold HasPap at hB4_0
  obtain ⟨f4_0_0, f4_0_1, f4_0_2, f4_0_3, f4_0_4, f4_0_5, f4_0_6, f4_0_7, f4_0_8, f4_0_9⟩ := hB4_0
  have z4_0 : w.heap.size < w4.heap.size := World.block_lt_of_cell? _ _ f4_0_0
  unfold HasPt at hB4_1
  obtain ⟨f4_1_0, f4_1_1, f4_1_2⟩ := hB4_1
  have z4_1 : w.heap.size + 1 < w4.heap.size := World.block_lt_of_cell? _ _ f4_1_0
  unfold HasPt at hB4_2
  obtain ⟨f4_2_0, f4_2_1, f4_2_2⟩ := hB4_2
  have z4_2 : w3.heap.size < w4.heap.size := World.block_lt_of_cell? _ _ f4_2_0
  have zz4 := C4.size
  go_wp2_with fail
  refine (PCal_any p x y t _).mono ?_
  rintro e w5 ⟨rfl, hb5⟩
  have hB5_0 : HasPap (p) (w.heap.size) w5 := HasPap.up (by unfold HasPap; go_simp) hb5 (by (try simp only [World.size_alloc]); omega)
  have hB5_1 : HasPt (t) (w.heap.size + 1) w5 := HasPt.up (by unfold HasPt; go_simp) hb5 (by (try simp only [World.size_alloc]); omega)
  have hB5_2 : HasPt (shP p t x y) (w3.heap.size) w5 := HasPt.up (by unfold HasPt; go_simp) hb5 (by (try simp only [World.size_alloc]); omega)
  have hB5_3 : HasPt (shP p t x y) (w4.heap.size) w5 := HasPt.up (by unfold HasPt; go_simp) hb5 (by (try simp only [World.size_alloc]); omega)
  have C5 : Below w.heap.size w w5 := by
    refine Below.trans ?_ (hb5.mono ?_)
    · repeat' (first | with_reducible exact Below.refl _ _ | with_reducible exact C4 | with_reducible refine set1 ?_ (by omega) _ _ | with_reducible refine Below.alloc ?_ (by (try simp only [World.size_alloc, World.size_setCell]); omega) _ | with_reducible refine below_drewN ?_ _ | with_reducible refine Below.drew ?_)
    · (try simp only [World.size_alloc]); omega
  have hR1 := (hR1.up (box1 w4 _)).up hb5
  have hR2 := (hR2.up (box1 w4 _)).up hb5
  clear f4_0_0 f4_0_1 f4_0_2 f4_0_3 f4_0_4 f4_0_5 f4_0_6 f4_0_7 f4_0_8 f4_0_9 f4_1_0 f4_1_1 f4_1_2 f4_2_0 f4_2_1 f4_2_2 hb5
  unfold HasPap at hB5_0
  obtain ⟨f5_0_0, f5_0_1, f5_0_2, f5_0_3, f5_0_4, f5_0_5, f5_0_6, f5_0_7, f5_0_8, f5_0_9⟩ := hB5_0
  have z5_0 : w.heap.size < w5.heap.size := World.block_lt_of_cell? _ _ f5_0_0
  unfold HasPt at hB5_1
  obtain ⟨f5_1_0, f5_1_1, f5_1_2⟩ := hB5_1
  have z5_1 : w.heap.size + 1 < w5.heap.size := World.block_lt_of_cell? _ _ f5_1_0
  unfold HasPt at hB5_2
  obtain ⟨f5_2_0, f5_2_1, f5_2_2⟩ := hB5_2
  have z5_2 : w3.heap.size < w5.heap.size := World.block_lt_of_cell? _ _ f5_2_0
  unfold HasPt at hB5_3
  obtain ⟨f5_3_0, f5_3_1, f5_3_2⟩ := hB5_3
  have z5_3 : w4.heap.size < w5.heap.size := World.block_lt_of_cell? _ _ f5_3_0
  have zz5 := C5.size
  go_wp2_with fail
  refine (RCal_any p x y t _).mono ?_
  rintro e w6 ⟨rfl, hb6⟩
  have hB6_0 : HasPap (p) (w.heap.size) w6 := HasPap.up (by unfold HasPap; go_simp) hb6 (by (try simp only [World.size_alloc]); omega)
  have hB6_1 : HasPt (t) (w.heap.size + 1) w6 := HasPt.up (by unfold HasPt; go_simp) hb6 (by (try simp only [World.size_alloc]); omega)
  have hB6_2 : HasPt (shP p t x y) (w3.heap.size) w6 := HasPt.up (by unfold HasPt; go_simp) hb6 (by (try simp only [World.size_alloc]); omega)
  have hB6_3 : HasPt (shP p t x y) (w4.heap.size) w6 := HasPt.up (by unfold HasPt; go_simp) hb6 (by (try simp only [World.size_alloc]); omega)
  have hB6_4 : HasPap (caP p x y t) (w5.heap.size) w6 := HasPap.up (by unfold HasPap; go_simp) hb6 (by (try simp only [World.size_alloc]); omega)
  have C6 : Below w.heap.size w w6 := by
    refine Below.trans ?_ (hb6.mono ?_)
    · repeat' (first | with_reducible exact Below.refl _ _ | with_reducible exact C5 | with_reducible refine set1 ?_ (by omega) _ _ | with_reducible refine Below.alloc ?_ (by (try simp only [World.size_alloc, World.size_setCell]); omega) _ | with_reducible refine below_drewN ?_ _ | with_reducible refine Below.drew ?_)
    · (try simp only [World.size_alloc]); omega
  have hR1 := (hR1.up (box1 w5 _)).up hb6
  have hR2 := (hR2.up (box1 w5 _)).up hb6
  clear f5_0_0 f5_0_1 f5_0_2 f5_0_3 f5_0_4 f5_0_5 f5_0_6 f5_0_7 f5_0_8 f5_0_9 f5_1_0 f5_1_1 f5_1_2 f5_2_0 f5_2_1 f5_2_2 f5_3_0 f5_3_1 f5_3_2 hb6
  unfold HasPap at hB6_0
  obtain ⟨f6_0_0, f6_0_1, f6_0_2, f6_0_3, f6_0_4, f6_0_5, f6_0_6, f6_0_7, f6_0_8, f6_0_9⟩ := hB6_0
  have z6_0 : w.heap.size < w6.heap.size := World.block_lt_of_cell? _ _ f6_0_0
  unfold HasPt at hB6_1
  obtain ⟨f6_1_0, f6_1_1, f6_1_2⟩ := hB6_1
  have z6_1 : w.heap.size + 1 < w6.heap.size := World.block_lt_of_cell? _ _ f6_1_0
  unfold HasPt at hB6_2
  obtain ⟨f6_2_0, f6_2_1, f6_2_2⟩ := hB6_2
  have z6_2 : w3.heap.size < w6.heap.size := World.block_lt_of_cell? _ _ f6_2_0
  unfold HasPt at hB6_3
  obtain ⟨f6_3_0, f6_3_1, f6_3_2⟩ := hB6_3
  have z6_3 : w4.heap.size < w6.heap.size := World.block_lt_of_cell? _ _ f6_3_0
  unfold HasPap at hB6_4
  obtain ⟨f6_4_0, f6_4_1, f6_4_2, f6_4_3, f6_4_4, f6_4_5, f6_4_6, f6_4_7, f6_4_8, f6_4_9⟩ := hB6_4
  have z6_4 : w5.heap.size < w6.heap.size := World.block_lt_of_cell? _ _ f6_4_0
  have zz6 := C6.size
  go_wp2_with fail
  refine (awake_any _).mono ?_
  rintro e w7 ⟨rfl, hb7⟩
  have hB7_0 : HasPap (p) (w.heap.size) w7 := HasPap.up (by unfold HasPap; go_simp) hb7 (by (try simp only [World.size_alloc]); omega)
  have hB7_1 : HasPt (t) (w.heap.size + 1) w7 := HasPt.up (by unfold HasPt; go_simp) hb7 (by (try simp only [World.size_alloc]); omega)
  have hB7_2 : HasPt (shP p t x y) (w3.heap.size) w7 := HasPt.up (by unfold HasPt; go_simp) hb7 (by (try simp only [World.size_alloc]); omega)
  have hB7_3 : HasPt (shP p t x y) (w4.heap.size) w7 := HasPt.up (by unfold HasPt; go_simp) hb7 (by (try simp only [World.size_alloc]); omega)
  have hB7_4 : HasPap (caP p x y t) (w5.heap.size) w7 := HasPap.up (by unfold HasPap; go_simp) hb7 (by (try simp only [World.size_alloc]); omega)
  have hB7_5 : HasPap (caP p x y t) (w6.heap.size) w7 := HasPap.up (by unfold HasPap; go_simp) hb7 (by (try simp only [World.size_alloc]); omega)
  have C7 : Below w.heap.size w w7 := by
    refine Below.trans ?_ (hb7.mono ?_)
    · repeat' (first | with_reducible exact Below.refl _ _ | with_reducible exact C6 | with_reducible refine set1 ?_ (by omega) _ _ | with_reducible refine Below.alloc ?_ (by (try simp only [World.size_alloc, World.size_setCell]); omega) _ | with_reducible refine below_drewN ?_ _ | with_reducible refine Below.drew ?_)
    · (try simp only [World.size_alloc]); omega
  have hR1 := (hR1.up (box1 w6 _)).up hb7
  have hR2 := (hR2.up (box1 w6 _)).up hb7
  clear f6_0_0 f6_0_1 f6_0_2 f6_0_3 f6_0_4 f6_0_5 f6_0_6 f6_0_7 f6_0_8 f6_0_9 f6_1_0 f6_1_1 f6_1_2 f6_2_0 f6_2_1 f6_2_2 f6_3_0 f6_3_1 f6_3_2 f6_4_0 f6_4_1 f6_4_2 f6_4_3 f6_4_4 f6_4_5 f6_4_6 f6_4_7 f6_4_8 f6_4_9 hb7
  unfold HasPap at hB7_0
  obtain ⟨f7_0_0, f7_0_1, f7_0_2, f7_0_3, f7_0_4, f7_0_5, f7_0_6, f7_0_7, f7_0_8, f7_0_9⟩ := hB7_0
  have z7_0 : w.heap.size < w7.heap.size := World.block_lt_of_cell? _ _ f7_0_0
  unfold HasPt at hB7_1
  obtain ⟨f7_1_0, f7_1_1, f7_1_2⟩ := hB7_1
  have z7_1 : w.heap.size + 1 < w7.heap.size := World.block_lt_of_cell? _ _ f7_1_0
  unfold HasPt at hB7_2
  obtain ⟨f7_2_0, f7_2_1, f7_2_2⟩ := hB7_2
  have z7_2 : w3.heap.size < w7.heap.size := World.block_lt_of_cell? _ _ f7_2_0
  unfold HasPt at hB7_3
  obtain ⟨f7_3_0, f7_3_1, f7_3_2⟩ := hB7_3
  have z7_3 : w4.heap.size < w7.heap.size := World.block_lt_of_cell? _ _ f7_3_0
  unfold HasPap at hB7_4
  obtain ⟨f7_4_0, f7_4_1, f7_4_2, f7_4_3, f7_4_4, f7_4_5, f7_4_6, f7_4_7, f7_4_8, f7_4_9⟩ := hB7_4
  have z7_4 : w5.heap.size < w7.heap.size := World.block_lt_of_cell? _ _ f7_4_0
  unfold HasPap at hB7_5
  obtain ⟨f7_5_0, f7_5_1, f7_5_2, f7_5_3, f7_5_4, f7_5_5, f7_5_6, f7_5_7, f7_5_8, f7_5_9⟩ := hB7_5
  have z7_5 : w6.heap.size < w7.heap.size := World.block_lt_of_cell? _ _ f7_5_0
  have zz7 := C7.size
  go_wp2_with fail
  refine (same_any v1 v2 l _ _ _ hn hR1 hR2).mono ?_
  rintro e w8 ⟨rfl, hb8⟩
  have hB8_0 : HasPap (p) (w.heap.size) w8 := HasPap.up (by unfold HasPap; go_simp) hb8 (by (try simp only [World.size_alloc, World.size_setCell]); omega)
  have hB8_1 : HasPt (t) (w.heap.size + 1) w8 := HasPt.up (by unfold HasPt; go_simp) hb8 (by (try simp only [World.size_alloc, World.size_setCell]); omega)
  have hB8_2 : HasPt (shP p t x y) (w3.heap.size) w8 := HasPt.up (by unfold HasPt; go_simp) hb8 (by (try simp only [World.size_alloc, World.size_setCell]); omega)
  have hB8_3 : HasPt (shP p t x y) (w4.heap.size) w8 := HasPt.up (by unfold HasPt; go_simp) hb8 (by (try simp only [World.size_alloc, World.size_setCell]); omega)
  have hB8_4 : HasPap (caP p x y t) (w5.heap.size) w8 := HasPap.up (by unfold HasPap; go_simp) hb8 (by (try simp only [World.size_alloc, World.size_setCell]); omega)
  have hB8_5 : HasPap (caP p x y t) (w6.heap.size) w8 := HasPap.up (by unfold HasPap; go_simp) hb8 (by (try simp only [World.size_alloc, World.size_setCell]); omega)
  have C8 : Below w.heap.size w w8 := by
    refine Below.trans ?_ (hb8.mono ?_)
    · repeat' (first | with_reducible exact Below.refl _ _ | with_reducible exact C7 | with_reducible refine set1 ?_ (by omega) _ _ | with_reducible refine Below.alloc ?_ (by (try simp only [World.size_alloc, World.size_setCell]); omega) _ | with_reducible refine below_drewN ?_ _ | with_reducible refine Below.drew ?_)
    · (try simp only [World.size_alloc, World.size_setCell]); omega
  clear f7_0_0 f7_0_1 f7_0_2 f7_0_3 f7_0_4 f7_0_5 f7_0_6 f7_0_7 f7_0_8 f7_0_9 f7_1_0 f7_1_1 f7_1_2 f7_2_0 f7_2_1 f7_2_2 f7_3_0 f7_3_1 f7_3_2 f7_4_0 f7_4_1 f7_4_2 f7_4_3 f7_4_4 f7_4_5 f7_4_6 f7_4_7 f7_4_8 f7_4_9 f7_5_0 f7_5_1 f7_5_2 f7_5_3 f7_5_4 f7_5_5 f7_5_6 f7_5_7 f7_5_8 f7_5_9 hb8
  unfold HasPap at hB8_0
  obtain ⟨f8_0_0, f8_0_1, f8_0_2, f8_0_3, f8_0_4, f8_0_5, f8_0_6, f8_0_7, f8_0_8, f8_0_9⟩ := hB8_0
  have z8_0 : w.heap.size < w8.heap.size := World.block_lt_of_cell? _ _ f8_0_0
  unfold HasPt at hB8_1
  obtain ⟨f8_1_0, f8_1_1, f8_1_2⟩ := hB8_1
  have z8_1 : w.heap.size + 1 < w8.heap.size := World.block_lt_of_cell? _ _ f8_1_0
  unfold HasPt at hB8_2
  obtain ⟨f8_2_0, f8_2_1, f8_2_2⟩ := hB8_2
  have z8_2 : w3.heap.size < w8.heap.size := World.block_lt_of_cell? _ _ f8_2_0
  unfold HasPt at hB8_3
  obtain ⟨f8_3_0, f8_3_1, f8_3_2⟩ := hB8_3
  have z8_3 : w4.heap.size < w8.heap.size := World.block_lt_of_cell? _ _ f8_3_0
  unfold HasPap at hB8_4
  obtain ⟨f8_4_0, f8_4_1, f8_4_2, f8_4_3, f8_4_4, f8_4_5, f8_4_6, f8_4_7, f8_4_8, f8_4_9⟩ := hB8_4
  have z8_4 : w5.heap.size < w8.heap.size := World.block_lt_of_cell? _ _ f8_4_0
  unfold HasPap at hB8_5
  obtain ⟨f8_5_0, f8_5_1, f8_5_2, f8_5_3, f8_5_4, f8_5_5, f8_5_6, f8_5_7, f8_5_8, f8_5_9⟩ := hB8_5
  have z8_5 : w6.heap.size < w8.heap.size := World.block_lt_of_cell? _ _ f8_5_0
  have zz8 := C8.size
  go_wp2_with fail
  go_ret
  exact ⟨rfl, C8⟩
theorem means_law (p : Pap) (t : Pt) (c x y : Int) (w : World) :
    Calls Try.prog 6 #[p.v, t.v, .int .i64 c, .int .i64 x, .int .i64 y] w fun e w' => e = .returned (.bool true) ∧ Below w.heap.size w w' := by
  obtain ⟨er, l, k1, k2, hn⟩ := both_means p t c
  exact means_core p t c x y er l w hn (Lib.hid k1) (Lib.hid k2)
theorem means.own : ownKnob Try.prog.godebug = none := by kernel_rfl
set_option maxRecDepth 100000 in
theorem means_lifted (os : Os) (started : os.Started) (H : Type) (enc : TypeId × Value → H) :
    ReturnsInHanded {} Try.checked os 6 .any (Rows.paperMeansSpec.pre6 enc Try.prog Try.f6 Rows.paperMeansRow.domain false) (Rows.paperMeansSpec.post enc Try.prog Try.f6 false true false false) := by
  refine returnsInHanded_of_change (C := Try.checked) means.own started (by kernel_rfl) Try.func6
    (ChangeSpec.witness6 (enc := enc) (C := Try.checked) false ⟨#[], #[.agg #[.int .i64 0, .int .i64 0, .int .i64 0, .int .i64 0, .int .i64 0, .int .i64 0, .int .i64 0, .int .i64 0, .int .i64 0, .int .i64 0], .agg #[.int .i64 0, .int .i64 0, .int .i64 0], .int .i64 0, .int .i64 0, .int .i64 0], []⟩ 8 (by kernel_rfl) (by kernel_rfl) (by kernel_rfl) (by kernel_rfl)) ?_
  intro W base args ds gs before hval0 hW hcnd _
  have hval : ∀ (j : Nat) t v, Try.f6.params[j]? = some t → args[j]? = some v → Value.okWide Try.prog W .any base t v := hval0
  have hW' := hW
  obtain ⟨p, q, hA0, hV, rfl, hfz, hnd⟩ := hW
  have hA : DataW.TrodAll enc Try.prog W 0 (fun _ => true) true Try.f6.params.toList args.toList ds p := hA0
  rw [Try.params6] at hA hval
  obtain ⟨v0, v1, v2, v3, v4, d0, d1, d2, d3, d4, p0, p1, p2, p3, p4, rfl, rfl, rfl, h0, h1, h2, h3, h4⟩ := trodAll_five hA
  obtain ⟨rfl, rfl⟩ := trodVars_none hV
  obtain ⟨a, rfl, rfl, rfl, wa⟩ := open_paper (hval 0 25 v0 rfl rfl) h0
  obtain ⟨b, rfl, rfl, rfl, wb⟩ := open_point (hval 1 44 v1 rfl rfl) h1
  obtain ⟨c, rfl, rfl, rfl, wc⟩ := open_int Try.underlying3 (hval 2 3 v2 rfl rfl) h2
  obtain ⟨d, rfl, rfl, rfl, wd⟩ := open_int Try.underlying3 (hval 3 3 v3 rfl rfl) h3
  obtain ⟨f, rfl, rfl, rfl, wf⟩ := open_int Try.underlying3 (hval 4 3 v4 rfl rfl) h4
  clear hA0 hval0
  simp only [List.append_nil] at hW'
  refine (means_law a b c d f W).mono fun e W' ⟨he, hw⟩ => ?_
  subst he
  exact ⟨_, rfl, [a.d, b.d, .lit (.int .i64 c), .lit (.int .i64 d), .lit (.int .i64 f)], [], _, [], [], [], hW', trodAll_mk1 (shut_bool Try.underlying4 true), trodAll_mk5 (shut_paper a wa) (shut_point b wb) (shut_int Try.underlying3 wc) (shut_int Try.underlying3 wd) (shut_int Try.underlying3 wf), rfl, hw.frame _, fun h => by cases h⟩
theorem means_holds : Rows.PaperMeansSaid :=
  OpenClaim.holds_of_wide 6 Try.f6 rfl rfl rfl rfl rfl rfl rfl ⟨rfl, rfl, rfl, rfl, rfl⟩ rfl rfl rfl rfl rfl (by kernel_rfl) Try.func6 (by kernel_rfl)
    (of_decide_eq_true (by kernel_rfl)) (by unfold Func.isWrapper; first | (rw [if_pos (by decide +kernel)]; kernel_rfl) | (rw [if_neg (by decide +kernel)]; exact ⟨rfl, rfl⟩))
    (fun os started H enc _ => means_lifted os started H enc)
end Go.Proofs.Ytmeljcbefnojfaa
