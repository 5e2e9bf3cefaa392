import Derived.Test.YtmeljcbefnojfaaExw
import Derived.Test.YtmeljcbefnojfaaExe
import Derived.Test.YtmeljcbefnojfaaMee
import Derived.Test.YtmeljcbefnojfaaAwa
import Derived.Test.YtmeljcbefnojfaaPld
import Derived.Test.YtmeljcbefnojfaaClm
import Derived.Deep.DeepCutAuto
namespace Go.Proofs.Ytmeljcbefnojfaa
open Go.RowKit
set_option maxRecDepth 100000 in
set_option maxHeartbeats 4000000 in
theorem ex_row (p : Pap) (t : Pt) (x y c s1 s2 r1 r2 a n e4 e5 c1 c2 e6 : Int) (l : List (Int × Int)) (w : World)
    (K1 : Hid (∀ w, Calls Try.prog 32 #[p.v, t.v] w fun e w' => e = .returned (.tuple #[.agg #[.int .i64 s1, .int .i64 s2], .int .i64 0]) ∧ Below w.heap.size w w'))
    (K2 : Hid (∀ w, Calls Try.prog 34 #[p.v, t.v] w fun e w' => e = .returned (.tuple #[.agg #[.int .i64 r1, .int .i64 r2], .int .i64 0]) ∧ Below w.heap.size w w'))
    (K3 : Hid (∀ w, Calls Try.prog 46 #[p.v, t.v, .int .i64 c] w (MPost w 0 l)))
    (K4 : Hid (∀ w, Calls Try.prog 40 #[p.v, .int .i64 y] w fun e w' => e = .returned (.tuple #[.int .i64 a, .int .i64 e4]) ∧ Below w.heap.size w w'))
    (K5 : Hid (∀ w, Calls Try.prog 42 #[p.v, .int .i64 y] w fun e w' => e = .returned (.tuple #[.int .i64 n, .int .i64 e5]) ∧ Below w.heap.size w w'))
    (K6 : Hid (∀ w, Calls Try.prog 36 #[p.v, t.v] w fun e w' => e = .returned (.tuple #[.agg #[.int .i64 c1, .int .i64 c2], .int .i64 e6]) ∧ Below w.heap.size w w'))
    (NH : Hid (e4 = 0 → e5 = 0 → s1 ≤ x → x ≤ s2 → r1 ≤ y → y ≤ r2 → (x - a) / p.pitch = c → ∃ s ∈ l, s.1 ≤ n ∧ n ≤ s.2))
    (HX : Hid (e4 = 0 → s1 ≤ x → x ≤ s2 → -100000000000 ≤ x - a ∧ x - a ≤ 100000000000)) (hpi : 1 ≤ p.pitch ∧ p.pitch ≤ 10000) (hcn : 1 ≤ p.high - p.low ∧ p.high - p.low ≤ 12000) (hlw : 0 ≤ p.low ∧ p.high ≤ 12000) (hht : 1 ≤ p.height ∧ p.height ≤ 400000)
    (hne : l ≠ []) (hl2 : l.length ≤ 2) (g6 : e6 = 0 ∧ c1 ≤ c ∧ c ≤ c2)
    (hsm : ∀ s ∈ l, SmE s)
    (HWT : Hid (∀ s ∈ l, ∀ w, (WT p s1 s2 r1 r2 c w s.1 true) ∧ (WT p s1 s2 r1 r2 c w s.2 true) ∧ (WT p s1 s2 r1 r2 c w (s.1 - 1) false) ∧ (WT p s1 s2 r1 r2 c w (s.2 + 1) false))) :
    Calls Try.prog 11 #[p.v, t.v, .int .i64 x, .int .i64 y, .int .i64 c] w fun e w' => e = .returned (.bool true) ∧ Below w.heap.size w w' := by
  obtain ⟨pi1, pi2⟩ := hpi
  obtain ⟨cn1, cn2⟩ := hcn
  obtain ⟨lw1, lw2⟩ := hlw
  obtain ⟨ht1, ht2⟩ := hht
  obtain ⟨z0, z1, z2⟩ := g6
  have k0 : (e6 == 0) = true := by simp [z0]
  have k1 : decide (c1 ≤ c) = true := by simp [z1]
  have k2 : decide (c ≤ c2) = true := by simp [z2]
  have HSM := Lib.hid hsm
  have HNE := Lib.hid hne
  have hl0 : 0 < l.length := List.length_pos_iff.2 hne
  clear z0 z1 z2 hsm hne
  go_enter Try.func11, Try.ntmps11
  go_wp2_with fail
  refine (awake_any _).mono ?_
  rintro e w1 ⟨rfl, hb1⟩
  have hB1_0 : HasPap (p) (w.heap.size) w1 := HasPap.up (by unfold HasPap; go_simp) hb1 (by (try simp only [World.size_alloc]); omega)
  have hB1_1 : HasPt (t) (w.heap.size + 1) w1 := HasPt.up (by unfold HasPt; go_simp) hb1 (by (try simp only [World.size_alloc]); omega)
  have C1 : Below w.heap.size w w1 := by
    refine Below.trans ?_ (hb1.mono ?_)
    · repeat' (first | with_reducible exact Below.refl _ _ | with_reducible exact Below.refl _ _ | with_reducible refine set1 ?_ (by omega) _ _ | with_reducible refine Below.alloc ?_ (by (try simp only [World.size_alloc]); omega) _ | with_reducible refine below_drewN ?_ _ | with_reducible refine Below.drew ?_)
    · (try simp only [World.size_alloc]); omega
  clear hb1
  unfold HasPap at hB1_0
  obtain ⟨f1_0_0, f1_0_1, f1_0_2, f1_0_3, f1_0_4, f1_0_5, f1_0_6, f1_0_7, f1_0_8, f1_0_9⟩ := hB1_0
  have z1_0 : w.heap.size < w1.heap.size := World.block_lt_of_cell? _ _ f1_0_0
  unfold HasPt at hB1_1
  obtain ⟨f1_1_0, f1_1_1, f1_1_2⟩ := hB1_1
  have z1_1 : w.heap.size + 1 < w1.heap.size := World.block_lt_of_cell? _ _ f1_1_0
  have zz1 := C1.size
  go_wp2_with fail
  refine (K1.out _).mono ?_
  rintro e w2 ⟨rfl, hb2⟩
  have hB2_0 : HasPap (p) (w.heap.size) w2 := HasPap.up (by unfold HasPap; go_simp) hb2 (by (try simp only [World.size_alloc, World.size_setCell]); omega)
  have hB2_1 : HasPt (t) (w.heap.size + 1) w2 := HasPt.up (by unfold HasPt; go_simp) hb2 (by (try simp only [World.size_alloc, World.size_setCell]); omega)
  have C2 : Below w.heap.size w w2 := by
    refine Below.trans ?_ (hb2.mono ?_)
    · repeat' (first | with_reducible exact Below.refl _ _ | with_reducible exact C1 | with_reducible refine set1 ?_ (by omega) _ _ | with_reducible refine Below.alloc ?_ (by (try simp only [World.size_alloc, World.size_setCell]); omega) _ | with_reducible refine below_drewN ?_ _ | with_reducible refine Below.drew ?_)
    · (try simp only [World.size_alloc, World.size_setCell]); omega
  clear f1_0_0 f1_0_1 f1_0_2 f1_0_3 f1_0_4 f1_0_5 f1_0_6 f1_0_7 f1_0_8 f1_0_9 f1_1_0 f1_1_1 f1_1_2 hb2
  unfold HasPap at hB2_0
  obtain ⟨f2_0_0, f2_0_1, f2_0_2, f2_0_3, f2_0_4, f2_0_5, f2_0_6, f2_0_7, f2_0_8, f2_0_9⟩ := hB2_0
  have z2_0 : w.heap.size < w2.heap.size := World.block_lt_of_cell? _ _ f2_0_0
  unfold HasPt at hB2_1
  obtain ⟨f2_1_0, f2_1_1, f2_1_2⟩ := hB2_1
  have z2_1 : w.heap.size + 1 < w2.heap.size := World.block_lt_of_cell? _ _ f2_1_0
  have zz2 := C2.size
  go_wp2_with fail
  refine (K2.out _).mono ?_
  rintro e w3 ⟨rfl, hb3⟩
  have hB3_0 : HasPap (p) (w.heap.size) w3 := HasPap.up (by unfold HasPap; go_simp) hb3 (by (try simp only [World.size_alloc]); omega)
  have hB3_1 : HasPt (t) (w.heap.size + 1) w3 := HasPt.up (by unfold HasPt; go_simp) hb3 (by (try simp only [World.size_alloc]); omega)
  have hB3_2 : HasSp (s1) (s2) (w2.heap.size) w3 := HasSp.up (by unfold HasSp; go_simp) hb3 (by (try simp only [World.size_alloc]); omega)
  have C3 : Below w.heap.size w w3 := by
    refine Below.trans ?_ (hb3.mono ?_)
    · repeat' (first | with_reducible exact Below.refl _ _ | with_reducible exact C2 | with_reducible refine set1 ?_ (by omega) _ _ | with_reducible refine Below.alloc ?_ (by (try simp only [World.size_alloc, World.size_setCell]); omega) _ | with_reducible refine below_drewN ?_ _ | with_reducible refine Below.drew ?_)
    · (try simp only [World.size_alloc]); omega
  clear f2_0_0 f2_0_1 f2_0_2 f2_0_3 f2_0_4 f2_0_5 f2_0_6 f2_0_7 f2_0_8 f2_0_9 f2_1_0 f2_1_1 f2_1_2 hb3
  unfold HasPap at hB3_0
  obtain ⟨f3_0_0, f3_0_1, f3_0_2, f3_0_3, f3_0_4, f3_0_5, f3_0_6, f3_0_7, f3_0_8, f3_0_9⟩ := hB3_0
  have z3_0 : w.heap.size < w3.heap.size := World.block_lt_of_cell? _ _ f3_0_0
  unfold HasPt at hB3_1
  obtain ⟨f3_1_0, f3_1_1, f3_1_2⟩ := hB3_1
  have z3_1 : w.heap.size + 1 < w3.heap.size := World.block_lt_of_cell? _ _ f3_1_0
  unfold HasSp at hB3_2
  obtain ⟨f3_2_0, f3_2_1⟩ := hB3_2
  have z3_2 : w2.heap.size < w3.heap.size := World.block_lt_of_cell? _ _ f3_2_0
  have zz3 := C3.size
  go_wp2_with fail
  refine (K3.out _).mono ?_
  rintro e w4 ⟨v, rfl, hb4, hR⟩
  have hB4_0 : HasPap (p) (w.heap.size) w4 := HasPap.up (by unfold HasPap; go_simp) hb4 (by (try simp only [World.size_alloc]); omega)
  have hB4_1 : HasPt (t) (w.heap.size + 1) w4 := HasPt.up (by unfold HasPt; go_simp) hb4 (by (try simp only [World.size_alloc]); omega)
  have hB4_2 : HasSp (s1) (s2) (w2.heap.size) w4 := HasSp.up (by unfold HasSp; go_simp) hb4 (by (try simp only [World.size_alloc]); omega)
  have hB4_3 : HasSp (r1) (r2) (w3.heap.size) w4 := HasSp.up (by unfold HasSp; go_simp) hb4 (by (try simp only [World.size_alloc]); omega)
  have C4 : Below w.heap.size w w4 := by
    refine Below.trans ?_ (hb4.mono ?_)
    · repeat' (first | with_reducible exact Below.refl _ _ | with_reducible exact C3 | with_reducible refine set1 ?_ (by omega) _ _ | with_reducible refine Below.alloc ?_ (by (try simp only [World.size_alloc, World.size_setCell]); omega) _ | with_reducible refine below_drewN ?_ _ | with_reducible refine Below.drew ?_)
    · (try simp only [World.size_alloc]); omega
  clear f3_0_0 f3_0_1 f3_0_2 f3_0_3 f3_0_4 f3_0_5 f3_0_6 f3_0_7 f3_0_8 f3_0_9 f3_1_0 f3_1_1 f3_1_2 f3_2_0 f3_2_1 hb4
  unfold HasPap at hB4_0
  obtain ⟨f4_0_0, f4_0_1, f4_0_2, f4_0_3, f4_0_4, f4_0_5, f4_0_6, f4_0_7, f4_0_8, f4_0_9⟩ := hB4_0
  have z4_0 : w.heap.size < w4.heap.size := World.block_lt_of_cell? _ _ f4_0_0
  unfold HasPt at hB4_1
  obtain ⟨f4_1_0, f4_1_1, f4_1_2⟩ := hB4_1
  have z4_1 : w.heap.size + 1 < w4.heap.size := World.block_lt_of_cell? _ _ f4_1_0
  unfold HasSp at hB4_2
  obtain ⟨f4_2_0, f4_2_1⟩ := hB4_2
  have z4_2 : w2.heap.size < w4.heap.size := World.block_lt_of_cell? _ _ f4_2_0
  unfold HasSp at hB4_3
  obtain ⟨f4_3_0, f4_3_1⟩ := hB4_3
  have z4_3 : w3.heap.size < w4.heap.size := World.block_lt_of_cell? _ _ f4_3_0
  have zz4 := C4.size
  go_wp2_with fail
  refine (K4.out _).mono ?_
  rintro e w5 ⟨rfl, hb5⟩
  have hB5_0 : HasPap (p) (w.heap.size) w5 := HasPap.up (by unfold HasPap; go_simp) hb5 (by (try simp only [World.size_alloc, World.size_setCell]); omega)
  have hB5_1 : HasPt (t) (w.heap.size + 1) w5 := HasPt.up (by unfold HasPt; go_simp) hb5 (by (try simp only [World.size_alloc, World.size_setCell]); omega)
  have hB5_2 : HasSp (s1) (s2) (w2.heap.size) w5 := HasSp.up (by unfold HasSp; go_simp) hb5 (by (try simp only [World.size_alloc, World.size_setCell]); omega)
  have hB5_3 : HasSp (r1) (r2) (w3.heap.size) w5 := HasSp.up (by unfold HasSp; go_simp) hb5 (by (try simp only [World.size_alloc, World.size_setCell]); omega)
  have C5 : Below w.heap.size w w5 := by
    refine Below.trans ?_ (hb5.mono ?_)
    · repeat' (first | with_reducible exact Below.refl _ _ | with_reducible exact C4 | with_reducible refine set1 ?_ (by omega) _ _ | with_reducible refine Below.alloc ?_ (by (try simp only [World.size_alloc, World.size_setCell]); omega) _ | with_reducible refine below_drewN ?_ _ | with_reducible refine Below.drew ?_)
    · (try simp only [World.size_alloc, World.size_setCell]); omega
  have hR := hR.up hb5
  clear f4_0_0 f4_0_1 f4_0_2 f4_0_3 f4_0_4 f4_0_5 f4_0_6 f4_0_7 f4_0_8 f4_0_9 f4_1_0 f4_1_1 f4_1_2 f4_2_0 f4_2_1 f4_3_0 f4_3_1 hb5
  unfold HasPap at hB5_0
  obtain ⟨f5_0_0, f5_0_1, f5_0_2, f5_0_3, f5_0_4, f5_0_5, f5_0_6, f5_0_7, f5_0_8, f5_0_9⟩ := hB5_0
  have z5_0 : w.heap.size < w5.heap.size := World.block_lt_of_cell? _ _ f5_0_0
  unfold HasPt at hB5_1
  obtain ⟨f5_1_0, f5_1_1, f5_1_2⟩ := hB5_1
  have z5_1 : w.heap.size + 1 < w5.heap.size := World.block_lt_of_cell? _ _ f5_1_0
  unfold HasSp at hB5_2
  obtain ⟨f5_2_0, f5_2_1⟩ := hB5_2
  have z5_2 : w2.heap.size < w5.heap.size := World.block_lt_of_cell? _ _ f5_2_0
  unfold HasSp at hB5_3
  obtain ⟨f5_3_0, f5_3_1⟩ := hB5_3
  have z5_3 : w3.heap.size < w5.heap.size := World.block_lt_of_cell? _ _ f5_3_0
  have zz5 := C5.size
  go_wp2_with fail
  refine (K5.out _).mono ?_
  rintro e w6 ⟨rfl, hb6⟩
  have hB6_0 : HasPap (p) (w.heap.size) w6 := HasPap.up (by unfold HasPap; go_simp) hb6 (by (try simp only [World.size_alloc, World.size_setCell]); omega)
  have hB6_1 : HasPt (t) (w.heap.size + 1) w6 := HasPt.up (by unfold HasPt; go_simp) hb6 (by (try simp only [World.size_alloc, World.size_setCell]); omega)
  have hB6_2 : HasSp (s1) (s2) (w2.heap.size) w6 := HasSp.up (by unfold HasSp; go_simp) hb6 (by (try simp only [World.size_alloc, World.size_setCell]); omega)
  have hB6_3 : HasSp (r1) (r2) (w3.heap.size) w6 := HasSp.up (by unfold HasSp; go_simp) hb6 (by (try simp only [World.size_alloc, World.size_setCell]); omega)
  have C6 : Below w.heap.size w w6 := by
    refine Below.trans ?_ (hb6.mono ?_)
    · repeat' (first | with_reducible exact Below.refl _ _ | with_reducible exact C5 | with_reducible refine set1 ?_ (by omega) _ _ | with_reducible refine Below.alloc ?_ (by (try simp only [World.size_alloc, World.size_setCell]); omega) _ | with_reducible refine below_drewN ?_ _ | with_reducible refine Below.drew ?_)
    · (try simp only [World.size_alloc, World.size_setCell]); omega
  have hR := hR.up hb6
  clear f5_0_0 f5_0_1 f5_0_2 f5_0_3 f5_0_4 f5_0_5 f5_0_6 f5_0_7 f5_0_8 f5_0_9 f5_1_0 f5_1_1 f5_1_2 f5_2_0 f5_2_1 f5_3_0 f5_3_1 hb6
  unfold HasPap at hB6_0
  obtain ⟨f6_0_0, f6_0_1, f6_0_2, f6_0_3, f6_0_4, f6_0_5, f6_0_6, f6_0_7, f6_0_8, f6_0_9⟩ := hB6_0
  have z6_0 : w.heap.size < w6.heap.size := World.block_lt_of_cell? _ _ f6_0_0
  unfold HasPt at hB6_1
  obtain ⟨f6_1_0, f6_1_1, f6_1_2⟩ := hB6_1
  have z6_1 : w.heap.size + 1 < w6.heap.size := World.block_lt_of_cell? _ _ f6_1_0
  unfold HasSp at hB6_2
  obtain ⟨f6_2_0, f6_2_1⟩ := hB6_2
  have z6_2 : w2.heap.size < w6.heap.size := World.block_lt_of_cell? _ _ f6_2_0
  unfold HasSp at hB6_3
  obtain ⟨f6_3_0, f6_3_1⟩ := hB6_3
  have z6_3 : w3.heap.size < w6.heap.size := World.block_lt_of_cell? _ _ f6_3_0
  have zz6 := C6.size
  skip
  rcases hR with ⟨hz, _⟩ | ⟨_, g, cap, rfl, b1, b2, hc, hcm, u⟩
  · exact absurd hz HNE.out
  have H6 := Lib.hid u
  clear u
  have hcm1 : cap ≤ 9223372036854775807 := by unfold maxLen at hcm; omega
  go_upto_region 9 with fail
  go_cut [113] (fun v wx => v = .bool false ∧ wx = w6)
  case first =>
    by_cases g0 : e4 = 0
    rotate_left
    · have d0 : (e4 == 0) = false := by simp [g0]
      clear g0
      go_wp2_with fail
      go_meet
      exact ⟨rfl, rfl⟩
    have d0 : (e4 == 0) = true := by simp [g0]
    by_cases g1 : e5 = 0
    rotate_left
    · have d1 : (e5 == 0) = false := by simp [g1]
      clear g0 g1
      go_wp2_with fail
      go_meet
      exact ⟨rfl, rfl⟩
    have d1 : (e5 == 0) = true := by simp [g1]
    by_cases g2 : s1 ≤ x
    rotate_left
    · have d2 : decide (s1 ≤ x) = false := by simp [g2] <;> omega
      clear g0 g1 g2
      go_wp2_with fail
      go_meet
      exact ⟨rfl, rfl⟩
    have d2 : decide (s1 ≤ x) = true := by simp [g2] <;> omega
    by_cases g3 : x ≤ s2
    rotate_left
    · have d3 : decide (x ≤ s2) = false := by simp [g3] <;> omega
      clear g0 g1 g2 g3
      go_wp2_with fail
      go_meet
      exact ⟨rfl, rfl⟩
    have d3 : decide (x ≤ s2) = true := by simp [g3] <;> omega
    by_cases g4 : r1 ≤ y
    rotate_left
    · have d4 : decide (r1 ≤ y) = false := by simp [g4] <;> omega
      clear g0 g1 g2 g3 g4
      go_wp2_with fail
      go_meet
      exact ⟨rfl, rfl⟩
    have d4 : decide (r1 ≤ y) = true := by simp [g4] <;> omega
    by_cases g5 : y ≤ r2
    rotate_left
    · have d5 : decide (y ≤ r2) = false := by simp [g5] <;> omega
      clear g0 g1 g2 g3 g4 g5
      go_wp2_with fail
      go_meet
      exact ⟨rfl, rfl⟩
    have d5 : decide (y ≤ r2) = true := by simp [g5] <;> omega
    by_cases g6 : (x - a) / p.pitch = c
    rotate_left
    · have d6 : ((x - a) / p.pitch == c) = false := by simp [g6]
      obtain ⟨xb1, xb2⟩ := HX.out g0 g2 g3
      clear g0 g1 g2 g3 g4 g5 g6
      go_wp2_with (go_at_call 62; refine (lfloor_any _ _ _ (by omega) (by omega) (by omega) (by omega)).mono ?_; rintro e w' ⟨rfl, rfl⟩)
      go_meet
      exact ⟨rfl, rfl⟩
    have d6 : ((x - a) / p.pitch == c) = true := by simp [g6]
    have hh := NH.out g0 g1 g2 g3 g4 g5 g6
    have HAS := Lib.hid fun W u => has_row l n g cap W hc hcm u hh
    obtain ⟨xb1, xb2⟩ := HX.out g0 g2 g3
    clear g0 g1 g2 g3 g4 g5 g6 hh
    go_wp2_with (first | (go_at_call 62; refine (lfloor_any _ _ _ (by omega) (by omega) (by omega) (by omega)).mono ?_; rintro e w' ⟨rfl, rfl⟩) | (go_at_call 63; ((with_reducible refine (HAS.out _ H6.out).mono ?_); rintro e w' ⟨rfl, rfl⟩)))
    go_meet
    exact ⟨rfl, rfl⟩
  case rest =>
    obtain ⟨rfl, rfl⟩ := hcut
    go_wp2_with fail
    refine (K6.out _).mono ?_
    rintro e w7 ⟨rfl, hb7⟩
    have hB7_0 : HasPap (p) (w.heap.size) w7 := HasPap.up (by unfold HasPap; go_simp) hb7 (by (try simp only [World.size_alloc, World.size_setCell]); omega)
    have hB7_1 : HasPt (t) (w.heap.size + 1) w7 := HasPt.up (by unfold HasPt; go_simp) hb7 (by (try simp only [World.size_alloc, World.size_setCell]); omega)
    have hB7_2 : HasSp (s1) (s2) (w2.heap.size) w7 := HasSp.up (by unfold HasSp; go_simp) hb7 (by (try simp only [World.size_alloc, World.size_setCell]); omega)
    have hB7_3 : HasSp (r1) (r2) (w3.heap.size) w7 := HasSp.up (by unfold HasSp; go_simp) hb7 (by (try simp only [World.size_alloc, World.size_setCell]); omega)
    have C7 : Below w.heap.size w w7 := by
      refine Below.trans ?_ (hb7.mono ?_)
      · repeat' (first | with_reducible exact Below.refl _ _ | with_reducible exact C6 | with_reducible refine set1 ?_ (by omega) _ _ | with_reducible refine Below.alloc ?_ (by (try simp only [World.size_alloc, World.size_setCell]); omega) _ | with_reducible refine below_drewN ?_ _ | with_reducible refine Below.drew ?_)
      · (try simp only [World.size_alloc, World.size_setCell]); omega
    have U7 := Lib.hid fun (i : Nat) (s : Int × Int) (hs : l[i]? = some s) => And.intro (cell_up hb7 b2 (H6.out i s hs).1) (cell_up hb7 b2 (H6.out i s hs).2)
    have b7 := Nat.lt_of_lt_of_le b2 hb7.size
    clear f6_0_0 f6_0_1 f6_0_2 f6_0_3 f6_0_4 f6_0_5 f6_0_6 f6_0_7 f6_0_8 f6_0_9 f6_1_0 f6_1_1 f6_1_2 f6_2_0 f6_2_1 f6_3_0 f6_3_1 hb7
    unfold HasPap at hB7_0
    obtain ⟨f7_0_0, f7_0_1, f7_0_2, f7_0_3, f7_0_4, f7_0_5, f7_0_6, f7_0_7, f7_0_8, f7_0_9⟩ := hB7_0
    have z7_0 : w.heap.size < w7.heap.size := World.block_lt_of_cell? _ _ f7_0_0
    unfold HasPt at hB7_1
    obtain ⟨f7_1_0, f7_1_1, f7_1_2⟩ := hB7_1
    have z7_1 : w.heap.size + 1 < w7.heap.size := World.block_lt_of_cell? _ _ f7_1_0
    unfold HasSp at hB7_2
    obtain ⟨f7_2_0, f7_2_1⟩ := hB7_2
    have z7_2 : w2.heap.size < w7.heap.size := World.block_lt_of_cell? _ _ f7_2_0
    unfold HasSp at hB7_3
    obtain ⟨f7_3_0, f7_3_1⟩ := hB7_3
    have z7_3 : w3.heap.size < w7.heap.size := World.block_lt_of_cell? _ _ f7_3_0
    have zz7 := C7.size
    skip
    by_cases hq : p.height / (p.high - p.low) > 3000
    · have d9 : decide (p.height / (p.high - p.low) > 3000) = true := by simp; omega
      go_wp2_with fail
      go_ret
      exact ⟨rfl, C7.alloc C7.size _⟩
    have d9 : decide (p.height / (p.high - p.low) > 3000) = false := by simp; omega
    generalize hnn : l.length = nn at *
    have HN := Lib.hid hnn
    clear hnn
    go_wp2_with fail
    go_loopw [24] (fun i wr => ∃ k : Nat, k ≤ nn ∧ i = .int .i64 k ∧ Below w7.heap.size w7 wr) (fun i _ => nn - (intOf i).toNat)
    case atStart => exact ⟨0, Nat.zero_le _, rfl, box1 _ _⟩
    case round =>
      obtain ⟨k, hk, rfl, hB⟩ := hrel
      have hzB := hB.size
      by_cases hlt : k < nn
      · have hs : l[k]? = some (l[k]'(by rw [HN.out]; exact hlt)) := List.getElem?_eq_getElem _
        generalize l[k]'(by rw [HN.out]; exact hlt) = s at hs
        have hm := List.mem_of_getElem? hs
        obtain ⟨sm1, sm2, sm3, sm4⟩ := HSM.out s hm
        obtain ⟨u0, u1⟩ := U7.out k s hs
        have u0 := cell_up hB b7 u0
        have u1 := cell_up hB b7 u1
        have W0 : Hid (∀ w, Calls Try.prog 64 #[p.v, .agg #[.int .i64 s1, .int .i64 s2], .agg #[.int .i64 r1, .int .i64 r2], .int .i64 s.1, .int .i64 c] w fun e w' => e = .returned (.bool true) ∧ Below w.heap.size w w') := Lib.hid fun w => (HWT.out s hm w).1
        have W1 : Hid (∀ w, Calls Try.prog 64 #[p.v, .agg #[.int .i64 s1, .int .i64 s2], .agg #[.int .i64 r1, .int .i64 r2], .int .i64 s.2, .int .i64 c] w fun e w' => e = .returned (.bool true) ∧ Below w.heap.size w w') := Lib.hid fun w => (HWT.out s hm w).2.1
        have W2 : Hid (∀ w, Calls Try.prog 64 #[p.v, .agg #[.int .i64 s1, .int .i64 s2], .agg #[.int .i64 r1, .int .i64 r2], .int .i64 (s.1 - 1), .int .i64 c] w fun e w' => e = .returned (.bool false) ∧ Below w.heap.size w w') := Lib.hid fun w => (HWT.out s hm w).2.2.1
        have W3 : Hid (∀ w, Calls Try.prog 64 #[p.v, .agg #[.int .i64 s1, .int .i64 s2], .agg #[.int .i64 r1, .int .i64 r2], .int .i64 (s.2 + 1), .int .i64 c] w fun e w' => e = .returned (.bool false) ∧ Below w.heap.size w w') := Lib.hid fun w => (HWT.out s hm w).2.2.2
        have hT0 : HasPap (p) (w.heap.size) wr := HasPap.up (by unfold HasPap; exact ⟨f7_0_0, f7_0_1, f7_0_2, f7_0_3, f7_0_4, f7_0_5, f7_0_6, f7_0_7, f7_0_8, f7_0_9⟩) hB (by omega)
        have hT1 : HasPt (t) (w.heap.size + 1) wr := HasPt.up (by unfold HasPt; exact ⟨f7_1_0, f7_1_1, f7_1_2⟩) hB (by omega)
        have hT2 : HasSp (s1) (s2) (w2.heap.size) wr := HasSp.up (by unfold HasSp; exact ⟨f7_2_0, f7_2_1⟩) hB (by omega)
        have hT3 : HasSp (r1) (r2) (w3.heap.size) wr := HasSp.up (by unfold HasSp; exact ⟨f7_3_0, f7_3_1⟩) hB (by omega)
        clear f7_0_0 f7_0_1 f7_0_2 f7_0_3 f7_0_4 f7_0_5 f7_0_6 f7_0_7 f7_0_8 f7_0_9 f7_1_0 f7_1_1 f7_1_2 f7_2_0 f7_2_1 f7_3_0 f7_3_1 hs hm
        unfold HasPap at hT0
        obtain ⟨m0_0, m0_1, m0_2, m0_3, m0_4, m0_5, m0_6, m0_7, m0_8, m0_9⟩ := hT0
        unfold HasPt at hT1
        obtain ⟨m1_0, m1_1, m1_2⟩ := hT1
        unfold HasSp at hT2
        obtain ⟨m2_0, m2_1⟩ := hT2
        unfold HasSp at hT3
        obtain ⟨m3_0, m3_1⟩ := hT3
        have hki : (k : Int) < (nn : Int) := by omega
        have hk0 : (0 : Int) ≤ (k : Int) := by omega
        obtain ⟨wo, rfl⟩ : ∃ wo : World, wo = wr := ⟨_, rfl⟩
        have x1 : IntKind.i64.wrap (s.1 - 1) = s.1 - 1 := IntWalk.i64_in _ (by omega)
        have x2 : IntKind.i64.wrap (s.2 + 1) = s.2 + 1 := IntWalk.i64_in _ (by omega)
        go_wp2_with fail
        go_region_held3 (fun w' => w'.cell? ⟨w.heap.size, 0, none⟩ = some (.int .i64 p.pitch) ∧ w'.cell? ⟨w.heap.size, 1, none⟩ = some (.int .i64 p.height) ∧ w'.cell? ⟨w.heap.size, 2, none⟩ = some (.int .i64 p.radius) ∧ w'.cell? ⟨w.heap.size, 3, none⟩ = some (.int .i64 p.low) ∧ w'.cell? ⟨w.heap.size, 4, none⟩ = some (.int .i64 p.high) ∧ w'.cell? ⟨w.heap.size, 5, none⟩ = some (.int .i64 p.cols) ∧ w'.cell? ⟨w.heap.size, 6, none⟩ = some (.int .i64 p.al) ∧ w'.cell? ⟨w.heap.size, 7, none⟩ = some (.int .i64 p.ah) ∧ w'.cell? ⟨w.heap.size, 8, none⟩ = some (.int .i64 p.cl) ∧ w'.cell? ⟨w.heap.size, 9, none⟩ = some (.int .i64 p.ch) ∧ w'.cell? ⟨w2.heap.size, 0, none⟩ = some (.int .i64 (s1)) ∧ w'.cell? ⟨w2.heap.size, 1, none⟩ = some (.int .i64 (s2)) ∧ w'.cell? ⟨w3.heap.size, 0, none⟩ = some (.int .i64 (r1)) ∧ w'.cell? ⟨w3.heap.size, 1, none⟩ = some (.int .i64 (r2)) ∧ w'.cell? ⟨g, k * 2, none⟩ = some (.int .i64 s.1) ∧ w'.cell? ⟨g, k * 2 + 1, none⟩ = some (.int .i64 s.2) ∧ Below w7.heap.size w7 w' ∧ wo.heap.size ≤ w'.heap.size)
    (first
      | (go_split_ands; (repeat' apply And.intro); all_goals first | assumption | (go_simp; done) | exact hB.drew | ((try simp only [World.size_drew, World.size_alloc]); omega))
      | (go_split_ands; (repeat' apply And.intro); all_goals first | exact cell_up hbA (by first | omega | ((try simp only [World.size_drew]); omega)) (by assumption) | exact Below.trans (by assumption) (hbA.mono (by first | omega | ((try simp only [World.size_drew, World.size_alloc, World.size_setCell]); omega))) | (have := hbA.size; first | omega | ((try simp only [World.size_drew] at this); omega)))
      | (go_split_ands; (repeat' apply And.intro); all_goals first | exact cell_up hbB (by first | omega | ((try simp only [World.size_drew, World.size_alloc, World.size_setCell]); omega)) (by assumption) | exact Below.trans (by assumption) (hbB.mono (by first | omega | ((try simp only [World.size_drew]); omega))) | (have := hbB.size; first | omega | ((try simp only [World.size_drew, World.size_alloc] at this); omega)))
      | (go_split_ands; (repeat' apply And.intro); all_goals first | exact cell_up hbC (by first | omega | ((try simp only [World.size_drew, World.size_alloc, World.size_setCell]); omega)) (by assumption) | exact Below.trans (by assumption) (hbC.mono (by first | omega | ((try simp only [World.size_drew, World.size_alloc, World.size_setCell]); omega))) | (have := hbC.size; first | omega | ((try simp only [World.size_drew, World.size_alloc] at this); omega)))
      | (go_split_ands; (repeat' apply And.intro); all_goals first | exact cell_up hbD (by first | omega | ((try simp only [World.size_drew, World.size_alloc, World.size_setCell]); omega)) (by assumption) | exact Below.trans (by assumption) (hbD.mono (by first | omega | ((try simp only [World.size_drew, World.size_alloc, World.size_setCell]); omega))) | (have := hbD.size; first | omega | ((try simp only [World.size_drew, World.size_alloc] at this); omega)))
      | (go_split_ands; (repeat' apply And.intro); all_goals first | assumption | (go_simp; done)))
          (first | (go_at_call 64; ((with_reducible refine (W0.out _).mono ?_); rintro e wa ⟨rfl, hbA⟩)) | (go_at_call 64; ((with_reducible refine (W1.out _).mono ?_); rintro e wb ⟨rfl, hbB⟩)) | (go_at_call 64; ((with_reducible refine (W2.out _).mono ?_); rintro e wc ⟨rfl, hbC⟩)) | (go_at_call 64; ((with_reducible refine (W3.out _).mono ?_); rintro e wd ⟨rfl, hbD⟩)))
        all_goals
          go_wp2_with fail
          exact ⟨⟨k + 1, by omega, by go_num, by go_split_ands; assumption⟩, by simp [intOf]; omega⟩
      · go_wp2_with fail
        go_ret
        exact ⟨rfl, C7.trans (hB.mono C7.size)⟩
end Go.Proofs.Ytmeljcbefnojfaa
