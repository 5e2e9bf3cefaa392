/- The law PaperPlaces returns true for every paper and every point, and leaves its arguments as they were; no condition. -/
import Derived.Test.YtmeljcbefnojfaaOpp
import Derived.Test.YtmeljcbefnojfaaPlf
namespace Go.Proofs.Ytmeljcbefnojfaa
open Go.ChangeShapes Go.WideShapes Go.ChangeAt Go.RowKit
set_option maxRecDepth 100000 in
set_option maxHeartbeats 4000000 in
theorem places_law (p : Pap) (t : Pt) (w : World) :
    Calls Try.prog 4 #[p.v, t.v] w fun e w' => e = .returned (.bool true) ∧ Below w.heap.size w w' := by
  go_enter Try.func4, Try.ntmps4
  go_wp2_with fail
  refine (PAlong_any p t _).mono ?_
  rintro e w1 ⟨rfl, hb1⟩
  have hB1_0 : HasPap (p) (w.heap.size) w1 := HasPap.up (by unfold HasPap; go_simp) hb1 (by (try simp only [World.size_alloc]); omega)
  have hB1_1 : HasPt (t) (w.heap.size + 1) w1 := HasPt.up (by unfold HasPt; go_simp) hb1 (by (try simp only [World.size_alloc]); omega)
  have C1 : Below w.heap.size w w1 := by
    refine Below.trans ?_ (hb1.mono ?_)
    · repeat' (first | with_reducible exact Below.refl _ _ | with_reducible exact Below.refl _ _ | with_reducible refine set1 ?_ (by omega) _ _ | with_reducible refine Below.alloc ?_ (by (try simp only [World.size_alloc]); omega) _ | with_reducible refine below_drewN ?_ _ | with_reducible refine Below.drew ?_)
    · (try simp only [World.size_alloc]); omega
  clear hb1
  unfold HasPap at hB1_0
  obtain ⟨f1_0_0, f1_0_1, f1_0_2, f1_0_3, f1_0_4, f1_0_5, f1_0_6, f1_0_7, f1_0_8, f1_0_9⟩ := hB1_0
  have z1_0 : w.heap.size < w1.heap.size := World.block_lt_of_cell? _ _ f1_0_0
  unfold HasPt at hB1_1
  obtain ⟨f1_1_0, f1_1_1, f1_1_2⟩ := hB1_1
  have z1_1 : w.heap.size + 1 < w1.heap.size := World.block_lt_of_cell? _ _ f1_1_0
  have zz1 := C1.size
  go_wp2_with fail
  refine (RAlong_any p t _).mono ?_
  rintro e w2 ⟨rfl, hb2⟩
  have hB2_0 : HasPap (p) (w.heap.size) w2 := HasPap.up (by unfold HasPap; go_simp) hb2 (by (try simp only [World.size_alloc]); omega)
  have hB2_1 : HasPt (t) (w.heap.size + 1) w2 := HasPt.up (by unfold HasPt; go_simp) hb2 (by (try simp only [World.size_alloc]); omega)
  have hB2_2 : HasSp (pv p t (alongLo p t)) (pv p t (alongHi p t)) (w1.heap.size) w2 := HasSp.up (by unfold HasSp; go_simp) hb2 (by (try simp only [World.size_alloc]); omega)
  have C2 : Below w.heap.size w w2 := by
    refine Below.trans ?_ (hb2.mono ?_)
    · repeat' (first | with_reducible exact Below.refl _ _ | with_reducible exact C1 | with_reducible refine set1 ?_ (by omega) _ _ | with_reducible refine Below.alloc ?_ (by (try simp only [World.size_alloc, World.size_setCell]); omega) _ | with_reducible refine below_drewN ?_ _ | with_reducible refine Below.drew ?_)
    · (try simp only [World.size_alloc]); omega
  clear f1_0_0 f1_0_1 f1_0_2 f1_0_3 f1_0_4 f1_0_5 f1_0_6 f1_0_7 f1_0_8 f1_0_9 f1_1_0 f1_1_1 f1_1_2 hb2
  unfold HasPap at hB2_0
  obtain ⟨f2_0_0, f2_0_1, f2_0_2, f2_0_3, f2_0_4, f2_0_5, f2_0_6, f2_0_7, f2_0_8, f2_0_9⟩ := hB2_0
  have z2_0 : w.heap.size < w2.heap.size := World.block_lt_of_cell? _ _ f2_0_0
  unfold HasPt at hB2_1
  obtain ⟨f2_1_0, f2_1_1, f2_1_2⟩ := hB2_1
  have z2_1 : w.heap.size + 1 < w2.heap.size := World.block_lt_of_cell? _ _ f2_1_0
  unfold HasSp at hB2_2
  obtain ⟨f2_2_0, f2_2_1⟩ := hB2_2
  have z2_2 : w1.heap.size < w2.heap.size := World.block_lt_of_cell? _ _ f2_2_0
  have zz2 := C2.size
  go_wp2_with fail
  refine (PAcross_any p t _).mono ?_
  rintro e w3 ⟨rfl, hb3⟩
  have hB3_0 : HasPap (p) (w.heap.size) w3 := HasPap.up (by unfold HasPap; go_simp) hb3 (by (try simp only [World.size_alloc]); omega)
  have hB3_1 : HasPt (t) (w.heap.size + 1) w3 := HasPt.up (by unfold HasPt; go_simp) hb3 (by (try simp only [World.size_alloc]); omega)
  have hB3_2 : HasSp (pv p t (alongLo p t)) (pv p t (alongHi p t)) (w1.heap.size) w3 := HasSp.up (by unfold HasSp; go_simp) hb3 (by (try simp only [World.size_alloc]); omega)
  have hB3_3 : HasSp (pv p t (alongLo p t)) (pv p t (alongHi p t)) (w2.heap.size) w3 := HasSp.up (by unfold HasSp; go_simp) hb3 (by (try simp only [World.size_alloc]); omega)
  have C3 : Below w.heap.size w w3 := by
    refine Below.trans ?_ (hb3.mono ?_)
    · repeat' (first | with_reducible exact Below.refl _ _ | with_reducible exact C2 | with_reducible refine set1 ?_ (by omega) _ _ | with_reducible refine Below.alloc ?_ (by (try simp only [World.size_alloc, World.size_setCell]); omega) _ | with_reducible refine below_drewN ?_ _ | with_reducible refine Below.drew ?_)
    · (try simp only [World.size_alloc]); omega
  clear f2_0_0 f2_0_1 f2_0_2 f2_0_3 f2_0_4 f2_0_5 f2_0_6 f2_0_7 f2_0_8 f2_0_9 f2_1_0 f2_1_1 f2_1_2 f2_2_0 f2_2_1 hb3
  unfold HasPap at hB3_0
  obtain ⟨f3_0_0, f3_0_1, f3_0_2, f3_0_3, f3_0_4, f3_0_5, f3_0_6, f3_0_7, f3_0_8, f3_0_9⟩ := hB3_0
  have z3_0 : w.heap.size < w3.heap.size := World.block_lt_of_cell? _ _ f3_0_0
  unfold HasPt at hB3_1
  obtain ⟨f3_1_0, f3_1_1, f3_1_2⟩ := hB3_1
  have z3_1 : w.heap.size + 1 < w3.heap.size := World.block_lt_of_cell? _ _ f3_1_0
  unfold HasSp at hB3_2
  obtain ⟨f3_2_0, f3_2_1⟩ := hB3_2
  have z3_2 : w1.heap.size < w3.heap.size := World.block_lt_of_cell? _ _ f3_2_0
  unfold HasSp at hB3_3
  obtain ⟨f3_3_0, f3_3_1⟩ := hB3_3
  have z3_3 : w2.heap.size < w3.heap.size := World.block_lt_of_cell? _ _ f3_3_0
  have zz3 := C3.size
  go_wp2_with fail
  refine (RAcross_any p t _).mono ?_
  rintro e w4 ⟨rfl, hb4⟩
  have hB4_0 : HasPap (p) (w.heap.size) w4 := HasPap.up (by unfold HasPap; go_simp) hb4 (by (try simp only [World.size_alloc]); omega)
  have hB4_1 : HasPt (t) (w.heap.size + 1) w4 := HasPt.up (by unfold HasPt; go_simp) hb4 (by (try simp only [World.size_alloc]); omega)
  have hB4_2 : HasSp (pv p t (alongLo p t)) (pv p t (alongHi p t)) (w1.heap.size) w4 := HasSp.up (by unfold HasSp; go_simp) hb4 (by (try simp only [World.size_alloc]); omega)
  have hB4_3 : HasSp (pv p t (alongLo p t)) (pv p t (alongHi p t)) (w2.heap.size) w4 := HasSp.up (by unfold HasSp; go_simp) hb4 (by (try simp only [World.size_alloc]); omega)
  have hB4_4 : HasSp (pv p t (acrossLo p t)) (pv p t (acrossHi p t)) (w3.heap.size) w4 := HasSp.up (by unfold HasSp; go_simp) hb4 (by (try simp only [World.size_alloc]); omega)
  have C4 : Below w.heap.size w w4 := by
    refine Below.trans ?_ (hb4.mono ?_)
    · repeat' (first | with_reducible exact Below.refl _ _ | with_reducible exact C3 | with_reducible refine set1 ?_ (by omega) _ _ | with_reducible refine Below.alloc ?_ (by (try simp only [World.size_alloc, World.size_setCell]); omega) _ | with_reducible refine below_drewN ?_ _ | with_reducible refine Below.drew ?_)
    · (try simp only [World.size_alloc]); omega
  clear f3_0_0 f3_0_1 f3_0_2 f3_0_3 f3_0_4 f3_0_5 f3_0_6 f3_0_7 f3_0_8 f3_0_9 f3_1_0 f3_1_1 f3_1_2 f3_2_0 f3_2_1 f3_3_0 f3_3_1 hb4
  unfold HasPap at hB4_0
  obtain ⟨f4_0_0, f4_0_1, f4_0_2, f4_0_3, f4_0_4, f4_0_5, f4_0_6, f4_0_7, f4_0_8, f4_0_9⟩ := hB4_0
  have z4_0 : w.heap.size < w4.heap.size := World.block_lt_of_cell? _ _ f4_0_0
  unfold HasPt at hB4_1
  obtain ⟨f4_1_0, f4_1_1, f4_1_2⟩ := hB4_1
  have z4_1 : w.heap.size + 1 < w4.heap.size := World.block_lt_of_cell? _ _ f4_1_0
  unfold HasSp at hB4_2
  obtain ⟨f4_2_0, f4_2_1⟩ := hB4_2
  have z4_2 : w1.heap.size < w4.heap.size := World.block_lt_of_cell? _ _ f4_2_0
  unfold HasSp at hB4_3
  obtain ⟨f4_3_0, f4_3_1⟩ := hB4_3
  have z4_3 : w2.heap.size < w4.heap.size := World.block_lt_of_cell? _ _ f4_3_0
  unfold HasSp at hB4_4
  obtain ⟨f4_4_0, f4_4_1⟩ := hB4_4
  have z4_4 : w3.heap.size < w4.heap.size := World.block_lt_of_cell? _ _ f4_4_0
  have zz4 := C4.size
  go_wp2_with fail
  refine (Columns_any p t _).mono ?_
  rintro e w5 ⟨rfl, hb5⟩
  have hB5_0 : HasPap (p) (w.heap.size) w5 := HasPap.up (by unfold HasPap; go_simp) hb5 (by (try simp only [World.size_alloc]); omega)
  have hB5_1 : HasPt (t) (w.heap.size + 1) w5 := HasPt.up (by unfold HasPt; go_simp) hb5 (by (try simp only [World.size_alloc]); omega)
  have hB5_2 : HasSp (pv p t (alongLo p t)) (pv p t (alongHi p t)) (w1.heap.size) w5 := HasSp.up (by unfold HasSp; go_simp) hb5 (by (try simp only [World.size_alloc]); omega)
  have hB5_3 : HasSp (pv p t (alongLo p t)) (pv p t (alongHi p t)) (w2.heap.size) w5 := HasSp.up (by unfold HasSp; go_simp) hb5 (by (try simp only [World.size_alloc]); omega)
  have hB5_4 : HasSp (pv p t (acrossLo p t)) (pv p t (acrossHi p t)) (w3.heap.size) w5 := HasSp.up (by unfold HasSp; go_simp) hb5 (by (try simp only [World.size_alloc]); omega)
  have hB5_5 : HasSp (pv p t (acrossLo p t)) (pv p t (acrossHi p t)) (w4.heap.size) w5 := HasSp.up (by unfold HasSp; go_simp) hb5 (by (try simp only [World.size_alloc]); omega)
  have C5 : Below w.heap.size w w5 := by
    refine Below.trans ?_ (hb5.mono ?_)
    · repeat' (first | with_reducible exact Below.refl _ _ | with_reducible exact C4 | with_reducible refine set1 ?_ (by omega) _ _ | with_reducible refine Below.alloc ?_ (by (try simp only [World.size_alloc, World.size_setCell]); omega) _ | with_reducible refine below_drewN ?_ _ | with_reducible refine Below.drew ?_)
    · (try simp only [World.size_alloc]); omega
  clear f4_0_0 f4_0_1 f4_0_2 f4_0_3 f4_0_4 f4_0_5 f4_0_6 f4_0_7 f4_0_8 f4_0_9 f4_1_0 f4_1_1 f4_1_2 f4_2_0 f4_2_1 f4_3_0 f4_3_1 f4_4_0 f4_4_1 hb5
  unfold HasPap at hB5_0
  obtain ⟨f5_0_0, f5_0_1, f5_0_2, f5_0_3, f5_0_4, f5_0_5, f5_0_6, f5_0_7, f5_0_8, f5_0_9⟩ := hB5_0
  have z5_0 : w.heap.size < w5.heap.size := World.block_lt_of_cell? _ _ f5_0_0
  unfold HasPt at hB5_1
  obtain ⟨f5_1_0, f5_1_1, f5_1_2⟩ := hB5_1
  have z5_1 : w.heap.size + 1 < w5.heap.size := World.block_lt_of_cell? _ _ f5_1_0
  unfold HasSp at hB5_2
  obtain ⟨f5_2_0, f5_2_1⟩ := hB5_2
  have z5_2 : w1.heap.size < w5.heap.size := World.block_lt_of_cell? _ _ f5_2_0
  unfold HasSp at hB5_3
  obtain ⟨f5_3_0, f5_3_1⟩ := hB5_3
  have z5_3 : w2.heap.size < w5.heap.size := World.block_lt_of_cell? _ _ f5_3_0
  unfold HasSp at hB5_4
  obtain ⟨f5_4_0, f5_4_1⟩ := hB5_4
  have z5_4 : w3.heap.size < w5.heap.size := World.block_lt_of_cell? _ _ f5_4_0
  unfold HasSp at hB5_5
  obtain ⟨f5_5_0, f5_5_1⟩ := hB5_5
  have z5_5 : w4.heap.size < w5.heap.size := World.block_lt_of_cell? _ _ f5_5_0
  have zz5 := C5.size
  go_wp2_with fail
  refine (RColumns_any p t _).mono ?_
  rintro e w6 ⟨rfl, hb6⟩
  have hB6_0 : HasPap (p) (w.heap.size) w6 := HasPap.up (by unfold HasPap; go_simp) hb6 (by (try simp only [World.size_alloc]); omega)
  have hB6_1 : HasPt (t) (w.heap.size + 1) w6 := HasPt.up (by unfold HasPt; go_simp) hb6 (by (try simp only [World.size_alloc]); omega)
  have hB6_2 : HasSp (pv p t (alongLo p t)) (pv p t (alongHi p t)) (w1.heap.size) w6 := HasSp.up (by unfold HasSp; go_simp) hb6 (by (try simp only [World.size_alloc]); omega)
  have hB6_3 : HasSp (pv p t (alongLo p t)) (pv p t (alongHi p t)) (w2.heap.size) w6 := HasSp.up (by unfold HasSp; go_simp) hb6 (by (try simp only [World.size_alloc]); omega)
  have hB6_4 : HasSp (pv p t (acrossLo p t)) (pv p t (acrossHi p t)) (w3.heap.size) w6 := HasSp.up (by unfold HasSp; go_simp) hb6 (by (try simp only [World.size_alloc]); omega)
  have hB6_5 : HasSp (pv p t (acrossLo p t)) (pv p t (acrossHi p t)) (w4.heap.size) w6 := HasSp.up (by unfold HasSp; go_simp) hb6 (by (try simp only [World.size_alloc]); omega)
  have hB6_6 : HasSp (clLo p t) (clHi p t) (w5.heap.size) w6 := HasSp.up (by unfold HasSp; go_simp) hb6 (by (try simp only [World.size_alloc]); omega)
  have C6 : Below w.heap.size w w6 := by
    refine Below.trans ?_ (hb6.mono ?_)
    · repeat' (first | with_reducible exact Below.refl _ _ | with_reducible exact C5 | with_reducible refine set1 ?_ (by omega) _ _ | with_reducible refine Below.alloc ?_ (by (try simp only [World.size_alloc, World.size_setCell]); omega) _ | with_reducible refine below_drewN ?_ _ | with_reducible refine Below.drew ?_)
    · (try simp only [World.size_alloc]); omega
  clear f5_0_0 f5_0_1 f5_0_2 f5_0_3 f5_0_4 f5_0_5 f5_0_6 f5_0_7 f5_0_8 f5_0_9 f5_1_0 f5_1_1 f5_1_2 f5_2_0 f5_2_1 f5_3_0 f5_3_1 f5_4_0 f5_4_1 f5_5_0 f5_5_1 hb6
  unfold HasPap at hB6_0
  obtain ⟨f6_0_0, f6_0_1, f6_0_2, f6_0_3, f6_0_4, f6_0_5, f6_0_6, f6_0_7, f6_0_8, f6_0_9⟩ := hB6_0
  have z6_0 : w.heap.size < w6.heap.size := World.block_lt_of_cell? _ _ f6_0_0
  unfold HasPt at hB6_1
  obtain ⟨f6_1_0, f6_1_1, f6_1_2⟩ := hB6_1
  have z6_1 : w.heap.size + 1 < w6.heap.size := World.block_lt_of_cell? _ _ f6_1_0
  unfold HasSp at hB6_2
  obtain ⟨f6_2_0, f6_2_1⟩ := hB6_2
  have z6_2 : w1.heap.size < w6.heap.size := World.block_lt_of_cell? _ _ f6_2_0
  unfold HasSp at hB6_3
  obtain ⟨f6_3_0, f6_3_1⟩ := hB6_3
  have z6_3 : w2.heap.size < w6.heap.size := World.block_lt_of_cell? _ _ f6_3_0
  unfold HasSp at hB6_4
  obtain ⟨f6_4_0, f6_4_1⟩ := hB6_4
  have z6_4 : w3.heap.size < w6.heap.size := World.block_lt_of_cell? _ _ f6_4_0
  unfold HasSp at hB6_5
  obtain ⟨f6_5_0, f6_5_1⟩ := hB6_5
  have z6_5 : w4.heap.size < w6.heap.size := World.block_lt_of_cell? _ _ f6_5_0
  unfold HasSp at hB6_6
  obtain ⟨f6_6_0, f6_6_1⟩ := hB6_6
  have z6_6 : w5.heap.size < w6.heap.size := World.block_lt_of_cell? _ _ f6_6_0
  have zz6 := C6.size
  go_wp2_with fail
  refine (PLevels_any p t _).mono ?_
  rintro e w7 ⟨rfl, hb7⟩
  have hB7_0 : HasPap (p) (w.heap.size) w7 := HasPap.up (by unfold HasPap; go_simp) hb7 (by (try simp only [World.size_alloc]); omega)
  have hB7_1 : HasPt (t) (w.heap.size + 1) w7 := HasPt.up (by unfold HasPt; go_simp) hb7 (by (try simp only [World.size_alloc]); omega)
  have hB7_2 : HasSp (pv p t (alongLo p t)) (pv p t (alongHi p t)) (w1.heap.size) w7 := HasSp.up (by unfold HasSp; go_simp) hb7 (by (try simp only [World.size_alloc]); omega)
  have hB7_3 : HasSp (pv p t (alongLo p t)) (pv p t (alongHi p t)) (w2.heap.size) w7 := HasSp.up (by unfold HasSp; go_simp) hb7 (by (try simp only [World.size_alloc]); omega)
  have hB7_4 : HasSp (pv p t (acrossLo p t)) (pv p t (acrossHi p t)) (w3.heap.size) w7 := HasSp.up (by unfold HasSp; go_simp) hb7 (by (try simp only [World.size_alloc]); omega)
  have hB7_5 : HasSp (pv p t (acrossLo p t)) (pv p t (acrossHi p t)) (w4.heap.size) w7 := HasSp.up (by unfold HasSp; go_simp) hb7 (by (try simp only [World.size_alloc]); omega)
  have hB7_6 : HasSp (clLo p t) (clHi p t) (w5.heap.size) w7 := HasSp.up (by unfold HasSp; go_simp) hb7 (by (try simp only [World.size_alloc]); omega)
  have hB7_7 : HasSp (clLo p t) (clHi p t) (w6.heap.size) w7 := HasSp.up (by unfold HasSp; go_simp) hb7 (by (try simp only [World.size_alloc]); omega)
  have C7 : Below w.heap.size w w7 := by
    refine Below.trans ?_ (hb7.mono ?_)
    · repeat' (first | with_reducible exact Below.refl _ _ | with_reducible exact C6 | with_reducible refine set1 ?_ (by omega) _ _ | with_reducible refine Below.alloc ?_ (by (try simp only [World.size_alloc, World.size_setCell]); omega) _ | with_reducible refine below_drewN ?_ _ | with_reducible refine Below.drew ?_)
    · (try simp only [World.size_alloc]); omega
  clear f6_0_0 f6_0_1 f6_0_2 f6_0_3 f6_0_4 f6_0_5 f6_0_6 f6_0_7 f6_0_8 f6_0_9 f6_1_0 f6_1_1 f6_1_2 f6_2_0 f6_2_1 f6_3_0 f6_3_1 f6_4_0 f6_4_1 f6_5_0 f6_5_1 f6_6_0 f6_6_1 hb7
  unfold HasPap at hB7_0
  obtain ⟨f7_0_0, f7_0_1, f7_0_2, f7_0_3, f7_0_4, f7_0_5, f7_0_6, f7_0_7, f7_0_8, f7_0_9⟩ := hB7_0
  have z7_0 : w.heap.size < w7.heap.size := World.block_lt_of_cell? _ _ f7_0_0
  unfold HasPt at hB7_1
  obtain ⟨f7_1_0, f7_1_1, f7_1_2⟩ := hB7_1
  have z7_1 : w.heap.size + 1 < w7.heap.size := World.block_lt_of_cell? _ _ f7_1_0
  unfold HasSp at hB7_2
  obtain ⟨f7_2_0, f7_2_1⟩ := hB7_2
  have z7_2 : w1.heap.size < w7.heap.size := World.block_lt_of_cell? _ _ f7_2_0
  unfold HasSp at hB7_3
  obtain ⟨f7_3_0, f7_3_1⟩ := hB7_3
  have z7_3 : w2.heap.size < w7.heap.size := World.block_lt_of_cell? _ _ f7_3_0
  unfold HasSp at hB7_4
  obtain ⟨f7_4_0, f7_4_1⟩ := hB7_4
  have z7_4 : w3.heap.size < w7.heap.size := World.block_lt_of_cell? _ _ f7_4_0
  unfold HasSp at hB7_5
  obtain ⟨f7_5_0, f7_5_1⟩ := hB7_5
  have z7_5 : w4.heap.size < w7.heap.size := World.block_lt_of_cell? _ _ f7_5_0
  unfold HasSp at hB7_6
  obtain ⟨f7_6_0, f7_6_1⟩ := hB7_6
  have z7_6 : w5.heap.size < w7.heap.size := World.block_lt_of_cell? _ _ f7_6_0
  unfold HasSp at hB7_7
  obtain ⟨f7_7_0, f7_7_1⟩ := hB7_7
  have z7_7 : w6.heap.size < w7.heap.size := World.block_lt_of_cell? _ _ f7_7_0
  have zz7 := C7.size
  go_wp2_with fail
  refine (RLevels_any p t _).mono ?_
  rintro e w8 ⟨rfl, hb8⟩
  have hB8_0 : HasPap (p) (w.heap.size) w8 := HasPap.up (by unfold HasPap; go_simp) hb8 (by (try simp only [World.size_alloc]); omega)
  have hB8_1 : HasPt (t) (w.heap.size + 1) w8 := HasPt.up (by unfold HasPt; go_simp) hb8 (by (try simp only [World.size_alloc]); omega)
  have hB8_2 : HasSp (pv p t (alongLo p t)) (pv p t (alongHi p t)) (w1.heap.size) w8 := HasSp.up (by unfold HasSp; go_simp) hb8 (by (try simp only [World.size_alloc]); omega)
  have hB8_3 : HasSp (pv p t (alongLo p t)) (pv p t (alongHi p t)) (w2.heap.size) w8 := HasSp.up (by unfold HasSp; go_simp) hb8 (by (try simp only [World.size_alloc]); omega)
  have hB8_4 : HasSp (pv p t (acrossLo p t)) (pv p t (acrossHi p t)) (w3.heap.size) w8 := HasSp.up (by unfold HasSp; go_simp) hb8 (by (try simp only [World.size_alloc]); omega)
  have hB8_5 : HasSp (pv p t (acrossLo p t)) (pv p t (acrossHi p t)) (w4.heap.size) w8 := HasSp.up (by unfold HasSp; go_simp) hb8 (by (try simp only [World.size_alloc]); omega)
  have hB8_6 : HasSp (clLo p t) (clHi p t) (w5.heap.size) w8 := HasSp.up (by unfold HasSp; go_simp) hb8 (by (try simp only [World.size_alloc]); omega)
  have hB8_7 : HasSp (clLo p t) (clHi p t) (w6.heap.size) w8 := HasSp.up (by unfold HasSp; go_simp) hb8 (by (try simp only [World.size_alloc]); omega)
  have hB8_8 : HasSp (lsLo p t) (lsHi p t) (w7.heap.size) w8 := HasSp.up (by unfold HasSp; go_simp) hb8 (by (try simp only [World.size_alloc]); omega)
  have C8 : Below w.heap.size w w8 := by
    refine Below.trans ?_ (hb8.mono ?_)
    · repeat' (first | with_reducible exact Below.refl _ _ | with_reducible exact C7 | with_reducible refine set1 ?_ (by omega) _ _ | with_reducible refine Below.alloc ?_ (by (try simp only [World.size_alloc, World.size_setCell]); omega) _ | with_reducible refine below_drewN ?_ _ | with_reducible refine Below.drew ?_)
    · (try simp only [World.size_alloc]); omega
  clear f7_0_0 f7_0_1 f7_0_2 f7_0_3 f7_0_4 f7_0_5 f7_0_6 f7_0_7 f7_0_8 f7_0_9 f7_1_0 f7_1_1 f7_1_2 f7_2_0 f7_2_1 f7_3_0 f7_3_1 f7_4_0 f7_4_1 f7_5_0 f7_5_1 f7_6_0 f7_6_1 f7_7_0 f7_7_1 hb8
  unfold HasPap at hB8_0
  obtain ⟨f8_0_0, f8_0_1, f8_0_2, f8_0_3, f8_0_4, f8_0_5, f8_0_6, f8_0_7, f8_0_8, f8_0_9⟩ := hB8_0
  have z8_0 : w.heap.size < w8.heap.size := World.block_lt_of_cell? _ _ f8_0_0
  unfold HasPt at hB8_1
  obtain ⟨f8_1_0, f8_1_1, f8_1_2⟩ := hB8_1
  have z8_1 : w.heap.size + 1 < w8.heap.size := World.block_lt_of_cell? _ _ f8_1_0
  unfold HasSp at hB8_2
  obtain ⟨f8_2_0, f8_2_1⟩ := hB8_2
  have z8_2 : w1.heap.size < w8.heap.size := World.block_lt_of_cell? _ _ f8_2_0
  unfold HasSp at hB8_3
  obtain ⟨f8_3_0, f8_3_1⟩ := hB8_3
  have z8_3 : w2.heap.size < w8.heap.size := World.block_lt_of_cell? _ _ f8_3_0
  unfold HasSp at hB8_4
  obtain ⟨f8_4_0, f8_4_1⟩ := hB8_4
  have z8_4 : w3.heap.size < w8.heap.size := World.block_lt_of_cell? _ _ f8_4_0
  unfold HasSp at hB8_5
  obtain ⟨f8_5_0, f8_5_1⟩ := hB8_5
  have z8_5 : w4.heap.size < w8.heap.size := World.block_lt_of_cell? _ _ f8_5_0
  unfold HasSp at hB8_6
  obtain ⟨f8_6_0, f8_6_1⟩ := hB8_6
  have z8_6 : w5.heap.size < w8.heap.size := World.block_lt_of_cell? _ _ f8_6_0
  unfold HasSp at hB8_7
  obtain ⟨f8_7_0, f8_7_1⟩ := hB8_7
  have z8_7 : w6.heap.size < w8.heap.size := World.block_lt_of_cell? _ _ f8_7_0
  unfold HasSp at hB8_8
  obtain ⟨f8_8_0, f8_8_1⟩ := hB8_8
  have z8_8 : w7.heap.size < w8.heap.size := World.block_lt_of_cell? _ _ f8_8_0
  have zz8 := C8.size
  go_wp2_with fail
  refine (awake_any _).mono ?_
  rintro e w9 ⟨rfl, hb9⟩
  have hB9_0 : HasPap (p) (w.heap.size) w9 := HasPap.up (by unfold HasPap; go_simp) hb9 (by (try simp only [World.size_alloc]); omega)
  have hB9_1 : HasPt (t) (w.heap.size + 1) w9 := HasPt.up (by unfold HasPt; go_simp) hb9 (by (try simp only [World.size_alloc]); omega)
  have hB9_2 : HasSp (pv p t (alongLo p t)) (pv p t (alongHi p t)) (w1.heap.size) w9 := HasSp.up (by unfold HasSp; go_simp) hb9 (by (try simp only [World.size_alloc]); omega)
  have hB9_3 : HasSp (pv p t (alongLo p t)) (pv p t (alongHi p t)) (w2.heap.size) w9 := HasSp.up (by unfold HasSp; go_simp) hb9 (by (try simp only [World.size_alloc]); omega)
  have hB9_4 : HasSp (pv p t (acrossLo p t)) (pv p t (acrossHi p t)) (w3.heap.size) w9 := HasSp.up (by unfold HasSp; go_simp) hb9 (by (try simp only [World.size_alloc]); omega)
  have hB9_5 : HasSp (pv p t (acrossLo p t)) (pv p t (acrossHi p t)) (w4.heap.size) w9 := HasSp.up (by unfold HasSp; go_simp) hb9 (by (try simp only [World.size_alloc]); omega)
  have hB9_6 : HasSp (clLo p t) (clHi p t) (w5.heap.size) w9 := HasSp.up (by unfold HasSp; go_simp) hb9 (by (try simp only [World.size_alloc]); omega)
  have hB9_7 : HasSp (clLo p t) (clHi p t) (w6.heap.size) w9 := HasSp.up (by unfold HasSp; go_simp) hb9 (by (try simp only [World.size_alloc]); omega)
  have hB9_8 : HasSp (lsLo p t) (lsHi p t) (w7.heap.size) w9 := HasSp.up (by unfold HasSp; go_simp) hb9 (by (try simp only [World.size_alloc]); omega)
  have hB9_9 : HasSp (lsLo p t) (lsHi p t) (w8.heap.size) w9 := HasSp.up (by unfold HasSp; go_simp) hb9 (by (try simp only [World.size_alloc]); omega)
  have C9 : Below w.heap.size w w9 := by
    refine Below.trans ?_ (hb9.mono ?_)
    · repeat' (first | with_reducible exact Below.refl _ _ | with_reducible exact C8 | with_reducible refine set1 ?_ (by omega) _ _ | with_reducible refine Below.alloc ?_ (by (try simp only [World.size_alloc, World.size_setCell]); omega) _ | with_reducible refine below_drewN ?_ _ | with_reducible refine Below.drew ?_)
    · (try simp only [World.size_alloc]); omega
  clear f8_0_0 f8_0_1 f8_0_2 f8_0_3 f8_0_4 f8_0_5 f8_0_6 f8_0_7 f8_0_8 f8_0_9 f8_1_0 f8_1_1 f8_1_2 f8_2_0 f8_2_1 f8_3_0 f8_3_1 f8_4_0 f8_4_1 f8_5_0 f8_5_1 f8_6_0 f8_6_1 f8_7_0 f8_7_1 f8_8_0 f8_8_1 hb9
  unfold HasPap at hB9_0
  obtain ⟨f9_0_0, f9_0_1, f9_0_2, f9_0_3, f9_0_4, f9_0_5, f9_0_6, f9_0_7, f9_0_8, f9_0_9⟩ := hB9_0
  have z9_0 : w.heap.size < w9.heap.size := World.block_lt_of_cell? _ _ f9_0_0
  unfold HasPt at hB9_1
  obtain ⟨f9_1_0, f9_1_1, f9_1_2⟩ := hB9_1
  have z9_1 : w.heap.size + 1 < w9.heap.size := World.block_lt_of_cell? _ _ f9_1_0
  unfold HasSp at hB9_2
  obtain ⟨f9_2_0, f9_2_1⟩ := hB9_2
  have z9_2 : w1.heap.size < w9.heap.size := World.block_lt_of_cell? _ _ f9_2_0
  unfold HasSp at hB9_3
  obtain ⟨f9_3_0, f9_3_1⟩ := hB9_3
  have z9_3 : w2.heap.size < w9.heap.size := World.block_lt_of_cell? _ _ f9_3_0
  unfold HasSp at hB9_4
  obtain ⟨f9_4_0, f9_4_1⟩ := hB9_4
  have z9_4 : w3.heap.size < w9.heap.size := World.block_lt_of_cell? _ _ f9_4_0
  unfold HasSp at hB9_5
  obtain ⟨f9_5_0, f9_5_1⟩ := hB9_5
  have z9_5 : w4.heap.size < w9.heap.size := World.block_lt_of_cell? _ _ f9_5_0
  unfold HasSp at hB9_6
  obtain ⟨f9_6_0, f9_6_1⟩ := hB9_6
  have z9_6 : w5.heap.size < w9.heap.size := World.block_lt_of_cell? _ _ f9_6_0
  unfold HasSp at hB9_7
  obtain ⟨f9_7_0, f9_7_1⟩ := hB9_7
  have z9_7 : w6.heap.size < w9.heap.size := World.block_lt_of_cell? _ _ f9_7_0
  unfold HasSp at hB9_8
  obtain ⟨f9_8_0, f9_8_1⟩ := hB9_8
  have z9_8 : w7.heap.size < w9.heap.size := World.block_lt_of_cell? _ _ f9_8_0
  unfold HasSp at hB9_9
  obtain ⟨f9_9_0, f9_9_1⟩ := hB9_9
  have z9_9 : w8.heap.size < w9.heap.size := World.block_lt_of_cell? _ _ f9_9_0
  have zz9 := C9.size
  go_wp2_with fail
  go_ret
  exact ⟨rfl, C9⟩
theorem places.own : ownKnob Try.prog.godebug = none := by kernel_rfl
set_option maxRecDepth 100000 in
theorem places_lifted (os : Os) (started : os.Started) (H : Type) (enc : TypeId × Value → H) :
    ReturnsInHanded {} Try.checked os 4 .any (Rows.paperPlacesSpec.pre6 enc Try.prog Try.f4 Rows.paperPlacesRow.domain false) (Rows.paperPlacesSpec.post enc Try.prog Try.f4 false true false false) := by
  refine returnsInHanded_of_change (C := Try.checked) places.own started (by kernel_rfl) Try.func4
    (ChangeSpec.witness6 (enc := enc) (C := Try.checked) false ⟨#[], #[.agg #[.int .i64 0, .int .i64 0, .int .i64 0, .int .i64 0, .int .i64 0, .int .i64 0, .int .i64 0, .int .i64 0, .int .i64 0, .int .i64 0], .agg #[.int .i64 0, .int .i64 0, .int .i64 0]], []⟩ 8 (by kernel_rfl) (by kernel_rfl) (by kernel_rfl) (by kernel_rfl)) ?_
  intro W base args ds gs before hval0 hW hcnd _
  have hval : ∀ (j : Nat) t v, Try.f4.params[j]? = some t → args[j]? = some v → Value.okWide Try.prog W .any base t v := hval0
  have hW' := hW
  obtain ⟨p, q, hA0, hV, rfl, hfz, hnd⟩ := hW
  have hA : DataW.TrodAll enc Try.prog W 0 (fun _ => true) true Try.f4.params.toList args.toList ds p := hA0
  rw [Try.params4] at hA hval
  obtain ⟨v0, v1, d0, d1, p0, p1, rfl, rfl, rfl, h0, h1⟩ := trodAll_two hA
  obtain ⟨rfl, rfl⟩ := trodVars_none hV
  obtain ⟨a, rfl, rfl, rfl, wa⟩ := open_paper (hval 0 25 v0 rfl rfl) h0
  obtain ⟨b, rfl, rfl, rfl, wb⟩ := open_point (hval 1 44 v1 rfl rfl) h1
  clear hA0 hval0
  simp only [List.append_nil] at hW'
  refine (places_law a b W).mono fun e W' ⟨he, hw⟩ => ?_
  subst he
  exact ⟨_, rfl, [a.d, b.d], [], _, [], [], [], hW', trodAll_mk1 (shut_bool Try.underlying4 true), trodAll_mk2 (shut_paper a wa) (shut_point b wb), rfl, hw.frame _, fun h => by cases h⟩
theorem places_holds : Rows.PaperPlacesSaid :=
  OpenClaim.holds_of_wide 4 Try.f4 rfl rfl rfl rfl rfl rfl rfl ⟨rfl, rfl, rfl, rfl, rfl⟩ rfl rfl rfl rfl rfl (by kernel_rfl) Try.func4 (by kernel_rfl)
    (of_decide_eq_true (by kernel_rfl)) (by unfold Func.isWrapper; first | (rw [if_pos (by decide +kernel)]; kernel_rfl) | (rw [if_neg (by decide +kernel)]; exact ⟨rfl, rfl⟩))
    (fun os started H enc _ => places_lifted os started H enc)
end Go.Proofs.Ytmeljcbefnojfaa
