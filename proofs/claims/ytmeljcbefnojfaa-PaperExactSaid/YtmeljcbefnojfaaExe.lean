import Derived.Test.YtmeljcbefnojfaaExw
import Derived.Test.YtmeljcbefnojfaaMee
import Derived.Test.YtmeljcbefnojfaaAwa
import Derived.Test.YtmeljcbefnojfaaPld
import Derived.Test.YtmeljcbefnojfaaClm
import Derived.Deep.DeepCutAuto
namespace Go.Proofs.Ytmeljcbefnojfaa
open Go.RowKit
def SmE (x : Int × Int) : Prop := -1000000000000 ≤ x.1 ∧ x.1 ≤ 1000000000000 ∧ -1000000000000 ≤ x.2 ∧ x.2 ≤ 1000000000000
def WT (p : Pap) (s1 s2 r1 r2 c : Int) (w : World) (l : Int) (b : Bool) : Prop := Calls Try.prog 64 #[p.v, .agg #[.int .i64 s1, .int .i64 s2], .agg #[.int .i64 r1, .int .i64 r2], .int .i64 l, .int .i64 c] w fun e w' => e = .returned (.bool b) ∧ Below w.heap.size w w'
set_option maxRecDepth 100000 in
set_option maxHeartbeats 4000000 in
theorem ex_err (p : Pap) (t : Pt) (x y c s1 s2 r1 r2 e1 e2 e3 : Int) (l : List (Int × Int)) (w : World)
    (K1 : Hid (∀ w, Calls Try.prog 32 #[p.v, t.v] w fun e w' => e = .returned (.tuple #[.agg #[.int .i64 s1, .int .i64 s2], .int .i64 e1]) ∧ Below w.heap.size w w'))
    (K2 : Hid (∀ w, Calls Try.prog 34 #[p.v, t.v] w fun e w' => e = .returned (.tuple #[.agg #[.int .i64 r1, .int .i64 r2], .int .i64 e2]) ∧ Below w.heap.size w w'))
    (K3 : Hid (∀ w, Calls Try.prog 46 #[p.v, t.v, .int .i64 c] w (MPost w e3 l)))
    (he : e1 ≠ 0 ∨ e2 ≠ 0 ∨ e3 ≠ 0) :
    Calls Try.prog 11 #[p.v, t.v, .int .i64 x, .int .i64 y, .int .i64 c] w fun e w' => e = .returned (.bool true) ∧ Below w.heap.size w w' := by
  by_cases h1 : e1 = 0
  · by_cases h2 : e2 = 0
    · have h3 : e3 ≠ 0 := by omega
      have d1 : (e1 != 0) = false := by simp [h1]
      have d2 : (e2 != 0) = false := by simp [h2]
      have d3 : (e3 != 0) = true := by simp [h3]
      clear h1 h2 h3
      clear he
      go_enter Try.func11, Try.ntmps11
      go_wp2_with fail
      refine (awake_any _).mono ?_
      rintro e w1 ⟨rfl, hb1⟩
      have hB1_0 : HasPap (p) (w.heap.size) w1 := HasPap.up (by unfold HasPap; go_simp) hb1 (by (try simp only [World.size_alloc]); omega)
      have hB1_1 : HasPt (t) (w.heap.size + 1) w1 := HasPt.up (by unfold HasPt; go_simp) hb1 (by (try simp only [World.size_alloc]); omega)
      have C1 : Below w.heap.size w w1 := by
        refine Below.trans ?_ (hb1.mono ?_)
        · repeat' (first | with_reducible exact Below.refl _ _ | with_reducible exact Below.refl _ _ | with_reducible refine set1 ?_ (by omega) _ _ | with_reducible refine Below.alloc ?_ (by (try simp only [World.size_alloc]); omega) _ | with_reducible refine below_drewN ?_ _ | with_reducible refine Below.drew ?_)
        · (try simp only [World.size_alloc]); omega
      clear hb1
      unfold HasPap at hB1_0
      obtain ⟨f1_0_0, f1_0_1, f1_0_2, f1_0_3, f1_0_4, f1_0_5, f1_0_6, f1_0_7, f1_0_8, f1_0_9⟩ := hB1_0
      have z1_0 : w.heap.size < w1.heap.size := World.block_lt_of_cell? _ _ f1_0_0
      unfold HasPt at hB1_1
      obtain ⟨f1_1_0, f1_1_1, f1_1_2⟩ := hB1_1
      have z1_1 : w.heap.size + 1 < w1.heap.size := World.block_lt_of_cell? _ _ f1_1_0
      have zz1 := C1.size
      go_wp2_with fail
      refine (K1.out _).mono ?_
      rintro e w2 ⟨rfl, hb2⟩
      have hB2_0 : HasPap (p) (w.heap.size) w2 := HasPap.up (by unfold HasPap; go_simp) hb2 (by (try simp only [World.size_alloc, World.size_setCell]); omega)
      have hB2_1 : HasPt (t) (w.heap.size + 1) w2 := HasPt.up (by unfold HasPt; go_simp) hb2 (by (try simp only [World.size_alloc, World.size_setCell]); omega)
      have C2 : Below w.heap.size w w2 := by
        refine Below.trans ?_ (hb2.mono ?_)
        · repeat' (first | with_reducible exact Below.refl _ _ | with_reducible exact C1 | with_reducible refine set1 ?_ (by omega) _ _ | with_reducible refine Below.alloc ?_ (by (try simp only [World.size_alloc, World.size_setCell]); omega) _ | with_reducible refine below_drewN ?_ _ | with_reducible refine Below.drew ?_)
        · (try simp only [World.size_alloc, World.size_setCell]); omega
      clear f1_0_0 f1_0_1 f1_0_2 f1_0_3 f1_0_4 f1_0_5 f1_0_6 f1_0_7 f1_0_8 f1_0_9 f1_1_0 f1_1_1 f1_1_2 hb2
      unfold HasPap at hB2_0
      obtain ⟨f2_0_0, f2_0_1, f2_0_2, f2_0_3, f2_0_4, f2_0_5, f2_0_6, f2_0_7, f2_0_8, f2_0_9⟩ := hB2_0
      have z2_0 : w.heap.size < w2.heap.size := World.block_lt_of_cell? _ _ f2_0_0
      unfold HasPt at hB2_1
      obtain ⟨f2_1_0, f2_1_1, f2_1_2⟩ := hB2_1
      have z2_1 : w.heap.size + 1 < w2.heap.size := World.block_lt_of_cell? _ _ f2_1_0
      have zz2 := C2.size
      go_wp2_with fail
      refine (K2.out _).mono ?_
      rintro e w3 ⟨rfl, hb3⟩
      have hB3_0 : HasPap (p) (w.heap.size) w3 := HasPap.up (by unfold HasPap; go_simp) hb3 (by (try simp only [World.size_alloc]); omega)
      have hB3_1 : HasPt (t) (w.heap.size + 1) w3 := HasPt.up (by unfold HasPt; go_simp) hb3 (by (try simp only [World.size_alloc]); omega)
      have hB3_2 : HasSp (s1) (s2) (w2.heap.size) w3 := HasSp.up (by unfold HasSp; go_simp) hb3 (by (try simp only [World.size_alloc]); omega)
      have C3 : Below w.heap.size w w3 := by
        refine Below.trans ?_ (hb3.mono ?_)
        · repeat' (first | with_reducible exact Below.refl _ _ | with_reducible exact C2 | with_reducible refine set1 ?_ (by omega) _ _ | with_reducible refine Below.alloc ?_ (by (try simp only [World.size_alloc, World.size_setCell]); omega) _ | with_reducible refine below_drewN ?_ _ | with_reducible refine Below.drew ?_)
        · (try simp only [World.size_alloc]); omega
      clear f2_0_0 f2_0_1 f2_0_2 f2_0_3 f2_0_4 f2_0_5 f2_0_6 f2_0_7 f2_0_8 f2_0_9 f2_1_0 f2_1_1 f2_1_2 hb3
      unfold HasPap at hB3_0
      obtain ⟨f3_0_0, f3_0_1, f3_0_2, f3_0_3, f3_0_4, f3_0_5, f3_0_6, f3_0_7, f3_0_8, f3_0_9⟩ := hB3_0
      have z3_0 : w.heap.size < w3.heap.size := World.block_lt_of_cell? _ _ f3_0_0
      unfold HasPt at hB3_1
      obtain ⟨f3_1_0, f3_1_1, f3_1_2⟩ := hB3_1
      have z3_1 : w.heap.size + 1 < w3.heap.size := World.block_lt_of_cell? _ _ f3_1_0
      unfold HasSp at hB3_2
      obtain ⟨f3_2_0, f3_2_1⟩ := hB3_2
      have z3_2 : w2.heap.size < w3.heap.size := World.block_lt_of_cell? _ _ f3_2_0
      have zz3 := C3.size
      go_wp2_with fail
      refine (K3.out _).mono ?_
      rintro e w4 ⟨v, rfl, hb4, hR⟩
      have hB4_0 : HasPap (p) (w.heap.size) w4 := HasPap.up (by unfold HasPap; go_simp) hb4 (by (try simp only [World.size_alloc]); omega)
      have hB4_1 : HasPt (t) (w.heap.size + 1) w4 := HasPt.up (by unfold HasPt; go_simp) hb4 (by (try simp only [World.size_alloc]); omega)
      have hB4_2 : HasSp (s1) (s2) (w2.heap.size) w4 := HasSp.up (by unfold HasSp; go_simp) hb4 (by (try simp only [World.size_alloc]); omega)
      have hB4_3 : HasSp (r1) (r2) (w3.heap.size) w4 := HasSp.up (by unfold HasSp; go_simp) hb4 (by (try simp only [World.size_alloc]); omega)
      have C4 : Below w.heap.size w w4 := by
        refine Below.trans ?_ (hb4.mono ?_)
        · repeat' (first | with_reducible exact Below.refl _ _ | with_reducible exact C3 | with_reducible refine set1 ?_ (by omega) _ _ | with_reducible refine Below.alloc ?_ (by (try simp only [World.size_alloc, World.size_setCell]); omega) _ | with_reducible refine below_drewN ?_ _ | with_reducible refine Below.drew ?_)
        · (try simp only [World.size_alloc]); omega
      clear f3_0_0 f3_0_1 f3_0_2 f3_0_3 f3_0_4 f3_0_5 f3_0_6 f3_0_7 f3_0_8 f3_0_9 f3_1_0 f3_1_1 f3_1_2 f3_2_0 f3_2_1 hb4
      unfold HasPap at hB4_0
      obtain ⟨f4_0_0, f4_0_1, f4_0_2, f4_0_3, f4_0_4, f4_0_5, f4_0_6, f4_0_7, f4_0_8, f4_0_9⟩ := hB4_0
      have z4_0 : w.heap.size < w4.heap.size := World.block_lt_of_cell? _ _ f4_0_0
      unfold HasPt at hB4_1
      obtain ⟨f4_1_0, f4_1_1, f4_1_2⟩ := hB4_1
      have z4_1 : w.heap.size + 1 < w4.heap.size := World.block_lt_of_cell? _ _ f4_1_0
      unfold HasSp at hB4_2
      obtain ⟨f4_2_0, f4_2_1⟩ := hB4_2
      have z4_2 : w2.heap.size < w4.heap.size := World.block_lt_of_cell? _ _ f4_2_0
      unfold HasSp at hB4_3
      obtain ⟨f4_3_0, f4_3_1⟩ := hB4_3
      have z4_3 : w3.heap.size < w4.heap.size := World.block_lt_of_cell? _ _ f4_3_0
      have zz4 := C4.size
      go_wp2_with fail
      go_ret
      exact ⟨rfl, by
        repeat' (first | with_reducible exact Below.refl _ _ | with_reducible exact C4 | with_reducible refine set1 ?_ (by omega) _ _ | with_reducible refine Below.alloc ?_ (by (try simp only [World.size_alloc, World.size_setCell]); omega) _ | with_reducible refine below_drewN ?_ _ | with_reducible refine Below.drew ?_)⟩
    · have d1 : (e1 != 0) = false := by simp [h1]
      have d2 : (e2 != 0) = true := by simp [h2]
      clear h1 h2
      clear he
      go_enter Try.func11, Try.ntmps11
      go_wp2_with fail
      refine (awake_any _).mono ?_
      rintro e w1 ⟨rfl, hb1⟩
      have hB1_0 : HasPap (p) (w.heap.size) w1 := HasPap.up (by unfold HasPap; go_simp) hb1 (by (try simp only [World.size_alloc]); omega)
      have hB1_1 : HasPt (t) (w.heap.size + 1) w1 := HasPt.up (by unfold HasPt; go_simp) hb1 (by (try simp only [World.size_alloc]); omega)
      have C1 : Below w.heap.size w w1 := by
        refine Below.trans ?_ (hb1.mono ?_)
        · repeat' (first | with_reducible exact Below.refl _ _ | with_reducible exact Below.refl _ _ | with_reducible refine set1 ?_ (by omega) _ _ | with_reducible refine Below.alloc ?_ (by (try simp only [World.size_alloc]); omega) _ | with_reducible refine below_drewN ?_ _ | with_reducible refine Below.drew ?_)
        · (try simp only [World.size_alloc]); omega
      clear hb1
      unfold HasPap at hB1_0
      obtain ⟨f1_0_0, f1_0_1, f1_0_2, f1_0_3, f1_0_4, f1_0_5, f1_0_6, f1_0_7, f1_0_8, f1_0_9⟩ := hB1_0
      have z1_0 : w.heap.size < w1.heap.size := World.block_lt_of_cell? _ _ f1_0_0
      unfold HasPt at hB1_1
      obtain ⟨f1_1_0, f1_1_1, f1_1_2⟩ := hB1_1
      have z1_1 : w.heap.size + 1 < w1.heap.size := World.block_lt_of_cell? _ _ f1_1_0
      have zz1 := C1.size
      go_wp2_with fail
      refine (K1.out _).mono ?_
      rintro e w2 ⟨rfl, hb2⟩
      have hB2_0 : HasPap (p) (w.heap.size) w2 := HasPap.up (by unfold HasPap; go_simp) hb2 (by (try simp only [World.size_alloc, World.size_setCell]); omega)
      have hB2_1 : HasPt (t) (w.heap.size + 1) w2 := HasPt.up (by unfold HasPt; go_simp) hb2 (by (try simp only [World.size_alloc, World.size_setCell]); omega)
      have C2 : Below w.heap.size w w2 := by
        refine Below.trans ?_ (hb2.mono ?_)
        · repeat' (first | with_reducible exact Below.refl _ _ | with_reducible exact C1 | with_reducible refine set1 ?_ (by omega) _ _ | with_reducible refine Below.alloc ?_ (by (try simp only [World.size_alloc, World.size_setCell]); omega) _ | with_reducible refine below_drewN ?_ _ | with_reducible refine Below.drew ?_)
        · (try simp only [World.size_alloc, World.size_setCell]); omega
      clear f1_0_0 f1_0_1 f1_0_2 f1_0_3 f1_0_4 f1_0_5 f1_0_6 f1_0_7 f1_0_8 f1_0_9 f1_1_0 f1_1_1 f1_1_2 hb2
      unfold HasPap at hB2_0
      obtain ⟨f2_0_0, f2_0_1, f2_0_2, f2_0_3, f2_0_4, f2_0_5, f2_0_6, f2_0_7, f2_0_8, f2_0_9⟩ := hB2_0
      have z2_0 : w.heap.size < w2.heap.size := World.block_lt_of_cell? _ _ f2_0_0
      unfold HasPt at hB2_1
      obtain ⟨f2_1_0, f2_1_1, f2_1_2⟩ := hB2_1
      have z2_1 : w.heap.size + 1 < w2.heap.size := World.block_lt_of_cell? _ _ f2_1_0
      have zz2 := C2.size
      go_wp2_with fail
      refine (K2.out _).mono ?_
      rintro e w3 ⟨rfl, hb3⟩
      have hB3_0 : HasPap (p) (w.heap.size) w3 := HasPap.up (by unfold HasPap; go_simp) hb3 (by (try simp only [World.size_alloc]); omega)
      have hB3_1 : HasPt (t) (w.heap.size + 1) w3 := HasPt.up (by unfold HasPt; go_simp) hb3 (by (try simp only [World.size_alloc]); omega)
      have hB3_2 : HasSp (s1) (s2) (w2.heap.size) w3 := HasSp.up (by unfold HasSp; go_simp) hb3 (by (try simp only [World.size_alloc]); omega)
      have C3 : Below w.heap.size w w3 := by
        refine Below.trans ?_ (hb3.mono ?_)
        · repeat' (first | with_reducible exact Below.refl _ _ | with_reducible exact C2 | with_reducible refine set1 ?_ (by omega) _ _ | with_reducible refine Below.alloc ?_ (by (try simp only [World.size_alloc, World.size_setCell]); omega) _ | with_reducible refine below_drewN ?_ _ | with_reducible refine Below.drew ?_)
        · (try simp only [World.size_alloc]); omega
      clear f2_0_0 f2_0_1 f2_0_2 f2_0_3 f2_0_4 f2_0_5 f2_0_6 f2_0_7 f2_0_8 f2_0_9 f2_1_0 f2_1_1 f2_1_2 hb3
      unfold HasPap at hB3_0
      obtain ⟨f3_0_0, f3_0_1, f3_0_2, f3_0_3, f3_0_4, f3_0_5, f3_0_6, f3_0_7, f3_0_8, f3_0_9⟩ := hB3_0
      have z3_0 : w.heap.size < w3.heap.size := World.block_lt_of_cell? _ _ f3_0_0
      unfold HasPt at hB3_1
      obtain ⟨f3_1_0, f3_1_1, f3_1_2⟩ := hB3_1
      have z3_1 : w.heap.size + 1 < w3.heap.size := World.block_lt_of_cell? _ _ f3_1_0
      unfold HasSp at hB3_2
      obtain ⟨f3_2_0, f3_2_1⟩ := hB3_2
      have z3_2 : w2.heap.size < w3.heap.size := World.block_lt_of_cell? _ _ f3_2_0
      have zz3 := C3.size
      go_wp2_with fail
      refine (K3.out _).mono ?_
      rintro e w4 ⟨v, rfl, hb4, hR⟩
      have hB4_0 : HasPap (p) (w.heap.size) w4 := HasPap.up (by unfold HasPap; go_simp) hb4 (by (try simp only [World.size_alloc]); omega)
      have hB4_1 : HasPt (t) (w.heap.size + 1) w4 := HasPt.up (by unfold HasPt; go_simp) hb4 (by (try simp only [World.size_alloc]); omega)
      have hB4_2 : HasSp (s1) (s2) (w2.heap.size) w4 := HasSp.up (by unfold HasSp; go_simp) hb4 (by (try simp only [World.size_alloc]); omega)
      have hB4_3 : HasSp (r1) (r2) (w3.heap.size) w4 := HasSp.up (by unfold HasSp; go_simp) hb4 (by (try simp only [World.size_alloc]); omega)
      have C4 : Below w.heap.size w w4 := by
        refine Below.trans ?_ (hb4.mono ?_)
        · repeat' (first | with_reducible exact Below.refl _ _ | with_reducible exact C3 | with_reducible refine set1 ?_ (by omega) _ _ | with_reducible refine Below.alloc ?_ (by (try simp only [World.size_alloc, World.size_setCell]); omega) _ | with_reducible refine below_drewN ?_ _ | with_reducible refine Below.drew ?_)
        · (try simp only [World.size_alloc]); omega
      clear f3_0_0 f3_0_1 f3_0_2 f3_0_3 f3_0_4 f3_0_5 f3_0_6 f3_0_7 f3_0_8 f3_0_9 f3_1_0 f3_1_1 f3_1_2 f3_2_0 f3_2_1 hb4
      unfold HasPap at hB4_0
      obtain ⟨f4_0_0, f4_0_1, f4_0_2, f4_0_3, f4_0_4, f4_0_5, f4_0_6, f4_0_7, f4_0_8, f4_0_9⟩ := hB4_0
      have z4_0 : w.heap.size < w4.heap.size := World.block_lt_of_cell? _ _ f4_0_0
      unfold HasPt at hB4_1
      obtain ⟨f4_1_0, f4_1_1, f4_1_2⟩ := hB4_1
      have z4_1 : w.heap.size + 1 < w4.heap.size := World.block_lt_of_cell? _ _ f4_1_0
      unfold HasSp at hB4_2
      obtain ⟨f4_2_0, f4_2_1⟩ := hB4_2
      have z4_2 : w2.heap.size < w4.heap.size := World.block_lt_of_cell? _ _ f4_2_0
      unfold HasSp at hB4_3
      obtain ⟨f4_3_0, f4_3_1⟩ := hB4_3
      have z4_3 : w3.heap.size < w4.heap.size := World.block_lt_of_cell? _ _ f4_3_0
      have zz4 := C4.size
      go_wp2_with fail
      go_ret
      exact ⟨rfl, by
        repeat' (first | with_reducible exact Below.refl _ _ | with_reducible exact C4 | with_reducible refine set1 ?_ (by omega) _ _ | with_reducible refine Below.alloc ?_ (by (try simp only [World.size_alloc, World.size_setCell]); omega) _ | with_reducible refine below_drewN ?_ _ | with_reducible refine Below.drew ?_)⟩
  · have d1 : (e1 != 0) = true := by simp [h1]
    clear h1
    clear he
    go_enter Try.func11, Try.ntmps11
    go_wp2_with fail
    refine (awake_any _).mono ?_
    rintro e w1 ⟨rfl, hb1⟩
    have hB1_0 : HasPap (p) (w.heap.size) w1 := HasPap.up (by unfold HasPap; go_simp) hb1 (by (try simp only [World.size_alloc]); omega)
    have hB1_1 : HasPt (t) (w.heap.size + 1) w1 := HasPt.up (by unfold HasPt; go_simp) hb1 (by (try simp only [World.size_alloc]); omega)
    have C1 : Below w.heap.size w w1 := by
      refine Below.trans ?_ (hb1.mono ?_)
      · repeat' (first | with_reducible exact Below.refl _ _ | with_reducible exact Below.refl _ _ | with_reducible refine set1 ?_ (by omega) _ _ | with_reducible refine Below.alloc ?_ (by (try simp only [World.size_alloc]); omega) _ | with_reducible refine below_drewN ?_ _ | with_reducible refine Below.drew ?_)
      · (try simp only [World.size_alloc]); omega
    clear hb1
    unfold HasPap at hB1_0
    obtain ⟨f1_0_0, f1_0_1, f1_0_2, f1_0_3, f1_0_4, f1_0_5, f1_0_6, f1_0_7, f1_0_8, f1_0_9⟩ := hB1_0
    have z1_0 : w.heap.size < w1.heap.size := World.block_lt_of_cell? _ _ f1_0_0
    unfold HasPt at hB1_1
    obtain ⟨f1_1_0, f1_1_1, f1_1_2⟩ := hB1_1
    have z1_1 : w.heap.size + 1 < w1.heap.size := World.block_lt_of_cell? _ _ f1_1_0
    have zz1 := C1.size
    go_wp2_with fail
    refine (K1.out _).mono ?_
    rintro e w2 ⟨rfl, hb2⟩
    have hB2_0 : HasPap (p) (w.heap.size) w2 := HasPap.up (by unfold HasPap; go_simp) hb2 (by (try simp only [World.size_alloc, World.size_setCell]); omega)
    have hB2_1 : HasPt (t) (w.heap.size + 1) w2 := HasPt.up (by unfold HasPt; go_simp) hb2 (by (try simp only [World.size_alloc, World.size_setCell]); omega)
    have C2 : Below w.heap.size w w2 := by
      refine Below.trans ?_ (hb2.mono ?_)
      · repeat' (first | with_reducible exact Below.refl _ _ | with_reducible exact C1 | with_reducible refine set1 ?_ (by omega) _ _ | with_reducible refine Below.alloc ?_ (by (try simp only [World.size_alloc, World.size_setCell]); omega) _ | with_reducible refine below_drewN ?_ _ | with_reducible refine Below.drew ?_)
      · (try simp only [World.size_alloc, World.size_setCell]); omega
    clear f1_0_0 f1_0_1 f1_0_2 f1_0_3 f1_0_4 f1_0_5 f1_0_6 f1_0_7 f1_0_8 f1_0_9 f1_1_0 f1_1_1 f1_1_2 hb2
    unfold HasPap at hB2_0
    obtain ⟨f2_0_0, f2_0_1, f2_0_2, f2_0_3, f2_0_4, f2_0_5, f2_0_6, f2_0_7, f2_0_8, f2_0_9⟩ := hB2_0
    have z2_0 : w.heap.size < w2.heap.size := World.block_lt_of_cell? _ _ f2_0_0
    unfold HasPt at hB2_1
    obtain ⟨f2_1_0, f2_1_1, f2_1_2⟩ := hB2_1
    have z2_1 : w.heap.size + 1 < w2.heap.size := World.block_lt_of_cell? _ _ f2_1_0
    have zz2 := C2.size
    go_wp2_with fail
    refine (K2.out _).mono ?_
    rintro e w3 ⟨rfl, hb3⟩
    have hB3_0 : HasPap (p) (w.heap.size) w3 := HasPap.up (by unfold HasPap; go_simp) hb3 (by (try simp only [World.size_alloc]); omega)
    have hB3_1 : HasPt (t) (w.heap.size + 1) w3 := HasPt.up (by unfold HasPt; go_simp) hb3 (by (try simp only [World.size_alloc]); omega)
    have hB3_2 : HasSp (s1) (s2) (w2.heap.size) w3 := HasSp.up (by unfold HasSp; go_simp) hb3 (by (try simp only [World.size_alloc]); omega)
    have C3 : Below w.heap.size w w3 := by
      refine Below.trans ?_ (hb3.mono ?_)
      · repeat' (first | with_reducible exact Below.refl _ _ | with_reducible exact C2 | with_reducible refine set1 ?_ (by omega) _ _ | with_reducible refine Below.alloc ?_ (by (try simp only [World.size_alloc, World.size_setCell]); omega) _ | with_reducible refine below_drewN ?_ _ | with_reducible refine Below.drew ?_)
      · (try simp only [World.size_alloc]); omega
    clear f2_0_0 f2_0_1 f2_0_2 f2_0_3 f2_0_4 f2_0_5 f2_0_6 f2_0_7 f2_0_8 f2_0_9 f2_1_0 f2_1_1 f2_1_2 hb3
    unfold HasPap at hB3_0
    obtain ⟨f3_0_0, f3_0_1, f3_0_2, f3_0_3, f3_0_4, f3_0_5, f3_0_6, f3_0_7, f3_0_8, f3_0_9⟩ := hB3_0
    have z3_0 : w.heap.size < w3.heap.size := World.block_lt_of_cell? _ _ f3_0_0
    unfold HasPt at hB3_1
    obtain ⟨f3_1_0, f3_1_1, f3_1_2⟩ := hB3_1
    have z3_1 : w.heap.size + 1 < w3.heap.size := World.block_lt_of_cell? _ _ f3_1_0
    unfold HasSp at hB3_2
    obtain ⟨f3_2_0, f3_2_1⟩ := hB3_2
    have z3_2 : w2.heap.size < w3.heap.size := World.block_lt_of_cell? _ _ f3_2_0
    have zz3 := C3.size
    go_wp2_with fail
    refine (K3.out _).mono ?_
    rintro e w4 ⟨v, rfl, hb4, hR⟩
    have hB4_0 : HasPap (p) (w.heap.size) w4 := HasPap.up (by unfold HasPap; go_simp) hb4 (by (try simp only [World.size_alloc]); omega)
    have hB4_1 : HasPt (t) (w.heap.size + 1) w4 := HasPt.up (by unfold HasPt; go_simp) hb4 (by (try simp only [World.size_alloc]); omega)
    have hB4_2 : HasSp (s1) (s2) (w2.heap.size) w4 := HasSp.up (by unfold HasSp; go_simp) hb4 (by (try simp only [World.size_alloc]); omega)
    have hB4_3 : HasSp (r1) (r2) (w3.heap.size) w4 := HasSp.up (by unfold HasSp; go_simp) hb4 (by (try simp only [World.size_alloc]); omega)
    have C4 : Below w.heap.size w w4 := by
      refine Below.trans ?_ (hb4.mono ?_)
      · repeat' (first | with_reducible exact Below.refl _ _ | with_reducible exact C3 | with_reducible refine set1 ?_ (by omega) _ _ | with_reducible refine Below.alloc ?_ (by (try simp only [World.size_alloc, World.size_setCell]); omega) _ | with_reducible refine below_drewN ?_ _ | with_reducible refine Below.drew ?_)
      · (try simp only [World.size_alloc]); omega
    clear f3_0_0 f3_0_1 f3_0_2 f3_0_3 f3_0_4 f3_0_5 f3_0_6 f3_0_7 f3_0_8 f3_0_9 f3_1_0 f3_1_1 f3_1_2 f3_2_0 f3_2_1 hb4
    unfold HasPap at hB4_0
    obtain ⟨f4_0_0, f4_0_1, f4_0_2, f4_0_3, f4_0_4, f4_0_5, f4_0_6, f4_0_7, f4_0_8, f4_0_9⟩ := hB4_0
    have z4_0 : w.heap.size < w4.heap.size := World.block_lt_of_cell? _ _ f4_0_0
    unfold HasPt at hB4_1
    obtain ⟨f4_1_0, f4_1_1, f4_1_2⟩ := hB4_1
    have z4_1 : w.heap.size + 1 < w4.heap.size := World.block_lt_of_cell? _ _ f4_1_0
    unfold HasSp at hB4_2
    obtain ⟨f4_2_0, f4_2_1⟩ := hB4_2
    have z4_2 : w2.heap.size < w4.heap.size := World.block_lt_of_cell? _ _ f4_2_0
    unfold HasSp at hB4_3
    obtain ⟨f4_3_0, f4_3_1⟩ := hB4_3
    have z4_3 : w3.heap.size < w4.heap.size := World.block_lt_of_cell? _ _ f4_3_0
    have zz4 := C4.size
    go_wp2_with fail
    go_ret
    exact ⟨rfl, by
      repeat' (first | with_reducible exact Below.refl _ _ | with_reducible exact C4 | with_reducible refine set1 ?_ (by omega) _ _ | with_reducible refine Below.alloc ?_ (by (try simp only [World.size_alloc, World.size_setCell]); omega) _ | with_reducible refine below_drewN ?_ _ | with_reducible refine Below.drew ?_)⟩
end Go.Proofs.Ytmeljcbefnojfaa
