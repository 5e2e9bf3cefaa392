/- The law PaperCopies returns true for every two inked sheets, and leaves its arguments as they were; no condition. -/
import Derived.Test.YtmeljcbefnojfaaLsr
import Derived.Test.YtmeljcbefnojfaaLhv
namespace Go.Proofs.Ytmeljcbefnojfaa
open Go.ChangeShapes Go.WideShapes Go.ChangeAt Go.RowKit
set_option maxRecDepth 100000 in
set_option maxHeartbeats 4000000 in
theorem copies_core (A B : Option Addr) (n m c d : Nat) (L1 L2 : Nat → List (Int × Int)) (E1 E2 E3 : Int) (G : Bool) (w : World)
    (KSa : Hid (∀ W, Below w.heap.size w W → Calls Try.prog 20 #[.agg #[.slice A n c]] W (AnyBool W)))
    (KSb : Hid (∀ W, Below w.heap.size w W → Calls Try.prog 20 #[.agg #[.slice B m d]] W (AnyBool W)))
    (K1 : Hid (∀ W, Below w.heap.size w W → Calls Try.prog 56 #[.agg #[.slice A n c], .agg #[.slice B m d]] W (ShP n L1 E1 W)))
    (K2 : Hid (∀ W, Below w.heap.size w W → Calls Try.prog 57 #[.agg #[.slice A n c], .agg #[.slice B m d]] W (ShP n L1 E1 W)))
    (K3 : Hid (∀ W, Below w.heap.size w W → Calls Try.prog 58 #[.agg #[.slice A n c], .agg #[.slice B m d]] W (ShP n L2 E2 W)))
    (K4 : Hid (∀ W, Below w.heap.size w W → Calls Try.prog 59 #[.agg #[.slice A n c], .agg #[.slice B m d]] W (ShP n L2 E2 W)))
    (K5 : Hid (∀ W, Below w.heap.size w W → Calls Try.prog 60 #[.agg #[.slice A n c], .agg #[.slice B m d]] W fun e w' => e = .returned (.tuple #[.bool G, .int .i64 E3]) ∧ Below W.heap.size W w'))
    (K6 : Hid (∀ W, Below w.heap.size w W → Calls Try.prog 61 #[.agg #[.slice A n c], .agg #[.slice B m d]] W fun e w' => e = .returned (.tuple #[.bool G, .int .i64 E3]) ∧ Below W.heap.size W w')) :
    Calls Try.prog 8 #[.agg #[.slice A n c], .agg #[.slice B m d]] w fun e w' => e = .returned (.bool true) ∧ Below w.heap.size w w' := by
  go_enter Try.func8, Try.ntmps8
  go_wp2_with fail
  refine (awake_any _).mono ?_
  rintro e w1 ⟨rfl, hb1⟩
  have hB1_0 : HasV ((.slice A n c)) (w.heap.size) w1 := HasV.up (by unfold HasV; go_simp) hb1 (by (try simp only [World.size_alloc]); omega)
  have hB1_1 : HasV ((.slice B m d)) (w.heap.size + 1) w1 := HasV.up (by unfold HasV; go_simp) hb1 (by (try simp only [World.size_alloc]); omega)
  have C1 : Below w.heap.size w w1 := by
    refine Below.trans ?_ (hb1.mono ?_)
    · repeat' (first | with_reducible exact Below.refl _ _ | with_reducible exact Below.refl _ _ | with_reducible refine set1 ?_ (by omega) _ _ | with_reducible refine Below.alloc ?_ (by (try simp only [World.size_alloc]); omega) _ | with_reducible refine below_drewN ?_ _ | with_reducible refine Below.drew ?_)
    · (try simp only [World.size_alloc]); omega
  clear hb1
  unfold HasV at hB1_0
  have f1_0_0 := hB1_0
  clear hB1_0
  have z1_0 : w.heap.size < w1.heap.size := World.block_lt_of_cell? _ _ f1_0_0
  unfold HasV at hB1_1
  have f1_1_0 := hB1_1
  clear hB1_1
  have z1_1 : w.heap.size + 1 < w1.heap.size := World.block_lt_of_cell? _ _ f1_1_0
  have zz1 := C1.size
  go_wp2_with fail
  refine (KSa.out _ (by repeat' (first | with_reducible exact Below.refl _ _ | with_reducible exact C1 | with_reducible refine set1 ?_ (by omega) _ _ | with_reducible refine Below.alloc ?_ (by (try simp only [World.size_alloc, World.size_setCell]); omega) _ | with_reducible refine below_drewN ?_ _ | with_reducible refine Below.drew ?_))).mono ?_
  rintro e w2 ⟨⟨b, rfl⟩, hb2⟩
  have hB2_0 : HasV ((.slice A n c)) (w.heap.size) w2 := HasV.up (by unfold HasV; go_simp) hb2 (by (try simp only [World.size_alloc, World.size_setCell]); omega)
  have hB2_1 : HasV ((.slice B m d)) (w.heap.size + 1) w2 := HasV.up (by unfold HasV; go_simp) hb2 (by (try simp only [World.size_alloc, World.size_setCell]); omega)
  have C2 : Below w.heap.size w w2 := by
    refine Below.trans ?_ (hb2.mono ?_)
    · repeat' (first | with_reducible exact Below.refl _ _ | with_reducible exact C1 | with_reducible refine set1 ?_ (by omega) _ _ | with_reducible refine Below.alloc ?_ (by (try simp only [World.size_alloc, World.size_setCell]); omega) _ | with_reducible refine below_drewN ?_ _ | with_reducible refine Below.drew ?_)
    · (try simp only [World.size_alloc, World.size_setCell]); omega
  clear f1_0_0 f1_1_0 hb2
  unfold HasV at hB2_0
  have f2_0_0 := hB2_0
  clear hB2_0
  have z2_0 : w.heap.size < w2.heap.size := World.block_lt_of_cell? _ _ f2_0_0
  unfold HasV at hB2_1
  have f2_1_0 := hB2_1
  clear hB2_1
  have z2_1 : w.heap.size + 1 < w2.heap.size := World.block_lt_of_cell? _ _ f2_1_0
  have zz2 := C2.size
  cases b with
  | false =>
    go_wp2_with fail
    go_ret
    exact ⟨rfl, C2⟩
  | true =>
    go_wp2_with fail
    refine (KSb.out _ (by repeat' (first | with_reducible exact Below.refl _ _ | with_reducible exact C2 | with_reducible refine set1 ?_ (by omega) _ _ | with_reducible refine Below.alloc ?_ (by (try simp only [World.size_alloc, World.size_setCell]); omega) _ | with_reducible refine below_drewN ?_ _ | with_reducible refine Below.drew ?_))).mono ?_
    rintro e w3 ⟨⟨b, rfl⟩, hb3⟩
    have hB3_0 : HasV ((.slice A n c)) (w.heap.size) w3 := HasV.up (by unfold HasV; go_simp) hb3 (by (try simp only [World.size_alloc, World.size_setCell]); omega)
    have hB3_1 : HasV ((.slice B m d)) (w.heap.size + 1) w3 := HasV.up (by unfold HasV; go_simp) hb3 (by (try simp only [World.size_alloc, World.size_setCell]); omega)
    have C3 : Below w.heap.size w w3 := by
      refine Below.trans ?_ (hb3.mono ?_)
      · repeat' (first | with_reducible exact Below.refl _ _ | with_reducible exact C2 | with_reducible refine set1 ?_ (by omega) _ _ | with_reducible refine Below.alloc ?_ (by (try simp only [World.size_alloc, World.size_setCell]); omega) _ | with_reducible refine below_drewN ?_ _ | with_reducible refine Below.drew ?_)
      · (try simp only [World.size_alloc, World.size_setCell]); omega
    clear f2_0_0 f2_1_0 hb3
    unfold HasV at hB3_0
    have f3_0_0 := hB3_0
    clear hB3_0
    have z3_0 : w.heap.size < w3.heap.size := World.block_lt_of_cell? _ _ f3_0_0
    unfold HasV at hB3_1
    have f3_1_0 := hB3_1
    clear hB3_1
    have z3_1 : w.heap.size + 1 < w3.heap.size := World.block_lt_of_cell? _ _ f3_1_0
    have zz3 := C3.size
    cases b with
    | false =>
      go_wp2_with fail
      go_ret
      exact ⟨rfl, C3⟩
    | true =>
      go_wp2_with fail
      refine (K1.out _ (by repeat' (first | with_reducible exact Below.refl _ _ | with_reducible exact C3 | with_reducible refine set1 ?_ (by omega) _ _ | with_reducible refine Below.alloc ?_ (by (try simp only [World.size_alloc, World.size_setCell]); omega) _ | with_reducible refine below_drewN ?_ _ | with_reducible refine Below.drew ?_))).mono ?_
      rintro e w4 ⟨A4, k4, c4, rfl, hb4, H4⟩
      have hB4_0 : HasV ((.slice A n c)) (w.heap.size) w4 := HasV.up (by unfold HasV; go_simp) hb4 (by (try simp only [World.size_alloc, World.size_setCell]); omega)
      have hB4_1 : HasV ((.slice B m d)) (w.heap.size + 1) w4 := HasV.up (by unfold HasV; go_simp) hb4 (by (try simp only [World.size_alloc, World.size_setCell]); omega)
      have C4 : Below w.heap.size w w4 := by
        refine Below.trans ?_ (hb4.mono ?_)
        · repeat' (first | with_reducible exact Below.refl _ _ | with_reducible exact C3 | with_reducible refine set1 ?_ (by omega) _ _ | with_reducible refine Below.alloc ?_ (by (try simp only [World.size_alloc, World.size_setCell]); omega) _ | with_reducible refine below_drewN ?_ _ | with_reducible refine Below.drew ?_)
        · (try simp only [World.size_alloc, World.size_setCell]); omega
      clear f3_0_0 f3_1_0 hb4
      unfold HasV at hB4_0
      have f4_0_0 := hB4_0
      clear hB4_0
      have z4_0 : w.heap.size < w4.heap.size := World.block_lt_of_cell? _ _ f4_0_0
      unfold HasV at hB4_1
      have f4_1_0 := hB4_1
      clear hB4_1
      have z4_1 : w.heap.size + 1 < w4.heap.size := World.block_lt_of_cell? _ _ f4_1_0
      have zz4 := C4.size
      go_wp2_with fail
      refine (K2.out _ (by repeat' (first | with_reducible exact Below.refl _ _ | with_reducible exact C4 | with_reducible refine set1 ?_ (by omega) _ _ | with_reducible refine Below.alloc ?_ (by (try simp only [World.size_alloc, World.size_setCell]); omega) _ | with_reducible refine below_drewN ?_ _ | with_reducible refine Below.drew ?_))).mono ?_
      rintro e w5 ⟨A5, k5, c5, rfl, hb5, H5⟩
      have hB5_0 : HasV ((.slice A n c)) (w.heap.size) w5 := HasV.up (by unfold HasV; go_simp) hb5 (by (try simp only [World.size_alloc]); omega)
      have hB5_1 : HasV ((.slice B m d)) (w.heap.size + 1) w5 := HasV.up (by unfold HasV; go_simp) hb5 (by (try simp only [World.size_alloc]); omega)
      have hB5_2 : HasV ((.slice A4 k4 c4)) (w4.heap.size) w5 := HasV.up (by unfold HasV; go_simp) hb5 (by (try simp only [World.size_alloc]); omega)
      have C5 : Below w.heap.size w w5 := by
        refine Below.trans ?_ (hb5.mono ?_)
        · repeat' (first | with_reducible exact Below.refl _ _ | with_reducible exact C4 | with_reducible refine set1 ?_ (by omega) _ _ | with_reducible refine Below.alloc ?_ (by (try simp only [World.size_alloc, World.size_setCell]); omega) _ | with_reducible refine below_drewN ?_ _ | with_reducible refine Below.drew ?_)
        · (try simp only [World.size_alloc]); omega
      have D5 : Below w4.heap.size w4 w5 := by
        refine Below.trans ?_ (hb5.mono ?_)
        · repeat' (first | with_reducible exact Below.refl _ _ | with_reducible exact Below.refl _ _ | with_reducible refine set1 ?_ (by omega) _ _ | with_reducible refine Below.alloc ?_ (by (try simp only [World.size_alloc, World.size_setCell]); omega) _ | with_reducible refine below_drewN ?_ _ | with_reducible refine Below.drew ?_)
        · (try simp only [World.size_alloc]); omega
      have H4 := Lib.hid (H4.out.up D5)
      clear D5
      clear f4_0_0 f4_1_0 hb5
      unfold HasV at hB5_0
      have f5_0_0 := hB5_0
      clear hB5_0
      have z5_0 : w.heap.size < w5.heap.size := World.block_lt_of_cell? _ _ f5_0_0
      unfold HasV at hB5_1
      have f5_1_0 := hB5_1
      clear hB5_1
      have z5_1 : w.heap.size + 1 < w5.heap.size := World.block_lt_of_cell? _ _ f5_1_0
      unfold HasV at hB5_2
      have f5_2_0 := hB5_2
      clear hB5_2
      have z5_2 : w4.heap.size < w5.heap.size := World.block_lt_of_cell? _ _ f5_2_0
      have zz5 := C5.size
      go_wp2_with fail
      refine (K3.out _ (by repeat' (first | with_reducible exact Below.refl _ _ | with_reducible exact C5 | with_reducible refine set1 ?_ (by omega) _ _ | with_reducible refine Below.alloc ?_ (by (try simp only [World.size_alloc, World.size_setCell]); omega) _ | with_reducible refine below_drewN ?_ _ | with_reducible refine Below.drew ?_))).mono ?_
      rintro e w6 ⟨A6, k6, c6, rfl, hb6, H6⟩
      have hB6_0 : HasV ((.slice A n c)) (w.heap.size) w6 := HasV.up (by unfold HasV; go_simp) hb6 (by (try simp only [World.size_alloc]); omega)
      have hB6_1 : HasV ((.slice B m d)) (w.heap.size + 1) w6 := HasV.up (by unfold HasV; go_simp) hb6 (by (try simp only [World.size_alloc]); omega)
      have hB6_2 : HasV ((.slice A4 k4 c4)) (w4.heap.size) w6 := HasV.up (by unfold HasV; go_simp) hb6 (by (try simp only [World.size_alloc]); omega)
      have hB6_3 : HasV ((.slice A5 k5 c5)) (w5.heap.size) w6 := HasV.up (by unfold HasV; go_simp) hb6 (by (try simp only [World.size_alloc]); omega)
      have C6 : Below w.heap.size w w6 := by
        refine Below.trans ?_ (hb6.mono ?_)
        · repeat' (first | with_reducible exact Below.refl _ _ | with_reducible exact C5 | with_reducible refine set1 ?_ (by omega) _ _ | with_reducible refine Below.alloc ?_ (by (try simp only [World.size_alloc, World.size_setCell]); omega) _ | with_reducible refine below_drewN ?_ _ | with_reducible refine Below.drew ?_)
        · (try simp only [World.size_alloc]); omega
      have D6 : Below w5.heap.size w5 w6 := by
        refine Below.trans ?_ (hb6.mono ?_)
        · repeat' (first | with_reducible exact Below.refl _ _ | with_reducible exact Below.refl _ _ | with_reducible refine set1 ?_ (by omega) _ _ | with_reducible refine Below.alloc ?_ (by (try simp only [World.size_alloc, World.size_setCell]); omega) _ | with_reducible refine below_drewN ?_ _ | with_reducible refine Below.drew ?_)
        · (try simp only [World.size_alloc]); omega
      have H4 := Lib.hid (H4.out.up D6)
      have H5 := Lib.hid (H5.out.up D6)
      clear D6
      clear f5_0_0 f5_1_0 f5_2_0 hb6
      unfold HasV at hB6_0
      have f6_0_0 := hB6_0
      clear hB6_0
      have z6_0 : w.heap.size < w6.heap.size := World.block_lt_of_cell? _ _ f6_0_0
      unfold HasV at hB6_1
      have f6_1_0 := hB6_1
      clear hB6_1
      have z6_1 : w.heap.size + 1 < w6.heap.size := World.block_lt_of_cell? _ _ f6_1_0
      unfold HasV at hB6_2
      have f6_2_0 := hB6_2
      clear hB6_2
      have z6_2 : w4.heap.size < w6.heap.size := World.block_lt_of_cell? _ _ f6_2_0
      unfold HasV at hB6_3
      have f6_3_0 := hB6_3
      clear hB6_3
      have z6_3 : w5.heap.size < w6.heap.size := World.block_lt_of_cell? _ _ f6_3_0
      have zz6 := C6.size
      go_wp2_with fail
      refine (K4.out _ (by repeat' (first | with_reducible exact Below.refl _ _ | with_reducible exact C6 | with_reducible refine set1 ?_ (by omega) _ _ | with_reducible refine Below.alloc ?_ (by (try simp only [World.size_alloc, World.size_setCell]); omega) _ | with_reducible refine below_drewN ?_ _ | with_reducible refine Below.drew ?_))).mono ?_
      rintro e w7 ⟨A7, k7, c7, rfl, hb7, H7⟩
      have hB7_0 : HasV ((.slice A n c)) (w.heap.size) w7 := HasV.up (by unfold HasV; go_simp) hb7 (by (try simp only [World.size_alloc]); omega)
      have hB7_1 : HasV ((.slice B m d)) (w.heap.size + 1) w7 := HasV.up (by unfold HasV; go_simp) hb7 (by (try simp only [World.size_alloc]); omega)
      have hB7_2 : HasV ((.slice A4 k4 c4)) (w4.heap.size) w7 := HasV.up (by unfold HasV; go_simp) hb7 (by (try simp only [World.size_alloc]); omega)
      have hB7_3 : HasV ((.slice A5 k5 c5)) (w5.heap.size) w7 := HasV.up (by unfold HasV; go_simp) hb7 (by (try simp only [World.size_alloc]); omega)
      have hB7_4 : HasV ((.slice A6 k6 c6)) (w6.heap.size) w7 := HasV.up (by unfold HasV; go_simp) hb7 (by (try simp only [World.size_alloc]); omega)
      have C7 : Below w.heap.size w w7 := by
        refine Below.trans ?_ (hb7.mono ?_)
        · repeat' (first | with_reducible exact Below.refl _ _ | with_reducible exact C6 | with_reducible refine set1 ?_ (by omega) _ _ | with_reducible refine Below.alloc ?_ (by (try simp only [World.size_alloc, World.size_setCell]); omega) _ | with_reducible refine below_drewN ?_ _ | with_reducible refine Below.drew ?_)
        · (try simp only [World.size_alloc]); omega
      have D7 : Below w6.heap.size w6 w7 := by
        refine Below.trans ?_ (hb7.mono ?_)
        · repeat' (first | with_reducible exact Below.refl _ _ | with_reducible exact Below.refl _ _ | with_reducible refine set1 ?_ (by omega) _ _ | with_reducible refine Below.alloc ?_ (by (try simp only [World.size_alloc, World.size_setCell]); omega) _ | with_reducible refine below_drewN ?_ _ | with_reducible refine Below.drew ?_)
        · (try simp only [World.size_alloc]); omega
      have H4 := Lib.hid (H4.out.up D7)
      have H5 := Lib.hid (H5.out.up D7)
      have H6 := Lib.hid (H6.out.up D7)
      clear D7
      clear f6_0_0 f6_1_0 f6_2_0 f6_3_0 hb7
      unfold HasV at hB7_0
      have f7_0_0 := hB7_0
      clear hB7_0
      have z7_0 : w.heap.size < w7.heap.size := World.block_lt_of_cell? _ _ f7_0_0
      unfold HasV at hB7_1
      have f7_1_0 := hB7_1
      clear hB7_1
      have z7_1 : w.heap.size + 1 < w7.heap.size := World.block_lt_of_cell? _ _ f7_1_0
      unfold HasV at hB7_2
      have f7_2_0 := hB7_2
      clear hB7_2
      have z7_2 : w4.heap.size < w7.heap.size := World.block_lt_of_cell? _ _ f7_2_0
      unfold HasV at hB7_3
      have f7_3_0 := hB7_3
      clear hB7_3
      have z7_3 : w5.heap.size < w7.heap.size := World.block_lt_of_cell? _ _ f7_3_0
      unfold HasV at hB7_4
      have f7_4_0 := hB7_4
      clear hB7_4
      have z7_4 : w6.heap.size < w7.heap.size := World.block_lt_of_cell? _ _ f7_4_0
      have zz7 := C7.size
      go_wp2_with fail
      refine (K5.out _ (by repeat' (first | with_reducible exact Below.refl _ _ | with_reducible exact C7 | with_reducible refine set1 ?_ (by omega) _ _ | with_reducible refine Below.alloc ?_ (by (try simp only [World.size_alloc, World.size_setCell]); omega) _ | with_reducible refine below_drewN ?_ _ | with_reducible refine Below.drew ?_))).mono ?_
      rintro e w8 ⟨rfl, hb8⟩
      have hB8_0 : HasV ((.slice A n c)) (w.heap.size) w8 := HasV.up (by unfold HasV; go_simp) hb8 (by (try simp only [World.size_alloc]); omega)
      have hB8_1 : HasV ((.slice B m d)) (w.heap.size + 1) w8 := HasV.up (by unfold HasV; go_simp) hb8 (by (try simp only [World.size_alloc]); omega)
      have hB8_2 : HasV ((.slice A4 k4 c4)) (w4.heap.size) w8 := HasV.up (by unfold HasV; go_simp) hb8 (by (try simp only [World.size_alloc]); omega)
      have hB8_3 : HasV ((.slice A5 k5 c5)) (w5.heap.size) w8 := HasV.up (by unfold HasV; go_simp) hb8 (by (try simp only [World.size_alloc]); omega)
      have hB8_4 : HasV ((.slice A6 k6 c6)) (w6.heap.size) w8 := HasV.up (by unfold HasV; go_simp) hb8 (by (try simp only [World.size_alloc]); omega)
      have hB8_5 : HasV ((.slice A7 k7 c7)) (w7.heap.size) w8 := HasV.up (by unfold HasV; go_simp) hb8 (by (try simp only [World.size_alloc]); omega)
      have C8 : Below w.heap.size w w8 := by
        refine Below.trans ?_ (hb8.mono ?_)
        · repeat' (first | with_reducible exact Below.refl _ _ | with_reducible exact C7 | with_reducible refine set1 ?_ (by omega) _ _ | with_reducible refine Below.alloc ?_ (by (try simp only [World.size_alloc, World.size_setCell]); omega) _ | with_reducible refine below_drewN ?_ _ | with_reducible refine Below.drew ?_)
        · (try simp only [World.size_alloc]); omega
      have D8 : Below w7.heap.size w7 w8 := by
        refine Below.trans ?_ (hb8.mono ?_)
        · repeat' (first | with_reducible exact Below.refl _ _ | with_reducible exact Below.refl _ _ | with_reducible refine set1 ?_ (by omega) _ _ | with_reducible refine Below.alloc ?_ (by (try simp only [World.size_alloc, World.size_setCell]); omega) _ | with_reducible refine below_drewN ?_ _ | with_reducible refine Below.drew ?_)
        · (try simp only [World.size_alloc]); omega
      have H4 := Lib.hid (H4.out.up D8)
      have H5 := Lib.hid (H5.out.up D8)
      have H6 := Lib.hid (H6.out.up D8)
      have H7 := Lib.hid (H7.out.up D8)
      clear D8
      clear f7_0_0 f7_1_0 f7_2_0 f7_3_0 f7_4_0 hb8
      unfold HasV at hB8_0
      have f8_0_0 := hB8_0
      clear hB8_0
      have z8_0 : w.heap.size < w8.heap.size := World.block_lt_of_cell? _ _ f8_0_0
      unfold HasV at hB8_1
      have f8_1_0 := hB8_1
      clear hB8_1
      have z8_1 : w.heap.size + 1 < w8.heap.size := World.block_lt_of_cell? _ _ f8_1_0
      unfold HasV at hB8_2
      have f8_2_0 := hB8_2
      clear hB8_2
      have z8_2 : w4.heap.size < w8.heap.size := World.block_lt_of_cell? _ _ f8_2_0
      unfold HasV at hB8_3
      have f8_3_0 := hB8_3
      clear hB8_3
      have z8_3 : w5.heap.size < w8.heap.size := World.block_lt_of_cell? _ _ f8_3_0
      unfold HasV at hB8_4
      have f8_4_0 := hB8_4
      clear hB8_4
      have z8_4 : w6.heap.size < w8.heap.size := World.block_lt_of_cell? _ _ f8_4_0
      unfold HasV at hB8_5
      have f8_5_0 := hB8_5
      clear hB8_5
      have z8_5 : w7.heap.size < w8.heap.size := World.block_lt_of_cell? _ _ f8_5_0
      have zz8 := C8.size
      go_wp2_with fail
      refine (K6.out _ (by repeat' (first | with_reducible exact Below.refl _ _ | with_reducible exact C8 | with_reducible refine set1 ?_ (by omega) _ _ | with_reducible refine Below.alloc ?_ (by (try simp only [World.size_alloc, World.size_setCell]); omega) _ | with_reducible refine below_drewN ?_ _ | with_reducible refine Below.drew ?_))).mono ?_
      rintro e w9 ⟨rfl, hb9⟩
      have hB9_0 : HasV ((.slice A n c)) (w.heap.size) w9 := HasV.up (by unfold HasV; go_simp) hb9 (by (try simp only [World.size_alloc, World.size_setCell]); omega)
      have hB9_1 : HasV ((.slice B m d)) (w.heap.size + 1) w9 := HasV.up (by unfold HasV; go_simp) hb9 (by (try simp only [World.size_alloc, World.size_setCell]); omega)
      have hB9_2 : HasV ((.slice A4 k4 c4)) (w4.heap.size) w9 := HasV.up (by unfold HasV; go_simp) hb9 (by (try simp only [World.size_alloc, World.size_setCell]); omega)
      have hB9_3 : HasV ((.slice A5 k5 c5)) (w5.heap.size) w9 := HasV.up (by unfold HasV; go_simp) hb9 (by (try simp only [World.size_alloc, World.size_setCell]); omega)
      have hB9_4 : HasV ((.slice A6 k6 c6)) (w6.heap.size) w9 := HasV.up (by unfold HasV; go_simp) hb9 (by (try simp only [World.size_alloc, World.size_setCell]); omega)
      have hB9_5 : HasV ((.slice A7 k7 c7)) (w7.heap.size) w9 := HasV.up (by unfold HasV; go_simp) hb9 (by (try simp only [World.size_alloc, World.size_setCell]); omega)
      have C9 : Below w.heap.size w w9 := by
        refine Below.trans ?_ (hb9.mono ?_)
        · repeat' (first | with_reducible exact Below.refl _ _ | with_reducible exact C8 | with_reducible refine set1 ?_ (by omega) _ _ | with_reducible refine Below.alloc ?_ (by (try simp only [World.size_alloc, World.size_setCell]); omega) _ | with_reducible refine below_drewN ?_ _ | with_reducible refine Below.drew ?_)
        · (try simp only [World.size_alloc, World.size_setCell]); omega
      have D9 : Below w8.heap.size w8 w9 := by
        refine Below.trans ?_ (hb9.mono ?_)
        · repeat' (first | with_reducible exact Below.refl _ _ | with_reducible exact Below.refl _ _ | with_reducible refine set1 ?_ (by omega) _ _ | with_reducible refine Below.alloc ?_ (by (try simp only [World.size_alloc, World.size_setCell]); omega) _ | with_reducible refine below_drewN ?_ _ | with_reducible refine Below.drew ?_)
        · (try simp only [World.size_alloc, World.size_setCell]); omega
      have H4 := Lib.hid (H4.out.up D9)
      have H5 := Lib.hid (H5.out.up D9)
      have H6 := Lib.hid (H6.out.up D9)
      have H7 := Lib.hid (H7.out.up D9)
      clear D9
      clear f8_0_0 f8_1_0 f8_2_0 f8_3_0 f8_4_0 f8_5_0 hb9
      unfold HasV at hB9_0
      have f9_0_0 := hB9_0
      clear hB9_0
      have z9_0 : w.heap.size < w9.heap.size := World.block_lt_of_cell? _ _ f9_0_0
      unfold HasV at hB9_1
      have f9_1_0 := hB9_1
      clear hB9_1
      have z9_1 : w.heap.size + 1 < w9.heap.size := World.block_lt_of_cell? _ _ f9_1_0
      unfold HasV at hB9_2
      have f9_2_0 := hB9_2
      clear hB9_2
      have z9_2 : w4.heap.size < w9.heap.size := World.block_lt_of_cell? _ _ f9_2_0
      unfold HasV at hB9_3
      have f9_3_0 := hB9_3
      clear hB9_3
      have z9_3 : w5.heap.size < w9.heap.size := World.block_lt_of_cell? _ _ f9_3_0
      unfold HasV at hB9_4
      have f9_4_0 := hB9_4
      clear hB9_4
      have z9_4 : w6.heap.size < w9.heap.size := World.block_lt_of_cell? _ _ f9_4_0
      unfold HasV at hB9_5
      have f9_5_0 := hB9_5
      clear hB9_5
      have z9_5 : w7.heap.size < w9.heap.size := World.block_lt_of_cell? _ _ f9_5_0
      have zz9 := C9.size
      have S1 : Hid (∀ w', Below w9.heap.size w9 w' → Calls Try.prog 55 #[.slice A4 k4 c4, .slice A5 k5 c5] w' fun e w'' => e = .returned (.bool true) ∧ Below w'.heap.size w' w'') := Lib.hid fun w' hb => shq_same (H4.out.up hb) (H5.out.up hb) fun _ _ _ => rfl
      have S2 : Hid (∀ w', Below w9.heap.size w9 w' → Calls Try.prog 55 #[.slice A6 k6 c6, .slice A7 k7 c7] w' fun e w'' => e = .returned (.bool true) ∧ Below w'.heap.size w' w'') := Lib.hid fun w' hb => shq_same (H6.out.up hb) (H7.out.up hb) fun _ _ _ => rfl
      clear C1 C2 C3 C4 C5 C6 C7 C8
      go_wp2_with fail
      refine (S1.out _ (Below.refl _ _)).mono ?_
      rintro e w10 ⟨rfl, hb10⟩
      have hB10_0 : HasV ((.slice A n c)) (w.heap.size) w10 := HasV.up (by unfold HasV; go_simp) hb10 (by (try simp only [World.size_alloc, World.size_setCell]); omega)
      have hB10_1 : HasV ((.slice B m d)) (w.heap.size + 1) w10 := HasV.up (by unfold HasV; go_simp) hb10 (by (try simp only [World.size_alloc, World.size_setCell]); omega)
      have hB10_2 : HasV ((.slice A4 k4 c4)) (w4.heap.size) w10 := HasV.up (by unfold HasV; go_simp) hb10 (by (try simp only [World.size_alloc, World.size_setCell]); omega)
      have hB10_3 : HasV ((.slice A5 k5 c5)) (w5.heap.size) w10 := HasV.up (by unfold HasV; go_simp) hb10 (by (try simp only [World.size_alloc, World.size_setCell]); omega)
      have hB10_4 : HasV ((.slice A6 k6 c6)) (w6.heap.size) w10 := HasV.up (by unfold HasV; go_simp) hb10 (by (try simp only [World.size_alloc, World.size_setCell]); omega)
      have hB10_5 : HasV ((.slice A7 k7 c7)) (w7.heap.size) w10 := HasV.up (by unfold HasV; go_simp) hb10 (by (try simp only [World.size_alloc, World.size_setCell]); omega)
      have C10 : Below w.heap.size w w10 := by
        refine Below.trans ?_ (hb10.mono ?_)
        · repeat' (first | with_reducible exact Below.refl _ _ | with_reducible exact C9 | with_reducible refine set1 ?_ (by omega) _ _ | with_reducible refine Below.alloc ?_ (by (try simp only [World.size_alloc, World.size_setCell]); omega) _ | with_reducible refine below_drewN ?_ _ | with_reducible refine Below.drew ?_)
        · (try simp only [World.size_alloc, World.size_setCell]); omega
      have D10 := hb10
      clear f9_0_0 f9_1_0 f9_2_0 f9_3_0 f9_4_0 f9_5_0 hb10
      unfold HasV at hB10_0
      have f10_0_0 := hB10_0
      clear hB10_0
      have z10_0 : w.heap.size < w10.heap.size := World.block_lt_of_cell? _ _ f10_0_0
      unfold HasV at hB10_1
      have f10_1_0 := hB10_1
      clear hB10_1
      have z10_1 : w.heap.size + 1 < w10.heap.size := World.block_lt_of_cell? _ _ f10_1_0
      unfold HasV at hB10_2
      have f10_2_0 := hB10_2
      clear hB10_2
      have z10_2 : w4.heap.size < w10.heap.size := World.block_lt_of_cell? _ _ f10_2_0
      unfold HasV at hB10_3
      have f10_3_0 := hB10_3
      clear hB10_3
      have z10_3 : w5.heap.size < w10.heap.size := World.block_lt_of_cell? _ _ f10_3_0
      unfold HasV at hB10_4
      have f10_4_0 := hB10_4
      clear hB10_4
      have z10_4 : w6.heap.size < w10.heap.size := World.block_lt_of_cell? _ _ f10_4_0
      unfold HasV at hB10_5
      have f10_5_0 := hB10_5
      clear hB10_5
      have z10_5 : w7.heap.size < w10.heap.size := World.block_lt_of_cell? _ _ f10_5_0
      have zz10 := C10.size
      go_wp2_with fail
      refine (S2.out _ (by repeat' (first | with_reducible exact Below.refl _ _ | with_reducible exact D10 | with_reducible refine set1 ?_ (by omega) _ _ | with_reducible refine Below.alloc ?_ (by (try simp only [World.size_alloc, World.size_setCell]); omega) _ | with_reducible refine below_drewN ?_ _ | with_reducible refine Below.drew ?_))).mono ?_
      rintro e w11 ⟨rfl, hb11⟩
      have hB11_0 : HasV ((.slice A n c)) (w.heap.size) w11 := HasV.up (by unfold HasV; go_simp) hb11 (by (try simp only [World.size_alloc, World.size_setCell]); omega)
      have hB11_1 : HasV ((.slice B m d)) (w.heap.size + 1) w11 := HasV.up (by unfold HasV; go_simp) hb11 (by (try simp only [World.size_alloc, World.size_setCell]); omega)
      have hB11_2 : HasV ((.slice A4 k4 c4)) (w4.heap.size) w11 := HasV.up (by unfold HasV; go_simp) hb11 (by (try simp only [World.size_alloc, World.size_setCell]); omega)
      have hB11_3 : HasV ((.slice A5 k5 c5)) (w5.heap.size) w11 := HasV.up (by unfold HasV; go_simp) hb11 (by (try simp only [World.size_alloc, World.size_setCell]); omega)
      have hB11_4 : HasV ((.slice A6 k6 c6)) (w6.heap.size) w11 := HasV.up (by unfold HasV; go_simp) hb11 (by (try simp only [World.size_alloc, World.size_setCell]); omega)
      have hB11_5 : HasV ((.slice A7 k7 c7)) (w7.heap.size) w11 := HasV.up (by unfold HasV; go_simp) hb11 (by (try simp only [World.size_alloc, World.size_setCell]); omega)
      have C11 : Below w.heap.size w w11 := by
        refine Below.trans ?_ (hb11.mono ?_)
        · repeat' (first | with_reducible exact Below.refl _ _ | with_reducible exact C10 | with_reducible refine set1 ?_ (by omega) _ _ | with_reducible refine Below.alloc ?_ (by (try simp only [World.size_alloc, World.size_setCell]); omega) _ | with_reducible refine below_drewN ?_ _ | with_reducible refine Below.drew ?_)
        · (try simp only [World.size_alloc, World.size_setCell]); omega
      clear f10_0_0 f10_1_0 f10_2_0 f10_3_0 f10_4_0 f10_5_0 hb11
      unfold HasV at hB11_0
      have f11_0_0 := hB11_0
      clear hB11_0
      have z11_0 : w.heap.size < w11.heap.size := World.block_lt_of_cell? _ _ f11_0_0
      unfold HasV at hB11_1
      have f11_1_0 := hB11_1
      clear hB11_1
      have z11_1 : w.heap.size + 1 < w11.heap.size := World.block_lt_of_cell? _ _ f11_1_0
      unfold HasV at hB11_2
      have f11_2_0 := hB11_2
      clear hB11_2
      have z11_2 : w4.heap.size < w11.heap.size := World.block_lt_of_cell? _ _ f11_2_0
      unfold HasV at hB11_3
      have f11_3_0 := hB11_3
      clear hB11_3
      have z11_3 : w5.heap.size < w11.heap.size := World.block_lt_of_cell? _ _ f11_3_0
      unfold HasV at hB11_4
      have f11_4_0 := hB11_4
      clear hB11_4
      have z11_4 : w6.heap.size < w11.heap.size := World.block_lt_of_cell? _ _ f11_4_0
      unfold HasV at hB11_5
      have f11_5_0 := hB11_5
      clear hB11_5
      have z11_5 : w7.heap.size < w11.heap.size := World.block_lt_of_cell? _ _ f11_5_0
      have zz11 := C11.size
      go_wp2_with fail
      go_ret
      exact ⟨rfl, (by repeat' (first | with_reducible exact Below.refl _ _ | with_reducible exact C11 | with_reducible refine set1 ?_ (by omega) _ _ | with_reducible refine Below.alloc ?_ (by (try simp only [World.size_alloc, World.size_setCell]); omega) _ | with_reducible refine below_drewN ?_ _ | with_reducible refine Below.drew ?_))⟩
theorem copies_law (A : Option Addr) (n c : Nat) (M : Nat → List (Int × Int)) (B : Option Addr) (m d : Nat) (N : Nat → List (Int × Int)) (w : World) (ha : SheetC A n M w) (hb : SheetC B m N w) :
    Calls Try.prog 8 #[.agg #[.slice A n c], .agg #[.slice B m d]] w fun e w' => e = .returned (.bool true) ∧ Below w.heap.size w w' := by
  obtain ⟨E1, h1⟩ := bthE_ex n m M N
  obtain ⟨E2, h2⟩ := eitE_ex n m M N
  obtain ⟨E3, h3⟩ := alE_ex n m M N
  obtain ⟨G, hG⟩ : ∃ G : Bool, G = true ↔ E3 = 0 ∧ ∀ i, i < n → Win (M i) (N i) := by
    by_cases h : E3 = 0 ∧ ∀ i, i < n → Win (M i) (N i)
    · exact ⟨true, fun _ => h, fun _ => rfl⟩
    · exact ⟨false, fun e => (by cases e), fun e => absurd e h⟩
  exact copies_core A B n m c d _ _ E1 E2 E3 G w
    (Lib.hid fun W hW => small_sh A n c M W (ha.up hW).sheet) (Lib.hid fun W hW => small_sh B m d N W (hb.up hW).sheet)
    (Lib.hid fun W hW => Both_sh A B n m c d M N E1 W (ha.up hW).sheet (hb.up hW).sheet h1)
    (Lib.hid fun W hW => RBoth_sh A B n m c d M N E1 W (ha.up hW).sheet (hb.up hW).sheet h1)
    (Lib.hid fun W hW => Either_sh A B n m c d M N E2 W (ha.up hW).sheet (hb.up hW).sheet h2)
    (Lib.hid fun W hW => REither_sh A B n m c d M N E2 W (ha.up hW) (hb.up hW).sheet h2)
    (Lib.hid fun W hW => Within_sh A B n m c d M N E3 G W (ha.up hW).sheet (hb.up hW).sheet h3 hG)
    (Lib.hid fun W hW => RWithin_sh A B n m c d M N E3 G W (ha.up hW).sheet (hb.up hW).sheet h3 hG)
theorem copies.own : ownKnob Try.prog.godebug = none := by kernel_rfl
set_option maxRecDepth 100000 in
set_option maxHeartbeats 1000000 in
theorem copies_lifted (os : Os) (started : os.Started) (H : Type) (enc : TypeId × Value → H) :
    ReturnsInHanded {} Try.checked os 8 .any (Rows.paperCopiesSpec.pre6 enc Try.prog Try.f8 Rows.paperCopiesRow.domain false) (Rows.paperCopiesSpec.post enc Try.prog Try.f8 false true false false) := by
  refine returnsInHanded_of_change (C := Try.checked) copies.own started (by kernel_rfl) Try.func8
    (ChangeSpec.witness6 (enc := enc) (C := Try.checked) false ⟨#[], #[.agg #[.slice none 0 0], .agg #[.slice none 0 0]], []⟩ 8 (by kernel_rfl) (by kernel_rfl) (by kernel_rfl) (by kernel_rfl)) ?_
  intro W base args ds gs before hval0 hW hcnd _
  have hval : ∀ (j : Nat) t v, Try.f8.params[j]? = some t → args[j]? = some v → Value.okWide Try.prog W .any base t v := hval0
  have hW' := hW
  obtain ⟨p, q, hA0, hV, rfl, hfz, hnd⟩ := hW
  have hA : DataW.TrodAll enc Try.prog W 0 (fun _ => true) true Try.f8.params.toList args.toList ds p := hA0
  rw [Try.params8] at hA hval
  obtain ⟨v0, v1, d0, d1, p0, p1, rfl, rfl, rfl, h0, h1⟩ := trodAll_two hA
  obtain ⟨rfl, rfl⟩ := trodVars_none hV
  have hlt := fun x hx => hW'.lt x hx
  simp only [List.append_nil, List.mem_append] at hlt
  have k0 := h0
  have k1 := h1
  obtain ⟨aA, an, ac, aP, rfl, ah⟩ := open_sheet (hval 0 29 v0 rfl rfl) h0
  obtain ⟨bA, bn, bc, bP, rfl, bh⟩ := open_sheet (hval 1 29 v1 rfl rfl) h1
  clear hA0 hval0
  simp only [List.append_nil] at hW'
  refine (copies_law aA an ac aP bA bn bc bP W ah bh).mono fun e W' ⟨he, hw⟩ => ?_
  subst he
  exact ⟨_, rfl, [d0, d1], [], _, [], p0 ++ (p1), [], hW', trodAll_mk1 (shut_bool Try.underlying4 true), trodAll_mk2 (Below.trod Try.laidOut (by kernel_rfl) (of_decide_eq_true (by kernel_rfl)) k0 hw (fun x hx => hlt x (by simp [hx]))) (Below.trod Try.laidOut (by kernel_rfl) (of_decide_eq_true (by kernel_rfl)) k1 hw (fun x hx => hlt x (by simp [hx]))), rfl, hw.frame _, fun h => by cases h⟩
theorem copies_holds : Rows.PaperCopiesSaid :=
  OpenClaim.holds_of_wide 8 Try.f8 rfl rfl rfl rfl rfl rfl rfl ⟨rfl, rfl, rfl, rfl, rfl⟩ rfl rfl rfl rfl rfl (by kernel_rfl) Try.func8 (by kernel_rfl)
    (of_decide_eq_true (by kernel_rfl)) (by unfold Func.isWrapper; first | (rw [if_pos (by decide +kernel)]; kernel_rfl) | (rw [if_neg (by decide +kernel)]; exact ⟨rfl, rfl⟩))
    (fun os started H enc _ => copies_lifted os started H enc)
end Go.Proofs.Ytmeljcbefnojfaa
