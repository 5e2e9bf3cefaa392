import Derived.Test.YtmeljcbefnojfaaTht
namespace Go.Proofs.Ytmeljcbefnojfaa
open Go.ChangeShapes Go.WideShapes Go.ChangeAt Go.RowKit
set_option maxRecDepth 100000 in
set_option maxHeartbeats 40000000 in
theorem three_0f (A B C : Option Addr) (n m l c d f : Nat) (w : World) (E2 : Int) (G2 : Bool) (LX LU : Nat → List (Int × Int)) (E5 E6 E7 E8 E9 E10 : Int) (G3 G4 : Bool) (LY LXP LMY LV LUP LMV : Nat → List (Int × Int)) (nx nu : Nat)
    (KSa : Hid (∀ W, Below w.heap.size w W → Calls Try.prog 20 #[.agg #[.slice A n c]] W (AnyBool W)))
    (KSb : Hid (∀ W, Below w.heap.size w W → Calls Try.prog 20 #[.agg #[.slice B m d]] W (AnyBool W)))
    (KSc : Hid (∀ W, Below w.heap.size w W → Calls Try.prog 20 #[.agg #[.slice C l f]] W (AnyBool W)))
    (K1 : Hid (∀ W, Below w.heap.size w W → Calls Try.prog 56 #[.agg #[.slice A n c], .agg #[.slice B m d]] W (ShP n LX 0 W)))
    (K2 : Hid (∀ W, Below w.heap.size w W → Calls Try.prog 58 #[.agg #[.slice A n c], .agg #[.slice B m d]] W (ShP n LU E2 W)))
    (K3 : Hid (∀ W : World, Below w.heap.size w W → Calls Try.prog 60 #[.agg #[.slice C l f], .agg #[.slice A n c]] W fun e w' => e = .returned (.tuple #[.bool false, .int .i64 0]) ∧ Below W.heap.size W w'))
    (K4 : Hid (∀ W : World, Below w.heap.size w W → Calls Try.prog 60 #[.agg #[.slice C l f], .agg #[.slice B m d]] W fun e w' => e = .returned (.tuple #[.bool G2, .int .i64 0]) ∧ Below W.heap.size W w'))
    (T : Hid (Three A B C n m l c d f w 0 E2 false G2 LX LU E5 E6 E7 E8 E9 E10 G3 G4 LY LXP LMY LV LUP LMV nx nu)) :
    Calls Try.prog 16 #[.agg #[.slice A n c], .agg #[.slice B m d], .agg #[.slice C l f]] w fun e w' => e = .returned (.bool true) ∧ Below w.heap.size w w' := by
  go_enter Try.func16, Try.ntmps16
  go_wp2_with fail
  refine (awake_any _).mono ?_
  rintro e w1 ⟨rfl, hb1⟩
  have s1 : w.heap.size ≤ w1.heap.size := by have := hb1.size; (repeat rw [World.size_alloc] at this); (repeat rw [World.size_setCell] at this); omega
  have f1_0 : w1.cell? ⟨w.heap.size, 0, none⟩ = some (.slice A n c) := low_cell hb1 (by (repeat rw [World.size_alloc]); (repeat rw [World.size_setCell]); all_goals omega) (by go_simp)
  have z1_0 : w.heap.size < w1.heap.size := World.block_lt_of_cell? _ _ f1_0
  have f1_1 : w1.cell? ⟨w.heap.size + 1, 0, none⟩ = some (.slice B m d) := low_cell hb1 (by (repeat rw [World.size_alloc]); (repeat rw [World.size_setCell]); all_goals omega) (by go_simp)
  have z1_1 : w.heap.size + 1 < w1.heap.size := World.block_lt_of_cell? _ _ f1_1
  have f1_2 : w1.cell? ⟨w.heap.size + 1 + 1, 0, none⟩ = some (.slice C l f) := low_cell hb1 (by (repeat rw [World.size_alloc]); (repeat rw [World.size_setCell]); all_goals omega) (by go_simp)
  have z1_2 : w.heap.size + 1 + 1 < w1.heap.size := World.block_lt_of_cell? _ _ f1_2
  have C1 : Below w.heap.size w w1 := (box3 w _ _ _).trans (hb1.mono (by (repeat rw [World.size_alloc]); (repeat rw [World.size_setCell]); all_goals omega))
  clear hb1
  go_wp2_with fail
  refine (KSa.out _ (by first | exact C1 | exact C1.alloc C1.size _ | exact set1 C1 (by omega) _ _)).mono ?_
  rintro e w2 ⟨⟨b, rfl⟩, hb2⟩
  have s2 : w1.heap.size ≤ w2.heap.size := by have := hb2.size; (repeat rw [World.size_alloc] at this); (repeat rw [World.size_setCell] at this); omega
  have D2 : Below w1.heap.size w1 w2 := by first | exact hb2 | exact (box1 _ _).trans (hb2.mono (by (repeat rw [World.size_alloc]); (repeat rw [World.size_setCell]); all_goals omega))
  have f2_0 := cell_up D2 z1_0 f1_0
  have z2_0 := Nat.lt_of_lt_of_le z1_0 D2.size
  have f2_1 := cell_up D2 z1_1 f1_1
  have z2_1 := Nat.lt_of_lt_of_le z1_1 D2.size
  have f2_2 := cell_up D2 z1_2 f1_2
  have z2_2 := Nat.lt_of_lt_of_le z1_2 D2.size
  have C2 : Below w.heap.size w w2 := by first | exact C1.trans (hb2.mono C1.size) | exact (C1.alloc C1.size _).trans (hb2.mono (by (repeat rw [World.size_alloc]); (repeat rw [World.size_setCell]); all_goals omega)) | exact (set1 C1 (by omega) _ _).trans (hb2.mono (by (repeat rw [World.size_alloc]); (repeat rw [World.size_setCell]); all_goals omega))
  clear f1_0 f1_1 f1_2 hb2 D2
  cases b with
  | false =>
    go_wp2_with fail
    go_ret
    exact ⟨rfl, C2⟩
  | true =>
    go_wp2_with fail
    refine (KSb.out _ (by first | exact C2 | exact C2.alloc C2.size _ | exact set1 C2 (by omega) _ _)).mono ?_
    rintro e w3 ⟨⟨b, rfl⟩, hb3⟩
    have s3 : w2.heap.size ≤ w3.heap.size := by have := hb3.size; (repeat rw [World.size_alloc] at this); (repeat rw [World.size_setCell] at this); omega
    have D3 : Below w2.heap.size w2 w3 := by first | exact hb3 | exact (box1 _ _).trans (hb3.mono (by (repeat rw [World.size_alloc]); (repeat rw [World.size_setCell]); all_goals omega))
    have f3_0 := cell_up D3 z2_0 f2_0
    have z3_0 := Nat.lt_of_lt_of_le z2_0 D3.size
    have f3_1 := cell_up D3 z2_1 f2_1
    have z3_1 := Nat.lt_of_lt_of_le z2_1 D3.size
    have f3_2 := cell_up D3 z2_2 f2_2
    have z3_2 := Nat.lt_of_lt_of_le z2_2 D3.size
    have C3 : Below w.heap.size w w3 := by first | exact C2.trans (hb3.mono C2.size) | exact (C2.alloc C2.size _).trans (hb3.mono (by (repeat rw [World.size_alloc]); (repeat rw [World.size_setCell]); all_goals omega)) | exact (set1 C2 (by omega) _ _).trans (hb3.mono (by (repeat rw [World.size_alloc]); (repeat rw [World.size_setCell]); all_goals omega))
    clear f2_0 f2_1 f2_2 hb3 D3
    cases b with
    | false =>
      go_wp2_with fail
      go_ret
      exact ⟨rfl, C3⟩
    | true =>
      go_wp2_with fail
      refine (KSc.out _ (by first | exact C3 | exact C3.alloc C3.size _ | exact set1 C3 (by omega) _ _)).mono ?_
      rintro e w4 ⟨⟨b, rfl⟩, hb4⟩
      have s4 : w3.heap.size ≤ w4.heap.size := by have := hb4.size; (repeat rw [World.size_alloc] at this); (repeat rw [World.size_setCell] at this); omega
      have D4 : Below w3.heap.size w3 w4 := by first | exact hb4 | exact (box1 _ _).trans (hb4.mono (by (repeat rw [World.size_alloc]); (repeat rw [World.size_setCell]); all_goals omega))
      have f4_0 := cell_up D4 z3_0 f3_0
      have z4_0 := Nat.lt_of_lt_of_le z3_0 D4.size
      have f4_1 := cell_up D4 z3_1 f3_1
      have z4_1 := Nat.lt_of_lt_of_le z3_1 D4.size
      have f4_2 := cell_up D4 z3_2 f3_2
      have z4_2 := Nat.lt_of_lt_of_le z3_2 D4.size
      have C4 : Below w.heap.size w w4 := by first | exact C3.trans (hb4.mono C3.size) | exact (C3.alloc C3.size _).trans (hb4.mono (by (repeat rw [World.size_alloc]); (repeat rw [World.size_setCell]); all_goals omega)) | exact (set1 C3 (by omega) _ _).trans (hb4.mono (by (repeat rw [World.size_alloc]); (repeat rw [World.size_setCell]); all_goals omega))
      clear f3_0 f3_1 f3_2 hb4 D4
      cases b with
      | false =>
        go_wp2_with fail
        go_ret
        exact ⟨rfl, C4⟩
      | true =>
        go_wp2_with fail
        refine (K1.out _ (by first | exact C4 | exact C4.alloc C4.size _ | exact set1 C4 (by omega) _ _)).mono ?_
        rintro e w5 ⟨A5, k5, c5, rfl, hb5, H5⟩
        have s5 : w4.heap.size ≤ w5.heap.size := by have := hb5.size; (repeat rw [World.size_alloc] at this); (repeat rw [World.size_setCell] at this); omega
        have D5 : Below w4.heap.size w4 w5 := by first | exact hb5 | exact (box1 _ _).trans (hb5.mono (by (repeat rw [World.size_alloc]); (repeat rw [World.size_setCell]); all_goals omega))
        have f5_0 := cell_up D5 z4_0 f4_0
        have z5_0 := Nat.lt_of_lt_of_le z4_0 D5.size
        have f5_1 := cell_up D5 z4_1 f4_1
        have z5_1 := Nat.lt_of_lt_of_le z4_1 D5.size
        have f5_2 := cell_up D5 z4_2 f4_2
        have z5_2 := Nat.lt_of_lt_of_le z4_2 D5.size
        have C5 : Below w.heap.size w w5 := by first | exact C4.trans (hb5.mono C4.size) | exact (C4.alloc C4.size _).trans (hb5.mono (by (repeat rw [World.size_alloc]); (repeat rw [World.size_setCell]); all_goals omega)) | exact (set1 C4 (by omega) _ _).trans (hb5.mono (by (repeat rw [World.size_alloc]); (repeat rw [World.size_setCell]); all_goals omega))
        clear f4_0 f4_1 f4_2 hb5 D5
        go_wp2_with fail
        refine (K2.out _ (by first | exact C5 | exact C5.alloc C5.size _ | exact set1 C5 (by omega) _ _)).mono ?_
        rintro e w6 ⟨A6, k6, c6, rfl, hb6, H6⟩
        have s6 : w5.heap.size ≤ w6.heap.size := by have := hb6.size; (repeat rw [World.size_alloc] at this); (repeat rw [World.size_setCell] at this); omega
        have D6 : Below w5.heap.size w5 w6 := by first | exact hb6 | exact (box1 _ _).trans (hb6.mono (by (repeat rw [World.size_alloc]); (repeat rw [World.size_setCell]); all_goals omega))
        have f6_0 := cell_up D6 z5_0 f5_0
        have z6_0 := Nat.lt_of_lt_of_le z5_0 D6.size
        have f6_1 := cell_up D6 z5_1 f5_1
        have z6_1 := Nat.lt_of_lt_of_le z5_1 D6.size
        have f6_2 := cell_up D6 z5_2 f5_2
        have z6_2 := Nat.lt_of_lt_of_le z5_2 D6.size
        have f6_3 : w6.cell? ⟨w5.heap.size, 0, none⟩ = some (.slice A5 k5 c5) := low_cell hb6 (by (repeat rw [World.size_alloc]); (repeat rw [World.size_setCell]); all_goals omega) (by go_simp)
        have z6_3 : w5.heap.size < w6.heap.size := World.block_lt_of_cell? _ _ f6_3
        have C6 : Below w.heap.size w w6 := by first | exact C5.trans (hb6.mono C5.size) | exact (C5.alloc C5.size _).trans (hb6.mono (by (repeat rw [World.size_alloc]); (repeat rw [World.size_setCell]); all_goals omega)) | exact (set1 C5 (by omega) _ _).trans (hb6.mono (by (repeat rw [World.size_alloc]); (repeat rw [World.size_setCell]); all_goals omega))
        have H5 := Lib.hid (H5.out.up D6)
        clear f5_0 f5_1 f5_2 hb6 D6
        go_wp2_with fail
        refine (K3.out _ (by first | exact C6 | exact C6.alloc C6.size _ | exact set1 C6 (by omega) _ _)).mono ?_
        rintro e w7 ⟨rfl, hb7⟩
        have s7 : w6.heap.size ≤ w7.heap.size := by have := hb7.size; (repeat rw [World.size_alloc] at this); (repeat rw [World.size_setCell] at this); omega
        have D7 : Below w6.heap.size w6 w7 := by first | exact hb7 | exact (box1 _ _).trans (hb7.mono (by (repeat rw [World.size_alloc]); (repeat rw [World.size_setCell]); all_goals omega))
        have f7_0 := cell_up D7 z6_0 f6_0
        have z7_0 := Nat.lt_of_lt_of_le z6_0 D7.size
        have f7_1 := cell_up D7 z6_1 f6_1
        have z7_1 := Nat.lt_of_lt_of_le z6_1 D7.size
        have f7_2 := cell_up D7 z6_2 f6_2
        have z7_2 := Nat.lt_of_lt_of_le z6_2 D7.size
        have f7_3 := cell_up D7 z6_3 f6_3
        have z7_3 := Nat.lt_of_lt_of_le z6_3 D7.size
        have f7_4 : w7.cell? ⟨w6.heap.size, 0, none⟩ = some (.slice A6 k6 c6) := low_cell hb7 (by (repeat rw [World.size_alloc]); (repeat rw [World.size_setCell]); all_goals omega) (by go_simp)
        have z7_4 : w6.heap.size < w7.heap.size := World.block_lt_of_cell? _ _ f7_4
        have C7 : Below w.heap.size w w7 := by first | exact C6.trans (hb7.mono C6.size) | exact (C6.alloc C6.size _).trans (hb7.mono (by (repeat rw [World.size_alloc]); (repeat rw [World.size_setCell]); all_goals omega)) | exact (set1 C6 (by omega) _ _).trans (hb7.mono (by (repeat rw [World.size_alloc]); (repeat rw [World.size_setCell]); all_goals omega))
        have H5 := Lib.hid (H5.out.up D7)
        have H6 := Lib.hid (H6.out.up D7)
        clear f6_0 f6_1 f6_2 f6_3 hb7 D7
        go_wp2_with fail
        refine (K4.out _ (by first | exact C7 | exact C7.alloc C7.size _ | exact set1 C7 (by omega) _ _)).mono ?_
        rintro e w8 ⟨rfl, hb8⟩
        have s8 : w7.heap.size ≤ w8.heap.size := by have := hb8.size; (repeat rw [World.size_alloc] at this); (repeat rw [World.size_setCell] at this); omega
        have D8 : Below w7.heap.size w7 w8 := by first | exact hb8 | exact (box1 _ _).trans (hb8.mono (by (repeat rw [World.size_alloc]); (repeat rw [World.size_setCell]); all_goals omega))
        have f8_0 := cell_up D8 z7_0 f7_0
        have z8_0 := Nat.lt_of_lt_of_le z7_0 D8.size
        have f8_1 := cell_up D8 z7_1 f7_1
        have z8_1 := Nat.lt_of_lt_of_le z7_1 D8.size
        have f8_2 := cell_up D8 z7_2 f7_2
        have z8_2 := Nat.lt_of_lt_of_le z7_2 D8.size
        have f8_3 := cell_up D8 z7_3 f7_3
        have z8_3 := Nat.lt_of_lt_of_le z7_3 D8.size
        have f8_4 := cell_up D8 z7_4 f7_4
        have z8_4 := Nat.lt_of_lt_of_le z7_4 D8.size
        have C8 : Below w.heap.size w w8 := by first | exact C7.trans (hb8.mono C7.size) | exact (C7.alloc C7.size _).trans (hb8.mono (by (repeat rw [World.size_alloc]); (repeat rw [World.size_setCell]); all_goals omega)) | exact (set1 C7 (by omega) _ _).trans (hb8.mono (by (repeat rw [World.size_alloc]); (repeat rw [World.size_setCell]); all_goals omega))
        have H5 := Lib.hid (H5.out.up D8)
        have H6 := Lib.hid (H6.out.up D8)
        clear f7_0 f7_1 f7_2 f7_3 f7_4 hb8 D8
        skip
        go_wp2_with fail
        refine (T.out.wxa rfl _ _ _ _ (H5.out.up (by first | exact Below.refl _ _ | exact box1 _ _)) (by first | exact C8 | exact C8.alloc C8.size _ | exact set1 C8 (by omega) _ _)).mono ?_
        rintro e w9 ⟨rfl, hb9⟩
        have s9 : w8.heap.size ≤ w9.heap.size := by have := hb9.size; (repeat rw [World.size_alloc] at this); (repeat rw [World.size_setCell] at this); omega
        have D9 : Below w8.heap.size w8 w9 := by first | exact hb9 | exact (box1 _ _).trans (hb9.mono (by (repeat rw [World.size_alloc]); (repeat rw [World.size_setCell]); all_goals omega))
        have f9_0 := cell_up D9 z8_0 f8_0
        have z9_0 := Nat.lt_of_lt_of_le z8_0 D9.size
        have f9_1 := cell_up D9 z8_1 f8_1
        have z9_1 := Nat.lt_of_lt_of_le z8_1 D9.size
        have f9_2 := cell_up D9 z8_2 f8_2
        have z9_2 := Nat.lt_of_lt_of_le z8_2 D9.size
        have f9_3 := cell_up D9 z8_3 f8_3
        have z9_3 := Nat.lt_of_lt_of_le z8_3 D9.size
        have f9_4 := cell_up D9 z8_4 f8_4
        have z9_4 := Nat.lt_of_lt_of_le z8_4 D9.size
        have C9 : Below w.heap.size w w9 := by first | exact C8.trans (hb9.mono C8.size) | exact (C8.alloc C8.size _).trans (hb9.mono (by (repeat rw [World.size_alloc]); (repeat rw [World.size_setCell]); all_goals omega)) | exact (set1 C8 (by omega) _ _).trans (hb9.mono (by (repeat rw [World.size_alloc]); (repeat rw [World.size_setCell]); all_goals omega))
        have H5 := Lib.hid (H5.out.up D9)
        have H6 := Lib.hid (H6.out.up D9)
        clear f8_0 f8_1 f8_2 f8_3 f8_4 hb9 D9
        go_wp2_with fail
        refine (T.out.wxb rfl _ _ _ _ (H5.out.up (by first | exact Below.refl _ _ | exact box1 _ _)) (by first | exact C9 | exact C9.alloc C9.size _ | exact set1 C9 (by omega) _ _)).mono ?_
        rintro e w10 ⟨rfl, hb10⟩
        have s10 : w9.heap.size ≤ w10.heap.size := by have := hb10.size; (repeat rw [World.size_alloc] at this); (repeat rw [World.size_setCell] at this); omega
        have D10 : Below w9.heap.size w9 w10 := by first | exact hb10 | exact (box1 _ _).trans (hb10.mono (by (repeat rw [World.size_alloc]); (repeat rw [World.size_setCell]); all_goals omega))
        have f10_0 := cell_up D10 z9_0 f9_0
        have z10_0 := Nat.lt_of_lt_of_le z9_0 D10.size
        have f10_1 := cell_up D10 z9_1 f9_1
        have z10_1 := Nat.lt_of_lt_of_le z9_1 D10.size
        have f10_2 := cell_up D10 z9_2 f9_2
        have z10_2 := Nat.lt_of_lt_of_le z9_2 D10.size
        have f10_3 := cell_up D10 z9_3 f9_3
        have z10_3 := Nat.lt_of_lt_of_le z9_3 D10.size
        have f10_4 := cell_up D10 z9_4 f9_4
        have z10_4 := Nat.lt_of_lt_of_le z9_4 D10.size
        have C10 : Below w.heap.size w w10 := by first | exact C9.trans (hb10.mono C9.size) | exact (C9.alloc C9.size _).trans (hb10.mono (by (repeat rw [World.size_alloc]); (repeat rw [World.size_setCell]); all_goals omega)) | exact (set1 C9 (by omega) _ _).trans (hb10.mono (by (repeat rw [World.size_alloc]); (repeat rw [World.size_setCell]); all_goals omega))
        have H5 := Lib.hid (H5.out.up D10)
        have H6 := Lib.hid (H6.out.up D10)
        clear f9_0 f9_1 f9_2 f9_3 f9_4 hb10 D10
        go_wp2_with fail
        refine (T.out.wcx rfl _ _ _ _ (H5.out.up (by first | exact Below.refl _ _ | exact box1 _ _)) (by first | exact C10 | exact C10.alloc C10.size _ | exact set1 C10 (by omega) _ _)).mono ?_
        rintro e w11 ⟨rfl, hb11⟩
        have s11 : w10.heap.size ≤ w11.heap.size := by have := hb11.size; (repeat rw [World.size_alloc] at this); (repeat rw [World.size_setCell] at this); omega
        have D11 : Below w10.heap.size w10 w11 := by first | exact hb11 | exact (box1 _ _).trans (hb11.mono (by (repeat rw [World.size_alloc]); (repeat rw [World.size_setCell]); all_goals omega))
        have f11_0 := cell_up D11 z10_0 f10_0
        have z11_0 := Nat.lt_of_lt_of_le z10_0 D11.size
        have f11_1 := cell_up D11 z10_1 f10_1
        have z11_1 := Nat.lt_of_lt_of_le z10_1 D11.size
        have f11_2 := cell_up D11 z10_2 f10_2
        have z11_2 := Nat.lt_of_lt_of_le z10_2 D11.size
        have f11_3 := cell_up D11 z10_3 f10_3
        have z11_3 := Nat.lt_of_lt_of_le z10_3 D11.size
        have f11_4 := cell_up D11 z10_4 f10_4
        have z11_4 := Nat.lt_of_lt_of_le z10_4 D11.size
        have C11 : Below w.heap.size w w11 := by first | exact C10.trans (hb11.mono C10.size) | exact (C10.alloc C10.size _).trans (hb11.mono (by (repeat rw [World.size_alloc]); (repeat rw [World.size_setCell]); all_goals omega)) | exact (set1 C10 (by omega) _ _).trans (hb11.mono (by (repeat rw [World.size_alloc]); (repeat rw [World.size_setCell]); all_goals omega))
        have H5 := Lib.hid (H5.out.up D11)
        have H6 := Lib.hid (H6.out.up D11)
        clear f10_0 f10_1 f10_2 f10_3 f10_4 hb11 D11
        skip
        rcases T.out.e2 with rfl | rfl
        · go_wp2_with fail
          refine (T.out.wau rfl _ _ _ _ (H6.out.up (by first | exact Below.refl _ _ | exact box1 _ _)) (by first | exact C11 | exact C11.alloc C11.size _ | exact set1 C11 (by omega) _ _)).mono ?_
          rintro e w12 ⟨rfl, hb12⟩
          have s12 : w11.heap.size ≤ w12.heap.size := by have := hb12.size; (repeat rw [World.size_alloc] at this); (repeat rw [World.size_setCell] at this); omega
          have D12 : Below w11.heap.size w11 w12 := by first | exact hb12 | exact (box1 _ _).trans (hb12.mono (by (repeat rw [World.size_alloc]); (repeat rw [World.size_setCell]); all_goals omega))
          have f12_0 := cell_up D12 z11_0 f11_0
          have z12_0 := Nat.lt_of_lt_of_le z11_0 D12.size
          have f12_1 := cell_up D12 z11_1 f11_1
          have z12_1 := Nat.lt_of_lt_of_le z11_1 D12.size
          have f12_2 := cell_up D12 z11_2 f11_2
          have z12_2 := Nat.lt_of_lt_of_le z11_2 D12.size
          have f12_3 := cell_up D12 z11_3 f11_3
          have z12_3 := Nat.lt_of_lt_of_le z11_3 D12.size
          have f12_4 := cell_up D12 z11_4 f11_4
          have z12_4 := Nat.lt_of_lt_of_le z11_4 D12.size
          have C12 : Below w.heap.size w w12 := by first | exact C11.trans (hb12.mono C11.size) | exact (C11.alloc C11.size _).trans (hb12.mono (by (repeat rw [World.size_alloc]); (repeat rw [World.size_setCell]); all_goals omega)) | exact (set1 C11 (by omega) _ _).trans (hb12.mono (by (repeat rw [World.size_alloc]); (repeat rw [World.size_setCell]); all_goals omega))
          have H5 := Lib.hid (H5.out.up D12)
          have H6 := Lib.hid (H6.out.up D12)
          clear f11_0 f11_1 f11_2 f11_3 f11_4 hb12 D12
          go_wp2_with fail
          refine (T.out.wac _ (by first | exact C12 | exact C12.alloc C12.size _ | exact set1 C12 (by omega) _ _)).mono ?_
          rintro e w13 ⟨rfl, hb13⟩
          have s13 : w12.heap.size ≤ w13.heap.size := by have := hb13.size; (repeat rw [World.size_alloc] at this); (repeat rw [World.size_setCell] at this); omega
          have D13 : Below w12.heap.size w12 w13 := by first | exact hb13 | exact (box1 _ _).trans (hb13.mono (by (repeat rw [World.size_alloc]); (repeat rw [World.size_setCell]); all_goals omega))
          have f13_0 := cell_up D13 z12_0 f12_0
          have z13_0 := Nat.lt_of_lt_of_le z12_0 D13.size
          have f13_1 := cell_up D13 z12_1 f12_1
          have z13_1 := Nat.lt_of_lt_of_le z12_1 D13.size
          have f13_2 := cell_up D13 z12_2 f12_2
          have z13_2 := Nat.lt_of_lt_of_le z12_2 D13.size
          have f13_3 := cell_up D13 z12_3 f12_3
          have z13_3 := Nat.lt_of_lt_of_le z12_3 D13.size
          have f13_4 := cell_up D13 z12_4 f12_4
          have z13_4 := Nat.lt_of_lt_of_le z12_4 D13.size
          have C13 : Below w.heap.size w w13 := by first | exact C12.trans (hb13.mono C12.size) | exact (C12.alloc C12.size _).trans (hb13.mono (by (repeat rw [World.size_alloc]); (repeat rw [World.size_setCell]); all_goals omega)) | exact (set1 C12 (by omega) _ _).trans (hb13.mono (by (repeat rw [World.size_alloc]); (repeat rw [World.size_setCell]); all_goals omega))
          have H5 := Lib.hid (H5.out.up D13)
          have H6 := Lib.hid (H6.out.up D13)
          clear f12_0 f12_1 f12_2 f12_3 f12_4 hb13 D13
          go_wp2_with fail
          refine (T.out.wbc _ (by first | exact C13 | exact C13.alloc C13.size _ | exact set1 C13 (by omega) _ _)).mono ?_
          rintro e w14 ⟨rfl, hb14⟩
          have s14 : w13.heap.size ≤ w14.heap.size := by have := hb14.size; (repeat rw [World.size_alloc] at this); (repeat rw [World.size_setCell] at this); omega
          have D14 : Below w13.heap.size w13 w14 := by first | exact hb14 | exact (box1 _ _).trans (hb14.mono (by (repeat rw [World.size_alloc]); (repeat rw [World.size_setCell]); all_goals omega))
          have f14_0 := cell_up D14 z13_0 f13_0
          have z14_0 := Nat.lt_of_lt_of_le z13_0 D14.size
          have f14_1 := cell_up D14 z13_1 f13_1
          have z14_1 := Nat.lt_of_lt_of_le z13_1 D14.size
          have f14_2 := cell_up D14 z13_2 f13_2
          have z14_2 := Nat.lt_of_lt_of_le z13_2 D14.size
          have f14_3 := cell_up D14 z13_3 f13_3
          have z14_3 := Nat.lt_of_lt_of_le z13_3 D14.size
          have f14_4 := cell_up D14 z13_4 f13_4
          have z14_4 := Nat.lt_of_lt_of_le z13_4 D14.size
          have C14 : Below w.heap.size w w14 := by first | exact C13.trans (hb14.mono C13.size) | exact (C13.alloc C13.size _).trans (hb14.mono (by (repeat rw [World.size_alloc]); (repeat rw [World.size_setCell]); all_goals omega)) | exact (set1 C13 (by omega) _ _).trans (hb14.mono (by (repeat rw [World.size_alloc]); (repeat rw [World.size_setCell]); all_goals omega))
          have H5 := Lib.hid (H5.out.up D14)
          have H6 := Lib.hid (H6.out.up D14)
          clear f13_0 f13_1 f13_2 f13_3 f13_4 hb14 D14
          go_wp2_with fail
          refine (T.out.wuc rfl _ _ _ _ (H6.out.up (by first | exact Below.refl _ _ | exact box1 _ _)) (by first | exact C14 | exact C14.alloc C14.size _ | exact set1 C14 (by omega) _ _)).mono ?_
          rintro e w15 ⟨rfl, hb15⟩
          have s15 : w14.heap.size ≤ w15.heap.size := by have := hb15.size; (repeat rw [World.size_alloc] at this); (repeat rw [World.size_setCell] at this); omega
          have D15 : Below w14.heap.size w14 w15 := by first | exact hb15 | exact (box1 _ _).trans (hb15.mono (by (repeat rw [World.size_alloc]); (repeat rw [World.size_setCell]); all_goals omega))
          have f15_0 := cell_up D15 z14_0 f14_0
          have z15_0 := Nat.lt_of_lt_of_le z14_0 D15.size
          have f15_1 := cell_up D15 z14_1 f14_1
          have z15_1 := Nat.lt_of_lt_of_le z14_1 D15.size
          have f15_2 := cell_up D15 z14_2 f14_2
          have z15_2 := Nat.lt_of_lt_of_le z14_2 D15.size
          have f15_3 := cell_up D15 z14_3 f14_3
          have z15_3 := Nat.lt_of_lt_of_le z14_3 D15.size
          have f15_4 := cell_up D15 z14_4 f14_4
          have z15_4 := Nat.lt_of_lt_of_le z14_4 D15.size
          have C15 : Below w.heap.size w w15 := by first | exact C14.trans (hb15.mono C14.size) | exact (C14.alloc C14.size _).trans (hb15.mono (by (repeat rw [World.size_alloc]); (repeat rw [World.size_setCell]); all_goals omega)) | exact (set1 C14 (by omega) _ _).trans (hb15.mono (by (repeat rw [World.size_alloc]); (repeat rw [World.size_setCell]); all_goals omega))
          have H5 := Lib.hid (H5.out.up D15)
          have H6 := Lib.hid (H6.out.up D15)
          clear f14_0 f14_1 f14_2 f14_3 f14_4 hb15 D15
          skip
          cases G3 with
          | true =>
            go_wp2_with fail
            refine (T.out.k16 _ (by first | exact C15 | exact C15.alloc C15.size _ | exact set1 C15 (by omega) _ _)).mono ?_
            rintro e w16 ⟨A16, k16, c16, rfl, hb16, H16⟩
            have s16 : w15.heap.size ≤ w16.heap.size := by have := hb16.size; (repeat rw [World.size_alloc] at this); (repeat rw [World.size_setCell] at this); omega
            have D16 : Below w15.heap.size w15 w16 := by first | exact hb16 | exact (box1 _ _).trans (hb16.mono (by (repeat rw [World.size_alloc]); (repeat rw [World.size_setCell]); all_goals omega))
            have f16_0 := cell_up D16 z15_0 f15_0
            have z16_0 := Nat.lt_of_lt_of_le z15_0 D16.size
            have f16_1 := cell_up D16 z15_1 f15_1
            have z16_1 := Nat.lt_of_lt_of_le z15_1 D16.size
            have f16_2 := cell_up D16 z15_2 f15_2
            have z16_2 := Nat.lt_of_lt_of_le z15_2 D16.size
            have f16_3 := cell_up D16 z15_3 f15_3
            have z16_3 := Nat.lt_of_lt_of_le z15_3 D16.size
            have f16_4 := cell_up D16 z15_4 f15_4
            have z16_4 := Nat.lt_of_lt_of_le z15_4 D16.size
            have C16 : Below w.heap.size w w16 := by first | exact C15.trans (hb16.mono C15.size) | exact (C15.alloc C15.size _).trans (hb16.mono (by (repeat rw [World.size_alloc]); (repeat rw [World.size_setCell]); all_goals omega)) | exact (set1 C15 (by omega) _ _).trans (hb16.mono (by (repeat rw [World.size_alloc]); (repeat rw [World.size_setCell]); all_goals omega))
            have H5 := Lib.hid (H5.out.up D16)
            have H6 := Lib.hid (H6.out.up D16)
            clear f15_0 f15_1 f15_2 f15_3 f15_4 hb16 D16
            go_wp2_with fail
            refine (T.out.k17 _ _ _ _ (H5.out.up (by first | exact Below.refl _ _ | exact box1 _ _)) (by first | exact C16 | exact C16.alloc C16.size _ | exact set1 C16 (by omega) _ _)).mono ?_
            rintro e w17 ⟨A17, k17, c17, rfl, hb17, H17⟩
            have s17 : w16.heap.size ≤ w17.heap.size := by have := hb17.size; (repeat rw [World.size_alloc] at this); (repeat rw [World.size_setCell] at this); omega
            have D17 : Below w16.heap.size w16 w17 := by first | exact hb17 | exact (box1 _ _).trans (hb17.mono (by (repeat rw [World.size_alloc]); (repeat rw [World.size_setCell]); all_goals omega))
            have f17_0 := cell_up D17 z16_0 f16_0
            have z17_0 := Nat.lt_of_lt_of_le z16_0 D17.size
            have f17_1 := cell_up D17 z16_1 f16_1
            have z17_1 := Nat.lt_of_lt_of_le z16_1 D17.size
            have f17_2 := cell_up D17 z16_2 f16_2
            have z17_2 := Nat.lt_of_lt_of_le z16_2 D17.size
            have f17_3 := cell_up D17 z16_3 f16_3
            have z17_3 := Nat.lt_of_lt_of_le z16_3 D17.size
            have f17_4 := cell_up D17 z16_4 f16_4
            have z17_4 := Nat.lt_of_lt_of_le z16_4 D17.size
            have f17_5 : w17.cell? ⟨w16.heap.size, 0, none⟩ = some (.slice A16 k16 c16) := low_cell hb17 (by (repeat rw [World.size_alloc]); (repeat rw [World.size_setCell]); all_goals omega) (by go_simp)
            have z17_5 : w16.heap.size < w17.heap.size := World.block_lt_of_cell? _ _ f17_5
            have C17 : Below w.heap.size w w17 := by first | exact C16.trans (hb17.mono C16.size) | exact (C16.alloc C16.size _).trans (hb17.mono (by (repeat rw [World.size_alloc]); (repeat rw [World.size_setCell]); all_goals omega)) | exact (set1 C16 (by omega) _ _).trans (hb17.mono (by (repeat rw [World.size_alloc]); (repeat rw [World.size_setCell]); all_goals omega))
            have H6 := Lib.hid (H6.out.up D17)
            have H16 := Lib.hid (H16.out.up D17)
            clear f16_0 f16_1 f16_2 f16_3 f16_4 hb17 D17
            go_wp2_with fail
            refine (T.out.k18 _ _ _ _ (H16.out.up (by first | exact Below.refl _ _ | exact box1 _ _)) (by first | exact C17 | exact C17.alloc C17.size _ | exact set1 C17 (by omega) _ _)).mono ?_
            rintro e w18 ⟨A18, k18, c18, rfl, hb18, H18⟩
            have s18 : w17.heap.size ≤ w18.heap.size := by have := hb18.size; (repeat rw [World.size_alloc] at this); (repeat rw [World.size_setCell] at this); omega
            have D18 : Below w17.heap.size w17 w18 := by first | exact hb18 | exact (box1 _ _).trans (hb18.mono (by (repeat rw [World.size_alloc]); (repeat rw [World.size_setCell]); all_goals omega))
            have f18_0 := cell_up D18 z17_0 f17_0
            have z18_0 := Nat.lt_of_lt_of_le z17_0 D18.size
            have f18_1 := cell_up D18 z17_1 f17_1
            have z18_1 := Nat.lt_of_lt_of_le z17_1 D18.size
            have f18_2 := cell_up D18 z17_2 f17_2
            have z18_2 := Nat.lt_of_lt_of_le z17_2 D18.size
            have f18_3 := cell_up D18 z17_4 f17_4
            have z18_3 := Nat.lt_of_lt_of_le z17_4 D18.size
            have f18_4 := cell_up D18 z17_5 f17_5
            have z18_4 := Nat.lt_of_lt_of_le z17_5 D18.size
            have f18_5 : w18.cell? ⟨w17.heap.size, 0, none⟩ = some (.slice A17 k17 c17) := low_cell hb18 (by (repeat rw [World.size_alloc]); (repeat rw [World.size_setCell]); all_goals omega) (by go_simp)
            have g18_5 : w18.frozen? ⟨w17.heap.size, 0, none⟩ = false := low_frozen hb18 (by (repeat rw [World.size_alloc]); (repeat rw [World.size_setCell]); all_goals omega) (by go_simp)
            have z18_5 : w17.heap.size < w18.heap.size := World.block_lt_of_cell? _ _ f18_5
            have C18 : Below w.heap.size w w18 := by first | exact C17.trans (hb18.mono C17.size) | exact (C17.alloc C17.size _).trans (hb18.mono (by (repeat rw [World.size_alloc]); (repeat rw [World.size_setCell]); all_goals omega)) | exact (set1 C17 (by omega) _ _).trans (hb18.mono (by (repeat rw [World.size_alloc]); (repeat rw [World.size_setCell]); all_goals omega))
            have H6 := Lib.hid (H6.out.up D18)
            have H17 := Lib.hid (H17.out.up D18)
            clear f17_0 f17_1 f17_2 f17_3 f17_4 f17_5 hb18 D18
            skip
            by_cases e5 : E5 = 0
            · subst e5
              by_cases e6 : E6 = 0
              · subst e6
                obtain rfl := T.out.e7 rfl rfl rfl
                go_wp2_with fail
                refine (T.out.s18 rfl rfl rfl _ _ _ _ _ _ _ (H17.out.up (by first | exact Below.refl _ _ | exact box1 _ _)) (H18.out.up (by first | exact Below.refl _ _ | exact box1 _ _))).mono ?_
                rintro e w19 ⟨rfl, hb19⟩
                have s19 : w18.heap.size ≤ w19.heap.size := by have := hb19.size; (repeat rw [World.size_alloc] at this); (repeat rw [World.size_setCell] at this); omega
                have D19 : Below w18.heap.size w18 w19 := by first | exact hb19 | exact (box1 _ _).trans (hb19.mono (by (repeat rw [World.size_alloc]); (repeat rw [World.size_setCell]); all_goals omega))
                have f19_0 := cell_up D19 z18_0 f18_0
                have z19_0 := Nat.lt_of_lt_of_le z18_0 D19.size
                have f19_1 := cell_up D19 z18_1 f18_1
                have z19_1 := Nat.lt_of_lt_of_le z18_1 D19.size
                have f19_2 := cell_up D19 z18_2 f18_2
                have z19_2 := Nat.lt_of_lt_of_le z18_2 D19.size
                have f19_3 := cell_up D19 z18_3 f18_3
                have z19_3 := Nat.lt_of_lt_of_le z18_3 D19.size
                have f19_4 := cell_up D19 z18_4 f18_4
                have z19_4 := Nat.lt_of_lt_of_le z18_4 D19.size
                have f19_5 := cell_up D19 z18_5 f18_5
                have g19_5 := frozen_up D19 z18_5 g18_5
                have z19_5 := Nat.lt_of_lt_of_le z18_5 D19.size
                have f19_6 : w19.cell? ⟨w18.heap.size, 0, none⟩ = some (.slice A18 k18 c18) := low_cell hb19 (by (repeat rw [World.size_alloc]); (repeat rw [World.size_setCell]); all_goals omega) (by go_simp)
                have g19_6 : w19.frozen? ⟨w18.heap.size, 0, none⟩ = false := low_frozen hb19 (by (repeat rw [World.size_alloc]); (repeat rw [World.size_setCell]); all_goals omega) (by go_simp)
                have z19_6 : w18.heap.size < w19.heap.size := World.block_lt_of_cell? _ _ f19_6
                have C19 : Below w.heap.size w w19 := by first | exact C18.trans (hb19.mono C18.size) | exact (C18.alloc C18.size _).trans (hb19.mono (by (repeat rw [World.size_alloc]); (repeat rw [World.size_setCell]); all_goals omega)) | exact (set1 C18 (by omega) _ _).trans (hb19.mono (by (repeat rw [World.size_alloc]); (repeat rw [World.size_setCell]); all_goals omega))
                have H6 := Lib.hid (H6.out.up D19)
                clear f18_0 f18_1 f18_2 f18_3 f18_4 f18_5 g18_5 hb19 D19
                go_wp2_with fail
                refine (T.out.k19 _ (by first | exact C19 | exact C19.alloc C19.size _ | exact set1 C19 (by omega) _ _)).mono ?_
                rintro e w20 ⟨A19, k19, c19, rfl, hb20, H19⟩
                have s20 : w19.heap.size ≤ w20.heap.size := by have := hb20.size; (repeat rw [World.size_alloc] at this); (repeat rw [World.size_setCell] at this); omega
                have D20 : Below w19.heap.size w19 w20 := by first | exact hb20 | exact (box1 _ _).trans (hb20.mono (by (repeat rw [World.size_alloc]); (repeat rw [World.size_setCell]); all_goals omega))
                have f20_0 := cell_up D20 z19_0 f19_0
                have z20_0 := Nat.lt_of_lt_of_le z19_0 D20.size
                have f20_1 := cell_up D20 z19_1 f19_1
                have z20_1 := Nat.lt_of_lt_of_le z19_1 D20.size
                have f20_2 := cell_up D20 z19_2 f19_2
                have z20_2 := Nat.lt_of_lt_of_le z19_2 D20.size
                have f20_3 := cell_up D20 z19_3 f19_3
                have z20_3 := Nat.lt_of_lt_of_le z19_3 D20.size
                have f20_4 := cell_up D20 z19_4 f19_4
                have z20_4 := Nat.lt_of_lt_of_le z19_4 D20.size
                have f20_5 := cell_up D20 z19_5 f19_5
                have g20_5 := frozen_up D20 z19_5 g19_5
                have z20_5 := Nat.lt_of_lt_of_le z19_5 D20.size
                have f20_6 := cell_up D20 z19_6 f19_6
                have g20_6 := frozen_up D20 z19_6 g19_6
                have z20_6 := Nat.lt_of_lt_of_le z19_6 D20.size
                have C20 : Below w.heap.size w w20 := by first | exact C19.trans (hb20.mono C19.size) | exact (C19.alloc C19.size _).trans (hb20.mono (by (repeat rw [World.size_alloc]); (repeat rw [World.size_setCell]); all_goals omega)) | exact (set1 C19 (by omega) _ _).trans (hb20.mono (by (repeat rw [World.size_alloc]); (repeat rw [World.size_setCell]); all_goals omega))
                have H6 := Lib.hid (H6.out.up D20)
                clear f19_0 f19_1 f19_2 f19_3 f19_4 f19_5 g19_5 f19_6 g19_6 hb20 D20
                go_wp2_with fail
                refine (T.out.k20 _ _ _ _ (H6.out.up (by first | exact Below.refl _ _ | exact box1 _ _)) (by first | exact C20 | exact C20.alloc C20.size _ | exact set1 C20 (by omega) _ _)).mono ?_
                rintro e w21 ⟨A20, k20, c20, rfl, hb21, H20⟩
                have s21 : w20.heap.size ≤ w21.heap.size := by have := hb21.size; (repeat rw [World.size_alloc] at this); (repeat rw [World.size_setCell] at this); omega
                have D21 : Below w20.heap.size w20 w21 := by first | exact hb21 | exact (box1 _ _).trans (hb21.mono (by (repeat rw [World.size_alloc]); (repeat rw [World.size_setCell]); all_goals omega))
                have f21_0 := cell_up D21 z20_0 f20_0
                have z21_0 := Nat.lt_of_lt_of_le z20_0 D21.size
                have f21_1 := cell_up D21 z20_1 f20_1
                have z21_1 := Nat.lt_of_lt_of_le z20_1 D21.size
                have f21_2 := cell_up D21 z20_2 f20_2
                have z21_2 := Nat.lt_of_lt_of_le z20_2 D21.size
                have f21_3 := cell_up D21 z20_3 f20_3
                have z21_3 := Nat.lt_of_lt_of_le z20_3 D21.size
                have f21_4 := cell_up D21 z20_4 f20_4
                have z21_4 := Nat.lt_of_lt_of_le z20_4 D21.size
                have f21_5 := cell_up D21 z20_5 f20_5
                have g21_5 := frozen_up D21 z20_5 g20_5
                have z21_5 := Nat.lt_of_lt_of_le z20_5 D21.size
                have f21_6 := cell_up D21 z20_6 f20_6
                have g21_6 := frozen_up D21 z20_6 g20_6
                have z21_6 := Nat.lt_of_lt_of_le z20_6 D21.size
                have f21_7 : w21.cell? ⟨w20.heap.size, 0, none⟩ = some (.slice A19 k19 c19) := low_cell hb21 (by (repeat rw [World.size_alloc]); (repeat rw [World.size_setCell]); all_goals omega) (by go_simp)
                have z21_7 : w20.heap.size < w21.heap.size := World.block_lt_of_cell? _ _ f21_7
                have C21 : Below w.heap.size w w21 := by first | exact C20.trans (hb21.mono C20.size) | exact (C20.alloc C20.size _).trans (hb21.mono (by (repeat rw [World.size_alloc]); (repeat rw [World.size_setCell]); all_goals omega)) | exact (set1 C20 (by omega) _ _).trans (hb21.mono (by (repeat rw [World.size_alloc]); (repeat rw [World.size_setCell]); all_goals omega))
                have H19 := Lib.hid (H19.out.up D21)
                clear f20_0 f20_1 f20_2 f20_3 f20_4 f20_5 g20_5 f20_6 g20_6 hb21 D21
                go_wp2_with fail
                refine (T.out.k21 _ _ _ _ _ (H19.out.set (by (repeat rw [World.size_alloc]); (repeat rw [World.size_setCell]); all_goals omega) 0 _) (by first | exact C21 | exact C21.alloc C21.size _ | exact set1 C21 (by omega) _ _)).mono ?_
                rintro e w22 ⟨A21, k21, c21, rfl, hb22, H21⟩
                have s22 : w21.heap.size ≤ w22.heap.size := by have := hb22.size; (repeat rw [World.size_alloc] at this); (repeat rw [World.size_setCell] at this); omega
                have f22_0 : w22.cell? ⟨w.heap.size, 0, none⟩ = some (.slice A n c) := low_cell hb22 (by (repeat rw [World.size_alloc]); (repeat rw [World.size_setCell]); all_goals omega) (by go_simp)
                have z22_0 : w.heap.size < w22.heap.size := World.block_lt_of_cell? _ _ f22_0
                have f22_1 : w22.cell? ⟨w.heap.size + 1, 0, none⟩ = some (.slice B m d) := low_cell hb22 (by (repeat rw [World.size_alloc]); (repeat rw [World.size_setCell]); all_goals omega) (by go_simp)
                have z22_1 : w.heap.size + 1 < w22.heap.size := World.block_lt_of_cell? _ _ f22_1
                have f22_2 : w22.cell? ⟨w.heap.size + 1 + 1, 0, none⟩ = some (.slice C l f) := low_cell hb22 (by (repeat rw [World.size_alloc]); (repeat rw [World.size_setCell]); all_goals omega) (by go_simp)
                have z22_2 : w.heap.size + 1 + 1 < w22.heap.size := World.block_lt_of_cell? _ _ f22_2
                have f22_3 : w22.cell? ⟨w6.heap.size, 0, none⟩ = some (.slice A6 k6 c6) := low_cell hb22 (by (repeat rw [World.size_alloc]); (repeat rw [World.size_setCell]); all_goals omega) (by go_simp)
                have z22_3 : w6.heap.size < w22.heap.size := World.block_lt_of_cell? _ _ f22_3
                have f22_4 : w22.cell? ⟨w16.heap.size, 0, none⟩ = some (.slice A16 k16 c16) := low_cell hb22 (by (repeat rw [World.size_alloc]); (repeat rw [World.size_setCell]); all_goals omega) (by go_simp)
                have z22_4 : w16.heap.size < w22.heap.size := World.block_lt_of_cell? _ _ f22_4
                have f22_5 : w22.cell? ⟨w17.heap.size, 0, none⟩ = some (.slice A20 k20 c20) := low_cell hb22 (by (repeat rw [World.size_alloc]); (repeat rw [World.size_setCell]); all_goals omega) (by go_simp)
                have g22_5 : w22.frozen? ⟨w17.heap.size, 0, none⟩ = false := low_frozen hb22 (by (repeat rw [World.size_alloc]); (repeat rw [World.size_setCell]); all_goals omega) (by go_simp)
                have z22_5 : w17.heap.size < w22.heap.size := World.block_lt_of_cell? _ _ f22_5
                have f22_6 : w22.cell? ⟨w18.heap.size, 0, none⟩ = some (.slice A18 k18 c18) := low_cell hb22 (by (repeat rw [World.size_alloc]); (repeat rw [World.size_setCell]); all_goals omega) (by go_simp)
                have g22_6 : w22.frozen? ⟨w18.heap.size, 0, none⟩ = false := low_frozen hb22 (by (repeat rw [World.size_alloc]); (repeat rw [World.size_setCell]); all_goals omega) (by go_simp)
                have z22_6 : w18.heap.size < w22.heap.size := World.block_lt_of_cell? _ _ f22_6
                have f22_7 : w22.cell? ⟨w20.heap.size, 0, none⟩ = some (.slice A19 k19 c19) := low_cell hb22 (by (repeat rw [World.size_alloc]); (repeat rw [World.size_setCell]); all_goals omega) (by go_simp)
                have z22_7 : w20.heap.size < w22.heap.size := World.block_lt_of_cell? _ _ f22_7
                have C22 : Below w.heap.size w w22 := by first | exact C21.trans (hb22.mono C21.size) | exact (C21.alloc C21.size _).trans (hb22.mono (by (repeat rw [World.size_alloc]); (repeat rw [World.size_setCell]); all_goals omega)) | exact (set1 C21 (by omega) _ _).trans (hb22.mono (by (repeat rw [World.size_alloc]); (repeat rw [World.size_setCell]); all_goals omega))
                have H20 := Lib.hid ((H20.out.set (b := w17.heap.size) (by (repeat rw [World.size_alloc]); (repeat rw [World.size_setCell]); all_goals omega) 0 (.slice A20 k20 c20)).up hb22)
                clear f21_0 f21_1 f21_2 f21_3 f21_4 f21_5 g21_5 f21_6 g21_6 f21_7 hb22
                skip
                by_cases e8 : E8 = 0
                · subst e8
                  obtain rfl := T.out.e10 rfl rfl
                  go_wp2_with fail
                  refine (T.out.s21 rfl rfl _ _ _ _ _ _ _ _ _ (H20.out.set (b := w18.heap.size) (by (repeat rw [World.size_alloc]); (repeat rw [World.size_setCell]); all_goals omega) 0 (.slice A21 k21 c21)) (H21.out.set (b := w18.heap.size) (by (repeat rw [World.size_alloc]); (repeat rw [World.size_setCell]); all_goals omega) 0 (.slice A21 k21 c21))).mono ?_
                  rintro e w23 ⟨rfl, hb23⟩
                  have s23 : w22.heap.size ≤ w23.heap.size := by have := hb23.size; (repeat rw [World.size_alloc] at this); (repeat rw [World.size_setCell] at this); omega
                  have f23_0 : w23.cell? ⟨w.heap.size, 0, none⟩ = some (.slice A n c) := low_cell hb23 (by (repeat rw [World.size_alloc]); (repeat rw [World.size_setCell]); all_goals omega) (by go_simp)
                  have z23_0 : w.heap.size < w23.heap.size := World.block_lt_of_cell? _ _ f23_0
                  have f23_1 : w23.cell? ⟨w.heap.size + 1, 0, none⟩ = some (.slice B m d) := low_cell hb23 (by (repeat rw [World.size_alloc]); (repeat rw [World.size_setCell]); all_goals omega) (by go_simp)
                  have z23_1 : w.heap.size + 1 < w23.heap.size := World.block_lt_of_cell? _ _ f23_1
                  have f23_2 : w23.cell? ⟨w.heap.size + 1 + 1, 0, none⟩ = some (.slice C l f) := low_cell hb23 (by (repeat rw [World.size_alloc]); (repeat rw [World.size_setCell]); all_goals omega) (by go_simp)
                  have z23_2 : w.heap.size + 1 + 1 < w23.heap.size := World.block_lt_of_cell? _ _ f23_2
                  have f23_3 : w23.cell? ⟨w6.heap.size, 0, none⟩ = some (.slice A6 k6 c6) := low_cell hb23 (by (repeat rw [World.size_alloc]); (repeat rw [World.size_setCell]); all_goals omega) (by go_simp)
                  have z23_3 : w6.heap.size < w23.heap.size := World.block_lt_of_cell? _ _ f23_3
                  have f23_4 : w23.cell? ⟨w16.heap.size, 0, none⟩ = some (.slice A16 k16 c16) := low_cell hb23 (by (repeat rw [World.size_alloc]); (repeat rw [World.size_setCell]); all_goals omega) (by go_simp)
                  have z23_4 : w16.heap.size < w23.heap.size := World.block_lt_of_cell? _ _ f23_4
                  have f23_5 : w23.cell? ⟨w17.heap.size, 0, none⟩ = some (.slice A20 k20 c20) := low_cell hb23 (by (repeat rw [World.size_alloc]); (repeat rw [World.size_setCell]); all_goals omega) (by go_simp)
                  have g23_5 : w23.frozen? ⟨w17.heap.size, 0, none⟩ = false := low_frozen hb23 (by (repeat rw [World.size_alloc]); (repeat rw [World.size_setCell]); all_goals omega) (by go_simp)
                  have z23_5 : w17.heap.size < w23.heap.size := World.block_lt_of_cell? _ _ f23_5
                  have f23_6 : w23.cell? ⟨w18.heap.size, 0, none⟩ = some (.slice A21 k21 c21) := low_cell hb23 (by (repeat rw [World.size_alloc]); (repeat rw [World.size_setCell]); all_goals omega) (by go_simp)
                  have g23_6 : w23.frozen? ⟨w18.heap.size, 0, none⟩ = false := low_frozen hb23 (by (repeat rw [World.size_alloc]); (repeat rw [World.size_setCell]); all_goals omega) (by go_simp)
                  have z23_6 : w18.heap.size < w23.heap.size := World.block_lt_of_cell? _ _ f23_6
                  have f23_7 : w23.cell? ⟨w20.heap.size, 0, none⟩ = some (.slice A19 k19 c19) := low_cell hb23 (by (repeat rw [World.size_alloc]); (repeat rw [World.size_setCell]); all_goals omega) (by go_simp)
                  have z23_7 : w20.heap.size < w23.heap.size := World.block_lt_of_cell? _ _ f23_7
                  have C23 : Below w.heap.size w w23 := by first | exact C22.trans (hb23.mono C22.size) | exact (C22.alloc C22.size _).trans (hb23.mono (by (repeat rw [World.size_alloc]); (repeat rw [World.size_setCell]); all_goals omega)) | exact (set1 C22 (by omega) _ _).trans (hb23.mono (by (repeat rw [World.size_alloc]); (repeat rw [World.size_setCell]); all_goals omega))
                  clear f22_0 f22_1 f22_2 f22_3 f22_4 f22_5 g22_5 f22_6 g22_6 f22_7 hb23
                  go_wp2_with fail
                  go_ret
                  exact ⟨rfl, C23⟩
                · have d1 : (E8 == 0) = false := by simpa using e8
                  have d2 : (E8 != 0) = true := by simpa using e8
                  go_wp2_with fail
                  go_ret
                  exact ⟨rfl, (by first | exact C22 | exact C22.alloc C22.size _ | exact set1 C22 (by omega) _ _)⟩
              · have d1 : (E6 == 0) = false := by simpa using e6
                have d2 : (E6 != 0) = true := by simpa using e6
                go_wp2_with fail
                refine (T.out.k19 _ (by first | exact C18 | exact C18.alloc C18.size _ | exact set1 C18 (by omega) _ _)).mono ?_
                rintro e w19 ⟨A19, k19, c19, rfl, hb19, H19⟩
                have s19 : w18.heap.size ≤ w19.heap.size := by have := hb19.size; (repeat rw [World.size_alloc] at this); (repeat rw [World.size_setCell] at this); omega
                have D19 : Below w18.heap.size w18 w19 := by first | exact hb19 | exact (box1 _ _).trans (hb19.mono (by (repeat rw [World.size_alloc]); (repeat rw [World.size_setCell]); all_goals omega))
                have f19_0 := cell_up D19 z18_0 f18_0
                have z19_0 := Nat.lt_of_lt_of_le z18_0 D19.size
                have f19_1 := cell_up D19 z18_1 f18_1
                have z19_1 := Nat.lt_of_lt_of_le z18_1 D19.size
                have f19_2 := cell_up D19 z18_2 f18_2
                have z19_2 := Nat.lt_of_lt_of_le z18_2 D19.size
                have f19_3 := cell_up D19 z18_3 f18_3
                have z19_3 := Nat.lt_of_lt_of_le z18_3 D19.size
                have f19_4 := cell_up D19 z18_4 f18_4
                have z19_4 := Nat.lt_of_lt_of_le z18_4 D19.size
                have f19_5 := cell_up D19 z18_5 f18_5
                have g19_5 := frozen_up D19 z18_5 g18_5
                have z19_5 := Nat.lt_of_lt_of_le z18_5 D19.size
                have f19_6 : w19.cell? ⟨w18.heap.size, 0, none⟩ = some (.slice A18 k18 c18) := low_cell hb19 (by (repeat rw [World.size_alloc]); (repeat rw [World.size_setCell]); all_goals omega) (by go_simp)
                have g19_6 : w19.frozen? ⟨w18.heap.size, 0, none⟩ = false := low_frozen hb19 (by (repeat rw [World.size_alloc]); (repeat rw [World.size_setCell]); all_goals omega) (by go_simp)
                have z19_6 : w18.heap.size < w19.heap.size := World.block_lt_of_cell? _ _ f19_6
                have C19 : Below w.heap.size w w19 := by first | exact C18.trans (hb19.mono C18.size) | exact (C18.alloc C18.size _).trans (hb19.mono (by (repeat rw [World.size_alloc]); (repeat rw [World.size_setCell]); all_goals omega)) | exact (set1 C18 (by omega) _ _).trans (hb19.mono (by (repeat rw [World.size_alloc]); (repeat rw [World.size_setCell]); all_goals omega))
                have H6 := Lib.hid (H6.out.up D19)
                clear f18_0 f18_1 f18_2 f18_3 f18_4 f18_5 g18_5 hb19 D19
                go_wp2_with fail
                refine (T.out.k20 _ _ _ _ (H6.out.up (by first | exact Below.refl _ _ | exact box1 _ _)) (by first | exact C19 | exact C19.alloc C19.size _ | exact set1 C19 (by omega) _ _)).mono ?_
                rintro e w20 ⟨A20, k20, c20, rfl, hb20, H20⟩
                have s20 : w19.heap.size ≤ w20.heap.size := by have := hb20.size; (repeat rw [World.size_alloc] at this); (repeat rw [World.size_setCell] at this); omega
                have D20 : Below w19.heap.size w19 w20 := by first | exact hb20 | exact (box1 _ _).trans (hb20.mono (by (repeat rw [World.size_alloc]); (repeat rw [World.size_setCell]); all_goals omega))
                have f20_0 := cell_up D20 z19_0 f19_0
                have z20_0 := Nat.lt_of_lt_of_le z19_0 D20.size
                have f20_1 := cell_up D20 z19_1 f19_1
                have z20_1 := Nat.lt_of_lt_of_le z19_1 D20.size
                have f20_2 := cell_up D20 z19_2 f19_2
                have z20_2 := Nat.lt_of_lt_of_le z19_2 D20.size
                have f20_3 := cell_up D20 z19_3 f19_3
                have z20_3 := Nat.lt_of_lt_of_le z19_3 D20.size
                have f20_4 := cell_up D20 z19_4 f19_4
                have z20_4 := Nat.lt_of_lt_of_le z19_4 D20.size
                have f20_5 := cell_up D20 z19_5 f19_5
                have g20_5 := frozen_up D20 z19_5 g19_5
                have z20_5 := Nat.lt_of_lt_of_le z19_5 D20.size
                have f20_6 := cell_up D20 z19_6 f19_6
                have g20_6 := frozen_up D20 z19_6 g19_6
                have z20_6 := Nat.lt_of_lt_of_le z19_6 D20.size
                have f20_7 : w20.cell? ⟨w19.heap.size, 0, none⟩ = some (.slice A19 k19 c19) := low_cell hb20 (by (repeat rw [World.size_alloc]); (repeat rw [World.size_setCell]); all_goals omega) (by go_simp)
                have z20_7 : w19.heap.size < w20.heap.size := World.block_lt_of_cell? _ _ f20_7
                have C20 : Below w.heap.size w w20 := by first | exact C19.trans (hb20.mono C19.size) | exact (C19.alloc C19.size _).trans (hb20.mono (by (repeat rw [World.size_alloc]); (repeat rw [World.size_setCell]); all_goals omega)) | exact (set1 C19 (by omega) _ _).trans (hb20.mono (by (repeat rw [World.size_alloc]); (repeat rw [World.size_setCell]); all_goals omega))
                have H19 := Lib.hid (H19.out.up D20)
                clear f19_0 f19_1 f19_2 f19_3 f19_4 f19_5 g19_5 f19_6 g19_6 hb20 D20
                go_wp2_with fail
                refine (T.out.k21 _ _ _ _ _ (H19.out.set (by (repeat rw [World.size_alloc]); (repeat rw [World.size_setCell]); all_goals omega) 0 _) (by first | exact C20 | exact C20.alloc C20.size _ | exact set1 C20 (by omega) _ _)).mono ?_
                rintro e w21 ⟨A21, k21, c21, rfl, hb21, H21⟩
                have s21 : w20.heap.size ≤ w21.heap.size := by have := hb21.size; (repeat rw [World.size_alloc] at this); (repeat rw [World.size_setCell] at this); omega
                have f21_0 : w21.cell? ⟨w.heap.size, 0, none⟩ = some (.slice A n c) := low_cell hb21 (by (repeat rw [World.size_alloc]); (repeat rw [World.size_setCell]); all_goals omega) (by go_simp)
                have z21_0 : w.heap.size < w21.heap.size := World.block_lt_of_cell? _ _ f21_0
                have f21_1 : w21.cell? ⟨w.heap.size + 1, 0, none⟩ = some (.slice B m d) := low_cell hb21 (by (repeat rw [World.size_alloc]); (repeat rw [World.size_setCell]); all_goals omega) (by go_simp)
                have z21_1 : w.heap.size + 1 < w21.heap.size := World.block_lt_of_cell? _ _ f21_1
                have f21_2 : w21.cell? ⟨w.heap.size + 1 + 1, 0, none⟩ = some (.slice C l f) := low_cell hb21 (by (repeat rw [World.size_alloc]); (repeat rw [World.size_setCell]); all_goals omega) (by go_simp)
                have z21_2 : w.heap.size + 1 + 1 < w21.heap.size := World.block_lt_of_cell? _ _ f21_2
                have f21_3 : w21.cell? ⟨w6.heap.size, 0, none⟩ = some (.slice A6 k6 c6) := low_cell hb21 (by (repeat rw [World.size_alloc]); (repeat rw [World.size_setCell]); all_goals omega) (by go_simp)
                have z21_3 : w6.heap.size < w21.heap.size := World.block_lt_of_cell? _ _ f21_3
                have f21_4 : w21.cell? ⟨w16.heap.size, 0, none⟩ = some (.slice A16 k16 c16) := low_cell hb21 (by (repeat rw [World.size_alloc]); (repeat rw [World.size_setCell]); all_goals omega) (by go_simp)
                have z21_4 : w16.heap.size < w21.heap.size := World.block_lt_of_cell? _ _ f21_4
                have f21_5 : w21.cell? ⟨w17.heap.size, 0, none⟩ = some (.slice A20 k20 c20) := low_cell hb21 (by (repeat rw [World.size_alloc]); (repeat rw [World.size_setCell]); all_goals omega) (by go_simp)
                have g21_5 : w21.frozen? ⟨w17.heap.size, 0, none⟩ = false := low_frozen hb21 (by (repeat rw [World.size_alloc]); (repeat rw [World.size_setCell]); all_goals omega) (by go_simp)
                have z21_5 : w17.heap.size < w21.heap.size := World.block_lt_of_cell? _ _ f21_5
                have f21_6 : w21.cell? ⟨w18.heap.size, 0, none⟩ = some (.slice A18 k18 c18) := low_cell hb21 (by (repeat rw [World.size_alloc]); (repeat rw [World.size_setCell]); all_goals omega) (by go_simp)
                have g21_6 : w21.frozen? ⟨w18.heap.size, 0, none⟩ = false := low_frozen hb21 (by (repeat rw [World.size_alloc]); (repeat rw [World.size_setCell]); all_goals omega) (by go_simp)
                have z21_6 : w18.heap.size < w21.heap.size := World.block_lt_of_cell? _ _ f21_6
                have f21_7 : w21.cell? ⟨w19.heap.size, 0, none⟩ = some (.slice A19 k19 c19) := low_cell hb21 (by (repeat rw [World.size_alloc]); (repeat rw [World.size_setCell]); all_goals omega) (by go_simp)
                have z21_7 : w19.heap.size < w21.heap.size := World.block_lt_of_cell? _ _ f21_7
                have C21 : Below w.heap.size w w21 := by first | exact C20.trans (hb21.mono C20.size) | exact (C20.alloc C20.size _).trans (hb21.mono (by (repeat rw [World.size_alloc]); (repeat rw [World.size_setCell]); all_goals omega)) | exact (set1 C20 (by omega) _ _).trans (hb21.mono (by (repeat rw [World.size_alloc]); (repeat rw [World.size_setCell]); all_goals omega))
                have H20 := Lib.hid ((H20.out.set (b := w17.heap.size) (by (repeat rw [World.size_alloc]); (repeat rw [World.size_setCell]); all_goals omega) 0 (.slice A20 k20 c20)).up hb21)
                clear f20_0 f20_1 f20_2 f20_3 f20_4 f20_5 g20_5 f20_6 g20_6 f20_7 hb21
                skip
                by_cases e8 : E8 = 0
                · subst e8
                  obtain rfl := T.out.e10 rfl rfl
                  go_wp2_with fail
                  refine (T.out.s21 rfl rfl _ _ _ _ _ _ _ _ _ (H20.out.set (b := w18.heap.size) (by (repeat rw [World.size_alloc]); (repeat rw [World.size_setCell]); all_goals omega) 0 (.slice A21 k21 c21)) (H21.out.set (b := w18.heap.size) (by (repeat rw [World.size_alloc]); (repeat rw [World.size_setCell]); all_goals omega) 0 (.slice A21 k21 c21))).mono ?_
                  rintro e w22 ⟨rfl, hb22⟩
                  have s22 : w21.heap.size ≤ w22.heap.size := by have := hb22.size; (repeat rw [World.size_alloc] at this); (repeat rw [World.size_setCell] at this); omega
                  have f22_0 : w22.cell? ⟨w.heap.size, 0, none⟩ = some (.slice A n c) := low_cell hb22 (by (repeat rw [World.size_alloc]); (repeat rw [World.size_setCell]); all_goals omega) (by go_simp)
                  have z22_0 : w.heap.size < w22.heap.size := World.block_lt_of_cell? _ _ f22_0
                  have f22_1 : w22.cell? ⟨w.heap.size + 1, 0, none⟩ = some (.slice B m d) := low_cell hb22 (by (repeat rw [World.size_alloc]); (repeat rw [World.size_setCell]); all_goals omega) (by go_simp)
                  have z22_1 : w.heap.size + 1 < w22.heap.size := World.block_lt_of_cell? _ _ f22_1
                  have f22_2 : w22.cell? ⟨w.heap.size + 1 + 1, 0, none⟩ = some (.slice C l f) := low_cell hb22 (by (repeat rw [World.size_alloc]); (repeat rw [World.size_setCell]); all_goals omega) (by go_simp)
                  have z22_2 : w.heap.size + 1 + 1 < w22.heap.size := World.block_lt_of_cell? _ _ f22_2
                  have f22_3 : w22.cell? ⟨w6.heap.size, 0, none⟩ = some (.slice A6 k6 c6) := low_cell hb22 (by (repeat rw [World.size_alloc]); (repeat rw [World.size_setCell]); all_goals omega) (by go_simp)
                  have z22_3 : w6.heap.size < w22.heap.size := World.block_lt_of_cell? _ _ f22_3
                  have f22_4 : w22.cell? ⟨w16.heap.size, 0, none⟩ = some (.slice A16 k16 c16) := low_cell hb22 (by (repeat rw [World.size_alloc]); (repeat rw [World.size_setCell]); all_goals omega) (by go_simp)
                  have z22_4 : w16.heap.size < w22.heap.size := World.block_lt_of_cell? _ _ f22_4
                  have f22_5 : w22.cell? ⟨w17.heap.size, 0, none⟩ = some (.slice A20 k20 c20) := low_cell hb22 (by (repeat rw [World.size_alloc]); (repeat rw [World.size_setCell]); all_goals omega) (by go_simp)
                  have g22_5 : w22.frozen? ⟨w17.heap.size, 0, none⟩ = false := low_frozen hb22 (by (repeat rw [World.size_alloc]); (repeat rw [World.size_setCell]); all_goals omega) (by go_simp)
                  have z22_5 : w17.heap.size < w22.heap.size := World.block_lt_of_cell? _ _ f22_5
                  have f22_6 : w22.cell? ⟨w18.heap.size, 0, none⟩ = some (.slice A21 k21 c21) := low_cell hb22 (by (repeat rw [World.size_alloc]); (repeat rw [World.size_setCell]); all_goals omega) (by go_simp)
                  have g22_6 : w22.frozen? ⟨w18.heap.size, 0, none⟩ = false := low_frozen hb22 (by (repeat rw [World.size_alloc]); (repeat rw [World.size_setCell]); all_goals omega) (by go_simp)
                  have z22_6 : w18.heap.size < w22.heap.size := World.block_lt_of_cell? _ _ f22_6
                  have f22_7 : w22.cell? ⟨w19.heap.size, 0, none⟩ = some (.slice A19 k19 c19) := low_cell hb22 (by (repeat rw [World.size_alloc]); (repeat rw [World.size_setCell]); all_goals omega) (by go_simp)
                  have z22_7 : w19.heap.size < w22.heap.size := World.block_lt_of_cell? _ _ f22_7
                  have C22 : Below w.heap.size w w22 := by first | exact C21.trans (hb22.mono C21.size) | exact (C21.alloc C21.size _).trans (hb22.mono (by (repeat rw [World.size_alloc]); (repeat rw [World.size_setCell]); all_goals omega)) | exact (set1 C21 (by omega) _ _).trans (hb22.mono (by (repeat rw [World.size_alloc]); (repeat rw [World.size_setCell]); all_goals omega))
                  clear f21_0 f21_1 f21_2 f21_3 f21_4 f21_5 g21_5 f21_6 g21_6 f21_7 hb22
                  go_wp2_with fail
                  go_ret
                  exact ⟨rfl, C22⟩
                · have d1 : (E8 == 0) = false := by simpa using e8
                  have d2 : (E8 != 0) = true := by simpa using e8
                  go_wp2_with fail
                  go_ret
                  exact ⟨rfl, (by first | exact C21 | exact C21.alloc C21.size _ | exact set1 C21 (by omega) _ _)⟩
            · have d1 : (E5 == 0) = false := by simpa using e5
              have d2 : (E5 != 0) = true := by simpa using e5
              go_wp2_with fail
              refine (T.out.k19 _ (by first | exact C18 | exact C18.alloc C18.size _ | exact set1 C18 (by omega) _ _)).mono ?_
              rintro e w19 ⟨A19, k19, c19, rfl, hb19, H19⟩
              have s19 : w18.heap.size ≤ w19.heap.size := by have := hb19.size; (repeat rw [World.size_alloc] at this); (repeat rw [World.size_setCell] at this); omega
              have D19 : Below w18.heap.size w18 w19 := by first | exact hb19 | exact (box1 _ _).trans (hb19.mono (by (repeat rw [World.size_alloc]); (repeat rw [World.size_setCell]); all_goals omega))
              have f19_0 := cell_up D19 z18_0 f18_0
              have z19_0 := Nat.lt_of_lt_of_le z18_0 D19.size
              have f19_1 := cell_up D19 z18_1 f18_1
              have z19_1 := Nat.lt_of_lt_of_le z18_1 D19.size
              have f19_2 := cell_up D19 z18_2 f18_2
              have z19_2 := Nat.lt_of_lt_of_le z18_2 D19.size
              have f19_3 := cell_up D19 z18_3 f18_3
              have z19_3 := Nat.lt_of_lt_of_le z18_3 D19.size
              have f19_4 := cell_up D19 z18_4 f18_4
              have z19_4 := Nat.lt_of_lt_of_le z18_4 D19.size
              have f19_5 := cell_up D19 z18_5 f18_5
              have g19_5 := frozen_up D19 z18_5 g18_5
              have z19_5 := Nat.lt_of_lt_of_le z18_5 D19.size
              have f19_6 : w19.cell? ⟨w18.heap.size, 0, none⟩ = some (.slice A18 k18 c18) := low_cell hb19 (by (repeat rw [World.size_alloc]); (repeat rw [World.size_setCell]); all_goals omega) (by go_simp)
              have g19_6 : w19.frozen? ⟨w18.heap.size, 0, none⟩ = false := low_frozen hb19 (by (repeat rw [World.size_alloc]); (repeat rw [World.size_setCell]); all_goals omega) (by go_simp)
              have z19_6 : w18.heap.size < w19.heap.size := World.block_lt_of_cell? _ _ f19_6
              have C19 : Below w.heap.size w w19 := by first | exact C18.trans (hb19.mono C18.size) | exact (C18.alloc C18.size _).trans (hb19.mono (by (repeat rw [World.size_alloc]); (repeat rw [World.size_setCell]); all_goals omega)) | exact (set1 C18 (by omega) _ _).trans (hb19.mono (by (repeat rw [World.size_alloc]); (repeat rw [World.size_setCell]); all_goals omega))
              have H6 := Lib.hid (H6.out.up D19)
              clear f18_0 f18_1 f18_2 f18_3 f18_4 f18_5 g18_5 hb19 D19
              go_wp2_with fail
              refine (T.out.k20 _ _ _ _ (H6.out.up (by first | exact Below.refl _ _ | exact box1 _ _)) (by first | exact C19 | exact C19.alloc C19.size _ | exact set1 C19 (by omega) _ _)).mono ?_
              rintro e w20 ⟨A20, k20, c20, rfl, hb20, H20⟩
              have s20 : w19.heap.size ≤ w20.heap.size := by have := hb20.size; (repeat rw [World.size_alloc] at this); (repeat rw [World.size_setCell] at this); omega
              have D20 : Below w19.heap.size w19 w20 := by first | exact hb20 | exact (box1 _ _).trans (hb20.mono (by (repeat rw [World.size_alloc]); (repeat rw [World.size_setCell]); all_goals omega))
              have f20_0 := cell_up D20 z19_0 f19_0
              have z20_0 := Nat.lt_of_lt_of_le z19_0 D20.size
              have f20_1 := cell_up D20 z19_1 f19_1
              have z20_1 := Nat.lt_of_lt_of_le z19_1 D20.size
              have f20_2 := cell_up D20 z19_2 f19_2
              have z20_2 := Nat.lt_of_lt_of_le z19_2 D20.size
              have f20_3 := cell_up D20 z19_3 f19_3
              have z20_3 := Nat.lt_of_lt_of_le z19_3 D20.size
              have f20_4 := cell_up D20 z19_4 f19_4
              have z20_4 := Nat.lt_of_lt_of_le z19_4 D20.size
              have f20_5 := cell_up D20 z19_5 f19_5
              have g20_5 := frozen_up D20 z19_5 g19_5
              have z20_5 := Nat.lt_of_lt_of_le z19_5 D20.size
              have f20_6 := cell_up D20 z19_6 f19_6
              have g20_6 := frozen_up D20 z19_6 g19_6
              have z20_6 := Nat.lt_of_lt_of_le z19_6 D20.size
              have f20_7 : w20.cell? ⟨w19.heap.size, 0, none⟩ = some (.slice A19 k19 c19) := low_cell hb20 (by (repeat rw [World.size_alloc]); (repeat rw [World.size_setCell]); all_goals omega) (by go_simp)
              have z20_7 : w19.heap.size < w20.heap.size := World.block_lt_of_cell? _ _ f20_7
              have C20 : Below w.heap.size w w20 := by first | exact C19.trans (hb20.mono C19.size) | exact (C19.alloc C19.size _).trans (hb20.mono (by (repeat rw [World.size_alloc]); (repeat rw [World.size_setCell]); all_goals omega)) | exact (set1 C19 (by omega) _ _).trans (hb20.mono (by (repeat rw [World.size_alloc]); (repeat rw [World.size_setCell]); all_goals omega))
              have H19 := Lib.hid (H19.out.up D20)
              clear f19_0 f19_1 f19_2 f19_3 f19_4 f19_5 g19_5 f19_6 g19_6 hb20 D20
              go_wp2_with fail
              refine (T.out.k21 _ _ _ _ _ (H19.out.set (by (repeat rw [World.size_alloc]); (repeat rw [World.size_setCell]); all_goals omega) 0 _) (by first | exact C20 | exact C20.alloc C20.size _ | exact set1 C20 (by omega) _ _)).mono ?_
              rintro e w21 ⟨A21, k21, c21, rfl, hb21, H21⟩
              have s21 : w20.heap.size ≤ w21.heap.size := by have := hb21.size; (repeat rw [World.size_alloc] at this); (repeat rw [World.size_setCell] at this); omega
              have f21_0 : w21.cell? ⟨w.heap.size, 0, none⟩ = some (.slice A n c) := low_cell hb21 (by (repeat rw [World.size_alloc]); (repeat rw [World.size_setCell]); all_goals omega) (by go_simp)
              have z21_0 : w.heap.size < w21.heap.size := World.block_lt_of_cell? _ _ f21_0
              have f21_1 : w21.cell? ⟨w.heap.size + 1, 0, none⟩ = some (.slice B m d) := low_cell hb21 (by (repeat rw [World.size_alloc]); (repeat rw [World.size_setCell]); all_goals omega) (by go_simp)
              have z21_1 : w.heap.size + 1 < w21.heap.size := World.block_lt_of_cell? _ _ f21_1
              have f21_2 : w21.cell? ⟨w.heap.size + 1 + 1, 0, none⟩ = some (.slice C l f) := low_cell hb21 (by (repeat rw [World.size_alloc]); (repeat rw [World.size_setCell]); all_goals omega) (by go_simp)
              have z21_2 : w.heap.size + 1 + 1 < w21.heap.size := World.block_lt_of_cell? _ _ f21_2
              have f21_3 : w21.cell? ⟨w6.heap.size, 0, none⟩ = some (.slice A6 k6 c6) := low_cell hb21 (by (repeat rw [World.size_alloc]); (repeat rw [World.size_setCell]); all_goals omega) (by go_simp)
              have z21_3 : w6.heap.size < w21.heap.size := World.block_lt_of_cell? _ _ f21_3
              have f21_4 : w21.cell? ⟨w16.heap.size, 0, none⟩ = some (.slice A16 k16 c16) := low_cell hb21 (by (repeat rw [World.size_alloc]); (repeat rw [World.size_setCell]); all_goals omega) (by go_simp)
              have z21_4 : w16.heap.size < w21.heap.size := World.block_lt_of_cell? _ _ f21_4
              have f21_5 : w21.cell? ⟨w17.heap.size, 0, none⟩ = some (.slice A20 k20 c20) := low_cell hb21 (by (repeat rw [World.size_alloc]); (repeat rw [World.size_setCell]); all_goals omega) (by go_simp)
              have g21_5 : w21.frozen? ⟨w17.heap.size, 0, none⟩ = false := low_frozen hb21 (by (repeat rw [World.size_alloc]); (repeat rw [World.size_setCell]); all_goals omega) (by go_simp)
              have z21_5 : w17.heap.size < w21.heap.size := World.block_lt_of_cell? _ _ f21_5
              have f21_6 : w21.cell? ⟨w18.heap.size, 0, none⟩ = some (.slice A18 k18 c18) := low_cell hb21 (by (repeat rw [World.size_alloc]); (repeat rw [World.size_setCell]); all_goals omega) (by go_simp)
              have g21_6 : w21.frozen? ⟨w18.heap.size, 0, none⟩ = false := low_frozen hb21 (by (repeat rw [World.size_alloc]); (repeat rw [World.size_setCell]); all_goals omega) (by go_simp)
              have z21_6 : w18.heap.size < w21.heap.size := World.block_lt_of_cell? _ _ f21_6
              have f21_7 : w21.cell? ⟨w19.heap.size, 0, none⟩ = some (.slice A19 k19 c19) := low_cell hb21 (by (repeat rw [World.size_alloc]); (repeat rw [World.size_setCell]); all_goals omega) (by go_simp)
              have z21_7 : w19.heap.size < w21.heap.size := World.block_lt_of_cell? _ _ f21_7
              have C21 : Below w.heap.size w w21 := by first | exact C20.trans (hb21.mono C20.size) | exact (C20.alloc C20.size _).trans (hb21.mono (by (repeat rw [World.size_alloc]); (repeat rw [World.size_setCell]); all_goals omega)) | exact (set1 C20 (by omega) _ _).trans (hb21.mono (by (repeat rw [World.size_alloc]); (repeat rw [World.size_setCell]); all_goals omega))
              have H20 := Lib.hid ((H20.out.set (b := w17.heap.size) (by (repeat rw [World.size_alloc]); (repeat rw [World.size_setCell]); all_goals omega) 0 (.slice A20 k20 c20)).up hb21)
              clear f20_0 f20_1 f20_2 f20_3 f20_4 f20_5 g20_5 f20_6 g20_6 f20_7 hb21
              skip
              by_cases e8 : E8 = 0
              · subst e8
                obtain rfl := T.out.e10 rfl rfl
                go_wp2_with fail
                refine (T.out.s21 rfl rfl _ _ _ _ _ _ _ _ _ (H20.out.set (b := w18.heap.size) (by (repeat rw [World.size_alloc]); (repeat rw [World.size_setCell]); all_goals omega) 0 (.slice A21 k21 c21)) (H21.out.set (b := w18.heap.size) (by (repeat rw [World.size_alloc]); (repeat rw [World.size_setCell]); all_goals omega) 0 (.slice A21 k21 c21))).mono ?_
                rintro e w22 ⟨rfl, hb22⟩
                have s22 : w21.heap.size ≤ w22.heap.size := by have := hb22.size; (repeat rw [World.size_alloc] at this); (repeat rw [World.size_setCell] at this); omega
                have f22_0 : w22.cell? ⟨w.heap.size, 0, none⟩ = some (.slice A n c) := low_cell hb22 (by (repeat rw [World.size_alloc]); (repeat rw [World.size_setCell]); all_goals omega) (by go_simp)
                have z22_0 : w.heap.size < w22.heap.size := World.block_lt_of_cell? _ _ f22_0
                have f22_1 : w22.cell? ⟨w.heap.size + 1, 0, none⟩ = some (.slice B m d) := low_cell hb22 (by (repeat rw [World.size_alloc]); (repeat rw [World.size_setCell]); all_goals omega) (by go_simp)
                have z22_1 : w.heap.size + 1 < w22.heap.size := World.block_lt_of_cell? _ _ f22_1
                have f22_2 : w22.cell? ⟨w.heap.size + 1 + 1, 0, none⟩ = some (.slice C l f) := low_cell hb22 (by (repeat rw [World.size_alloc]); (repeat rw [World.size_setCell]); all_goals omega) (by go_simp)
                have z22_2 : w.heap.size + 1 + 1 < w22.heap.size := World.block_lt_of_cell? _ _ f22_2
                have f22_3 : w22.cell? ⟨w6.heap.size, 0, none⟩ = some (.slice A6 k6 c6) := low_cell hb22 (by (repeat rw [World.size_alloc]); (repeat rw [World.size_setCell]); all_goals omega) (by go_simp)
                have z22_3 : w6.heap.size < w22.heap.size := World.block_lt_of_cell? _ _ f22_3
                have f22_4 : w22.cell? ⟨w16.heap.size, 0, none⟩ = some (.slice A16 k16 c16) := low_cell hb22 (by (repeat rw [World.size_alloc]); (repeat rw [World.size_setCell]); all_goals omega) (by go_simp)
                have z22_4 : w16.heap.size < w22.heap.size := World.block_lt_of_cell? _ _ f22_4
                have f22_5 : w22.cell? ⟨w17.heap.size, 0, none⟩ = some (.slice A20 k20 c20) := low_cell hb22 (by (repeat rw [World.size_alloc]); (repeat rw [World.size_setCell]); all_goals omega) (by go_simp)
                have g22_5 : w22.frozen? ⟨w17.heap.size, 0, none⟩ = false := low_frozen hb22 (by (repeat rw [World.size_alloc]); (repeat rw [World.size_setCell]); all_goals omega) (by go_simp)
                have z22_5 : w17.heap.size < w22.heap.size := World.block_lt_of_cell? _ _ f22_5
                have f22_6 : w22.cell? ⟨w18.heap.size, 0, none⟩ = some (.slice A21 k21 c21) := low_cell hb22 (by (repeat rw [World.size_alloc]); (repeat rw [World.size_setCell]); all_goals omega) (by go_simp)
                have g22_6 : w22.frozen? ⟨w18.heap.size, 0, none⟩ = false := low_frozen hb22 (by (repeat rw [World.size_alloc]); (repeat rw [World.size_setCell]); all_goals omega) (by go_simp)
                have z22_6 : w18.heap.size < w22.heap.size := World.block_lt_of_cell? _ _ f22_6
                have f22_7 : w22.cell? ⟨w19.heap.size, 0, none⟩ = some (.slice A19 k19 c19) := low_cell hb22 (by (repeat rw [World.size_alloc]); (repeat rw [World.size_setCell]); all_goals omega) (by go_simp)
                have z22_7 : w19.heap.size < w22.heap.size := World.block_lt_of_cell? _ _ f22_7
                have C22 : Below w.heap.size w w22 := by first | exact C21.trans (hb22.mono C21.size) | exact (C21.alloc C21.size _).trans (hb22.mono (by (repeat rw [World.size_alloc]); (repeat rw [World.size_setCell]); all_goals omega)) | exact (set1 C21 (by omega) _ _).trans (hb22.mono (by (repeat rw [World.size_alloc]); (repeat rw [World.size_setCell]); all_goals omega))
                clear f21_0 f21_1 f21_2 f21_3 f21_4 f21_5 g21_5 f21_6 g21_6 f21_7 hb22
                go_wp2_with fail
                go_ret
                exact ⟨rfl, C22⟩
              · have d1 : (E8 == 0) = false := by simpa using e8
                have d2 : (E8 != 0) = true := by simpa using e8
                go_wp2_with fail
                go_ret
                exact ⟨rfl, (by first | exact C21 | exact C21.alloc C21.size _ | exact set1 C21 (by omega) _ _)⟩
          | false =>
            go_wp2_with fail
            refine (T.out.k16 _ (by first | exact C15 | exact C15.alloc C15.size _ | exact set1 C15 (by omega) _ _)).mono ?_
            rintro e w16 ⟨A16, k16, c16, rfl, hb16, H16⟩
            have s16 : w15.heap.size ≤ w16.heap.size := by have := hb16.size; (repeat rw [World.size_alloc] at this); (repeat rw [World.size_setCell] at this); omega
            have D16 : Below w15.heap.size w15 w16 := by first | exact hb16 | exact (box1 _ _).trans (hb16.mono (by (repeat rw [World.size_alloc]); (repeat rw [World.size_setCell]); all_goals omega))
            have f16_0 := cell_up D16 z15_0 f15_0
            have z16_0 := Nat.lt_of_lt_of_le z15_0 D16.size
            have f16_1 := cell_up D16 z15_1 f15_1
            have z16_1 := Nat.lt_of_lt_of_le z15_1 D16.size
            have f16_2 := cell_up D16 z15_2 f15_2
            have z16_2 := Nat.lt_of_lt_of_le z15_2 D16.size
            have f16_3 := cell_up D16 z15_3 f15_3
            have z16_3 := Nat.lt_of_lt_of_le z15_3 D16.size
            have f16_4 := cell_up D16 z15_4 f15_4
            have z16_4 := Nat.lt_of_lt_of_le z15_4 D16.size
            have C16 : Below w.heap.size w w16 := by first | exact C15.trans (hb16.mono C15.size) | exact (C15.alloc C15.size _).trans (hb16.mono (by (repeat rw [World.size_alloc]); (repeat rw [World.size_setCell]); all_goals omega)) | exact (set1 C15 (by omega) _ _).trans (hb16.mono (by (repeat rw [World.size_alloc]); (repeat rw [World.size_setCell]); all_goals omega))
            have H5 := Lib.hid (H5.out.up D16)
            have H6 := Lib.hid (H6.out.up D16)
            clear f15_0 f15_1 f15_2 f15_3 f15_4 hb16 D16
            go_wp2_with fail
            refine (T.out.k17 _ _ _ _ (H5.out.up (by first | exact Below.refl _ _ | exact box1 _ _)) (by first | exact C16 | exact C16.alloc C16.size _ | exact set1 C16 (by omega) _ _)).mono ?_
            rintro e w17 ⟨A17, k17, c17, rfl, hb17, H17⟩
            have s17 : w16.heap.size ≤ w17.heap.size := by have := hb17.size; (repeat rw [World.size_alloc] at this); (repeat rw [World.size_setCell] at this); omega
            have D17 : Below w16.heap.size w16 w17 := by first | exact hb17 | exact (box1 _ _).trans (hb17.mono (by (repeat rw [World.size_alloc]); (repeat rw [World.size_setCell]); all_goals omega))
            have f17_0 := cell_up D17 z16_0 f16_0
            have z17_0 := Nat.lt_of_lt_of_le z16_0 D17.size
            have f17_1 := cell_up D17 z16_1 f16_1
            have z17_1 := Nat.lt_of_lt_of_le z16_1 D17.size
            have f17_2 := cell_up D17 z16_2 f16_2
            have z17_2 := Nat.lt_of_lt_of_le z16_2 D17.size
            have f17_3 := cell_up D17 z16_3 f16_3
            have z17_3 := Nat.lt_of_lt_of_le z16_3 D17.size
            have f17_4 := cell_up D17 z16_4 f16_4
            have z17_4 := Nat.lt_of_lt_of_le z16_4 D17.size
            have f17_5 : w17.cell? ⟨w16.heap.size, 0, none⟩ = some (.slice A16 k16 c16) := low_cell hb17 (by (repeat rw [World.size_alloc]); (repeat rw [World.size_setCell]); all_goals omega) (by go_simp)
            have z17_5 : w16.heap.size < w17.heap.size := World.block_lt_of_cell? _ _ f17_5
            have C17 : Below w.heap.size w w17 := by first | exact C16.trans (hb17.mono C16.size) | exact (C16.alloc C16.size _).trans (hb17.mono (by (repeat rw [World.size_alloc]); (repeat rw [World.size_setCell]); all_goals omega)) | exact (set1 C16 (by omega) _ _).trans (hb17.mono (by (repeat rw [World.size_alloc]); (repeat rw [World.size_setCell]); all_goals omega))
            have H6 := Lib.hid (H6.out.up D17)
            have H16 := Lib.hid (H16.out.up D17)
            clear f16_0 f16_1 f16_2 f16_3 f16_4 hb17 D17
            go_wp2_with fail
            refine (T.out.k18 _ _ _ _ (H16.out.up (by first | exact Below.refl _ _ | exact box1 _ _)) (by first | exact C17 | exact C17.alloc C17.size _ | exact set1 C17 (by omega) _ _)).mono ?_
            rintro e w18 ⟨A18, k18, c18, rfl, hb18, H18⟩
            have s18 : w17.heap.size ≤ w18.heap.size := by have := hb18.size; (repeat rw [World.size_alloc] at this); (repeat rw [World.size_setCell] at this); omega
            have D18 : Below w17.heap.size w17 w18 := by first | exact hb18 | exact (box1 _ _).trans (hb18.mono (by (repeat rw [World.size_alloc]); (repeat rw [World.size_setCell]); all_goals omega))
            have f18_0 := cell_up D18 z17_0 f17_0
            have z18_0 := Nat.lt_of_lt_of_le z17_0 D18.size
            have f18_1 := cell_up D18 z17_1 f17_1
            have z18_1 := Nat.lt_of_lt_of_le z17_1 D18.size
            have f18_2 := cell_up D18 z17_2 f17_2
            have z18_2 := Nat.lt_of_lt_of_le z17_2 D18.size
            have f18_3 := cell_up D18 z17_4 f17_4
            have z18_3 := Nat.lt_of_lt_of_le z17_4 D18.size
            have f18_4 := cell_up D18 z17_5 f17_5
            have z18_4 := Nat.lt_of_lt_of_le z17_5 D18.size
            have f18_5 : w18.cell? ⟨w17.heap.size, 0, none⟩ = some (.slice A17 k17 c17) := low_cell hb18 (by (repeat rw [World.size_alloc]); (repeat rw [World.size_setCell]); all_goals omega) (by go_simp)
            have g18_5 : w18.frozen? ⟨w17.heap.size, 0, none⟩ = false := low_frozen hb18 (by (repeat rw [World.size_alloc]); (repeat rw [World.size_setCell]); all_goals omega) (by go_simp)
            have z18_5 : w17.heap.size < w18.heap.size := World.block_lt_of_cell? _ _ f18_5
            have C18 : Below w.heap.size w w18 := by first | exact C17.trans (hb18.mono C17.size) | exact (C17.alloc C17.size _).trans (hb18.mono (by (repeat rw [World.size_alloc]); (repeat rw [World.size_setCell]); all_goals omega)) | exact (set1 C17 (by omega) _ _).trans (hb18.mono (by (repeat rw [World.size_alloc]); (repeat rw [World.size_setCell]); all_goals omega))
            have H6 := Lib.hid (H6.out.up D18)
            have H17 := Lib.hid (H17.out.up D18)
            clear f17_0 f17_1 f17_2 f17_3 f17_4 f17_5 hb18 D18
            skip
            by_cases e5 : E5 = 0
            · subst e5
              by_cases e6 : E6 = 0
              · subst e6
                obtain rfl := T.out.e7 rfl rfl rfl
                go_wp2_with fail
                refine (T.out.s18 rfl rfl rfl _ _ _ _ _ _ _ (H17.out.up (by first | exact Below.refl _ _ | exact box1 _ _)) (H18.out.up (by first | exact Below.refl _ _ | exact box1 _ _))).mono ?_
                rintro e w19 ⟨rfl, hb19⟩
                have s19 : w18.heap.size ≤ w19.heap.size := by have := hb19.size; (repeat rw [World.size_alloc] at this); (repeat rw [World.size_setCell] at this); omega
                have D19 : Below w18.heap.size w18 w19 := by first | exact hb19 | exact (box1 _ _).trans (hb19.mono (by (repeat rw [World.size_alloc]); (repeat rw [World.size_setCell]); all_goals omega))
                have f19_0 := cell_up D19 z18_0 f18_0
                have z19_0 := Nat.lt_of_lt_of_le z18_0 D19.size
                have f19_1 := cell_up D19 z18_1 f18_1
                have z19_1 := Nat.lt_of_lt_of_le z18_1 D19.size
                have f19_2 := cell_up D19 z18_2 f18_2
                have z19_2 := Nat.lt_of_lt_of_le z18_2 D19.size
                have f19_3 := cell_up D19 z18_3 f18_3
                have z19_3 := Nat.lt_of_lt_of_le z18_3 D19.size
                have f19_4 := cell_up D19 z18_4 f18_4
                have z19_4 := Nat.lt_of_lt_of_le z18_4 D19.size
                have f19_5 := cell_up D19 z18_5 f18_5
                have g19_5 := frozen_up D19 z18_5 g18_5
                have z19_5 := Nat.lt_of_lt_of_le z18_5 D19.size
                have f19_6 : w19.cell? ⟨w18.heap.size, 0, none⟩ = some (.slice A18 k18 c18) := low_cell hb19 (by (repeat rw [World.size_alloc]); (repeat rw [World.size_setCell]); all_goals omega) (by go_simp)
                have g19_6 : w19.frozen? ⟨w18.heap.size, 0, none⟩ = false := low_frozen hb19 (by (repeat rw [World.size_alloc]); (repeat rw [World.size_setCell]); all_goals omega) (by go_simp)
                have z19_6 : w18.heap.size < w19.heap.size := World.block_lt_of_cell? _ _ f19_6
                have C19 : Below w.heap.size w w19 := by first | exact C18.trans (hb19.mono C18.size) | exact (C18.alloc C18.size _).trans (hb19.mono (by (repeat rw [World.size_alloc]); (repeat rw [World.size_setCell]); all_goals omega)) | exact (set1 C18 (by omega) _ _).trans (hb19.mono (by (repeat rw [World.size_alloc]); (repeat rw [World.size_setCell]); all_goals omega))
                have H6 := Lib.hid (H6.out.up D19)
                clear f18_0 f18_1 f18_2 f18_3 f18_4 f18_5 g18_5 hb19 D19
                go_wp2_with fail
                refine (T.out.k19 _ (by first | exact C19 | exact C19.alloc C19.size _ | exact set1 C19 (by omega) _ _)).mono ?_
                rintro e w20 ⟨A19, k19, c19, rfl, hb20, H19⟩
                have s20 : w19.heap.size ≤ w20.heap.size := by have := hb20.size; (repeat rw [World.size_alloc] at this); (repeat rw [World.size_setCell] at this); omega
                have D20 : Below w19.heap.size w19 w20 := by first | exact hb20 | exact (box1 _ _).trans (hb20.mono (by (repeat rw [World.size_alloc]); (repeat rw [World.size_setCell]); all_goals omega))
                have f20_0 := cell_up D20 z19_0 f19_0
                have z20_0 := Nat.lt_of_lt_of_le z19_0 D20.size
                have f20_1 := cell_up D20 z19_1 f19_1
                have z20_1 := Nat.lt_of_lt_of_le z19_1 D20.size
                have f20_2 := cell_up D20 z19_2 f19_2
                have z20_2 := Nat.lt_of_lt_of_le z19_2 D20.size
                have f20_3 := cell_up D20 z19_3 f19_3
                have z20_3 := Nat.lt_of_lt_of_le z19_3 D20.size
                have f20_4 := cell_up D20 z19_4 f19_4
                have z20_4 := Nat.lt_of_lt_of_le z19_4 D20.size
                have f20_5 := cell_up D20 z19_5 f19_5
                have g20_5 := frozen_up D20 z19_5 g19_5
                have z20_5 := Nat.lt_of_lt_of_le z19_5 D20.size
                have f20_6 := cell_up D20 z19_6 f19_6
                have g20_6 := frozen_up D20 z19_6 g19_6
                have z20_6 := Nat.lt_of_lt_of_le z19_6 D20.size
                have C20 : Below w.heap.size w w20 := by first | exact C19.trans (hb20.mono C19.size) | exact (C19.alloc C19.size _).trans (hb20.mono (by (repeat rw [World.size_alloc]); (repeat rw [World.size_setCell]); all_goals omega)) | exact (set1 C19 (by omega) _ _).trans (hb20.mono (by (repeat rw [World.size_alloc]); (repeat rw [World.size_setCell]); all_goals omega))
                have H6 := Lib.hid (H6.out.up D20)
                clear f19_0 f19_1 f19_2 f19_3 f19_4 f19_5 g19_5 f19_6 g19_6 hb20 D20
                go_wp2_with fail
                refine (T.out.k20 _ _ _ _ (H6.out.up (by first | exact Below.refl _ _ | exact box1 _ _)) (by first | exact C20 | exact C20.alloc C20.size _ | exact set1 C20 (by omega) _ _)).mono ?_
                rintro e w21 ⟨A20, k20, c20, rfl, hb21, H20⟩
                have s21 : w20.heap.size ≤ w21.heap.size := by have := hb21.size; (repeat rw [World.size_alloc] at this); (repeat rw [World.size_setCell] at this); omega
                have D21 : Below w20.heap.size w20 w21 := by first | exact hb21 | exact (box1 _ _).trans (hb21.mono (by (repeat rw [World.size_alloc]); (repeat rw [World.size_setCell]); all_goals omega))
                have f21_0 := cell_up D21 z20_0 f20_0
                have z21_0 := Nat.lt_of_lt_of_le z20_0 D21.size
                have f21_1 := cell_up D21 z20_1 f20_1
                have z21_1 := Nat.lt_of_lt_of_le z20_1 D21.size
                have f21_2 := cell_up D21 z20_2 f20_2
                have z21_2 := Nat.lt_of_lt_of_le z20_2 D21.size
                have f21_3 := cell_up D21 z20_3 f20_3
                have z21_3 := Nat.lt_of_lt_of_le z20_3 D21.size
                have f21_4 := cell_up D21 z20_4 f20_4
                have z21_4 := Nat.lt_of_lt_of_le z20_4 D21.size
                have f21_5 := cell_up D21 z20_5 f20_5
                have g21_5 := frozen_up D21 z20_5 g20_5
                have z21_5 := Nat.lt_of_lt_of_le z20_5 D21.size
                have f21_6 := cell_up D21 z20_6 f20_6
                have g21_6 := frozen_up D21 z20_6 g20_6
                have z21_6 := Nat.lt_of_lt_of_le z20_6 D21.size
                have f21_7 : w21.cell? ⟨w20.heap.size, 0, none⟩ = some (.slice A19 k19 c19) := low_cell hb21 (by (repeat rw [World.size_alloc]); (repeat rw [World.size_setCell]); all_goals omega) (by go_simp)
                have z21_7 : w20.heap.size < w21.heap.size := World.block_lt_of_cell? _ _ f21_7
                have C21 : Below w.heap.size w w21 := by first | exact C20.trans (hb21.mono C20.size) | exact (C20.alloc C20.size _).trans (hb21.mono (by (repeat rw [World.size_alloc]); (repeat rw [World.size_setCell]); all_goals omega)) | exact (set1 C20 (by omega) _ _).trans (hb21.mono (by (repeat rw [World.size_alloc]); (repeat rw [World.size_setCell]); all_goals omega))
                have H19 := Lib.hid (H19.out.up D21)
                clear f20_0 f20_1 f20_2 f20_3 f20_4 f20_5 g20_5 f20_6 g20_6 hb21 D21
                go_wp2_with fail
                refine (T.out.k21 _ _ _ _ _ (H19.out.set (by (repeat rw [World.size_alloc]); (repeat rw [World.size_setCell]); all_goals omega) 0 _) (by first | exact C21 | exact C21.alloc C21.size _ | exact set1 C21 (by omega) _ _)).mono ?_
                rintro e w22 ⟨A21, k21, c21, rfl, hb22, H21⟩
                have s22 : w21.heap.size ≤ w22.heap.size := by have := hb22.size; (repeat rw [World.size_alloc] at this); (repeat rw [World.size_setCell] at this); omega
                have f22_0 : w22.cell? ⟨w.heap.size, 0, none⟩ = some (.slice A n c) := low_cell hb22 (by (repeat rw [World.size_alloc]); (repeat rw [World.size_setCell]); all_goals omega) (by go_simp)
                have z22_0 : w.heap.size < w22.heap.size := World.block_lt_of_cell? _ _ f22_0
                have f22_1 : w22.cell? ⟨w.heap.size + 1, 0, none⟩ = some (.slice B m d) := low_cell hb22 (by (repeat rw [World.size_alloc]); (repeat rw [World.size_setCell]); all_goals omega) (by go_simp)
                have z22_1 : w.heap.size + 1 < w22.heap.size := World.block_lt_of_cell? _ _ f22_1
                have f22_2 : w22.cell? ⟨w.heap.size + 1 + 1, 0, none⟩ = some (.slice C l f) := low_cell hb22 (by (repeat rw [World.size_alloc]); (repeat rw [World.size_setCell]); all_goals omega) (by go_simp)
                have z22_2 : w.heap.size + 1 + 1 < w22.heap.size := World.block_lt_of_cell? _ _ f22_2
                have f22_3 : w22.cell? ⟨w6.heap.size, 0, none⟩ = some (.slice A6 k6 c6) := low_cell hb22 (by (repeat rw [World.size_alloc]); (repeat rw [World.size_setCell]); all_goals omega) (by go_simp)
                have z22_3 : w6.heap.size < w22.heap.size := World.block_lt_of_cell? _ _ f22_3
                have f22_4 : w22.cell? ⟨w16.heap.size, 0, none⟩ = some (.slice A16 k16 c16) := low_cell hb22 (by (repeat rw [World.size_alloc]); (repeat rw [World.size_setCell]); all_goals omega) (by go_simp)
                have z22_4 : w16.heap.size < w22.heap.size := World.block_lt_of_cell? _ _ f22_4
                have f22_5 : w22.cell? ⟨w17.heap.size, 0, none⟩ = some (.slice A20 k20 c20) := low_cell hb22 (by (repeat rw [World.size_alloc]); (repeat rw [World.size_setCell]); all_goals omega) (by go_simp)
                have g22_5 : w22.frozen? ⟨w17.heap.size, 0, none⟩ = false := low_frozen hb22 (by (repeat rw [World.size_alloc]); (repeat rw [World.size_setCell]); all_goals omega) (by go_simp)
                have z22_5 : w17.heap.size < w22.heap.size := World.block_lt_of_cell? _ _ f22_5
                have f22_6 : w22.cell? ⟨w18.heap.size, 0, none⟩ = some (.slice A18 k18 c18) := low_cell hb22 (by (repeat rw [World.size_alloc]); (repeat rw [World.size_setCell]); all_goals omega) (by go_simp)
                have g22_6 : w22.frozen? ⟨w18.heap.size, 0, none⟩ = false := low_frozen hb22 (by (repeat rw [World.size_alloc]); (repeat rw [World.size_setCell]); all_goals omega) (by go_simp)
                have z22_6 : w18.heap.size < w22.heap.size := World.block_lt_of_cell? _ _ f22_6
                have f22_7 : w22.cell? ⟨w20.heap.size, 0, none⟩ = some (.slice A19 k19 c19) := low_cell hb22 (by (repeat rw [World.size_alloc]); (repeat rw [World.size_setCell]); all_goals omega) (by go_simp)
                have z22_7 : w20.heap.size < w22.heap.size := World.block_lt_of_cell? _ _ f22_7
                have C22 : Below w.heap.size w w22 := by first | exact C21.trans (hb22.mono C21.size) | exact (C21.alloc C21.size _).trans (hb22.mono (by (repeat rw [World.size_alloc]); (repeat rw [World.size_setCell]); all_goals omega)) | exact (set1 C21 (by omega) _ _).trans (hb22.mono (by (repeat rw [World.size_alloc]); (repeat rw [World.size_setCell]); all_goals omega))
                have H20 := Lib.hid ((H20.out.set (b := w17.heap.size) (by (repeat rw [World.size_alloc]); (repeat rw [World.size_setCell]); all_goals omega) 0 (.slice A20 k20 c20)).up hb22)
                clear f21_0 f21_1 f21_2 f21_3 f21_4 f21_5 g21_5 f21_6 g21_6 f21_7 hb22
                skip
                by_cases e8 : E8 = 0
                · subst e8
                  obtain rfl := T.out.e10 rfl rfl
                  go_wp2_with fail
                  refine (T.out.s21 rfl rfl _ _ _ _ _ _ _ _ _ (H20.out.set (b := w18.heap.size) (by (repeat rw [World.size_alloc]); (repeat rw [World.size_setCell]); all_goals omega) 0 (.slice A21 k21 c21)) (H21.out.set (b := w18.heap.size) (by (repeat rw [World.size_alloc]); (repeat rw [World.size_setCell]); all_goals omega) 0 (.slice A21 k21 c21))).mono ?_
                  rintro e w23 ⟨rfl, hb23⟩
                  have s23 : w22.heap.size ≤ w23.heap.size := by have := hb23.size; (repeat rw [World.size_alloc] at this); (repeat rw [World.size_setCell] at this); omega
                  have f23_0 : w23.cell? ⟨w.heap.size, 0, none⟩ = some (.slice A n c) := low_cell hb23 (by (repeat rw [World.size_alloc]); (repeat rw [World.size_setCell]); all_goals omega) (by go_simp)
                  have z23_0 : w.heap.size < w23.heap.size := World.block_lt_of_cell? _ _ f23_0
                  have f23_1 : w23.cell? ⟨w.heap.size + 1, 0, none⟩ = some (.slice B m d) := low_cell hb23 (by (repeat rw [World.size_alloc]); (repeat rw [World.size_setCell]); all_goals omega) (by go_simp)
                  have z23_1 : w.heap.size + 1 < w23.heap.size := World.block_lt_of_cell? _ _ f23_1
                  have f23_2 : w23.cell? ⟨w.heap.size + 1 + 1, 0, none⟩ = some (.slice C l f) := low_cell hb23 (by (repeat rw [World.size_alloc]); (repeat rw [World.size_setCell]); all_goals omega) (by go_simp)
                  have z23_2 : w.heap.size + 1 + 1 < w23.heap.size := World.block_lt_of_cell? _ _ f23_2
                  have f23_3 : w23.cell? ⟨w6.heap.size, 0, none⟩ = some (.slice A6 k6 c6) := low_cell hb23 (by (repeat rw [World.size_alloc]); (repeat rw [World.size_setCell]); all_goals omega) (by go_simp)
                  have z23_3 : w6.heap.size < w23.heap.size := World.block_lt_of_cell? _ _ f23_3
                  have f23_4 : w23.cell? ⟨w16.heap.size, 0, none⟩ = some (.slice A16 k16 c16) := low_cell hb23 (by (repeat rw [World.size_alloc]); (repeat rw [World.size_setCell]); all_goals omega) (by go_simp)
                  have z23_4 : w16.heap.size < w23.heap.size := World.block_lt_of_cell? _ _ f23_4
                  have f23_5 : w23.cell? ⟨w17.heap.size, 0, none⟩ = some (.slice A20 k20 c20) := low_cell hb23 (by (repeat rw [World.size_alloc]); (repeat rw [World.size_setCell]); all_goals omega) (by go_simp)
                  have g23_5 : w23.frozen? ⟨w17.heap.size, 0, none⟩ = false := low_frozen hb23 (by (repeat rw [World.size_alloc]); (repeat rw [World.size_setCell]); all_goals omega) (by go_simp)
                  have z23_5 : w17.heap.size < w23.heap.size := World.block_lt_of_cell? _ _ f23_5
                  have f23_6 : w23.cell? ⟨w18.heap.size, 0, none⟩ = some (.slice A21 k21 c21) := low_cell hb23 (by (repeat rw [World.size_alloc]); (repeat rw [World.size_setCell]); all_goals omega) (by go_simp)
                  have g23_6 : w23.frozen? ⟨w18.heap.size, 0, none⟩ = false := low_frozen hb23 (by (repeat rw [World.size_alloc]); (repeat rw [World.size_setCell]); all_goals omega) (by go_simp)
                  have z23_6 : w18.heap.size < w23.heap.size := World.block_lt_of_cell? _ _ f23_6
                  have f23_7 : w23.cell? ⟨w20.heap.size, 0, none⟩ = some (.slice A19 k19 c19) := low_cell hb23 (by (repeat rw [World.size_alloc]); (repeat rw [World.size_setCell]); all_goals omega) (by go_simp)
                  have z23_7 : w20.heap.size < w23.heap.size := World.block_lt_of_cell? _ _ f23_7
                  have C23 : Below w.heap.size w w23 := by first | exact C22.trans (hb23.mono C22.size) | exact (C22.alloc C22.size _).trans (hb23.mono (by (repeat rw [World.size_alloc]); (repeat rw [World.size_setCell]); all_goals omega)) | exact (set1 C22 (by omega) _ _).trans (hb23.mono (by (repeat rw [World.size_alloc]); (repeat rw [World.size_setCell]); all_goals omega))
                  clear f22_0 f22_1 f22_2 f22_3 f22_4 f22_5 g22_5 f22_6 g22_6 f22_7 hb23
                  go_wp2_with fail
                  go_ret
                  exact ⟨rfl, C23⟩
                · have d1 : (E8 == 0) = false := by simpa using e8
                  have d2 : (E8 != 0) = true := by simpa using e8
                  go_wp2_with fail
                  go_ret
                  exact ⟨rfl, (by first | exact C22 | exact C22.alloc C22.size _ | exact set1 C22 (by omega) _ _)⟩
              · have d1 : (E6 == 0) = false := by simpa using e6
                have d2 : (E6 != 0) = true := by simpa using e6
                go_wp2_with fail
                refine (T.out.k19 _ (by first | exact C18 | exact C18.alloc C18.size _ | exact set1 C18 (by omega) _ _)).mono ?_
                rintro e w19 ⟨A19, k19, c19, rfl, hb19, H19⟩
                have s19 : w18.heap.size ≤ w19.heap.size := by have := hb19.size; (repeat rw [World.size_alloc] at this); (repeat rw [World.size_setCell] at this); omega
                have D19 : Below w18.heap.size w18 w19 := by first | exact hb19 | exact (box1 _ _).trans (hb19.mono (by (repeat rw [World.size_alloc]); (repeat rw [World.size_setCell]); all_goals omega))
                have f19_0 := cell_up D19 z18_0 f18_0
                have z19_0 := Nat.lt_of_lt_of_le z18_0 D19.size
                have f19_1 := cell_up D19 z18_1 f18_1
                have z19_1 := Nat.lt_of_lt_of_le z18_1 D19.size
                have f19_2 := cell_up D19 z18_2 f18_2
                have z19_2 := Nat.lt_of_lt_of_le z18_2 D19.size
                have f19_3 := cell_up D19 z18_3 f18_3
                have z19_3 := Nat.lt_of_lt_of_le z18_3 D19.size
                have f19_4 := cell_up D19 z18_4 f18_4
                have z19_4 := Nat.lt_of_lt_of_le z18_4 D19.size
                have f19_5 := cell_up D19 z18_5 f18_5
                have g19_5 := frozen_up D19 z18_5 g18_5
                have z19_5 := Nat.lt_of_lt_of_le z18_5 D19.size
                have f19_6 : w19.cell? ⟨w18.heap.size, 0, none⟩ = some (.slice A18 k18 c18) := low_cell hb19 (by (repeat rw [World.size_alloc]); (repeat rw [World.size_setCell]); all_goals omega) (by go_simp)
                have g19_6 : w19.frozen? ⟨w18.heap.size, 0, none⟩ = false := low_frozen hb19 (by (repeat rw [World.size_alloc]); (repeat rw [World.size_setCell]); all_goals omega) (by go_simp)
                have z19_6 : w18.heap.size < w19.heap.size := World.block_lt_of_cell? _ _ f19_6
                have C19 : Below w.heap.size w w19 := by first | exact C18.trans (hb19.mono C18.size) | exact (C18.alloc C18.size _).trans (hb19.mono (by (repeat rw [World.size_alloc]); (repeat rw [World.size_setCell]); all_goals omega)) | exact (set1 C18 (by omega) _ _).trans (hb19.mono (by (repeat rw [World.size_alloc]); (repeat rw [World.size_setCell]); all_goals omega))
                have H6 := Lib.hid (H6.out.up D19)
                clear f18_0 f18_1 f18_2 f18_3 f18_4 f18_5 g18_5 hb19 D19
                go_wp2_with fail
                refine (T.out.k20 _ _ _ _ (H6.out.up (by first | exact Below.refl _ _ | exact box1 _ _)) (by first | exact C19 | exact C19.alloc C19.size _ | exact set1 C19 (by omega) _ _)).mono ?_
                rintro e w20 ⟨A20, k20, c20, rfl, hb20, H20⟩
                have s20 : w19.heap.size ≤ w20.heap.size := by have := hb20.size; (repeat rw [World.size_alloc] at this); (repeat rw [World.size_setCell] at this); omega
                have D20 : Below w19.heap.size w19 w20 := by first | exact hb20 | exact (box1 _ _).trans (hb20.mono (by (repeat rw [World.size_alloc]); (repeat rw [World.size_setCell]); all_goals omega))
                have f20_0 := cell_up D20 z19_0 f19_0
                have z20_0 := Nat.lt_of_lt_of_le z19_0 D20.size
                have f20_1 := cell_up D20 z19_1 f19_1
                have z20_1 := Nat.lt_of_lt_of_le z19_1 D20.size
                have f20_2 := cell_up D20 z19_2 f19_2
                have z20_2 := Nat.lt_of_lt_of_le z19_2 D20.size
                have f20_3 := cell_up D20 z19_3 f19_3
                have z20_3 := Nat.lt_of_lt_of_le z19_3 D20.size
                have f20_4 := cell_up D20 z19_4 f19_4
                have z20_4 := Nat.lt_of_lt_of_le z19_4 D20.size
                have f20_5 := cell_up D20 z19_5 f19_5
                have g20_5 := frozen_up D20 z19_5 g19_5
                have z20_5 := Nat.lt_of_lt_of_le z19_5 D20.size
                have f20_6 := cell_up D20 z19_6 f19_6
                have g20_6 := frozen_up D20 z19_6 g19_6
                have z20_6 := Nat.lt_of_lt_of_le z19_6 D20.size
                have f20_7 : w20.cell? ⟨w19.heap.size, 0, none⟩ = some (.slice A19 k19 c19) := low_cell hb20 (by (repeat rw [World.size_alloc]); (repeat rw [World.size_setCell]); all_goals omega) (by go_simp)
                have z20_7 : w19.heap.size < w20.heap.size := World.block_lt_of_cell? _ _ f20_7
                have C20 : Below w.heap.size w w20 := by first | exact C19.trans (hb20.mono C19.size) | exact (C19.alloc C19.size _).trans (hb20.mono (by (repeat rw [World.size_alloc]); (repeat rw [World.size_setCell]); all_goals omega)) | exact (set1 C19 (by omega) _ _).trans (hb20.mono (by (repeat rw [World.size_alloc]); (repeat rw [World.size_setCell]); all_goals omega))
                have H19 := Lib.hid (H19.out.up D20)
                clear f19_0 f19_1 f19_2 f19_3 f19_4 f19_5 g19_5 f19_6 g19_6 hb20 D20
                go_wp2_with fail
                refine (T.out.k21 _ _ _ _ _ (H19.out.set (by (repeat rw [World.size_alloc]); (repeat rw [World.size_setCell]); all_goals omega) 0 _) (by first | exact C20 | exact C20.alloc C20.size _ | exact set1 C20 (by omega) _ _)).mono ?_
                rintro e w21 ⟨A21, k21, c21, rfl, hb21, H21⟩
                have s21 : w20.heap.size ≤ w21.heap.size := by have := hb21.size; (repeat rw [World.size_alloc] at this); (repeat rw [World.size_setCell] at this); omega
                have f21_0 : w21.cell? ⟨w.heap.size, 0, none⟩ = some (.slice A n c) := low_cell hb21 (by (repeat rw [World.size_alloc]); (repeat rw [World.size_setCell]); all_goals omega) (by go_simp)
                have z21_0 : w.heap.size < w21.heap.size := World.block_lt_of_cell? _ _ f21_0
                have f21_1 : w21.cell? ⟨w.heap.size + 1, 0, none⟩ = some (.slice B m d) := low_cell hb21 (by (repeat rw [World.size_alloc]); (repeat rw [World.size_setCell]); all_goals omega) (by go_simp)
                have z21_1 : w.heap.size + 1 < w21.heap.size := World.block_lt_of_cell? _ _ f21_1
                have f21_2 : w21.cell? ⟨w.heap.size + 1 + 1, 0, none⟩ = some (.slice C l f) := low_cell hb21 (by (repeat rw [World.size_alloc]); (repeat rw [World.size_setCell]); all_goals omega) (by go_simp)
                have z21_2 : w.heap.size + 1 + 1 < w21.heap.size := World.block_lt_of_cell? _ _ f21_2
                have f21_3 : w21.cell? ⟨w6.heap.size, 0, none⟩ = some (.slice A6 k6 c6) := low_cell hb21 (by (repeat rw [World.size_alloc]); (repeat rw [World.size_setCell]); all_goals omega) (by go_simp)
                have z21_3 : w6.heap.size < w21.heap.size := World.block_lt_of_cell? _ _ f21_3
                have f21_4 : w21.cell? ⟨w16.heap.size, 0, none⟩ = some (.slice A16 k16 c16) := low_cell hb21 (by (repeat rw [World.size_alloc]); (repeat rw [World.size_setCell]); all_goals omega) (by go_simp)
                have z21_4 : w16.heap.size < w21.heap.size := World.block_lt_of_cell? _ _ f21_4
                have f21_5 : w21.cell? ⟨w17.heap.size, 0, none⟩ = some (.slice A20 k20 c20) := low_cell hb21 (by (repeat rw [World.size_alloc]); (repeat rw [World.size_setCell]); all_goals omega) (by go_simp)
                have g21_5 : w21.frozen? ⟨w17.heap.size, 0, none⟩ = false := low_frozen hb21 (by (repeat rw [World.size_alloc]); (repeat rw [World.size_setCell]); all_goals omega) (by go_simp)
                have z21_5 : w17.heap.size < w21.heap.size := World.block_lt_of_cell? _ _ f21_5
                have f21_6 : w21.cell? ⟨w18.heap.size, 0, none⟩ = some (.slice A18 k18 c18) := low_cell hb21 (by (repeat rw [World.size_alloc]); (repeat rw [World.size_setCell]); all_goals omega) (by go_simp)
                have g21_6 : w21.frozen? ⟨w18.heap.size, 0, none⟩ = false := low_frozen hb21 (by (repeat rw [World.size_alloc]); (repeat rw [World.size_setCell]); all_goals omega) (by go_simp)
                have z21_6 : w18.heap.size < w21.heap.size := World.block_lt_of_cell? _ _ f21_6
                have f21_7 : w21.cell? ⟨w19.heap.size, 0, none⟩ = some (.slice A19 k19 c19) := low_cell hb21 (by (repeat rw [World.size_alloc]); (repeat rw [World.size_setCell]); all_goals omega) (by go_simp)
                have z21_7 : w19.heap.size < w21.heap.size := World.block_lt_of_cell? _ _ f21_7
                have C21 : Below w.heap.size w w21 := by first | exact C20.trans (hb21.mono C20.size) | exact (C20.alloc C20.size _).trans (hb21.mono (by (repeat rw [World.size_alloc]); (repeat rw [World.size_setCell]); all_goals omega)) | exact (set1 C20 (by omega) _ _).trans (hb21.mono (by (repeat rw [World.size_alloc]); (repeat rw [World.size_setCell]); all_goals omega))
                have H20 := Lib.hid ((H20.out.set (b := w17.heap.size) (by (repeat rw [World.size_alloc]); (repeat rw [World.size_setCell]); all_goals omega) 0 (.slice A20 k20 c20)).up hb21)
                clear f20_0 f20_1 f20_2 f20_3 f20_4 f20_5 g20_5 f20_6 g20_6 f20_7 hb21
                skip
                by_cases e8 : E8 = 0
                · subst e8
                  obtain rfl := T.out.e10 rfl rfl
                  go_wp2_with fail
                  refine (T.out.s21 rfl rfl _ _ _ _ _ _ _ _ _ (H20.out.set (b := w18.heap.size) (by (repeat rw [World.size_alloc]); (repeat rw [World.size_setCell]); all_goals omega) 0 (.slice A21 k21 c21)) (H21.out.set (b := w18.heap.size) (by (repeat rw [World.size_alloc]); (repeat rw [World.size_setCell]); all_goals omega) 0 (.slice A21 k21 c21))).mono ?_
                  rintro e w22 ⟨rfl, hb22⟩
                  have s22 : w21.heap.size ≤ w22.heap.size := by have := hb22.size; (repeat rw [World.size_alloc] at this); (repeat rw [World.size_setCell] at this); omega
                  have f22_0 : w22.cell? ⟨w.heap.size, 0, none⟩ = some (.slice A n c) := low_cell hb22 (by (repeat rw [World.size_alloc]); (repeat rw [World.size_setCell]); all_goals omega) (by go_simp)
                  have z22_0 : w.heap.size < w22.heap.size := World.block_lt_of_cell? _ _ f22_0
                  have f22_1 : w22.cell? ⟨w.heap.size + 1, 0, none⟩ = some (.slice B m d) := low_cell hb22 (by (repeat rw [World.size_alloc]); (repeat rw [World.size_setCell]); all_goals omega) (by go_simp)
                  have z22_1 : w.heap.size + 1 < w22.heap.size := World.block_lt_of_cell? _ _ f22_1
                  have f22_2 : w22.cell? ⟨w.heap.size + 1 + 1, 0, none⟩ = some (.slice C l f) := low_cell hb22 (by (repeat rw [World.size_alloc]); (repeat rw [World.size_setCell]); all_goals omega) (by go_simp)
                  have z22_2 : w.heap.size + 1 + 1 < w22.heap.size := World.block_lt_of_cell? _ _ f22_2
                  have f22_3 : w22.cell? ⟨w6.heap.size, 0, none⟩ = some (.slice A6 k6 c6) := low_cell hb22 (by (repeat rw [World.size_alloc]); (repeat rw [World.size_setCell]); all_goals omega) (by go_simp)
                  have z22_3 : w6.heap.size < w22.heap.size := World.block_lt_of_cell? _ _ f22_3
                  have f22_4 : w22.cell? ⟨w16.heap.size, 0, none⟩ = some (.slice A16 k16 c16) := low_cell hb22 (by (repeat rw [World.size_alloc]); (repeat rw [World.size_setCell]); all_goals omega) (by go_simp)
                  have z22_4 : w16.heap.size < w22.heap.size := World.block_lt_of_cell? _ _ f22_4
                  have f22_5 : w22.cell? ⟨w17.heap.size, 0, none⟩ = some (.slice A20 k20 c20) := low_cell hb22 (by (repeat rw [World.size_alloc]); (repeat rw [World.size_setCell]); all_goals omega) (by go_simp)
                  have g22_5 : w22.frozen? ⟨w17.heap.size, 0, none⟩ = false := low_frozen hb22 (by (repeat rw [World.size_alloc]); (repeat rw [World.size_setCell]); all_goals omega) (by go_simp)
                  have z22_5 : w17.heap.size < w22.heap.size := World.block_lt_of_cell? _ _ f22_5
                  have f22_6 : w22.cell? ⟨w18.heap.size, 0, none⟩ = some (.slice A21 k21 c21) := low_cell hb22 (by (repeat rw [World.size_alloc]); (repeat rw [World.size_setCell]); all_goals omega) (by go_simp)
                  have g22_6 : w22.frozen? ⟨w18.heap.size, 0, none⟩ = false := low_frozen hb22 (by (repeat rw [World.size_alloc]); (repeat rw [World.size_setCell]); all_goals omega) (by go_simp)
                  have z22_6 : w18.heap.size < w22.heap.size := World.block_lt_of_cell? _ _ f22_6
                  have f22_7 : w22.cell? ⟨w19.heap.size, 0, none⟩ = some (.slice A19 k19 c19) := low_cell hb22 (by (repeat rw [World.size_alloc]); (repeat rw [World.size_setCell]); all_goals omega) (by go_simp)
                  have z22_7 : w19.heap.size < w22.heap.size := World.block_lt_of_cell? _ _ f22_7
                  have C22 : Below w.heap.size w w22 := by first | exact C21.trans (hb22.mono C21.size) | exact (C21.alloc C21.size _).trans (hb22.mono (by (repeat rw [World.size_alloc]); (repeat rw [World.size_setCell]); all_goals omega)) | exact (set1 C21 (by omega) _ _).trans (hb22.mono (by (repeat rw [World.size_alloc]); (repeat rw [World.size_setCell]); all_goals omega))
                  clear f21_0 f21_1 f21_2 f21_3 f21_4 f21_5 g21_5 f21_6 g21_6 f21_7 hb22
                  go_wp2_with fail
                  go_ret
                  exact ⟨rfl, C22⟩
                · have d1 : (E8 == 0) = false := by simpa using e8
                  have d2 : (E8 != 0) = true := by simpa using e8
                  go_wp2_with fail
                  go_ret
                  exact ⟨rfl, (by first | exact C21 | exact C21.alloc C21.size _ | exact set1 C21 (by omega) _ _)⟩
            · have d1 : (E5 == 0) = false := by simpa using e5
              have d2 : (E5 != 0) = true := by simpa using e5
              go_wp2_with fail
              refine (T.out.k19 _ (by first | exact C18 | exact C18.alloc C18.size _ | exact set1 C18 (by omega) _ _)).mono ?_
              rintro e w19 ⟨A19, k19, c19, rfl, hb19, H19⟩
              have s19 : w18.heap.size ≤ w19.heap.size := by have := hb19.size; (repeat rw [World.size_alloc] at this); (repeat rw [World.size_setCell] at this); omega
              have D19 : Below w18.heap.size w18 w19 := by first | exact hb19 | exact (box1 _ _).trans (hb19.mono (by (repeat rw [World.size_alloc]); (repeat rw [World.size_setCell]); all_goals omega))
              have f19_0 := cell_up D19 z18_0 f18_0
              have z19_0 := Nat.lt_of_lt_of_le z18_0 D19.size
              have f19_1 := cell_up D19 z18_1 f18_1
              have z19_1 := Nat.lt_of_lt_of_le z18_1 D19.size
              have f19_2 := cell_up D19 z18_2 f18_2
              have z19_2 := Nat.lt_of_lt_of_le z18_2 D19.size
              have f19_3 := cell_up D19 z18_3 f18_3
              have z19_3 := Nat.lt_of_lt_of_le z18_3 D19.size
              have f19_4 := cell_up D19 z18_4 f18_4
              have z19_4 := Nat.lt_of_lt_of_le z18_4 D19.size
              have f19_5 := cell_up D19 z18_5 f18_5
              have g19_5 := frozen_up D19 z18_5 g18_5
              have z19_5 := Nat.lt_of_lt_of_le z18_5 D19.size
              have f19_6 : w19.cell? ⟨w18.heap.size, 0, none⟩ = some (.slice A18 k18 c18) := low_cell hb19 (by (repeat rw [World.size_alloc]); (repeat rw [World.size_setCell]); all_goals omega) (by go_simp)
              have g19_6 : w19.frozen? ⟨w18.heap.size, 0, none⟩ = false := low_frozen hb19 (by (repeat rw [World.size_alloc]); (repeat rw [World.size_setCell]); all_goals omega) (by go_simp)
              have z19_6 : w18.heap.size < w19.heap.size := World.block_lt_of_cell? _ _ f19_6
              have C19 : Below w.heap.size w w19 := by first | exact C18.trans (hb19.mono C18.size) | exact (C18.alloc C18.size _).trans (hb19.mono (by (repeat rw [World.size_alloc]); (repeat rw [World.size_setCell]); all_goals omega)) | exact (set1 C18 (by omega) _ _).trans (hb19.mono (by (repeat rw [World.size_alloc]); (repeat rw [World.size_setCell]); all_goals omega))
              have H6 := Lib.hid (H6.out.up D19)
              clear f18_0 f18_1 f18_2 f18_3 f18_4 f18_5 g18_5 hb19 D19
              go_wp2_with fail
              refine (T.out.k20 _ _ _ _ (H6.out.up (by first | exact Below.refl _ _ | exact box1 _ _)) (by first | exact C19 | exact C19.alloc C19.size _ | exact set1 C19 (by omega) _ _)).mono ?_
              rintro e w20 ⟨A20, k20, c20, rfl, hb20, H20⟩
              have s20 : w19.heap.size ≤ w20.heap.size := by have := hb20.size; (repeat rw [World.size_alloc] at this); (repeat rw [World.size_setCell] at this); omega
              have D20 : Below w19.heap.size w19 w20 := by first | exact hb20 | exact (box1 _ _).trans (hb20.mono (by (repeat rw [World.size_alloc]); (repeat rw [World.size_setCell]); all_goals omega))
              have f20_0 := cell_up D20 z19_0 f19_0
              have z20_0 := Nat.lt_of_lt_of_le z19_0 D20.size
              have f20_1 := cell_up D20 z19_1 f19_1
              have z20_1 := Nat.lt_of_lt_of_le z19_1 D20.size
              have f20_2 := cell_up D20 z19_2 f19_2
              have z20_2 := Nat.lt_of_lt_of_le z19_2 D20.size
              have f20_3 := cell_up D20 z19_3 f19_3
              have z20_3 := Nat.lt_of_lt_of_le z19_3 D20.size
              have f20_4 := cell_up D20 z19_4 f19_4
              have z20_4 := Nat.lt_of_lt_of_le z19_4 D20.size
              have f20_5 := cell_up D20 z19_5 f19_5
              have g20_5 := frozen_up D20 z19_5 g19_5
              have z20_5 := Nat.lt_of_lt_of_le z19_5 D20.size
              have f20_6 := cell_up D20 z19_6 f19_6
              have g20_6 := frozen_up D20 z19_6 g19_6
              have z20_6 := Nat.lt_of_lt_of_le z19_6 D20.size
              have f20_7 : w20.cell? ⟨w19.heap.size, 0, none⟩ = some (.slice A19 k19 c19) := low_cell hb20 (by (repeat rw [World.size_alloc]); (repeat rw [World.size_setCell]); all_goals omega) (by go_simp)
              have z20_7 : w19.heap.size < w20.heap.size := World.block_lt_of_cell? _ _ f20_7
              have C20 : Below w.heap.size w w20 := by first | exact C19.trans (hb20.mono C19.size) | exact (C19.alloc C19.size _).trans (hb20.mono (by (repeat rw [World.size_alloc]); (repeat rw [World.size_setCell]); all_goals omega)) | exact (set1 C19 (by omega) _ _).trans (hb20.mono (by (repeat rw [World.size_alloc]); (repeat rw [World.size_setCell]); all_goals omega))
              have H19 := Lib.hid (H19.out.up D20)
              clear f19_0 f19_1 f19_2 f19_3 f19_4 f19_5 g19_5 f19_6 g19_6 hb20 D20
              go_wp2_with fail
              refine (T.out.k21 _ _ _ _ _ (H19.out.set (by (repeat rw [World.size_alloc]); (repeat rw [World.size_setCell]); all_goals omega) 0 _) (by first | exact C20 | exact C20.alloc C20.size _ | exact set1 C20 (by omega) _ _)).mono ?_
              rintro e w21 ⟨A21, k21, c21, rfl, hb21, H21⟩
              have s21 : w20.heap.size ≤ w21.heap.size := by have := hb21.size; (repeat rw [World.size_alloc] at this); (repeat rw [World.size_setCell] at this); omega
              have f21_0 : w21.cell? ⟨w.heap.size, 0, none⟩ = some (.slice A n c) := low_cell hb21 (by (repeat rw [World.size_alloc]); (repeat rw [World.size_setCell]); all_goals omega) (by go_simp)
              have z21_0 : w.heap.size < w21.heap.size := World.block_lt_of_cell? _ _ f21_0
              have f21_1 : w21.cell? ⟨w.heap.size + 1, 0, none⟩ = some (.slice B m d) := low_cell hb21 (by (repeat rw [World.size_alloc]); (repeat rw [World.size_setCell]); all_goals omega) (by go_simp)
              have z21_1 : w.heap.size + 1 < w21.heap.size := World.block_lt_of_cell? _ _ f21_1
              have f21_2 : w21.cell? ⟨w.heap.size + 1 + 1, 0, none⟩ = some (.slice C l f) := low_cell hb21 (by (repeat rw [World.size_alloc]); (repeat rw [World.size_setCell]); all_goals omega) (by go_simp)
              have z21_2 : w.heap.size + 1 + 1 < w21.heap.size := World.block_lt_of_cell? _ _ f21_2
              have f21_3 : w21.cell? ⟨w6.heap.size, 0, none⟩ = some (.slice A6 k6 c6) := low_cell hb21 (by (repeat rw [World.size_alloc]); (repeat rw [World.size_setCell]); all_goals omega) (by go_simp)
              have z21_3 : w6.heap.size < w21.heap.size := World.block_lt_of_cell? _ _ f21_3
              have f21_4 : w21.cell? ⟨w16.heap.size, 0, none⟩ = some (.slice A16 k16 c16) := low_cell hb21 (by (repeat rw [World.size_alloc]); (repeat rw [World.size_setCell]); all_goals omega) (by go_simp)
              have z21_4 : w16.heap.size < w21.heap.size := World.block_lt_of_cell? _ _ f21_4
              have f21_5 : w21.cell? ⟨w17.heap.size, 0, none⟩ = some (.slice A20 k20 c20) := low_cell hb21 (by (repeat rw [World.size_alloc]); (repeat rw [World.size_setCell]); all_goals omega) (by go_simp)
              have g21_5 : w21.frozen? ⟨w17.heap.size, 0, none⟩ = false := low_frozen hb21 (by (repeat rw [World.size_alloc]); (repeat rw [World.size_setCell]); all_goals omega) (by go_simp)
              have z21_5 : w17.heap.size < w21.heap.size := World.block_lt_of_cell? _ _ f21_5
              have f21_6 : w21.cell? ⟨w18.heap.size, 0, none⟩ = some (.slice A18 k18 c18) := low_cell hb21 (by (repeat rw [World.size_alloc]); (repeat rw [World.size_setCell]); all_goals omega) (by go_simp)
              have g21_6 : w21.frozen? ⟨w18.heap.size, 0, none⟩ = false := low_frozen hb21 (by (repeat rw [World.size_alloc]); (repeat rw [World.size_setCell]); all_goals omega) (by go_simp)
              have z21_6 : w18.heap.size < w21.heap.size := World.block_lt_of_cell? _ _ f21_6
              have f21_7 : w21.cell? ⟨w19.heap.size, 0, none⟩ = some (.slice A19 k19 c19) := low_cell hb21 (by (repeat rw [World.size_alloc]); (repeat rw [World.size_setCell]); all_goals omega) (by go_simp)
              have z21_7 : w19.heap.size < w21.heap.size := World.block_lt_of_cell? _ _ f21_7
              have C21 : Below w.heap.size w w21 := by first | exact C20.trans (hb21.mono C20.size) | exact (C20.alloc C20.size _).trans (hb21.mono (by (repeat rw [World.size_alloc]); (repeat rw [World.size_setCell]); all_goals omega)) | exact (set1 C20 (by omega) _ _).trans (hb21.mono (by (repeat rw [World.size_alloc]); (repeat rw [World.size_setCell]); all_goals omega))
              have H20 := Lib.hid ((H20.out.set (b := w17.heap.size) (by (repeat rw [World.size_alloc]); (repeat rw [World.size_setCell]); all_goals omega) 0 (.slice A20 k20 c20)).up hb21)
              clear f20_0 f20_1 f20_2 f20_3 f20_4 f20_5 g20_5 f20_6 g20_6 f20_7 hb21
              skip
              by_cases e8 : E8 = 0
              · subst e8
                obtain rfl := T.out.e10 rfl rfl
                go_wp2_with fail
                refine (T.out.s21 rfl rfl _ _ _ _ _ _ _ _ _ (H20.out.set (b := w18.heap.size) (by (repeat rw [World.size_alloc]); (repeat rw [World.size_setCell]); all_goals omega) 0 (.slice A21 k21 c21)) (H21.out.set (b := w18.heap.size) (by (repeat rw [World.size_alloc]); (repeat rw [World.size_setCell]); all_goals omega) 0 (.slice A21 k21 c21))).mono ?_
                rintro e w22 ⟨rfl, hb22⟩
                have s22 : w21.heap.size ≤ w22.heap.size := by have := hb22.size; (repeat rw [World.size_alloc] at this); (repeat rw [World.size_setCell] at this); omega
                have f22_0 : w22.cell? ⟨w.heap.size, 0, none⟩ = some (.slice A n c) := low_cell hb22 (by (repeat rw [World.size_alloc]); (repeat rw [World.size_setCell]); all_goals omega) (by go_simp)
                have z22_0 : w.heap.size < w22.heap.size := World.block_lt_of_cell? _ _ f22_0
                have f22_1 : w22.cell? ⟨w.heap.size + 1, 0, none⟩ = some (.slice B m d) := low_cell hb22 (by (repeat rw [World.size_alloc]); (repeat rw [World.size_setCell]); all_goals omega) (by go_simp)
                have z22_1 : w.heap.size + 1 < w22.heap.size := World.block_lt_of_cell? _ _ f22_1
                have f22_2 : w22.cell? ⟨w.heap.size + 1 + 1, 0, none⟩ = some (.slice C l f) := low_cell hb22 (by (repeat rw [World.size_alloc]); (repeat rw [World.size_setCell]); all_goals omega) (by go_simp)
                have z22_2 : w.heap.size + 1 + 1 < w22.heap.size := World.block_lt_of_cell? _ _ f22_2
                have f22_3 : w22.cell? ⟨w6.heap.size, 0, none⟩ = some (.slice A6 k6 c6) := low_cell hb22 (by (repeat rw [World.size_alloc]); (repeat rw [World.size_setCell]); all_goals omega) (by go_simp)
                have z22_3 : w6.heap.size < w22.heap.size := World.block_lt_of_cell? _ _ f22_3
                have f22_4 : w22.cell? ⟨w16.heap.size, 0, none⟩ = some (.slice A16 k16 c16) := low_cell hb22 (by (repeat rw [World.size_alloc]); (repeat rw [World.size_setCell]); all_goals omega) (by go_simp)
                have z22_4 : w16.heap.size < w22.heap.size := World.block_lt_of_cell? _ _ f22_4
                have f22_5 : w22.cell? ⟨w17.heap.size, 0, none⟩ = some (.slice A20 k20 c20) := low_cell hb22 (by (repeat rw [World.size_alloc]); (repeat rw [World.size_setCell]); all_goals omega) (by go_simp)
                have g22_5 : w22.frozen? ⟨w17.heap.size, 0, none⟩ = false := low_frozen hb22 (by (repeat rw [World.size_alloc]); (repeat rw [World.size_setCell]); all_goals omega) (by go_simp)
                have z22_5 : w17.heap.size < w22.heap.size := World.block_lt_of_cell? _ _ f22_5
                have f22_6 : w22.cell? ⟨w18.heap.size, 0, none⟩ = some (.slice A21 k21 c21) := low_cell hb22 (by (repeat rw [World.size_alloc]); (repeat rw [World.size_setCell]); all_goals omega) (by go_simp)
                have g22_6 : w22.frozen? ⟨w18.heap.size, 0, none⟩ = false := low_frozen hb22 (by (repeat rw [World.size_alloc]); (repeat rw [World.size_setCell]); all_goals omega) (by go_simp)
                have z22_6 : w18.heap.size < w22.heap.size := World.block_lt_of_cell? _ _ f22_6
                have f22_7 : w22.cell? ⟨w19.heap.size, 0, none⟩ = some (.slice A19 k19 c19) := low_cell hb22 (by (repeat rw [World.size_alloc]); (repeat rw [World.size_setCell]); all_goals omega) (by go_simp)
                have z22_7 : w19.heap.size < w22.heap.size := World.block_lt_of_cell? _ _ f22_7
                have C22 : Below w.heap.size w w22 := by first | exact C21.trans (hb22.mono C21.size) | exact (C21.alloc C21.size _).trans (hb22.mono (by (repeat rw [World.size_alloc]); (repeat rw [World.size_setCell]); all_goals omega)) | exact (set1 C21 (by omega) _ _).trans (hb22.mono (by (repeat rw [World.size_alloc]); (repeat rw [World.size_setCell]); all_goals omega))
                clear f21_0 f21_1 f21_2 f21_3 f21_4 f21_5 g21_5 f21_6 g21_6 f21_7 hb22
                go_wp2_with fail
                go_ret
                exact ⟨rfl, C22⟩
              · have d1 : (E8 == 0) = false := by simpa using e8
                have d2 : (E8 != 0) = true := by simpa using e8
                go_wp2_with fail
                go_ret
                exact ⟨rfl, (by first | exact C21 | exact C21.alloc C21.size _ | exact set1 C21 (by omega) _ _)⟩
        · go_wp2_with fail
          refine (T.out.k16 _ (by first | exact C11 | exact C11.alloc C11.size _ | exact set1 C11 (by omega) _ _)).mono ?_
          rintro e w12 ⟨A16, k16, c16, rfl, hb12, H16⟩
          have s12 : w11.heap.size ≤ w12.heap.size := by have := hb12.size; (repeat rw [World.size_alloc] at this); (repeat rw [World.size_setCell] at this); omega
          have D12 : Below w11.heap.size w11 w12 := by first | exact hb12 | exact (box1 _ _).trans (hb12.mono (by (repeat rw [World.size_alloc]); (repeat rw [World.size_setCell]); all_goals omega))
          have f12_0 := cell_up D12 z11_0 f11_0
          have z12_0 := Nat.lt_of_lt_of_le z11_0 D12.size
          have f12_1 := cell_up D12 z11_1 f11_1
          have z12_1 := Nat.lt_of_lt_of_le z11_1 D12.size
          have f12_2 := cell_up D12 z11_2 f11_2
          have z12_2 := Nat.lt_of_lt_of_le z11_2 D12.size
          have f12_3 := cell_up D12 z11_3 f11_3
          have z12_3 := Nat.lt_of_lt_of_le z11_3 D12.size
          have f12_4 := cell_up D12 z11_4 f11_4
          have z12_4 := Nat.lt_of_lt_of_le z11_4 D12.size
          have C12 : Below w.heap.size w w12 := by first | exact C11.trans (hb12.mono C11.size) | exact (C11.alloc C11.size _).trans (hb12.mono (by (repeat rw [World.size_alloc]); (repeat rw [World.size_setCell]); all_goals omega)) | exact (set1 C11 (by omega) _ _).trans (hb12.mono (by (repeat rw [World.size_alloc]); (repeat rw [World.size_setCell]); all_goals omega))
          have H5 := Lib.hid (H5.out.up D12)
          have H6 := Lib.hid (H6.out.up D12)
          clear f11_0 f11_1 f11_2 f11_3 f11_4 hb12 D12
          go_wp2_with fail
          refine (T.out.k17 _ _ _ _ (H5.out.up (by first | exact Below.refl _ _ | exact box1 _ _)) (by first | exact C12 | exact C12.alloc C12.size _ | exact set1 C12 (by omega) _ _)).mono ?_
          rintro e w13 ⟨A17, k17, c17, rfl, hb13, H17⟩
          have s13 : w12.heap.size ≤ w13.heap.size := by have := hb13.size; (repeat rw [World.size_alloc] at this); (repeat rw [World.size_setCell] at this); omega
          have D13 : Below w12.heap.size w12 w13 := by first | exact hb13 | exact (box1 _ _).trans (hb13.mono (by (repeat rw [World.size_alloc]); (repeat rw [World.size_setCell]); all_goals omega))
          have f13_0 := cell_up D13 z12_0 f12_0
          have z13_0 := Nat.lt_of_lt_of_le z12_0 D13.size
          have f13_1 := cell_up D13 z12_1 f12_1
          have z13_1 := Nat.lt_of_lt_of_le z12_1 D13.size
          have f13_2 := cell_up D13 z12_2 f12_2
          have z13_2 := Nat.lt_of_lt_of_le z12_2 D13.size
          have f13_3 := cell_up D13 z12_3 f12_3
          have z13_3 := Nat.lt_of_lt_of_le z12_3 D13.size
          have f13_4 := cell_up D13 z12_4 f12_4
          have z13_4 := Nat.lt_of_lt_of_le z12_4 D13.size
          have f13_5 : w13.cell? ⟨w12.heap.size, 0, none⟩ = some (.slice A16 k16 c16) := low_cell hb13 (by (repeat rw [World.size_alloc]); (repeat rw [World.size_setCell]); all_goals omega) (by go_simp)
          have z13_5 : w12.heap.size < w13.heap.size := World.block_lt_of_cell? _ _ f13_5
          have C13 : Below w.heap.size w w13 := by first | exact C12.trans (hb13.mono C12.size) | exact (C12.alloc C12.size _).trans (hb13.mono (by (repeat rw [World.size_alloc]); (repeat rw [World.size_setCell]); all_goals omega)) | exact (set1 C12 (by omega) _ _).trans (hb13.mono (by (repeat rw [World.size_alloc]); (repeat rw [World.size_setCell]); all_goals omega))
          have H6 := Lib.hid (H6.out.up D13)
          have H16 := Lib.hid (H16.out.up D13)
          clear f12_0 f12_1 f12_2 f12_3 f12_4 hb13 D13
          go_wp2_with fail
          refine (T.out.k18 _ _ _ _ (H16.out.up (by first | exact Below.refl _ _ | exact box1 _ _)) (by first | exact C13 | exact C13.alloc C13.size _ | exact set1 C13 (by omega) _ _)).mono ?_
          rintro e w14 ⟨A18, k18, c18, rfl, hb14, H18⟩
          have s14 : w13.heap.size ≤ w14.heap.size := by have := hb14.size; (repeat rw [World.size_alloc] at this); (repeat rw [World.size_setCell] at this); omega
          have D14 : Below w13.heap.size w13 w14 := by first | exact hb14 | exact (box1 _ _).trans (hb14.mono (by (repeat rw [World.size_alloc]); (repeat rw [World.size_setCell]); all_goals omega))
          have f14_0 := cell_up D14 z13_0 f13_0
          have z14_0 := Nat.lt_of_lt_of_le z13_0 D14.size
          have f14_1 := cell_up D14 z13_1 f13_1
          have z14_1 := Nat.lt_of_lt_of_le z13_1 D14.size
          have f14_2 := cell_up D14 z13_2 f13_2
          have z14_2 := Nat.lt_of_lt_of_le z13_2 D14.size
          have f14_3 := cell_up D14 z13_4 f13_4
          have z14_3 := Nat.lt_of_lt_of_le z13_4 D14.size
          have f14_4 := cell_up D14 z13_5 f13_5
          have z14_4 := Nat.lt_of_lt_of_le z13_5 D14.size
          have f14_5 : w14.cell? ⟨w13.heap.size, 0, none⟩ = some (.slice A17 k17 c17) := low_cell hb14 (by (repeat rw [World.size_alloc]); (repeat rw [World.size_setCell]); all_goals omega) (by go_simp)
          have g14_5 : w14.frozen? ⟨w13.heap.size, 0, none⟩ = false := low_frozen hb14 (by (repeat rw [World.size_alloc]); (repeat rw [World.size_setCell]); all_goals omega) (by go_simp)
          have z14_5 : w13.heap.size < w14.heap.size := World.block_lt_of_cell? _ _ f14_5
          have C14 : Below w.heap.size w w14 := by first | exact C13.trans (hb14.mono C13.size) | exact (C13.alloc C13.size _).trans (hb14.mono (by (repeat rw [World.size_alloc]); (repeat rw [World.size_setCell]); all_goals omega)) | exact (set1 C13 (by omega) _ _).trans (hb14.mono (by (repeat rw [World.size_alloc]); (repeat rw [World.size_setCell]); all_goals omega))
          have H6 := Lib.hid (H6.out.up D14)
          have H17 := Lib.hid (H17.out.up D14)
          clear f13_0 f13_1 f13_2 f13_3 f13_4 f13_5 hb14 D14
          skip
          by_cases e5 : E5 = 0
          · subst e5
            by_cases e6 : E6 = 0
            · subst e6
              obtain rfl := T.out.e7 rfl rfl rfl
              go_wp2_with fail
              refine (T.out.s18 rfl rfl rfl _ _ _ _ _ _ _ (H17.out.up (by first | exact Below.refl _ _ | exact box1 _ _)) (H18.out.up (by first | exact Below.refl _ _ | exact box1 _ _))).mono ?_
              rintro e w15 ⟨rfl, hb15⟩
              have s15 : w14.heap.size ≤ w15.heap.size := by have := hb15.size; (repeat rw [World.size_alloc] at this); (repeat rw [World.size_setCell] at this); omega
              have D15 : Below w14.heap.size w14 w15 := by first | exact hb15 | exact (box1 _ _).trans (hb15.mono (by (repeat rw [World.size_alloc]); (repeat rw [World.size_setCell]); all_goals omega))
              have f15_0 := cell_up D15 z14_0 f14_0
              have z15_0 := Nat.lt_of_lt_of_le z14_0 D15.size
              have f15_1 := cell_up D15 z14_1 f14_1
              have z15_1 := Nat.lt_of_lt_of_le z14_1 D15.size
              have f15_2 := cell_up D15 z14_2 f14_2
              have z15_2 := Nat.lt_of_lt_of_le z14_2 D15.size
              have f15_3 := cell_up D15 z14_3 f14_3
              have z15_3 := Nat.lt_of_lt_of_le z14_3 D15.size
              have f15_4 := cell_up D15 z14_4 f14_4
              have z15_4 := Nat.lt_of_lt_of_le z14_4 D15.size
              have f15_5 := cell_up D15 z14_5 f14_5
              have g15_5 := frozen_up D15 z14_5 g14_5
              have z15_5 := Nat.lt_of_lt_of_le z14_5 D15.size
              have f15_6 : w15.cell? ⟨w14.heap.size, 0, none⟩ = some (.slice A18 k18 c18) := low_cell hb15 (by (repeat rw [World.size_alloc]); (repeat rw [World.size_setCell]); all_goals omega) (by go_simp)
              have g15_6 : w15.frozen? ⟨w14.heap.size, 0, none⟩ = false := low_frozen hb15 (by (repeat rw [World.size_alloc]); (repeat rw [World.size_setCell]); all_goals omega) (by go_simp)
              have z15_6 : w14.heap.size < w15.heap.size := World.block_lt_of_cell? _ _ f15_6
              have C15 : Below w.heap.size w w15 := by first | exact C14.trans (hb15.mono C14.size) | exact (C14.alloc C14.size _).trans (hb15.mono (by (repeat rw [World.size_alloc]); (repeat rw [World.size_setCell]); all_goals omega)) | exact (set1 C14 (by omega) _ _).trans (hb15.mono (by (repeat rw [World.size_alloc]); (repeat rw [World.size_setCell]); all_goals omega))
              have H6 := Lib.hid (H6.out.up D15)
              clear f14_0 f14_1 f14_2 f14_3 f14_4 f14_5 g14_5 hb15 D15
              go_wp2_with fail
              refine (T.out.k19 _ (by first | exact C15 | exact C15.alloc C15.size _ | exact set1 C15 (by omega) _ _)).mono ?_
              rintro e w16 ⟨A19, k19, c19, rfl, hb16, H19⟩
              have s16 : w15.heap.size ≤ w16.heap.size := by have := hb16.size; (repeat rw [World.size_alloc] at this); (repeat rw [World.size_setCell] at this); omega
              have D16 : Below w15.heap.size w15 w16 := by first | exact hb16 | exact (box1 _ _).trans (hb16.mono (by (repeat rw [World.size_alloc]); (repeat rw [World.size_setCell]); all_goals omega))
              have f16_0 := cell_up D16 z15_0 f15_0
              have z16_0 := Nat.lt_of_lt_of_le z15_0 D16.size
              have f16_1 := cell_up D16 z15_1 f15_1
              have z16_1 := Nat.lt_of_lt_of_le z15_1 D16.size
              have f16_2 := cell_up D16 z15_2 f15_2
              have z16_2 := Nat.lt_of_lt_of_le z15_2 D16.size
              have f16_3 := cell_up D16 z15_3 f15_3
              have z16_3 := Nat.lt_of_lt_of_le z15_3 D16.size
              have f16_4 := cell_up D16 z15_4 f15_4
              have z16_4 := Nat.lt_of_lt_of_le z15_4 D16.size
              have f16_5 := cell_up D16 z15_5 f15_5
              have g16_5 := frozen_up D16 z15_5 g15_5
              have z16_5 := Nat.lt_of_lt_of_le z15_5 D16.size
              have f16_6 := cell_up D16 z15_6 f15_6
              have g16_6 := frozen_up D16 z15_6 g15_6
              have z16_6 := Nat.lt_of_lt_of_le z15_6 D16.size
              have C16 : Below w.heap.size w w16 := by first | exact C15.trans (hb16.mono C15.size) | exact (C15.alloc C15.size _).trans (hb16.mono (by (repeat rw [World.size_alloc]); (repeat rw [World.size_setCell]); all_goals omega)) | exact (set1 C15 (by omega) _ _).trans (hb16.mono (by (repeat rw [World.size_alloc]); (repeat rw [World.size_setCell]); all_goals omega))
              have H6 := Lib.hid (H6.out.up D16)
              clear f15_0 f15_1 f15_2 f15_3 f15_4 f15_5 g15_5 f15_6 g15_6 hb16 D16
              go_wp2_with fail
              refine (T.out.k20 _ _ _ _ (H6.out.up (by first | exact Below.refl _ _ | exact box1 _ _)) (by first | exact C16 | exact C16.alloc C16.size _ | exact set1 C16 (by omega) _ _)).mono ?_
              rintro e w17 ⟨A20, k20, c20, rfl, hb17, H20⟩
              have s17 : w16.heap.size ≤ w17.heap.size := by have := hb17.size; (repeat rw [World.size_alloc] at this); (repeat rw [World.size_setCell] at this); omega
              have D17 : Below w16.heap.size w16 w17 := by first | exact hb17 | exact (box1 _ _).trans (hb17.mono (by (repeat rw [World.size_alloc]); (repeat rw [World.size_setCell]); all_goals omega))
              have f17_0 := cell_up D17 z16_0 f16_0
              have z17_0 := Nat.lt_of_lt_of_le z16_0 D17.size
              have f17_1 := cell_up D17 z16_1 f16_1
              have z17_1 := Nat.lt_of_lt_of_le z16_1 D17.size
              have f17_2 := cell_up D17 z16_2 f16_2
              have z17_2 := Nat.lt_of_lt_of_le z16_2 D17.size
              have f17_3 := cell_up D17 z16_3 f16_3
              have z17_3 := Nat.lt_of_lt_of_le z16_3 D17.size
              have f17_4 := cell_up D17 z16_4 f16_4
              have z17_4 := Nat.lt_of_lt_of_le z16_4 D17.size
              have f17_5 := cell_up D17 z16_5 f16_5
              have g17_5 := frozen_up D17 z16_5 g16_5
              have z17_5 := Nat.lt_of_lt_of_le z16_5 D17.size
              have f17_6 := cell_up D17 z16_6 f16_6
              have g17_6 := frozen_up D17 z16_6 g16_6
              have z17_6 := Nat.lt_of_lt_of_le z16_6 D17.size
              have f17_7 : w17.cell? ⟨w16.heap.size, 0, none⟩ = some (.slice A19 k19 c19) := low_cell hb17 (by (repeat rw [World.size_alloc]); (repeat rw [World.size_setCell]); all_goals omega) (by go_simp)
              have z17_7 : w16.heap.size < w17.heap.size := World.block_lt_of_cell? _ _ f17_7
              have C17 : Below w.heap.size w w17 := by first | exact C16.trans (hb17.mono C16.size) | exact (C16.alloc C16.size _).trans (hb17.mono (by (repeat rw [World.size_alloc]); (repeat rw [World.size_setCell]); all_goals omega)) | exact (set1 C16 (by omega) _ _).trans (hb17.mono (by (repeat rw [World.size_alloc]); (repeat rw [World.size_setCell]); all_goals omega))
              have H19 := Lib.hid (H19.out.up D17)
              clear f16_0 f16_1 f16_2 f16_3 f16_4 f16_5 g16_5 f16_6 g16_6 hb17 D17
              go_wp2_with fail
              refine (T.out.k21 _ _ _ _ _ (H19.out.set (by (repeat rw [World.size_alloc]); (repeat rw [World.size_setCell]); all_goals omega) 0 _) (by first | exact C17 | exact C17.alloc C17.size _ | exact set1 C17 (by omega) _ _)).mono ?_
              rintro e w18 ⟨A21, k21, c21, rfl, hb18, H21⟩
              have s18 : w17.heap.size ≤ w18.heap.size := by have := hb18.size; (repeat rw [World.size_alloc] at this); (repeat rw [World.size_setCell] at this); omega
              have f18_0 : w18.cell? ⟨w.heap.size, 0, none⟩ = some (.slice A n c) := low_cell hb18 (by (repeat rw [World.size_alloc]); (repeat rw [World.size_setCell]); all_goals omega) (by go_simp)
              have z18_0 : w.heap.size < w18.heap.size := World.block_lt_of_cell? _ _ f18_0
              have f18_1 : w18.cell? ⟨w.heap.size + 1, 0, none⟩ = some (.slice B m d) := low_cell hb18 (by (repeat rw [World.size_alloc]); (repeat rw [World.size_setCell]); all_goals omega) (by go_simp)
              have z18_1 : w.heap.size + 1 < w18.heap.size := World.block_lt_of_cell? _ _ f18_1
              have f18_2 : w18.cell? ⟨w.heap.size + 1 + 1, 0, none⟩ = some (.slice C l f) := low_cell hb18 (by (repeat rw [World.size_alloc]); (repeat rw [World.size_setCell]); all_goals omega) (by go_simp)
              have z18_2 : w.heap.size + 1 + 1 < w18.heap.size := World.block_lt_of_cell? _ _ f18_2
              have f18_3 : w18.cell? ⟨w6.heap.size, 0, none⟩ = some (.slice A6 k6 c6) := low_cell hb18 (by (repeat rw [World.size_alloc]); (repeat rw [World.size_setCell]); all_goals omega) (by go_simp)
              have z18_3 : w6.heap.size < w18.heap.size := World.block_lt_of_cell? _ _ f18_3
              have f18_4 : w18.cell? ⟨w12.heap.size, 0, none⟩ = some (.slice A16 k16 c16) := low_cell hb18 (by (repeat rw [World.size_alloc]); (repeat rw [World.size_setCell]); all_goals omega) (by go_simp)
              have z18_4 : w12.heap.size < w18.heap.size := World.block_lt_of_cell? _ _ f18_4
              have f18_5 : w18.cell? ⟨w13.heap.size, 0, none⟩ = some (.slice A20 k20 c20) := low_cell hb18 (by (repeat rw [World.size_alloc]); (repeat rw [World.size_setCell]); all_goals omega) (by go_simp)
              have g18_5 : w18.frozen? ⟨w13.heap.size, 0, none⟩ = false := low_frozen hb18 (by (repeat rw [World.size_alloc]); (repeat rw [World.size_setCell]); all_goals omega) (by go_simp)
              have z18_5 : w13.heap.size < w18.heap.size := World.block_lt_of_cell? _ _ f18_5
              have f18_6 : w18.cell? ⟨w14.heap.size, 0, none⟩ = some (.slice A18 k18 c18) := low_cell hb18 (by (repeat rw [World.size_alloc]); (repeat rw [World.size_setCell]); all_goals omega) (by go_simp)
              have g18_6 : w18.frozen? ⟨w14.heap.size, 0, none⟩ = false := low_frozen hb18 (by (repeat rw [World.size_alloc]); (repeat rw [World.size_setCell]); all_goals omega) (by go_simp)
              have z18_6 : w14.heap.size < w18.heap.size := World.block_lt_of_cell? _ _ f18_6
              have f18_7 : w18.cell? ⟨w16.heap.size, 0, none⟩ = some (.slice A19 k19 c19) := low_cell hb18 (by (repeat rw [World.size_alloc]); (repeat rw [World.size_setCell]); all_goals omega) (by go_simp)
              have z18_7 : w16.heap.size < w18.heap.size := World.block_lt_of_cell? _ _ f18_7
              have C18 : Below w.heap.size w w18 := by first | exact C17.trans (hb18.mono C17.size) | exact (C17.alloc C17.size _).trans (hb18.mono (by (repeat rw [World.size_alloc]); (repeat rw [World.size_setCell]); all_goals omega)) | exact (set1 C17 (by omega) _ _).trans (hb18.mono (by (repeat rw [World.size_alloc]); (repeat rw [World.size_setCell]); all_goals omega))
              have H20 := Lib.hid ((H20.out.set (b := w13.heap.size) (by (repeat rw [World.size_alloc]); (repeat rw [World.size_setCell]); all_goals omega) 0 (.slice A20 k20 c20)).up hb18)
              clear f17_0 f17_1 f17_2 f17_3 f17_4 f17_5 g17_5 f17_6 g17_6 f17_7 hb18
              skip
              go_wp2_with fail
              go_ret
              exact ⟨rfl, (by first | exact C18 | exact C18.alloc C18.size _ | exact set1 C18 (by omega) _ _)⟩
            · have d1 : (E6 == 0) = false := by simpa using e6
              have d2 : (E6 != 0) = true := by simpa using e6
              go_wp2_with fail
              refine (T.out.k19 _ (by first | exact C14 | exact C14.alloc C14.size _ | exact set1 C14 (by omega) _ _)).mono ?_
              rintro e w15 ⟨A19, k19, c19, rfl, hb15, H19⟩
              have s15 : w14.heap.size ≤ w15.heap.size := by have := hb15.size; (repeat rw [World.size_alloc] at this); (repeat rw [World.size_setCell] at this); omega
              have D15 : Below w14.heap.size w14 w15 := by first | exact hb15 | exact (box1 _ _).trans (hb15.mono (by (repeat rw [World.size_alloc]); (repeat rw [World.size_setCell]); all_goals omega))
              have f15_0 := cell_up D15 z14_0 f14_0
              have z15_0 := Nat.lt_of_lt_of_le z14_0 D15.size
              have f15_1 := cell_up D15 z14_1 f14_1
              have z15_1 := Nat.lt_of_lt_of_le z14_1 D15.size
              have f15_2 := cell_up D15 z14_2 f14_2
              have z15_2 := Nat.lt_of_lt_of_le z14_2 D15.size
              have f15_3 := cell_up D15 z14_3 f14_3
              have z15_3 := Nat.lt_of_lt_of_le z14_3 D15.size
              have f15_4 := cell_up D15 z14_4 f14_4
              have z15_4 := Nat.lt_of_lt_of_le z14_4 D15.size
              have f15_5 := cell_up D15 z14_5 f14_5
              have g15_5 := frozen_up D15 z14_5 g14_5
              have z15_5 := Nat.lt_of_lt_of_le z14_5 D15.size
              have f15_6 : w15.cell? ⟨w14.heap.size, 0, none⟩ = some (.slice A18 k18 c18) := low_cell hb15 (by (repeat rw [World.size_alloc]); (repeat rw [World.size_setCell]); all_goals omega) (by go_simp)
              have g15_6 : w15.frozen? ⟨w14.heap.size, 0, none⟩ = false := low_frozen hb15 (by (repeat rw [World.size_alloc]); (repeat rw [World.size_setCell]); all_goals omega) (by go_simp)
              have z15_6 : w14.heap.size < w15.heap.size := World.block_lt_of_cell? _ _ f15_6
              have C15 : Below w.heap.size w w15 := by first | exact C14.trans (hb15.mono C14.size) | exact (C14.alloc C14.size _).trans (hb15.mono (by (repeat rw [World.size_alloc]); (repeat rw [World.size_setCell]); all_goals omega)) | exact (set1 C14 (by omega) _ _).trans (hb15.mono (by (repeat rw [World.size_alloc]); (repeat rw [World.size_setCell]); all_goals omega))
              have H6 := Lib.hid (H6.out.up D15)
              clear f14_0 f14_1 f14_2 f14_3 f14_4 f14_5 g14_5 hb15 D15
              go_wp2_with fail
              refine (T.out.k20 _ _ _ _ (H6.out.up (by first | exact Below.refl _ _ | exact box1 _ _)) (by first | exact C15 | exact C15.alloc C15.size _ | exact set1 C15 (by omega) _ _)).mono ?_
              rintro e w16 ⟨A20, k20, c20, rfl, hb16, H20⟩
              have s16 : w15.heap.size ≤ w16.heap.size := by have := hb16.size; (repeat rw [World.size_alloc] at this); (repeat rw [World.size_setCell] at this); omega
              have D16 : Below w15.heap.size w15 w16 := by first | exact hb16 | exact (box1 _ _).trans (hb16.mono (by (repeat rw [World.size_alloc]); (repeat rw [World.size_setCell]); all_goals omega))
              have f16_0 := cell_up D16 z15_0 f15_0
              have z16_0 := Nat.lt_of_lt_of_le z15_0 D16.size
              have f16_1 := cell_up D16 z15_1 f15_1
              have z16_1 := Nat.lt_of_lt_of_le z15_1 D16.size
              have f16_2 := cell_up D16 z15_2 f15_2
              have z16_2 := Nat.lt_of_lt_of_le z15_2 D16.size
              have f16_3 := cell_up D16 z15_3 f15_3
              have z16_3 := Nat.lt_of_lt_of_le z15_3 D16.size
              have f16_4 := cell_up D16 z15_4 f15_4
              have z16_4 := Nat.lt_of_lt_of_le z15_4 D16.size
              have f16_5 := cell_up D16 z15_5 f15_5
              have g16_5 := frozen_up D16 z15_5 g15_5
              have z16_5 := Nat.lt_of_lt_of_le z15_5 D16.size
              have f16_6 := cell_up D16 z15_6 f15_6
              have g16_6 := frozen_up D16 z15_6 g15_6
              have z16_6 := Nat.lt_of_lt_of_le z15_6 D16.size
              have f16_7 : w16.cell? ⟨w15.heap.size, 0, none⟩ = some (.slice A19 k19 c19) := low_cell hb16 (by (repeat rw [World.size_alloc]); (repeat rw [World.size_setCell]); all_goals omega) (by go_simp)
              have z16_7 : w15.heap.size < w16.heap.size := World.block_lt_of_cell? _ _ f16_7
              have C16 : Below w.heap.size w w16 := by first | exact C15.trans (hb16.mono C15.size) | exact (C15.alloc C15.size _).trans (hb16.mono (by (repeat rw [World.size_alloc]); (repeat rw [World.size_setCell]); all_goals omega)) | exact (set1 C15 (by omega) _ _).trans (hb16.mono (by (repeat rw [World.size_alloc]); (repeat rw [World.size_setCell]); all_goals omega))
              have H19 := Lib.hid (H19.out.up D16)
              clear f15_0 f15_1 f15_2 f15_3 f15_4 f15_5 g15_5 f15_6 g15_6 hb16 D16
              go_wp2_with fail
              refine (T.out.k21 _ _ _ _ _ (H19.out.set (by (repeat rw [World.size_alloc]); (repeat rw [World.size_setCell]); all_goals omega) 0 _) (by first | exact C16 | exact C16.alloc C16.size _ | exact set1 C16 (by omega) _ _)).mono ?_
              rintro e w17 ⟨A21, k21, c21, rfl, hb17, H21⟩
              have s17 : w16.heap.size ≤ w17.heap.size := by have := hb17.size; (repeat rw [World.size_alloc] at this); (repeat rw [World.size_setCell] at this); omega
              have f17_0 : w17.cell? ⟨w.heap.size, 0, none⟩ = some (.slice A n c) := low_cell hb17 (by (repeat rw [World.size_alloc]); (repeat rw [World.size_setCell]); all_goals omega) (by go_simp)
              have z17_0 : w.heap.size < w17.heap.size := World.block_lt_of_cell? _ _ f17_0
              have f17_1 : w17.cell? ⟨w.heap.size + 1, 0, none⟩ = some (.slice B m d) := low_cell hb17 (by (repeat rw [World.size_alloc]); (repeat rw [World.size_setCell]); all_goals omega) (by go_simp)
              have z17_1 : w.heap.size + 1 < w17.heap.size := World.block_lt_of_cell? _ _ f17_1
              have f17_2 : w17.cell? ⟨w.heap.size + 1 + 1, 0, none⟩ = some (.slice C l f) := low_cell hb17 (by (repeat rw [World.size_alloc]); (repeat rw [World.size_setCell]); all_goals omega) (by go_simp)
              have z17_2 : w.heap.size + 1 + 1 < w17.heap.size := World.block_lt_of_cell? _ _ f17_2
              have f17_3 : w17.cell? ⟨w6.heap.size, 0, none⟩ = some (.slice A6 k6 c6) := low_cell hb17 (by (repeat rw [World.size_alloc]); (repeat rw [World.size_setCell]); all_goals omega) (by go_simp)
              have z17_3 : w6.heap.size < w17.heap.size := World.block_lt_of_cell? _ _ f17_3
              have f17_4 : w17.cell? ⟨w12.heap.size, 0, none⟩ = some (.slice A16 k16 c16) := low_cell hb17 (by (repeat rw [World.size_alloc]); (repeat rw [World.size_setCell]); all_goals omega) (by go_simp)
              have z17_4 : w12.heap.size < w17.heap.size := World.block_lt_of_cell? _ _ f17_4
              have f17_5 : w17.cell? ⟨w13.heap.size, 0, none⟩ = some (.slice A20 k20 c20) := low_cell hb17 (by (repeat rw [World.size_alloc]); (repeat rw [World.size_setCell]); all_goals omega) (by go_simp)
              have g17_5 : w17.frozen? ⟨w13.heap.size, 0, none⟩ = false := low_frozen hb17 (by (repeat rw [World.size_alloc]); (repeat rw [World.size_setCell]); all_goals omega) (by go_simp)
              have z17_5 : w13.heap.size < w17.heap.size := World.block_lt_of_cell? _ _ f17_5
              have f17_6 : w17.cell? ⟨w14.heap.size, 0, none⟩ = some (.slice A18 k18 c18) := low_cell hb17 (by (repeat rw [World.size_alloc]); (repeat rw [World.size_setCell]); all_goals omega) (by go_simp)
              have g17_6 : w17.frozen? ⟨w14.heap.size, 0, none⟩ = false := low_frozen hb17 (by (repeat rw [World.size_alloc]); (repeat rw [World.size_setCell]); all_goals omega) (by go_simp)
              have z17_6 : w14.heap.size < w17.heap.size := World.block_lt_of_cell? _ _ f17_6
              have f17_7 : w17.cell? ⟨w15.heap.size, 0, none⟩ = some (.slice A19 k19 c19) := low_cell hb17 (by (repeat rw [World.size_alloc]); (repeat rw [World.size_setCell]); all_goals omega) (by go_simp)
              have z17_7 : w15.heap.size < w17.heap.size := World.block_lt_of_cell? _ _ f17_7
              have C17 : Below w.heap.size w w17 := by first | exact C16.trans (hb17.mono C16.size) | exact (C16.alloc C16.size _).trans (hb17.mono (by (repeat rw [World.size_alloc]); (repeat rw [World.size_setCell]); all_goals omega)) | exact (set1 C16 (by omega) _ _).trans (hb17.mono (by (repeat rw [World.size_alloc]); (repeat rw [World.size_setCell]); all_goals omega))
              have H20 := Lib.hid ((H20.out.set (b := w13.heap.size) (by (repeat rw [World.size_alloc]); (repeat rw [World.size_setCell]); all_goals omega) 0 (.slice A20 k20 c20)).up hb17)
              clear f16_0 f16_1 f16_2 f16_3 f16_4 f16_5 g16_5 f16_6 g16_6 f16_7 hb17
              skip
              go_wp2_with fail
              go_ret
              exact ⟨rfl, (by first | exact C17 | exact C17.alloc C17.size _ | exact set1 C17 (by omega) _ _)⟩
          · have d1 : (E5 == 0) = false := by simpa using e5
            have d2 : (E5 != 0) = true := by simpa using e5
            go_wp2_with fail
            refine (T.out.k19 _ (by first | exact C14 | exact C14.alloc C14.size _ | exact set1 C14 (by omega) _ _)).mono ?_
            rintro e w15 ⟨A19, k19, c19, rfl, hb15, H19⟩
            have s15 : w14.heap.size ≤ w15.heap.size := by have := hb15.size; (repeat rw [World.size_alloc] at this); (repeat rw [World.size_setCell] at this); omega
            have D15 : Below w14.heap.size w14 w15 := by first | exact hb15 | exact (box1 _ _).trans (hb15.mono (by (repeat rw [World.size_alloc]); (repeat rw [World.size_setCell]); all_goals omega))
            have f15_0 := cell_up D15 z14_0 f14_0
            have z15_0 := Nat.lt_of_lt_of_le z14_0 D15.size
            have f15_1 := cell_up D15 z14_1 f14_1
            have z15_1 := Nat.lt_of_lt_of_le z14_1 D15.size
            have f15_2 := cell_up D15 z14_2 f14_2
            have z15_2 := Nat.lt_of_lt_of_le z14_2 D15.size
            have f15_3 := cell_up D15 z14_3 f14_3
            have z15_3 := Nat.lt_of_lt_of_le z14_3 D15.size
            have f15_4 := cell_up D15 z14_4 f14_4
            have z15_4 := Nat.lt_of_lt_of_le z14_4 D15.size
            have f15_5 := cell_up D15 z14_5 f14_5
            have g15_5 := frozen_up D15 z14_5 g14_5
            have z15_5 := Nat.lt_of_lt_of_le z14_5 D15.size
            have f15_6 : w15.cell? ⟨w14.heap.size, 0, none⟩ = some (.slice A18 k18 c18) := low_cell hb15 (by (repeat rw [World.size_alloc]); (repeat rw [World.size_setCell]); all_goals omega) (by go_simp)
            have g15_6 : w15.frozen? ⟨w14.heap.size, 0, none⟩ = false := low_frozen hb15 (by (repeat rw [World.size_alloc]); (repeat rw [World.size_setCell]); all_goals omega) (by go_simp)
            have z15_6 : w14.heap.size < w15.heap.size := World.block_lt_of_cell? _ _ f15_6
            have C15 : Below w.heap.size w w15 := by first | exact C14.trans (hb15.mono C14.size) | exact (C14.alloc C14.size _).trans (hb15.mono (by (repeat rw [World.size_alloc]); (repeat rw [World.size_setCell]); all_goals omega)) | exact (set1 C14 (by omega) _ _).trans (hb15.mono (by (repeat rw [World.size_alloc]); (repeat rw [World.size_setCell]); all_goals omega))
            have H6 := Lib.hid (H6.out.up D15)
            clear f14_0 f14_1 f14_2 f14_3 f14_4 f14_5 g14_5 hb15 D15
            go_wp2_with fail
            refine (T.out.k20 _ _ _ _ (H6.out.up (by first | exact Below.refl _ _ | exact box1 _ _)) (by first | exact C15 | exact C15.alloc C15.size _ | exact set1 C15 (by omega) _ _)).mono ?_
            rintro e w16 ⟨A20, k20, c20, rfl, hb16, H20⟩
            have s16 : w15.heap.size ≤ w16.heap.size := by have := hb16.size; (repeat rw [World.size_alloc] at this); (repeat rw [World.size_setCell] at this); omega
            have D16 : Below w15.heap.size w15 w16 := by first | exact hb16 | exact (box1 _ _).trans (hb16.mono (by (repeat rw [World.size_alloc]); (repeat rw [World.size_setCell]); all_goals omega))
            have f16_0 := cell_up D16 z15_0 f15_0
            have z16_0 := Nat.lt_of_lt_of_le z15_0 D16.size
            have f16_1 := cell_up D16 z15_1 f15_1
            have z16_1 := Nat.lt_of_lt_of_le z15_1 D16.size
            have f16_2 := cell_up D16 z15_2 f15_2
            have z16_2 := Nat.lt_of_lt_of_le z15_2 D16.size
            have f16_3 := cell_up D16 z15_3 f15_3
            have z16_3 := Nat.lt_of_lt_of_le z15_3 D16.size
            have f16_4 := cell_up D16 z15_4 f15_4
            have z16_4 := Nat.lt_of_lt_of_le z15_4 D16.size
            have f16_5 := cell_up D16 z15_5 f15_5
            have g16_5 := frozen_up D16 z15_5 g15_5
            have z16_5 := Nat.lt_of_lt_of_le z15_5 D16.size
            have f16_6 := cell_up D16 z15_6 f15_6
            have g16_6 := frozen_up D16 z15_6 g15_6
            have z16_6 := Nat.lt_of_lt_of_le z15_6 D16.size
            have f16_7 : w16.cell? ⟨w15.heap.size, 0, none⟩ = some (.slice A19 k19 c19) := low_cell hb16 (by (repeat rw [World.size_alloc]); (repeat rw [World.size_setCell]); all_goals omega) (by go_simp)
            have z16_7 : w15.heap.size < w16.heap.size := World.block_lt_of_cell? _ _ f16_7
            have C16 : Below w.heap.size w w16 := by first | exact C15.trans (hb16.mono C15.size) | exact (C15.alloc C15.size _).trans (hb16.mono (by (repeat rw [World.size_alloc]); (repeat rw [World.size_setCell]); all_goals omega)) | exact (set1 C15 (by omega) _ _).trans (hb16.mono (by (repeat rw [World.size_alloc]); (repeat rw [World.size_setCell]); all_goals omega))
            have H19 := Lib.hid (H19.out.up D16)
            clear f15_0 f15_1 f15_2 f15_3 f15_4 f15_5 g15_5 f15_6 g15_6 hb16 D16
            go_wp2_with fail
            refine (T.out.k21 _ _ _ _ _ (H19.out.set (by (repeat rw [World.size_alloc]); (repeat rw [World.size_setCell]); all_goals omega) 0 _) (by first | exact C16 | exact C16.alloc C16.size _ | exact set1 C16 (by omega) _ _)).mono ?_
            rintro e w17 ⟨A21, k21, c21, rfl, hb17, H21⟩
            have s17 : w16.heap.size ≤ w17.heap.size := by have := hb17.size; (repeat rw [World.size_alloc] at this); (repeat rw [World.size_setCell] at this); omega
            have f17_0 : w17.cell? ⟨w.heap.size, 0, none⟩ = some (.slice A n c) := low_cell hb17 (by (repeat rw [World.size_alloc]); (repeat rw [World.size_setCell]); all_goals omega) (by go_simp)
            have z17_0 : w.heap.size < w17.heap.size := World.block_lt_of_cell? _ _ f17_0
            have f17_1 : w17.cell? ⟨w.heap.size + 1, 0, none⟩ = some (.slice B m d) := low_cell hb17 (by (repeat rw [World.size_alloc]); (repeat rw [World.size_setCell]); all_goals omega) (by go_simp)
            have z17_1 : w.heap.size + 1 < w17.heap.size := World.block_lt_of_cell? _ _ f17_1
            have f17_2 : w17.cell? ⟨w.heap.size + 1 + 1, 0, none⟩ = some (.slice C l f) := low_cell hb17 (by (repeat rw [World.size_alloc]); (repeat rw [World.size_setCell]); all_goals omega) (by go_simp)
            have z17_2 : w.heap.size + 1 + 1 < w17.heap.size := World.block_lt_of_cell? _ _ f17_2
            have f17_3 : w17.cell? ⟨w6.heap.size, 0, none⟩ = some (.slice A6 k6 c6) := low_cell hb17 (by (repeat rw [World.size_alloc]); (repeat rw [World.size_setCell]); all_goals omega) (by go_simp)
            have z17_3 : w6.heap.size < w17.heap.size := World.block_lt_of_cell? _ _ f17_3
            have f17_4 : w17.cell? ⟨w12.heap.size, 0, none⟩ = some (.slice A16 k16 c16) := low_cell hb17 (by (repeat rw [World.size_alloc]); (repeat rw [World.size_setCell]); all_goals omega) (by go_simp)
            have z17_4 : w12.heap.size < w17.heap.size := World.block_lt_of_cell? _ _ f17_4
            have f17_5 : w17.cell? ⟨w13.heap.size, 0, none⟩ = some (.slice A20 k20 c20) := low_cell hb17 (by (repeat rw [World.size_alloc]); (repeat rw [World.size_setCell]); all_goals omega) (by go_simp)
            have g17_5 : w17.frozen? ⟨w13.heap.size, 0, none⟩ = false := low_frozen hb17 (by (repeat rw [World.size_alloc]); (repeat rw [World.size_setCell]); all_goals omega) (by go_simp)
            have z17_5 : w13.heap.size < w17.heap.size := World.block_lt_of_cell? _ _ f17_5
            have f17_6 : w17.cell? ⟨w14.heap.size, 0, none⟩ = some (.slice A18 k18 c18) := low_cell hb17 (by (repeat rw [World.size_alloc]); (repeat rw [World.size_setCell]); all_goals omega) (by go_simp)
            have g17_6 : w17.frozen? ⟨w14.heap.size, 0, none⟩ = false := low_frozen hb17 (by (repeat rw [World.size_alloc]); (repeat rw [World.size_setCell]); all_goals omega) (by go_simp)
            have z17_6 : w14.heap.size < w17.heap.size := World.block_lt_of_cell? _ _ f17_6
            have f17_7 : w17.cell? ⟨w15.heap.size, 0, none⟩ = some (.slice A19 k19 c19) := low_cell hb17 (by (repeat rw [World.size_alloc]); (repeat rw [World.size_setCell]); all_goals omega) (by go_simp)
            have z17_7 : w15.heap.size < w17.heap.size := World.block_lt_of_cell? _ _ f17_7
            have C17 : Below w.heap.size w w17 := by first | exact C16.trans (hb17.mono C16.size) | exact (C16.alloc C16.size _).trans (hb17.mono (by (repeat rw [World.size_alloc]); (repeat rw [World.size_setCell]); all_goals omega)) | exact (set1 C16 (by omega) _ _).trans (hb17.mono (by (repeat rw [World.size_alloc]); (repeat rw [World.size_setCell]); all_goals omega))
            have H20 := Lib.hid ((H20.out.set (b := w13.heap.size) (by (repeat rw [World.size_alloc]); (repeat rw [World.size_setCell]); all_goals omega) 0 (.slice A20 k20 c20)).up hb17)
            clear f16_0 f16_1 f16_2 f16_3 f16_4 f16_5 g16_5 f16_6 g16_6 f16_7 hb17
            skip
            go_wp2_with fail
            go_ret
            exact ⟨rfl, (by first | exact C17 | exact C17.alloc C17.size _ | exact set1 C17 (by omega) _ _)⟩
end Go.Proofs.Ytmeljcbefnojfaa
