/- The law PaperLattice returns true for every two inked sheets, and leaves its arguments as they were; no condition. -/
import Derived.Test.YtmeljcbefnojfaaLsa
import Derived.Test.YtmeljcbefnojfaaLop
namespace Go.Proofs.Ytmeljcbefnojfaa
open Go.ChangeShapes Go.WideShapes Go.ChangeAt Go.RowKit
theorem good_srt {n : Nat} {M : Nat → List (Int × Int)} (h : Good n M) {c : Nat} (hc : c < n) : Srt (M c) := (h.2.2 c hc).2.1
theorem bth_self {n : Nat} {M : Nat → List (Int × Int)} (h : Good n M) : bthE n n M M 0 := .inr ⟨.inr (.inr (.inr ⟨h, h, rfl, rfl⟩)), .inr ⟨fun c hc => by rw [bc_self (good_srt h hc)]; exact (h.2.2 c hc).1, .inr ⟨rfl, fun c hc => non_self (good_srt h hc)⟩⟩⟩
theorem eit_self {n : Nat} {M : Nat → List (Int × Int)} (h : Good n M) : eitE n n M M 0 := .inr ⟨.inr (.inr (.inr ⟨h, h, rfl, rfl⟩)), .inr ⟨rfl, fun c hc => by rw [ec_self (good_srt h hc)]; exact (h.2.2 c hc).1⟩⟩
theorem eit_bc {n : Nat} {M N : Nat → List (Int × Int)} (h : bthE n n M N 0) : eitE n n M (fun c => bc (M c) (N c)) 0 := by
  obtain ⟨g1, g2, _, h8, hn⟩ := bthE_zero h
  exact .inr ⟨.inr (.inr (.inr ⟨g1, g1.bc g2 h8, rfl, rfl⟩)), .inr ⟨rfl, fun c hc => by rw [ec_bc (good_srt g1 hc) (good_srt g2 hc) (hn c hc)]; exact (g1.2.2 c hc).1⟩⟩
theorem bth_ec {n : Nat} {M N : Nat → List (Int × Int)} (h : eitE n n M N 0) : bthE n n M (fun c => ec (M c) (N c)) 0 := by
  obtain ⟨g1, g2, _, h8⟩ := eitE_zero h
  exact .inr ⟨.inr (.inr (.inr ⟨g1, g1.ec g2 h8, rfl, rfl⟩)), .inr ⟨fun c hc => by rw [bc_ec (good_srt g1 hc) (good_srt g2 hc)]; exact (g1.2.2 c hc).1, .inr ⟨rfl, fun c hc => non_ec (good_srt g1 hc) (good_srt g2 hc)⟩⟩⟩
theorem win_zero {n : Nat} {M N : Nat → List (Int × Int)} {E1 E2 : Int} (g1 : Good n M) (g2 : Good n N) (hw : ∀ c, c < n → Win (M c) (N c)) (h1 : bthE n n M N E1) (h2 : eitE n n M N E2) : E1 = 0 ∧ E2 = 0 := by
  have hb : ∀ c, c < n → ¬ Non (M c) (N c) ∧ bc (M c) (N c) = M c := fun c hc => (win_bc (good_srt g1 hc) (good_srt g2 hc)).1 (hw c hc)
  have he : ∀ c, c < n → ec (M c) (N c) = N c := fun c hc => (win_ec (good_srt g1 hc) (good_srt g2 hc)).1 (hw c hc)
  constructor
  · rcases h1 with ⟨h, h0⟩ | ⟨_, h | ⟨_, ⟨_, c, hc, h⟩ | h⟩⟩
    · rcases h with h | h | h | h
      · exact absurd g1 h.1
      · exact absurd g2 h.2.1
      · exact absurd rfl h.2.2.1
      · exact h.2.2.2
    · exact absurd (fun c hc => by rw [(hb c hc).2]; exact (g1.2.2 c hc).1) h.2
    · exact absurd h (hb c hc).1
    · exact h.1
  · rcases h2 with ⟨h, h0⟩ | ⟨_, h | h⟩
    · rcases h with h | h | h | h
      · exact absurd g1 h.1
      · exact absurd g2 h.2.1
      · exact absurd rfl h.2.2.1
      · exact h.2.2.2
    · exact absurd (fun c hc => by rw [he c hc]; exact (g2.2.2 c hc).1) h.2
    · exact h.1
set_option maxRecDepth 100000 in
set_option maxHeartbeats 8000000 in
theorem lattice_law (A : Option Addr) (n c : Nat) (M : Nat → List (Int × Int)) (B : Option Addr) (m d : Nat) (N : Nat → List (Int × Int)) (w : World) (ha0 : SheetC A n M w) (hb0 : SheetC B m N w) :
    Calls Try.prog 15 #[.agg #[.slice A n c], .agg #[.slice B m d]] w fun e w' => e = .returned (.bool true) ∧ Below w.heap.size w w' := by
  have ha := ha0.sheet
  have hb := hb0.sheet
  clear ha0 hb0
  obtain ⟨E1, h1⟩ := bthE_ex n m M N
  obtain ⟨E2, h2⟩ := eitE_ex n m M N
  obtain ⟨E3, h3⟩ := alE_ex n m M N
  obtain ⟨G, hG⟩ : ∃ G : Bool, G = true ↔ E3 = 0 ∧ ∀ i, i < n → Win (M i) (N i) := by
    by_cases h : E3 = 0 ∧ ∀ i, i < n → Win (M i) (N i)
    · exact ⟨true, fun _ => h, fun _ => rfl⟩
    · exact ⟨false, fun e => (by cases e), fun e => absurd e h⟩
  obtain ⟨LX, hLX⟩ : ∃ L : Nat → List (Int × Int), L = fun c => bc (M c) (N c) := ⟨_, rfl⟩
  obtain ⟨LY, hLY⟩ : ∃ L : Nat → List (Int × Int), L = fun c => bc (N c) (M c) := ⟨_, rfl⟩
  obtain ⟨LU, hLU⟩ : ∃ L : Nat → List (Int × Int), L = fun c => ec (M c) (N c) := ⟨_, rfl⟩
  obtain ⟨LV, hLV⟩ : ∃ L : Nat → List (Int × Int), L = fun c => ec (N c) (M c) := ⟨_, rfl⟩
  have KSa : Hid (∀ W, Below w.heap.size w W → Calls Try.prog 20 #[.agg #[.slice A n c]] W (AnyBool W)) := Lib.hid fun W hW => small_sh A n c M W (ha.up hW)
  have KSb : Hid (∀ W, Below w.heap.size w W → Calls Try.prog 20 #[.agg #[.slice B m d]] W (AnyBool W)) := Lib.hid fun W hW => small_sh B m d N W (hb.up hW)
  have K1 : Hid (∀ W, Below w.heap.size w W → Calls Try.prog 56 #[.agg #[.slice A n c], .agg #[.slice B m d]] W (ShP n LX E1 W)) := Lib.hid fun W hW => by rw [hLX]; exact Both_sh A B n m c d M N E1 W (ha.up hW) (hb.up hW) h1
  have K2 : Hid (∀ W, Below w.heap.size w W → Calls Try.prog 56 #[.agg #[.slice B m d], .agg #[.slice A n c]] W (ShP m LY E1 W)) := Lib.hid fun W hW => by rw [hLY]; exact Both_sh B A m n d c N M E1 W (hb.up hW) (ha.up hW) (bthE_symm h1)
  have K3 : Hid (∀ W, Below w.heap.size w W → Calls Try.prog 58 #[.agg #[.slice A n c], .agg #[.slice B m d]] W (ShP n LU E2 W)) := Lib.hid fun W hW => by rw [hLU]; exact Either_sh A B n m c d M N E2 W (ha.up hW) (hb.up hW) h2
  have K4 : Hid (∀ W, Below w.heap.size w W → Calls Try.prog 58 #[.agg #[.slice B m d], .agg #[.slice A n c]] W (ShP m LV E2 W)) := Lib.hid fun W hW => by rw [hLV]; exact Either_sh B A m n d c N M E2 W (hb.up hW) (ha.up hW) (eitE_symm h2)
  have K5 : Hid (∀ W, Below w.heap.size w W → Calls Try.prog 60 #[.agg #[.slice A n c], .agg #[.slice B m d]] W fun e w' => e = .returned (.tuple #[.bool G, .int .i64 E3]) ∧ Below W.heap.size W w') := Lib.hid fun W hW => Within_sh A B n m c d M N E3 G W (ha.up hW) (hb.up hW) h3 hG
  have S1 : Hid (∀ (W : World) (A1 A2 : Option Addr) (k1 k2 c1 c2 : Nat), ShQ n LX E1 A1 k1 W → ShQ m LY E1 A2 k2 W → Calls Try.prog 55 #[.slice A1 k1 c1, .slice A2 k2 c2] W fun e w' => e = .returned (.bool true) ∧ Below W.heap.size W w') := Lib.hid fun W A1 A2 k1 k2 c1 c2 q1 q2 => shq_same2 q1 q2 fun e0 => by
    subst e0
    obtain ⟨g1, g2, e, _⟩ := bthE_zero h1
    subst e
    exact ⟨rfl, fun i hi => by rw [hLX, hLY]; exact bc_symm (good_srt g1 hi) (good_srt g2 hi)⟩
  have S2 : Hid (∀ (W : World) (A1 A2 : Option Addr) (k1 k2 c1 c2 : Nat), ShQ n LU E2 A1 k1 W → ShQ m LV E2 A2 k2 W → Calls Try.prog 55 #[.slice A1 k1 c1, .slice A2 k2 c2] W fun e w' => e = .returned (.bool true) ∧ Below W.heap.size W w') := Lib.hid fun W A1 A2 k1 k2 c1 c2 q1 q2 => shq_same2 q1 q2 fun e0 => by
    subst e0
    obtain ⟨g1, g2, e, _⟩ := eitE_zero h2
    subst e
    exact ⟨rfl, fun i hi => by rw [hLU, hLV]; exact ec_symm (good_srt g1 hi) (good_srt g2 hi)⟩
  have HA := Lib.hid ha
  have HB := Lib.hid hb
  have HF := Lib.hid (And.intro h1 (And.intro h2 (And.intro h3 hG)))
  have HLX := Lib.hid hLX
  have HLU := Lib.hid hLU
  clear ha hb h1 h2 h3 hG hLX hLY hLU hLV
  go_enter Try.func15, Try.ntmps15
  go_wp2_with fail
  refine (awake_any _).mono ?_
  rintro e w1 ⟨rfl, hb1⟩
  have hB1_0 : HasV ((.slice A n c)) (w.heap.size) w1 := HasV.up (by unfold HasV; go_simp) hb1 (by (try simp only [World.size_alloc]); omega)
  have hB1_1 : HasV ((.slice B m d)) (w.heap.size + 1) w1 := HasV.up (by unfold HasV; go_simp) hb1 (by (try simp only [World.size_alloc]); omega)
  have C1 : Below w.heap.size w w1 := by
    refine Below.trans ?_ (hb1.mono ?_)
    · repeat' (first | with_reducible exact Below.refl _ _ | with_reducible exact Below.refl _ _ | with_reducible refine set1 ?_ (by omega) _ _ | with_reducible refine Below.alloc ?_ (by (try simp only [World.size_alloc]); omega) _ | with_reducible refine below_drewN ?_ _ | with_reducible refine Below.drew ?_)
    · (try simp only [World.size_alloc]); omega
  clear hb1
  unfold HasV at hB1_0
  have f1_0_0 := hB1_0
  clear hB1_0
  have z1_0 : w.heap.size < w1.heap.size := World.block_lt_of_cell? _ _ f1_0_0
  unfold HasV at hB1_1
  have f1_1_0 := hB1_1
  clear hB1_1
  have z1_1 : w.heap.size + 1 < w1.heap.size := World.block_lt_of_cell? _ _ f1_1_0
  have zz1 := C1.size
  go_wp2_with fail
  refine (KSa.out _ (by repeat' (first | with_reducible exact Below.refl _ _ | with_reducible exact C1 | with_reducible refine set1 ?_ (by omega) _ _ | with_reducible refine Below.alloc ?_ (by (try simp only [World.size_alloc]); omega) _ | with_reducible refine below_drewN ?_ _ | with_reducible refine Below.drew ?_))).mono ?_
  rintro e w2 ⟨⟨b, rfl⟩, hb2⟩
  have hB2_0 : HasV ((.slice A n c)) (w.heap.size) w2 := HasV.up (by unfold HasV; go_simp) hb2 (by (try simp only [World.size_alloc]); omega)
  have hB2_1 : HasV ((.slice B m d)) (w.heap.size + 1) w2 := HasV.up (by unfold HasV; go_simp) hb2 (by (try simp only [World.size_alloc]); omega)
  have C2 : Below w.heap.size w w2 := by
    refine Below.trans ?_ (hb2.mono ?_)
    · repeat' (first | with_reducible exact Below.refl _ _ | with_reducible exact C1 | with_reducible refine set1 ?_ (by omega) _ _ | with_reducible refine Below.alloc ?_ (by (try simp only [World.size_alloc]); omega) _ | with_reducible refine below_drewN ?_ _ | with_reducible refine Below.drew ?_)
    · (try simp only [World.size_alloc]); omega
  clear f1_0_0 f1_1_0 hb2
  unfold HasV at hB2_0
  have f2_0_0 := hB2_0
  clear hB2_0
  have z2_0 : w.heap.size < w2.heap.size := World.block_lt_of_cell? _ _ f2_0_0
  unfold HasV at hB2_1
  have f2_1_0 := hB2_1
  clear hB2_1
  have z2_1 : w.heap.size + 1 < w2.heap.size := World.block_lt_of_cell? _ _ f2_1_0
  have zz2 := C2.size
  cases b with
  | false =>
    go_wp2_with fail
    go_ret
    exact ⟨rfl, C2⟩
  | true =>
    go_wp2_with fail
    refine (KSb.out _ (by repeat' (first | with_reducible exact Below.refl _ _ | with_reducible exact C2 | with_reducible refine set1 ?_ (by omega) _ _ | with_reducible refine Below.alloc ?_ (by (try simp only [World.size_alloc]); omega) _ | with_reducible refine below_drewN ?_ _ | with_reducible refine Below.drew ?_))).mono ?_
    rintro e w3 ⟨⟨b, rfl⟩, hb3⟩
    have hB3_0 : HasV ((.slice A n c)) (w.heap.size) w3 := HasV.up (by unfold HasV; go_simp) hb3 (by (try simp only [World.size_alloc]); omega)
    have hB3_1 : HasV ((.slice B m d)) (w.heap.size + 1) w3 := HasV.up (by unfold HasV; go_simp) hb3 (by (try simp only [World.size_alloc]); omega)
    have C3 : Below w.heap.size w w3 := by
      refine Below.trans ?_ (hb3.mono ?_)
      · repeat' (first | with_reducible exact Below.refl _ _ | with_reducible exact C2 | with_reducible refine set1 ?_ (by omega) _ _ | with_reducible refine Below.alloc ?_ (by (try simp only [World.size_alloc]); omega) _ | with_reducible refine below_drewN ?_ _ | with_reducible refine Below.drew ?_)
      · (try simp only [World.size_alloc]); omega
    clear f2_0_0 f2_1_0 hb3
    unfold HasV at hB3_0
    have f3_0_0 := hB3_0
    clear hB3_0
    have z3_0 : w.heap.size < w3.heap.size := World.block_lt_of_cell? _ _ f3_0_0
    unfold HasV at hB3_1
    have f3_1_0 := hB3_1
    clear hB3_1
    have z3_1 : w.heap.size + 1 < w3.heap.size := World.block_lt_of_cell? _ _ f3_1_0
    have zz3 := C3.size
    cases b with
    | false =>
      go_wp2_with fail
      go_ret
      exact ⟨rfl, C3⟩
    | true =>
      go_wp2_with fail
      refine (K1.out _ (by repeat' (first | with_reducible exact Below.refl _ _ | with_reducible exact C3 | with_reducible refine set1 ?_ (by omega) _ _ | with_reducible refine Below.alloc ?_ (by (try simp only [World.size_alloc]); omega) _ | with_reducible refine below_drewN ?_ _ | with_reducible refine Below.drew ?_))).mono ?_
      rintro e w4 ⟨A4, k4, c4, rfl, hb4, H4⟩
      have hB4_0 : HasV ((.slice A n c)) (w.heap.size) w4 := HasV.up (by unfold HasV; go_simp) hb4 (by (try simp only [World.size_alloc]); omega)
      have hB4_1 : HasV ((.slice B m d)) (w.heap.size + 1) w4 := HasV.up (by unfold HasV; go_simp) hb4 (by (try simp only [World.size_alloc]); omega)
      have C4 : Below w.heap.size w w4 := by
        refine Below.trans ?_ (hb4.mono ?_)
        · repeat' (first | with_reducible exact Below.refl _ _ | with_reducible exact C3 | with_reducible refine set1 ?_ (by omega) _ _ | with_reducible refine Below.alloc ?_ (by (try simp only [World.size_alloc]); omega) _ | with_reducible refine below_drewN ?_ _ | with_reducible refine Below.drew ?_)
        · (try simp only [World.size_alloc]); omega
      clear f3_0_0 f3_1_0 hb4
      unfold HasV at hB4_0
      have f4_0_0 := hB4_0
      clear hB4_0
      have z4_0 : w.heap.size < w4.heap.size := World.block_lt_of_cell? _ _ f4_0_0
      unfold HasV at hB4_1
      have f4_1_0 := hB4_1
      clear hB4_1
      have z4_1 : w.heap.size + 1 < w4.heap.size := World.block_lt_of_cell? _ _ f4_1_0
      have zz4 := C4.size
      go_wp2_with fail
      refine (K2.out _ (by repeat' (first | with_reducible exact Below.refl _ _ | with_reducible exact C4 | with_reducible refine set1 ?_ (by omega) _ _ | with_reducible refine Below.alloc ?_ (by (try simp only [World.size_alloc]); omega) _ | with_reducible refine below_drewN ?_ _ | with_reducible refine Below.drew ?_))).mono ?_
      rintro e w5 ⟨A5, k5, c5, rfl, hb5, H5⟩
      have hB5_0 : HasV ((.slice A n c)) (w.heap.size) w5 := HasV.up (by unfold HasV; go_simp) hb5 (by (try simp only [World.size_alloc]); omega)
      have hB5_1 : HasV ((.slice B m d)) (w.heap.size + 1) w5 := HasV.up (by unfold HasV; go_simp) hb5 (by (try simp only [World.size_alloc]); omega)
      have hB5_2 : HasV ((.slice A4 k4 c4)) (w4.heap.size) w5 := HasV.up (by unfold HasV; go_simp) hb5 (by (try simp only [World.size_alloc]); omega)
      have C5 : Below w.heap.size w w5 := by
        refine Below.trans ?_ (hb5.mono ?_)
        · repeat' (first | with_reducible exact Below.refl _ _ | with_reducible exact C4 | with_reducible refine set1 ?_ (by omega) _ _ | with_reducible refine Below.alloc ?_ (by (try simp only [World.size_alloc]); omega) _ | with_reducible refine below_drewN ?_ _ | with_reducible refine Below.drew ?_)
        · (try simp only [World.size_alloc]); omega
      have D5 : Below w4.heap.size w4 w5 := by
        refine Below.trans ?_ (hb5.mono ?_)
        · repeat' (first | with_reducible exact Below.refl _ _ | with_reducible exact Below.refl _ _ | with_reducible refine set1 ?_ (by omega) _ _ | with_reducible refine Below.alloc ?_ (by (try simp only [World.size_alloc]); omega) _ | with_reducible refine below_drewN ?_ _ | with_reducible refine Below.drew ?_)
        · (try simp only [World.size_alloc]); omega
      have H4 := Lib.hid (H4.out.up D5)
      clear D5
      clear f4_0_0 f4_1_0 hb5
      unfold HasV at hB5_0
      have f5_0_0 := hB5_0
      clear hB5_0
      have z5_0 : w.heap.size < w5.heap.size := World.block_lt_of_cell? _ _ f5_0_0
      unfold HasV at hB5_1
      have f5_1_0 := hB5_1
      clear hB5_1
      have z5_1 : w.heap.size + 1 < w5.heap.size := World.block_lt_of_cell? _ _ f5_1_0
      unfold HasV at hB5_2
      have f5_2_0 := hB5_2
      clear hB5_2
      have z5_2 : w4.heap.size < w5.heap.size := World.block_lt_of_cell? _ _ f5_2_0
      have zz5 := C5.size
      go_wp2_with fail
      refine (K3.out _ (by repeat' (first | with_reducible exact Below.refl _ _ | with_reducible exact C5 | with_reducible refine set1 ?_ (by omega) _ _ | with_reducible refine Below.alloc ?_ (by (try simp only [World.size_alloc]); omega) _ | with_reducible refine below_drewN ?_ _ | with_reducible refine Below.drew ?_))).mono ?_
      rintro e w6 ⟨A6, k6, c6, rfl, hb6, H6⟩
      have hB6_0 : HasV ((.slice A n c)) (w.heap.size) w6 := HasV.up (by unfold HasV; go_simp) hb6 (by (try simp only [World.size_alloc]); omega)
      have hB6_1 : HasV ((.slice B m d)) (w.heap.size + 1) w6 := HasV.up (by unfold HasV; go_simp) hb6 (by (try simp only [World.size_alloc]); omega)
      have hB6_2 : HasV ((.slice A4 k4 c4)) (w4.heap.size) w6 := HasV.up (by unfold HasV; go_simp) hb6 (by (try simp only [World.size_alloc]); omega)
      have hB6_3 : HasV ((.slice A5 k5 c5)) (w5.heap.size) w6 := HasV.up (by unfold HasV; go_simp) hb6 (by (try simp only [World.size_alloc]); omega)
      have C6 : Below w.heap.size w w6 := by
        refine Below.trans ?_ (hb6.mono ?_)
        · repeat' (first | with_reducible exact Below.refl _ _ | with_reducible exact C5 | with_reducible refine set1 ?_ (by omega) _ _ | with_reducible refine Below.alloc ?_ (by (try simp only [World.size_alloc]); omega) _ | with_reducible refine below_drewN ?_ _ | with_reducible refine Below.drew ?_)
        · (try simp only [World.size_alloc]); omega
      have D6 : Below w5.heap.size w5 w6 := by
        refine Below.trans ?_ (hb6.mono ?_)
        · repeat' (first | with_reducible exact Below.refl _ _ | with_reducible exact Below.refl _ _ | with_reducible refine set1 ?_ (by omega) _ _ | with_reducible refine Below.alloc ?_ (by (try simp only [World.size_alloc]); omega) _ | with_reducible refine below_drewN ?_ _ | with_reducible refine Below.drew ?_)
        · (try simp only [World.size_alloc]); omega
      have H4 := Lib.hid (H4.out.up D6)
      have H5 := Lib.hid (H5.out.up D6)
      clear D6
      clear f5_0_0 f5_1_0 f5_2_0 hb6
      unfold HasV at hB6_0
      have f6_0_0 := hB6_0
      clear hB6_0
      have z6_0 : w.heap.size < w6.heap.size := World.block_lt_of_cell? _ _ f6_0_0
      unfold HasV at hB6_1
      have f6_1_0 := hB6_1
      clear hB6_1
      have z6_1 : w.heap.size + 1 < w6.heap.size := World.block_lt_of_cell? _ _ f6_1_0
      unfold HasV at hB6_2
      have f6_2_0 := hB6_2
      clear hB6_2
      have z6_2 : w4.heap.size < w6.heap.size := World.block_lt_of_cell? _ _ f6_2_0
      unfold HasV at hB6_3
      have f6_3_0 := hB6_3
      clear hB6_3
      have z6_3 : w5.heap.size < w6.heap.size := World.block_lt_of_cell? _ _ f6_3_0
      have zz6 := C6.size
      go_wp2_with fail
      refine (K4.out _ (by repeat' (first | with_reducible exact Below.refl _ _ | with_reducible exact C6 | with_reducible refine set1 ?_ (by omega) _ _ | with_reducible refine Below.alloc ?_ (by (try simp only [World.size_alloc]); omega) _ | with_reducible refine below_drewN ?_ _ | with_reducible refine Below.drew ?_))).mono ?_
      rintro e w7 ⟨A7, k7, c7, rfl, hb7, H7⟩
      have hB7_0 : HasV ((.slice A n c)) (w.heap.size) w7 := HasV.up (by unfold HasV; go_simp) hb7 (by (try simp only [World.size_alloc]); omega)
      have hB7_1 : HasV ((.slice B m d)) (w.heap.size + 1) w7 := HasV.up (by unfold HasV; go_simp) hb7 (by (try simp only [World.size_alloc]); omega)
      have hB7_2 : HasV ((.slice A4 k4 c4)) (w4.heap.size) w7 := HasV.up (by unfold HasV; go_simp) hb7 (by (try simp only [World.size_alloc]); omega)
      have hB7_3 : HasV ((.slice A5 k5 c5)) (w5.heap.size) w7 := HasV.up (by unfold HasV; go_simp) hb7 (by (try simp only [World.size_alloc]); omega)
      have hB7_4 : HasV ((.slice A6 k6 c6)) (w6.heap.size) w7 := HasV.up (by unfold HasV; go_simp) hb7 (by (try simp only [World.size_alloc]); omega)
      have C7 : Below w.heap.size w w7 := by
        refine Below.trans ?_ (hb7.mono ?_)
        · repeat' (first | with_reducible exact Below.refl _ _ | with_reducible exact C6 | with_reducible refine set1 ?_ (by omega) _ _ | with_reducible refine Below.alloc ?_ (by (try simp only [World.size_alloc]); omega) _ | with_reducible refine below_drewN ?_ _ | with_reducible refine Below.drew ?_)
        · (try simp only [World.size_alloc]); omega
      have D7 : Below w6.heap.size w6 w7 := by
        refine Below.trans ?_ (hb7.mono ?_)
        · repeat' (first | with_reducible exact Below.refl _ _ | with_reducible exact Below.refl _ _ | with_reducible refine set1 ?_ (by omega) _ _ | with_reducible refine Below.alloc ?_ (by (try simp only [World.size_alloc]); omega) _ | with_reducible refine below_drewN ?_ _ | with_reducible refine Below.drew ?_)
        · (try simp only [World.size_alloc]); omega
      have H4 := Lib.hid (H4.out.up D7)
      have H5 := Lib.hid (H5.out.up D7)
      have H6 := Lib.hid (H6.out.up D7)
      clear D7
      clear f6_0_0 f6_1_0 f6_2_0 f6_3_0 hb7
      unfold HasV at hB7_0
      have f7_0_0 := hB7_0
      clear hB7_0
      have z7_0 : w.heap.size < w7.heap.size := World.block_lt_of_cell? _ _ f7_0_0
      unfold HasV at hB7_1
      have f7_1_0 := hB7_1
      clear hB7_1
      have z7_1 : w.heap.size + 1 < w7.heap.size := World.block_lt_of_cell? _ _ f7_1_0
      unfold HasV at hB7_2
      have f7_2_0 := hB7_2
      clear hB7_2
      have z7_2 : w4.heap.size < w7.heap.size := World.block_lt_of_cell? _ _ f7_2_0
      unfold HasV at hB7_3
      have f7_3_0 := hB7_3
      clear hB7_3
      have z7_3 : w5.heap.size < w7.heap.size := World.block_lt_of_cell? _ _ f7_3_0
      unfold HasV at hB7_4
      have f7_4_0 := hB7_4
      clear hB7_4
      have z7_4 : w6.heap.size < w7.heap.size := World.block_lt_of_cell? _ _ f7_4_0
      have zz7 := C7.size
      go_wp2_with fail
      refine (S1.out _ _ _ _ _ _ _ (H4.out.up (by repeat' (first | with_reducible exact Below.refl _ _ | with_reducible exact Below.refl _ _ | with_reducible refine set1 ?_ (by omega) _ _ | with_reducible refine Below.alloc ?_ (by (try simp only [World.size_alloc]); omega) _ | with_reducible refine below_drewN ?_ _ | with_reducible refine Below.drew ?_))) (H5.out.up (by repeat' (first | with_reducible exact Below.refl _ _ | with_reducible exact Below.refl _ _ | with_reducible refine set1 ?_ (by omega) _ _ | with_reducible refine Below.alloc ?_ (by (try simp only [World.size_alloc]); omega) _ | with_reducible refine below_drewN ?_ _ | with_reducible refine Below.drew ?_)))).mono ?_
      rintro e w8 ⟨rfl, hb8⟩
      have hB8_0 : HasV ((.slice A n c)) (w.heap.size) w8 := HasV.up (by unfold HasV; go_simp) hb8 (by (try simp only [World.size_alloc]); omega)
      have hB8_1 : HasV ((.slice B m d)) (w.heap.size + 1) w8 := HasV.up (by unfold HasV; go_simp) hb8 (by (try simp only [World.size_alloc]); omega)
      have hB8_2 : HasV ((.slice A4 k4 c4)) (w4.heap.size) w8 := HasV.up (by unfold HasV; go_simp) hb8 (by (try simp only [World.size_alloc]); omega)
      have hB8_3 : HasV ((.slice A5 k5 c5)) (w5.heap.size) w8 := HasV.up (by unfold HasV; go_simp) hb8 (by (try simp only [World.size_alloc]); omega)
      have hB8_4 : HasV ((.slice A6 k6 c6)) (w6.heap.size) w8 := HasV.up (by unfold HasV; go_simp) hb8 (by (try simp only [World.size_alloc]); omega)
      have hB8_5 : HasV ((.slice A7 k7 c7)) (w7.heap.size) w8 := HasV.up (by unfold HasV; go_simp) hb8 (by (try simp only [World.size_alloc]); omega)
      have C8 : Below w.heap.size w w8 := by
        refine Below.trans ?_ (hb8.mono ?_)
        · repeat' (first | with_reducible exact Below.refl _ _ | with_reducible exact C7 | with_reducible refine set1 ?_ (by omega) _ _ | with_reducible refine Below.alloc ?_ (by (try simp only [World.size_alloc]); omega) _ | with_reducible refine below_drewN ?_ _ | with_reducible refine Below.drew ?_)
        · (try simp only [World.size_alloc]); omega
      have D8 : Below w7.heap.size w7 w8 := by
        refine Below.trans ?_ (hb8.mono ?_)
        · repeat' (first | with_reducible exact Below.refl _ _ | with_reducible exact Below.refl _ _ | with_reducible refine set1 ?_ (by omega) _ _ | with_reducible refine Below.alloc ?_ (by (try simp only [World.size_alloc]); omega) _ | with_reducible refine below_drewN ?_ _ | with_reducible refine Below.drew ?_)
        · (try simp only [World.size_alloc]); omega
      have H4 := Lib.hid (H4.out.up D8)
      have H6 := Lib.hid (H6.out.up D8)
      have H7 := Lib.hid (H7.out.up D8)
      clear D8
      clear f7_0_0 f7_1_0 f7_2_0 f7_3_0 f7_4_0 hb8
      unfold HasV at hB8_0
      have f8_0_0 := hB8_0
      clear hB8_0
      have z8_0 : w.heap.size < w8.heap.size := World.block_lt_of_cell? _ _ f8_0_0
      unfold HasV at hB8_1
      have f8_1_0 := hB8_1
      clear hB8_1
      have z8_1 : w.heap.size + 1 < w8.heap.size := World.block_lt_of_cell? _ _ f8_1_0
      unfold HasV at hB8_2
      have f8_2_0 := hB8_2
      clear hB8_2
      have z8_2 : w4.heap.size < w8.heap.size := World.block_lt_of_cell? _ _ f8_2_0
      unfold HasV at hB8_3
      have f8_3_0 := hB8_3
      clear hB8_3
      have z8_3 : w5.heap.size < w8.heap.size := World.block_lt_of_cell? _ _ f8_3_0
      unfold HasV at hB8_4
      have f8_4_0 := hB8_4
      clear hB8_4
      have z8_4 : w6.heap.size < w8.heap.size := World.block_lt_of_cell? _ _ f8_4_0
      unfold HasV at hB8_5
      have f8_5_0 := hB8_5
      clear hB8_5
      have z8_5 : w7.heap.size < w8.heap.size := World.block_lt_of_cell? _ _ f8_5_0
      have zz8 := C8.size
      go_wp2_with fail
      refine (S2.out _ _ _ _ _ _ _ (H6.out.up (by repeat' (first | with_reducible exact Below.refl _ _ | with_reducible exact Below.refl _ _ | with_reducible refine set1 ?_ (by omega) _ _ | with_reducible refine Below.alloc ?_ (by (try simp only [World.size_alloc]); omega) _ | with_reducible refine below_drewN ?_ _ | with_reducible refine Below.drew ?_))) (H7.out.up (by repeat' (first | with_reducible exact Below.refl _ _ | with_reducible exact Below.refl _ _ | with_reducible refine set1 ?_ (by omega) _ _ | with_reducible refine Below.alloc ?_ (by (try simp only [World.size_alloc]); omega) _ | with_reducible refine below_drewN ?_ _ | with_reducible refine Below.drew ?_)))).mono ?_
      rintro e w9 ⟨rfl, hb9⟩
      have hB9_0 : HasV ((.slice A n c)) (w.heap.size) w9 := HasV.up (by unfold HasV; go_simp) hb9 (by (try simp only [World.size_alloc]); omega)
      have hB9_1 : HasV ((.slice B m d)) (w.heap.size + 1) w9 := HasV.up (by unfold HasV; go_simp) hb9 (by (try simp only [World.size_alloc]); omega)
      have hB9_2 : HasV ((.slice A4 k4 c4)) (w4.heap.size) w9 := HasV.up (by unfold HasV; go_simp) hb9 (by (try simp only [World.size_alloc]); omega)
      have hB9_3 : HasV ((.slice A5 k5 c5)) (w5.heap.size) w9 := HasV.up (by unfold HasV; go_simp) hb9 (by (try simp only [World.size_alloc]); omega)
      have hB9_4 : HasV ((.slice A6 k6 c6)) (w6.heap.size) w9 := HasV.up (by unfold HasV; go_simp) hb9 (by (try simp only [World.size_alloc]); omega)
      have hB9_5 : HasV ((.slice A7 k7 c7)) (w7.heap.size) w9 := HasV.up (by unfold HasV; go_simp) hb9 (by (try simp only [World.size_alloc]); omega)
      have C9 : Below w.heap.size w w9 := by
        refine Below.trans ?_ (hb9.mono ?_)
        · repeat' (first | with_reducible exact Below.refl _ _ | with_reducible exact C8 | with_reducible refine set1 ?_ (by omega) _ _ | with_reducible refine Below.alloc ?_ (by (try simp only [World.size_alloc]); omega) _ | with_reducible refine below_drewN ?_ _ | with_reducible refine Below.drew ?_)
        · (try simp only [World.size_alloc]); omega
      have D9 : Below w8.heap.size w8 w9 := by
        refine Below.trans ?_ (hb9.mono ?_)
        · repeat' (first | with_reducible exact Below.refl _ _ | with_reducible exact Below.refl _ _ | with_reducible refine set1 ?_ (by omega) _ _ | with_reducible refine Below.alloc ?_ (by (try simp only [World.size_alloc]); omega) _ | with_reducible refine below_drewN ?_ _ | with_reducible refine Below.drew ?_)
        · (try simp only [World.size_alloc]); omega
      have H4 := Lib.hid (H4.out.up D9)
      have H6 := Lib.hid (H6.out.up D9)
      clear D9
      clear f8_0_0 f8_1_0 f8_2_0 f8_3_0 f8_4_0 f8_5_0 hb9
      unfold HasV at hB9_0
      have f9_0_0 := hB9_0
      clear hB9_0
      have z9_0 : w.heap.size < w9.heap.size := World.block_lt_of_cell? _ _ f9_0_0
      unfold HasV at hB9_1
      have f9_1_0 := hB9_1
      clear hB9_1
      have z9_1 : w.heap.size + 1 < w9.heap.size := World.block_lt_of_cell? _ _ f9_1_0
      unfold HasV at hB9_2
      have f9_2_0 := hB9_2
      clear hB9_2
      have z9_2 : w4.heap.size < w9.heap.size := World.block_lt_of_cell? _ _ f9_2_0
      unfold HasV at hB9_3
      have f9_3_0 := hB9_3
      clear hB9_3
      have z9_3 : w5.heap.size < w9.heap.size := World.block_lt_of_cell? _ _ f9_3_0
      unfold HasV at hB9_4
      have f9_4_0 := hB9_4
      clear hB9_4
      have z9_4 : w6.heap.size < w9.heap.size := World.block_lt_of_cell? _ _ f9_4_0
      unfold HasV at hB9_5
      have f9_5_0 := hB9_5
      clear hB9_5
      have z9_5 : w7.heap.size < w9.heap.size := World.block_lt_of_cell? _ _ f9_5_0
      have zz9 := C9.size
      go_wp2_with fail
      refine (K5.out _ (by repeat' (first | with_reducible exact Below.refl _ _ | with_reducible exact C9 | with_reducible refine set1 ?_ (by omega) _ _ | with_reducible refine Below.alloc ?_ (by (try simp only [World.size_alloc]); omega) _ | with_reducible refine below_drewN ?_ _ | with_reducible refine Below.drew ?_))).mono ?_
      rintro e w10 ⟨rfl, hb10⟩
      have hB10_0 : HasV ((.slice A n c)) (w.heap.size) w10 := HasV.up (by unfold HasV; go_simp) hb10 (by (try simp only [World.size_alloc]); omega)
      have hB10_1 : HasV ((.slice B m d)) (w.heap.size + 1) w10 := HasV.up (by unfold HasV; go_simp) hb10 (by (try simp only [World.size_alloc]); omega)
      have hB10_2 : HasV ((.slice A4 k4 c4)) (w4.heap.size) w10 := HasV.up (by unfold HasV; go_simp) hb10 (by (try simp only [World.size_alloc]); omega)
      have hB10_3 : HasV ((.slice A6 k6 c6)) (w6.heap.size) w10 := HasV.up (by unfold HasV; go_simp) hb10 (by (try simp only [World.size_alloc]); omega)
      have C10 : Below w.heap.size w w10 := by
        refine Below.trans ?_ (hb10.mono ?_)
        · repeat' (first | with_reducible exact Below.refl _ _ | with_reducible exact C9 | with_reducible refine set1 ?_ (by omega) _ _ | with_reducible refine Below.alloc ?_ (by (try simp only [World.size_alloc]); omega) _ | with_reducible refine below_drewN ?_ _ | with_reducible refine Below.drew ?_)
        · (try simp only [World.size_alloc]); omega
      have D10 : Below w9.heap.size w9 w10 := by
        refine Below.trans ?_ (hb10.mono ?_)
        · repeat' (first | with_reducible exact Below.refl _ _ | with_reducible exact Below.refl _ _ | with_reducible refine set1 ?_ (by omega) _ _ | with_reducible refine Below.alloc ?_ (by (try simp only [World.size_alloc]); omega) _ | with_reducible refine below_drewN ?_ _ | with_reducible refine Below.drew ?_)
        · (try simp only [World.size_alloc]); omega
      have H4 := Lib.hid (H4.out.up D10)
      have H6 := Lib.hid (H6.out.up D10)
      clear D10
      clear f9_0_0 f9_1_0 f9_2_0 f9_3_0 f9_4_0 f9_5_0 hb10
      unfold HasV at hB10_0
      have f10_0_0 := hB10_0
      clear hB10_0
      have z10_0 : w.heap.size < w10.heap.size := World.block_lt_of_cell? _ _ f10_0_0
      unfold HasV at hB10_1
      have f10_1_0 := hB10_1
      clear hB10_1
      have z10_1 : w.heap.size + 1 < w10.heap.size := World.block_lt_of_cell? _ _ f10_1_0
      unfold HasV at hB10_2
      have f10_2_0 := hB10_2
      clear hB10_2
      have z10_2 : w4.heap.size < w10.heap.size := World.block_lt_of_cell? _ _ f10_2_0
      unfold HasV at hB10_3
      have f10_3_0 := hB10_3
      clear hB10_3
      have z10_3 : w6.heap.size < w10.heap.size := World.block_lt_of_cell? _ _ f10_3_0
      have zz10 := C10.size
      by_cases e3 : E3 = 0
      · subst e3
        obtain ⟨h1, h2, h3, hG⟩ := HF.out
        obtain ⟨g1, g2, hnm⟩ := alE_zero h3
        subst hnm
        have hG' : G = true ↔ ∀ i, i < n → Win (M i) (N i) := hG.trans ⟨fun h => h.2, fun h => ⟨rfl, h⟩⟩
        have K6 : Hid (∀ W, Below w.heap.size w W → Calls Try.prog 56 #[.agg #[.slice A n c], .agg #[.slice A n c]] W (ShP n (fun c => bc (M c) (M c)) 0 W)) := Lib.hid fun W hW => Both_sh A A n n c c M M 0 W (HA.out.up hW) (HA.out.up hW) (bth_self g1)
        have K7 : Hid (∀ W, Below w.heap.size w W → Calls Try.prog 58 #[.agg #[.slice A n c], .agg #[.slice A n c]] W (ShP n (fun c => ec (M c) (M c)) 0 W)) := Lib.hid fun W hW => Either_sh A A n n c c M M 0 W (HA.out.up hW) (HA.out.up hW) (eit_self g1)
        have Q6 : Hid (∀ (W : World) (A1 : Option Addr) (k1 c1 : Nat), ShQ n (fun c => bc (M c) (M c)) 0 A1 k1 W → Below w.heap.size w W → Calls Try.prog 67 #[.agg #[.slice A1 k1 c1], .int .i64 0, .agg #[.slice A n c]] W fun e w' => e = .returned (.bool true) ∧ Below W.heap.size W w') := Lib.hid fun W A1 k1 c1 q hW => same_sh q (HA.out.up hW) ⟨rfl, fun i hi => bc_self (good_srt g1 hi)⟩
        have Q7 : Hid (∀ (W : World) (A1 : Option Addr) (k1 c1 : Nat), ShQ n (fun c => ec (M c) (M c)) 0 A1 k1 W → Below w.heap.size w W → Calls Try.prog 67 #[.agg #[.slice A1 k1 c1], .int .i64 0, .agg #[.slice A n c]] W fun e w' => e = .returned (.bool true) ∧ Below W.heap.size W w') := Lib.hid fun W A1 k1 c1 q hW => same_sh q (HA.out.up hW) ⟨rfl, fun i hi => ec_self (good_srt g1 hi)⟩
        have X1 : Hid (E1 = 0 → (∀ (W : World) (A1 : Option Addr) (k1 c1 : Nat), ShQ n LX 0 A1 k1 W → Below w.heap.size w W → Calls Try.prog 58 #[.agg #[.slice A n c], .agg #[.slice A1 k1 c1]] W (ShP n (fun c => ec (M c) (bc (M c) (N c))) 0 W)) ∧ (∀ (W : World) (A1 : Option Addr) (k1 c1 : Nat), ShQ n (fun c => ec (M c) (bc (M c) (N c))) 0 A1 k1 W → Below w.heap.size w W → Calls Try.prog 67 #[.agg #[.slice A1 k1 c1], .int .i64 0, .agg #[.slice A n c]] W fun e w' => e = .returned (.bool true) ∧ Below W.heap.size W w') ∧ ∀ (W : World) (A1 : Option Addr) (k1 c1 : Nat), ShQ n LX 0 A1 k1 W → Below w.heap.size w W → Calls Try.prog 55 #[.slice A1 k1 c1, .slice A n c] W fun e w' => e = .returned (.bool G) ∧ Below W.heap.size W w') := Lib.hid fun e0 => by
          subst e0
          have hn := (bthE_zero h1).2.2.2.2
          have eL : LX = fun c => bc (M c) (N c) := HLX.out
          refine ⟨fun W A1 k1 c1 q hW => ?_, fun W A1 k1 c1 q hW => ?_, fun W A1 k1 c1 q hW => ?_⟩
          · obtain rfl := q.2.1 rfl
            exact Either_sh A A1 k1 k1 c c1 M _ 0 W (HA.out.up hW) (eL ▸ q.1) (eit_bc h1)
          · exact same_sh q (HA.out.up hW) ⟨rfl, fun i hi => ec_bc (good_srt g1 hi) (good_srt g2 hi) (hn i hi)⟩
          · refine shq_arg q (HA.out.up hW) G (hG'.trans ?_)
            rw [eL]
            exact ⟨fun h => ⟨rfl, fun i hi => ((win_bc (good_srt g1 hi) (good_srt g2 hi)).1 (h i hi)).2⟩, fun h i hi => (win_bc (good_srt g1 hi) (good_srt g2 hi)).2 ⟨hn i hi, h.2 i hi⟩⟩
        have X2 : Hid (E2 = 0 → (∀ (W : World) (A1 : Option Addr) (k1 c1 : Nat), ShQ n LU 0 A1 k1 W → Below w.heap.size w W → Calls Try.prog 56 #[.agg #[.slice A n c], .agg #[.slice A1 k1 c1]] W (ShP n (fun c => bc (M c) (ec (M c) (N c))) 0 W)) ∧ (∀ (W : World) (A1 : Option Addr) (k1 c1 : Nat), ShQ n (fun c => bc (M c) (ec (M c) (N c))) 0 A1 k1 W → Below w.heap.size w W → Calls Try.prog 67 #[.agg #[.slice A1 k1 c1], .int .i64 0, .agg #[.slice A n c]] W fun e w' => e = .returned (.bool true) ∧ Below W.heap.size W w') ∧ ∀ (W : World) (A1 : Option Addr) (k1 c1 : Nat), ShQ n LU 0 A1 k1 W → Below w.heap.size w W → Calls Try.prog 55 #[.slice A1 k1 c1, .slice B n d] W fun e w' => e = .returned (.bool G) ∧ Below W.heap.size W w') := Lib.hid fun e0 => by
          subst e0
          have eL : LU = fun c => ec (M c) (N c) := HLU.out
          refine ⟨fun W A1 k1 c1 q hW => ?_, fun W A1 k1 c1 q hW => ?_, fun W A1 k1 c1 q hW => ?_⟩
          · obtain rfl := q.2.1 rfl
            exact Both_sh A A1 k1 k1 c c1 M _ 0 W (HA.out.up hW) (eL ▸ q.1) (bth_ec h2)
          · exact same_sh q (HA.out.up hW) ⟨rfl, fun i hi => bc_ec (good_srt g1 hi) (good_srt g2 hi)⟩
          · refine shq_arg q (HB.out.up hW) G (hG'.trans ?_)
            rw [eL]
            exact ⟨fun h => ⟨rfl, fun i hi => (win_ec (good_srt g1 hi) (good_srt g2 hi)).1 (h i hi)⟩, fun h i hi => (win_ec (good_srt g1 hi) (good_srt g2 hi)).2 (h.2 i hi)⟩
        have HZ : Hid (G = true → E1 = 0 ∧ E2 = 0) := Lib.hid fun h => win_zero g1 g2 (hG'.1 h) h1 h2
        clear h1 h2 h3 hG hG' g1 g2
        go_wp2_with fail
        refine (K6.out _ (by repeat' (first | with_reducible exact Below.refl _ _ | with_reducible exact C10 | with_reducible refine set1 ?_ (by omega) _ _ | with_reducible refine Below.alloc ?_ (by (try simp only [World.size_alloc]); omega) _ | with_reducible refine below_drewN ?_ _ | with_reducible refine Below.drew ?_))).mono ?_
        rintro e w11 ⟨A11, k11, c11, rfl, hb11, H11⟩
        have hB11_0 : HasV ((.slice A n c)) (w.heap.size) w11 := HasV.up (by unfold HasV; go_simp) hb11 (by (try simp only [World.size_alloc]); omega)
        have hB11_1 : HasV ((.slice B n d)) (w.heap.size + 1) w11 := HasV.up (by unfold HasV; go_simp) hb11 (by (try simp only [World.size_alloc]); omega)
        have hB11_2 : HasV ((.slice A4 k4 c4)) (w4.heap.size) w11 := HasV.up (by unfold HasV; go_simp) hb11 (by (try simp only [World.size_alloc]); omega)
        have hB11_3 : HasV ((.slice A6 k6 c6)) (w6.heap.size) w11 := HasV.up (by unfold HasV; go_simp) hb11 (by (try simp only [World.size_alloc]); omega)
        have C11 : Below w.heap.size w w11 := by
          refine Below.trans ?_ (hb11.mono ?_)
          · repeat' (first | with_reducible exact Below.refl _ _ | with_reducible exact C10 | with_reducible refine set1 ?_ (by omega) _ _ | with_reducible refine Below.alloc ?_ (by (try simp only [World.size_alloc]); omega) _ | with_reducible refine below_drewN ?_ _ | with_reducible refine Below.drew ?_)
          · (try simp only [World.size_alloc]); omega
        have D11 : Below w10.heap.size w10 w11 := by
          refine Below.trans ?_ (hb11.mono ?_)
          · repeat' (first | with_reducible exact Below.refl _ _ | with_reducible exact Below.refl _ _ | with_reducible refine set1 ?_ (by omega) _ _ | with_reducible refine Below.alloc ?_ (by (try simp only [World.size_alloc]); omega) _ | with_reducible refine below_drewN ?_ _ | with_reducible refine Below.drew ?_)
          · (try simp only [World.size_alloc]); omega
        have H4 := Lib.hid (H4.out.up D11)
        have H6 := Lib.hid (H6.out.up D11)
        clear D11
        clear f10_0_0 f10_1_0 f10_2_0 f10_3_0 hb11
        unfold HasV at hB11_0
        have f11_0_0 := hB11_0
        clear hB11_0
        have z11_0 : w.heap.size < w11.heap.size := World.block_lt_of_cell? _ _ f11_0_0
        unfold HasV at hB11_1
        have f11_1_0 := hB11_1
        clear hB11_1
        have z11_1 : w.heap.size + 1 < w11.heap.size := World.block_lt_of_cell? _ _ f11_1_0
        unfold HasV at hB11_2
        have f11_2_0 := hB11_2
        clear hB11_2
        have z11_2 : w4.heap.size < w11.heap.size := World.block_lt_of_cell? _ _ f11_2_0
        unfold HasV at hB11_3
        have f11_3_0 := hB11_3
        clear hB11_3
        have z11_3 : w6.heap.size < w11.heap.size := World.block_lt_of_cell? _ _ f11_3_0
        have zz11 := C11.size
        go_wp2_with fail
        refine (K7.out _ (by repeat' (first | with_reducible exact Below.refl _ _ | with_reducible exact C11 | with_reducible refine set1 ?_ (by omega) _ _ | with_reducible refine Below.alloc ?_ (by (try simp only [World.size_alloc]); omega) _ | with_reducible refine below_drewN ?_ _ | with_reducible refine Below.drew ?_))).mono ?_
        rintro e w12 ⟨A12, k12, c12, rfl, hb12, H12⟩
        have hB12_0 : HasV ((.slice A n c)) (w.heap.size) w12 := HasV.up (by unfold HasV; go_simp) hb12 (by (try simp only [World.size_alloc]); omega)
        have hB12_1 : HasV ((.slice B n d)) (w.heap.size + 1) w12 := HasV.up (by unfold HasV; go_simp) hb12 (by (try simp only [World.size_alloc]); omega)
        have hB12_2 : HasV ((.slice A4 k4 c4)) (w4.heap.size) w12 := HasV.up (by unfold HasV; go_simp) hb12 (by (try simp only [World.size_alloc]); omega)
        have hB12_3 : HasV ((.slice A6 k6 c6)) (w6.heap.size) w12 := HasV.up (by unfold HasV; go_simp) hb12 (by (try simp only [World.size_alloc]); omega)
        have hB12_4 : HasV ((.slice A11 k11 c11)) (w11.heap.size) w12 := HasV.up (by unfold HasV; go_simp) hb12 (by (try simp only [World.size_alloc]); omega)
        have C12 : Below w.heap.size w w12 := by
          refine Below.trans ?_ (hb12.mono ?_)
          · repeat' (first | with_reducible exact Below.refl _ _ | with_reducible exact C11 | with_reducible refine set1 ?_ (by omega) _ _ | with_reducible refine Below.alloc ?_ (by (try simp only [World.size_alloc]); omega) _ | with_reducible refine below_drewN ?_ _ | with_reducible refine Below.drew ?_)
          · (try simp only [World.size_alloc]); omega
        have D12 : Below w11.heap.size w11 w12 := by
          refine Below.trans ?_ (hb12.mono ?_)
          · repeat' (first | with_reducible exact Below.refl _ _ | with_reducible exact Below.refl _ _ | with_reducible refine set1 ?_ (by omega) _ _ | with_reducible refine Below.alloc ?_ (by (try simp only [World.size_alloc]); omega) _ | with_reducible refine below_drewN ?_ _ | with_reducible refine Below.drew ?_)
          · (try simp only [World.size_alloc]); omega
        have H4 := Lib.hid (H4.out.up D12)
        have H6 := Lib.hid (H6.out.up D12)
        have H11 := Lib.hid (H11.out.up D12)
        clear D12
        clear f11_0_0 f11_1_0 f11_2_0 f11_3_0 hb12
        unfold HasV at hB12_0
        have f12_0_0 := hB12_0
        clear hB12_0
        have z12_0 : w.heap.size < w12.heap.size := World.block_lt_of_cell? _ _ f12_0_0
        unfold HasV at hB12_1
        have f12_1_0 := hB12_1
        clear hB12_1
        have z12_1 : w.heap.size + 1 < w12.heap.size := World.block_lt_of_cell? _ _ f12_1_0
        unfold HasV at hB12_2
        have f12_2_0 := hB12_2
        clear hB12_2
        have z12_2 : w4.heap.size < w12.heap.size := World.block_lt_of_cell? _ _ f12_2_0
        unfold HasV at hB12_3
        have f12_3_0 := hB12_3
        clear hB12_3
        have z12_3 : w6.heap.size < w12.heap.size := World.block_lt_of_cell? _ _ f12_3_0
        unfold HasV at hB12_4
        have f12_4_0 := hB12_4
        clear hB12_4
        have z12_4 : w11.heap.size < w12.heap.size := World.block_lt_of_cell? _ _ f12_4_0
        have zz12 := C12.size
        go_wp2_with fail
        refine (Q6.out _ _ _ _ (H11.out.up (by repeat' (first | with_reducible exact Below.refl _ _ | with_reducible exact Below.refl _ _ | with_reducible refine set1 ?_ (by omega) _ _ | with_reducible refine Below.alloc ?_ (by (try simp only [World.size_alloc]); omega) _ | with_reducible refine below_drewN ?_ _ | with_reducible refine Below.drew ?_))) (by repeat' (first | with_reducible exact Below.refl _ _ | with_reducible exact C12 | with_reducible refine set1 ?_ (by omega) _ _ | with_reducible refine Below.alloc ?_ (by (try simp only [World.size_alloc]); omega) _ | with_reducible refine below_drewN ?_ _ | with_reducible refine Below.drew ?_))).mono ?_
        rintro e w13 ⟨rfl, hb13⟩
        have hB13_0 : HasV ((.slice A n c)) (w.heap.size) w13 := HasV.up (by unfold HasV; go_simp) hb13 (by (try simp only [World.size_alloc]); omega)
        have hB13_1 : HasV ((.slice B n d)) (w.heap.size + 1) w13 := HasV.up (by unfold HasV; go_simp) hb13 (by (try simp only [World.size_alloc]); omega)
        have hB13_2 : HasV ((.slice A4 k4 c4)) (w4.heap.size) w13 := HasV.up (by unfold HasV; go_simp) hb13 (by (try simp only [World.size_alloc]); omega)
        have hB13_3 : HasV ((.slice A6 k6 c6)) (w6.heap.size) w13 := HasV.up (by unfold HasV; go_simp) hb13 (by (try simp only [World.size_alloc]); omega)
        have hB13_4 : HasV ((.slice A11 k11 c11)) (w11.heap.size) w13 := HasV.up (by unfold HasV; go_simp) hb13 (by (try simp only [World.size_alloc]); omega)
        have hB13_5 : HasV ((.slice A12 k12 c12)) (w12.heap.size) w13 := HasV.up (by unfold HasV; go_simp) hb13 (by (try simp only [World.size_alloc]); omega)
        have C13 : Below w.heap.size w w13 := by
          refine Below.trans ?_ (hb13.mono ?_)
          · repeat' (first | with_reducible exact Below.refl _ _ | with_reducible exact C12 | with_reducible refine set1 ?_ (by omega) _ _ | with_reducible refine Below.alloc ?_ (by (try simp only [World.size_alloc]); omega) _ | with_reducible refine below_drewN ?_ _ | with_reducible refine Below.drew ?_)
          · (try simp only [World.size_alloc]); omega
        have D13 : Below w12.heap.size w12 w13 := by
          refine Below.trans ?_ (hb13.mono ?_)
          · repeat' (first | with_reducible exact Below.refl _ _ | with_reducible exact Below.refl _ _ | with_reducible refine set1 ?_ (by omega) _ _ | with_reducible refine Below.alloc ?_ (by (try simp only [World.size_alloc]); omega) _ | with_reducible refine below_drewN ?_ _ | with_reducible refine Below.drew ?_)
          · (try simp only [World.size_alloc]); omega
        have H4 := Lib.hid (H4.out.up D13)
        have H6 := Lib.hid (H6.out.up D13)
        have H12 := Lib.hid (H12.out.up D13)
        clear D13
        clear f12_0_0 f12_1_0 f12_2_0 f12_3_0 f12_4_0 hb13
        unfold HasV at hB13_0
        have f13_0_0 := hB13_0
        clear hB13_0
        have z13_0 : w.heap.size < w13.heap.size := World.block_lt_of_cell? _ _ f13_0_0
        unfold HasV at hB13_1
        have f13_1_0 := hB13_1
        clear hB13_1
        have z13_1 : w.heap.size + 1 < w13.heap.size := World.block_lt_of_cell? _ _ f13_1_0
        unfold HasV at hB13_2
        have f13_2_0 := hB13_2
        clear hB13_2
        have z13_2 : w4.heap.size < w13.heap.size := World.block_lt_of_cell? _ _ f13_2_0
        unfold HasV at hB13_3
        have f13_3_0 := hB13_3
        clear hB13_3
        have z13_3 : w6.heap.size < w13.heap.size := World.block_lt_of_cell? _ _ f13_3_0
        unfold HasV at hB13_4
        have f13_4_0 := hB13_4
        clear hB13_4
        have z13_4 : w11.heap.size < w13.heap.size := World.block_lt_of_cell? _ _ f13_4_0
        unfold HasV at hB13_5
        have f13_5_0 := hB13_5
        clear hB13_5
        have z13_5 : w12.heap.size < w13.heap.size := World.block_lt_of_cell? _ _ f13_5_0
        have zz13 := C13.size
        go_wp2_with fail
        refine (Q7.out _ _ _ _ (H12.out.up (by repeat' (first | with_reducible exact Below.refl _ _ | with_reducible exact Below.refl _ _ | with_reducible refine set1 ?_ (by omega) _ _ | with_reducible refine Below.alloc ?_ (by (try simp only [World.size_alloc]); omega) _ | with_reducible refine below_drewN ?_ _ | with_reducible refine Below.drew ?_))) (by repeat' (first | with_reducible exact Below.refl _ _ | with_reducible exact C13 | with_reducible refine set1 ?_ (by omega) _ _ | with_reducible refine Below.alloc ?_ (by (try simp only [World.size_alloc]); omega) _ | with_reducible refine below_drewN ?_ _ | with_reducible refine Below.drew ?_))).mono ?_
        rintro e w14 ⟨rfl, hb14⟩
        have hB14_0 : HasV ((.slice A n c)) (w.heap.size) w14 := HasV.up (by unfold HasV; go_simp) hb14 (by (try simp only [World.size_alloc]); omega)
        have hB14_1 : HasV ((.slice B n d)) (w.heap.size + 1) w14 := HasV.up (by unfold HasV; go_simp) hb14 (by (try simp only [World.size_alloc]); omega)
        have hB14_2 : HasV ((.slice A4 k4 c4)) (w4.heap.size) w14 := HasV.up (by unfold HasV; go_simp) hb14 (by (try simp only [World.size_alloc]); omega)
        have hB14_3 : HasV ((.slice A6 k6 c6)) (w6.heap.size) w14 := HasV.up (by unfold HasV; go_simp) hb14 (by (try simp only [World.size_alloc]); omega)
        have C14 : Below w.heap.size w w14 := by
          refine Below.trans ?_ (hb14.mono ?_)
          · repeat' (first | with_reducible exact Below.refl _ _ | with_reducible exact C13 | with_reducible refine set1 ?_ (by omega) _ _ | with_reducible refine Below.alloc ?_ (by (try simp only [World.size_alloc]); omega) _ | with_reducible refine below_drewN ?_ _ | with_reducible refine Below.drew ?_)
          · (try simp only [World.size_alloc]); omega
        have D14 : Below w13.heap.size w13 w14 := by
          refine Below.trans ?_ (hb14.mono ?_)
          · repeat' (first | with_reducible exact Below.refl _ _ | with_reducible exact Below.refl _ _ | with_reducible refine set1 ?_ (by omega) _ _ | with_reducible refine Below.alloc ?_ (by (try simp only [World.size_alloc]); omega) _ | with_reducible refine below_drewN ?_ _ | with_reducible refine Below.drew ?_)
          · (try simp only [World.size_alloc]); omega
        have H4 := Lib.hid (H4.out.up D14)
        have H6 := Lib.hid (H6.out.up D14)
        clear D14
        clear f13_0_0 f13_1_0 f13_2_0 f13_3_0 f13_4_0 f13_5_0 hb14
        unfold HasV at hB14_0
        have f14_0_0 := hB14_0
        clear hB14_0
        have z14_0 : w.heap.size < w14.heap.size := World.block_lt_of_cell? _ _ f14_0_0
        unfold HasV at hB14_1
        have f14_1_0 := hB14_1
        clear hB14_1
        have z14_1 : w.heap.size + 1 < w14.heap.size := World.block_lt_of_cell? _ _ f14_1_0
        unfold HasV at hB14_2
        have f14_2_0 := hB14_2
        clear hB14_2
        have z14_2 : w4.heap.size < w14.heap.size := World.block_lt_of_cell? _ _ f14_2_0
        unfold HasV at hB14_3
        have f14_3_0 := hB14_3
        clear hB14_3
        have z14_3 : w6.heap.size < w14.heap.size := World.block_lt_of_cell? _ _ f14_3_0
        have zz14 := C14.size
        by_cases e1 : E1 = 0
        · subst e1
          obtain ⟨X1a, X1b, X1c⟩ := X1.out rfl
          have Z1 := Lib.hid X1a
          have Z2 := Lib.hid X1b
          have Z3 := Lib.hid X1c
          clear X1a X1b X1c
          go_wp2_with fail
          refine (Z1.out _ _ _ _ (H4.out.up (by repeat' (first | with_reducible exact Below.refl _ _ | with_reducible exact Below.refl _ _ | with_reducible refine set1 ?_ (by omega) _ _ | with_reducible refine Below.alloc ?_ (by (try simp only [World.size_alloc]); omega) _ | with_reducible refine below_drewN ?_ _ | with_reducible refine Below.drew ?_))) (by repeat' (first | with_reducible exact Below.refl _ _ | with_reducible exact C14 | with_reducible refine set1 ?_ (by omega) _ _ | with_reducible refine Below.alloc ?_ (by (try simp only [World.size_alloc]); omega) _ | with_reducible refine below_drewN ?_ _ | with_reducible refine Below.drew ?_))).mono ?_
          rintro e w15 ⟨A15, k15, c15, rfl, hb15, H15⟩
          have hB15_0 : HasV ((.slice A n c)) (w.heap.size) w15 := HasV.up (by unfold HasV; go_simp) hb15 (by (try simp only [World.size_alloc]); omega)
          have hB15_1 : HasV ((.slice B n d)) (w.heap.size + 1) w15 := HasV.up (by unfold HasV; go_simp) hb15 (by (try simp only [World.size_alloc]); omega)
          have hB15_2 : HasV ((.slice A4 k4 c4)) (w4.heap.size) w15 := HasV.up (by unfold HasV; go_simp) hb15 (by (try simp only [World.size_alloc]); omega)
          have hB15_3 : HasV ((.slice A6 k6 c6)) (w6.heap.size) w15 := HasV.up (by unfold HasV; go_simp) hb15 (by (try simp only [World.size_alloc]); omega)
          have C15 : Below w.heap.size w w15 := by
            refine Below.trans ?_ (hb15.mono ?_)
            · repeat' (first | with_reducible exact Below.refl _ _ | with_reducible exact C14 | with_reducible refine set1 ?_ (by omega) _ _ | with_reducible refine Below.alloc ?_ (by (try simp only [World.size_alloc]); omega) _ | with_reducible refine below_drewN ?_ _ | with_reducible refine Below.drew ?_)
            · (try simp only [World.size_alloc]); omega
          have D15 : Below w14.heap.size w14 w15 := by
            refine Below.trans ?_ (hb15.mono ?_)
            · repeat' (first | with_reducible exact Below.refl _ _ | with_reducible exact Below.refl _ _ | with_reducible refine set1 ?_ (by omega) _ _ | with_reducible refine Below.alloc ?_ (by (try simp only [World.size_alloc]); omega) _ | with_reducible refine below_drewN ?_ _ | with_reducible refine Below.drew ?_)
            · (try simp only [World.size_alloc]); omega
          have H4 := Lib.hid (H4.out.up D15)
          have H6 := Lib.hid (H6.out.up D15)
          clear D15
          clear f14_0_0 f14_1_0 f14_2_0 f14_3_0 hb15
          unfold HasV at hB15_0
          have f15_0_0 := hB15_0
          clear hB15_0
          have z15_0 : w.heap.size < w15.heap.size := World.block_lt_of_cell? _ _ f15_0_0
          unfold HasV at hB15_1
          have f15_1_0 := hB15_1
          clear hB15_1
          have z15_1 : w.heap.size + 1 < w15.heap.size := World.block_lt_of_cell? _ _ f15_1_0
          unfold HasV at hB15_2
          have f15_2_0 := hB15_2
          clear hB15_2
          have z15_2 : w4.heap.size < w15.heap.size := World.block_lt_of_cell? _ _ f15_2_0
          unfold HasV at hB15_3
          have f15_3_0 := hB15_3
          clear hB15_3
          have z15_3 : w6.heap.size < w15.heap.size := World.block_lt_of_cell? _ _ f15_3_0
          have zz15 := C15.size
          go_wp2_with fail
          refine (Z2.out _ _ _ _ (H15.out.up (by repeat' (first | with_reducible exact Below.refl _ _ | with_reducible exact Below.refl _ _ | with_reducible refine set1 ?_ (by omega) _ _ | with_reducible refine Below.alloc ?_ (by (try simp only [World.size_alloc]); omega) _ | with_reducible refine below_drewN ?_ _ | with_reducible refine Below.drew ?_))) (by repeat' (first | with_reducible exact Below.refl _ _ | with_reducible exact C15 | with_reducible refine set1 ?_ (by omega) _ _ | with_reducible refine Below.alloc ?_ (by (try simp only [World.size_alloc]); omega) _ | with_reducible refine below_drewN ?_ _ | with_reducible refine Below.drew ?_))).mono ?_
          rintro e w16 ⟨rfl, hb16⟩
          have hB16_0 : HasV ((.slice A n c)) (w.heap.size) w16 := HasV.up (by unfold HasV; go_simp) hb16 (by (try simp only [World.size_alloc]); omega)
          have hB16_1 : HasV ((.slice B n d)) (w.heap.size + 1) w16 := HasV.up (by unfold HasV; go_simp) hb16 (by (try simp only [World.size_alloc]); omega)
          have hB16_2 : HasV ((.slice A4 k4 c4)) (w4.heap.size) w16 := HasV.up (by unfold HasV; go_simp) hb16 (by (try simp only [World.size_alloc]); omega)
          have hB16_3 : HasV ((.slice A6 k6 c6)) (w6.heap.size) w16 := HasV.up (by unfold HasV; go_simp) hb16 (by (try simp only [World.size_alloc]); omega)
          have hB16_4 : HasV ((.slice A15 k15 c15)) (w15.heap.size) w16 := HasV.up (by unfold HasV; go_simp) hb16 (by (try simp only [World.size_alloc]); omega)
          have C16 : Below w.heap.size w w16 := by
            refine Below.trans ?_ (hb16.mono ?_)
            · repeat' (first | with_reducible exact Below.refl _ _ | with_reducible exact C15 | with_reducible refine set1 ?_ (by omega) _ _ | with_reducible refine Below.alloc ?_ (by (try simp only [World.size_alloc]); omega) _ | with_reducible refine below_drewN ?_ _ | with_reducible refine Below.drew ?_)
            · (try simp only [World.size_alloc]); omega
          have D16 : Below w15.heap.size w15 w16 := by
            refine Below.trans ?_ (hb16.mono ?_)
            · repeat' (first | with_reducible exact Below.refl _ _ | with_reducible exact Below.refl _ _ | with_reducible refine set1 ?_ (by omega) _ _ | with_reducible refine Below.alloc ?_ (by (try simp only [World.size_alloc]); omega) _ | with_reducible refine below_drewN ?_ _ | with_reducible refine Below.drew ?_)
            · (try simp only [World.size_alloc]); omega
          have H4 := Lib.hid (H4.out.up D16)
          have H6 := Lib.hid (H6.out.up D16)
          clear D16
          clear f15_0_0 f15_1_0 f15_2_0 f15_3_0 hb16
          unfold HasV at hB16_0
          have f16_0_0 := hB16_0
          clear hB16_0
          have z16_0 : w.heap.size < w16.heap.size := World.block_lt_of_cell? _ _ f16_0_0
          unfold HasV at hB16_1
          have f16_1_0 := hB16_1
          clear hB16_1
          have z16_1 : w.heap.size + 1 < w16.heap.size := World.block_lt_of_cell? _ _ f16_1_0
          unfold HasV at hB16_2
          have f16_2_0 := hB16_2
          clear hB16_2
          have z16_2 : w4.heap.size < w16.heap.size := World.block_lt_of_cell? _ _ f16_2_0
          unfold HasV at hB16_3
          have f16_3_0 := hB16_3
          clear hB16_3
          have z16_3 : w6.heap.size < w16.heap.size := World.block_lt_of_cell? _ _ f16_3_0
          unfold HasV at hB16_4
          have f16_4_0 := hB16_4
          clear hB16_4
          have z16_4 : w15.heap.size < w16.heap.size := World.block_lt_of_cell? _ _ f16_4_0
          have zz16 := C16.size
          go_wp2_with fail
          refine (Z3.out _ _ _ _ (H4.out.up (by repeat' (first | with_reducible exact Below.refl _ _ | with_reducible exact Below.refl _ _ | with_reducible refine set1 ?_ (by omega) _ _ | with_reducible refine Below.alloc ?_ (by (try simp only [World.size_alloc]); omega) _ | with_reducible refine below_drewN ?_ _ | with_reducible refine Below.drew ?_))) (by repeat' (first | with_reducible exact Below.refl _ _ | with_reducible exact C16 | with_reducible refine set1 ?_ (by omega) _ _ | with_reducible refine Below.alloc ?_ (by (try simp only [World.size_alloc]); omega) _ | with_reducible refine below_drewN ?_ _ | with_reducible refine Below.drew ?_))).mono ?_
          rintro e w17 ⟨rfl, hb17⟩
          have hB17_0 : HasV ((.slice A n c)) (w.heap.size) w17 := HasV.up (by unfold HasV; go_simp) hb17 (by (try simp only [World.size_alloc]); omega)
          have hB17_1 : HasV ((.slice B n d)) (w.heap.size + 1) w17 := HasV.up (by unfold HasV; go_simp) hb17 (by (try simp only [World.size_alloc]); omega)
          have hB17_2 : HasV ((.slice A4 k4 c4)) (w4.heap.size) w17 := HasV.up (by unfold HasV; go_simp) hb17 (by (try simp only [World.size_alloc]); omega)
          have hB17_3 : HasV ((.slice A6 k6 c6)) (w6.heap.size) w17 := HasV.up (by unfold HasV; go_simp) hb17 (by (try simp only [World.size_alloc]); omega)
          have C17 : Below w.heap.size w w17 := by
            refine Below.trans ?_ (hb17.mono ?_)
            · repeat' (first | with_reducible exact Below.refl _ _ | with_reducible exact C16 | with_reducible refine set1 ?_ (by omega) _ _ | with_reducible refine Below.alloc ?_ (by (try simp only [World.size_alloc]); omega) _ | with_reducible refine below_drewN ?_ _ | with_reducible refine Below.drew ?_)
            · (try simp only [World.size_alloc]); omega
          have D17 : Below w16.heap.size w16 w17 := by
            refine Below.trans ?_ (hb17.mono ?_)
            · repeat' (first | with_reducible exact Below.refl _ _ | with_reducible exact Below.refl _ _ | with_reducible refine set1 ?_ (by omega) _ _ | with_reducible refine Below.alloc ?_ (by (try simp only [World.size_alloc]); omega) _ | with_reducible refine below_drewN ?_ _ | with_reducible refine Below.drew ?_)
            · (try simp only [World.size_alloc]); omega
          have H6 := Lib.hid (H6.out.up D17)
          clear D17
          clear f16_0_0 f16_1_0 f16_2_0 f16_3_0 f16_4_0 hb17
          unfold HasV at hB17_0
          have f17_0_0 := hB17_0
          clear hB17_0
          have z17_0 : w.heap.size < w17.heap.size := World.block_lt_of_cell? _ _ f17_0_0
          unfold HasV at hB17_1
          have f17_1_0 := hB17_1
          clear hB17_1
          have z17_1 : w.heap.size + 1 < w17.heap.size := World.block_lt_of_cell? _ _ f17_1_0
          unfold HasV at hB17_2
          have f17_2_0 := hB17_2
          clear hB17_2
          have z17_2 : w4.heap.size < w17.heap.size := World.block_lt_of_cell? _ _ f17_2_0
          unfold HasV at hB17_3
          have f17_3_0 := hB17_3
          clear hB17_3
          have z17_3 : w6.heap.size < w17.heap.size := World.block_lt_of_cell? _ _ f17_3_0
          have zz17 := C17.size
          skip
          by_cases e2 : E2 = 0
          · subst e2
            obtain ⟨X2a, X2b, X2c⟩ := X2.out rfl
            have Y1 := Lib.hid X2a
            have Y2 := Lib.hid X2b
            have Y3 := Lib.hid X2c
            clear X2a X2b X2c
            go_wp2_with fail
            refine (Y1.out _ _ _ _ (H6.out.up (by repeat' (first | with_reducible exact Below.refl _ _ | with_reducible exact Below.refl _ _ | with_reducible refine set1 ?_ (by omega) _ _ | with_reducible refine Below.alloc ?_ (by (try simp only [World.size_alloc]); omega) _ | with_reducible refine below_drewN ?_ _ | with_reducible refine Below.drew ?_))) (by repeat' (first | with_reducible exact Below.refl _ _ | with_reducible exact C17 | with_reducible refine set1 ?_ (by omega) _ _ | with_reducible refine Below.alloc ?_ (by (try simp only [World.size_alloc]); omega) _ | with_reducible refine below_drewN ?_ _ | with_reducible refine Below.drew ?_))).mono ?_
            rintro e w18 ⟨A18, k18, c18, rfl, hb18, H18⟩
            have hB18_0 : HasV ((.slice A n c)) (w.heap.size) w18 := HasV.up (by unfold HasV; go_simp) hb18 (by (try simp only [World.size_alloc]); omega)
            have hB18_1 : HasV ((.slice B n d)) (w.heap.size + 1) w18 := HasV.up (by unfold HasV; go_simp) hb18 (by (try simp only [World.size_alloc]); omega)
            have hB18_2 : HasV ((.slice A4 k4 c4)) (w4.heap.size) w18 := HasV.up (by unfold HasV; go_simp) hb18 (by (try simp only [World.size_alloc]); omega)
            have hB18_3 : HasV ((.slice A6 k6 c6)) (w6.heap.size) w18 := HasV.up (by unfold HasV; go_simp) hb18 (by (try simp only [World.size_alloc]); omega)
            have C18 : Below w.heap.size w w18 := by
              refine Below.trans ?_ (hb18.mono ?_)
              · repeat' (first | with_reducible exact Below.refl _ _ | with_reducible exact C17 | with_reducible refine set1 ?_ (by omega) _ _ | with_reducible refine Below.alloc ?_ (by (try simp only [World.size_alloc]); omega) _ | with_reducible refine below_drewN ?_ _ | with_reducible refine Below.drew ?_)
              · (try simp only [World.size_alloc]); omega
            have D18 : Below w17.heap.size w17 w18 := by
              refine Below.trans ?_ (hb18.mono ?_)
              · repeat' (first | with_reducible exact Below.refl _ _ | with_reducible exact Below.refl _ _ | with_reducible refine set1 ?_ (by omega) _ _ | with_reducible refine Below.alloc ?_ (by (try simp only [World.size_alloc]); omega) _ | with_reducible refine below_drewN ?_ _ | with_reducible refine Below.drew ?_)
              · (try simp only [World.size_alloc]); omega
            have H6 := Lib.hid (H6.out.up D18)
            clear D18
            clear f17_0_0 f17_1_0 f17_2_0 f17_3_0 hb18
            unfold HasV at hB18_0
            have f18_0_0 := hB18_0
            clear hB18_0
            have z18_0 : w.heap.size < w18.heap.size := World.block_lt_of_cell? _ _ f18_0_0
            unfold HasV at hB18_1
            have f18_1_0 := hB18_1
            clear hB18_1
            have z18_1 : w.heap.size + 1 < w18.heap.size := World.block_lt_of_cell? _ _ f18_1_0
            unfold HasV at hB18_2
            have f18_2_0 := hB18_2
            clear hB18_2
            have z18_2 : w4.heap.size < w18.heap.size := World.block_lt_of_cell? _ _ f18_2_0
            unfold HasV at hB18_3
            have f18_3_0 := hB18_3
            clear hB18_3
            have z18_3 : w6.heap.size < w18.heap.size := World.block_lt_of_cell? _ _ f18_3_0
            have zz18 := C18.size
            go_wp2_with fail
            refine (Y2.out _ _ _ _ (H18.out.up (by repeat' (first | with_reducible exact Below.refl _ _ | with_reducible exact Below.refl _ _ | with_reducible refine set1 ?_ (by omega) _ _ | with_reducible refine Below.alloc ?_ (by (try simp only [World.size_alloc]); omega) _ | with_reducible refine below_drewN ?_ _ | with_reducible refine Below.drew ?_))) (by repeat' (first | with_reducible exact Below.refl _ _ | with_reducible exact C18 | with_reducible refine set1 ?_ (by omega) _ _ | with_reducible refine Below.alloc ?_ (by (try simp only [World.size_alloc]); omega) _ | with_reducible refine below_drewN ?_ _ | with_reducible refine Below.drew ?_))).mono ?_
            rintro e w19 ⟨rfl, hb19⟩
            have hB19_0 : HasV ((.slice A n c)) (w.heap.size) w19 := HasV.up (by unfold HasV; go_simp) hb19 (by (try simp only [World.size_alloc]); omega)
            have hB19_1 : HasV ((.slice B n d)) (w.heap.size + 1) w19 := HasV.up (by unfold HasV; go_simp) hb19 (by (try simp only [World.size_alloc]); omega)
            have hB19_2 : HasV ((.slice A4 k4 c4)) (w4.heap.size) w19 := HasV.up (by unfold HasV; go_simp) hb19 (by (try simp only [World.size_alloc]); omega)
            have hB19_3 : HasV ((.slice A6 k6 c6)) (w6.heap.size) w19 := HasV.up (by unfold HasV; go_simp) hb19 (by (try simp only [World.size_alloc]); omega)
            have hB19_4 : HasV ((.slice A18 k18 c18)) (w18.heap.size) w19 := HasV.up (by unfold HasV; go_simp) hb19 (by (try simp only [World.size_alloc]); omega)
            have C19 : Below w.heap.size w w19 := by
              refine Below.trans ?_ (hb19.mono ?_)
              · repeat' (first | with_reducible exact Below.refl _ _ | with_reducible exact C18 | with_reducible refine set1 ?_ (by omega) _ _ | with_reducible refine Below.alloc ?_ (by (try simp only [World.size_alloc]); omega) _ | with_reducible refine below_drewN ?_ _ | with_reducible refine Below.drew ?_)
              · (try simp only [World.size_alloc]); omega
            have D19 : Below w18.heap.size w18 w19 := by
              refine Below.trans ?_ (hb19.mono ?_)
              · repeat' (first | with_reducible exact Below.refl _ _ | with_reducible exact Below.refl _ _ | with_reducible refine set1 ?_ (by omega) _ _ | with_reducible refine Below.alloc ?_ (by (try simp only [World.size_alloc]); omega) _ | with_reducible refine below_drewN ?_ _ | with_reducible refine Below.drew ?_)
              · (try simp only [World.size_alloc]); omega
            have H6 := Lib.hid (H6.out.up D19)
            clear D19
            clear f18_0_0 f18_1_0 f18_2_0 f18_3_0 hb19
            unfold HasV at hB19_0
            have f19_0_0 := hB19_0
            clear hB19_0
            have z19_0 : w.heap.size < w19.heap.size := World.block_lt_of_cell? _ _ f19_0_0
            unfold HasV at hB19_1
            have f19_1_0 := hB19_1
            clear hB19_1
            have z19_1 : w.heap.size + 1 < w19.heap.size := World.block_lt_of_cell? _ _ f19_1_0
            unfold HasV at hB19_2
            have f19_2_0 := hB19_2
            clear hB19_2
            have z19_2 : w4.heap.size < w19.heap.size := World.block_lt_of_cell? _ _ f19_2_0
            unfold HasV at hB19_3
            have f19_3_0 := hB19_3
            clear hB19_3
            have z19_3 : w6.heap.size < w19.heap.size := World.block_lt_of_cell? _ _ f19_3_0
            unfold HasV at hB19_4
            have f19_4_0 := hB19_4
            clear hB19_4
            have z19_4 : w18.heap.size < w19.heap.size := World.block_lt_of_cell? _ _ f19_4_0
            have zz19 := C19.size
            go_wp2_with fail
            refine (Y3.out _ _ _ _ (H6.out.up (by repeat' (first | with_reducible exact Below.refl _ _ | with_reducible exact Below.refl _ _ | with_reducible refine set1 ?_ (by omega) _ _ | with_reducible refine Below.alloc ?_ (by (try simp only [World.size_alloc]); omega) _ | with_reducible refine below_drewN ?_ _ | with_reducible refine Below.drew ?_))) (by repeat' (first | with_reducible exact Below.refl _ _ | with_reducible exact C19 | with_reducible refine set1 ?_ (by omega) _ _ | with_reducible refine Below.alloc ?_ (by (try simp only [World.size_alloc]); omega) _ | with_reducible refine below_drewN ?_ _ | with_reducible refine Below.drew ?_))).mono ?_
            rintro e w20 ⟨rfl, hb20⟩
            have hB20_0 : HasV ((.slice A n c)) (w.heap.size) w20 := HasV.up (by unfold HasV; go_simp) hb20 (by (try simp only [World.size_alloc]); omega)
            have hB20_1 : HasV ((.slice B n d)) (w.heap.size + 1) w20 := HasV.up (by unfold HasV; go_simp) hb20 (by (try simp only [World.size_alloc]); omega)
            have hB20_2 : HasV ((.slice A4 k4 c4)) (w4.heap.size) w20 := HasV.up (by unfold HasV; go_simp) hb20 (by (try simp only [World.size_alloc]); omega)
            have hB20_3 : HasV ((.slice A6 k6 c6)) (w6.heap.size) w20 := HasV.up (by unfold HasV; go_simp) hb20 (by (try simp only [World.size_alloc]); omega)
            have hB20_4 : HasV ((.slice A18 k18 c18)) (w18.heap.size) w20 := HasV.up (by unfold HasV; go_simp) hb20 (by (try simp only [World.size_alloc]); omega)
            have C20 : Below w.heap.size w w20 := by
              refine Below.trans ?_ (hb20.mono ?_)
              · repeat' (first | with_reducible exact Below.refl _ _ | with_reducible exact C19 | with_reducible refine set1 ?_ (by omega) _ _ | with_reducible refine Below.alloc ?_ (by (try simp only [World.size_alloc]); omega) _ | with_reducible refine below_drewN ?_ _ | with_reducible refine Below.drew ?_)
              · (try simp only [World.size_alloc]); omega
            clear f19_0_0 f19_1_0 f19_2_0 f19_3_0 f19_4_0 hb20
            unfold HasV at hB20_0
            have f20_0_0 := hB20_0
            clear hB20_0
            have z20_0 : w.heap.size < w20.heap.size := World.block_lt_of_cell? _ _ f20_0_0
            unfold HasV at hB20_1
            have f20_1_0 := hB20_1
            clear hB20_1
            have z20_1 : w.heap.size + 1 < w20.heap.size := World.block_lt_of_cell? _ _ f20_1_0
            unfold HasV at hB20_2
            have f20_2_0 := hB20_2
            clear hB20_2
            have z20_2 : w4.heap.size < w20.heap.size := World.block_lt_of_cell? _ _ f20_2_0
            unfold HasV at hB20_3
            have f20_3_0 := hB20_3
            clear hB20_3
            have z20_3 : w6.heap.size < w20.heap.size := World.block_lt_of_cell? _ _ f20_3_0
            unfold HasV at hB20_4
            have f20_4_0 := hB20_4
            clear hB20_4
            have z20_4 : w18.heap.size < w20.heap.size := World.block_lt_of_cell? _ _ f20_4_0
            have zz20 := C20.size
            cases G with
            | true =>
              go_wp2_with fail
              go_ret
              exact ⟨rfl, C20⟩
            | false =>
              go_wp2_with fail
              go_ret
              exact ⟨rfl, C20⟩
          · have d1 : (E2 == 0) = false := by simpa using e2
            have d2 : (E2 != 0) = true := by simpa using e2
            obtain rfl : G = false := by
              cases G with
              | false => rfl
              | true => exact absurd (HZ.out rfl).2 e2
            go_wp2_with fail
            go_ret
            exact ⟨rfl, C17⟩
        · have d1 : (E1 == 0) = false := by simpa using e1
          have d2 : (E1 != 0) = true := by simpa using e1
          obtain rfl : G = false := by
            cases G with
            | false => rfl
            | true => exact absurd (HZ.out rfl).1 e1
          by_cases e2 : E2 = 0
          · subst e2
            obtain ⟨X2a, X2b, X2c⟩ := X2.out rfl
            have Y1 := Lib.hid X2a
            have Y2 := Lib.hid X2b
            have Y3 := Lib.hid X2c
            clear X2a X2b X2c
            go_wp2_with fail
            refine (Y1.out _ _ _ _ (H6.out.up (by repeat' (first | with_reducible exact Below.refl _ _ | with_reducible exact Below.refl _ _ | with_reducible refine set1 ?_ (by omega) _ _ | with_reducible refine Below.alloc ?_ (by (try simp only [World.size_alloc]); omega) _ | with_reducible refine below_drewN ?_ _ | with_reducible refine Below.drew ?_))) (by repeat' (first | with_reducible exact Below.refl _ _ | with_reducible exact C14 | with_reducible refine set1 ?_ (by omega) _ _ | with_reducible refine Below.alloc ?_ (by (try simp only [World.size_alloc]); omega) _ | with_reducible refine below_drewN ?_ _ | with_reducible refine Below.drew ?_))).mono ?_
            rintro e w15 ⟨A15, k15, c15, rfl, hb15, H15⟩
            have hB15_0 : HasV ((.slice A n c)) (w.heap.size) w15 := HasV.up (by unfold HasV; go_simp) hb15 (by (try simp only [World.size_alloc]); omega)
            have hB15_1 : HasV ((.slice B n d)) (w.heap.size + 1) w15 := HasV.up (by unfold HasV; go_simp) hb15 (by (try simp only [World.size_alloc]); omega)
            have hB15_2 : HasV ((.slice A4 k4 c4)) (w4.heap.size) w15 := HasV.up (by unfold HasV; go_simp) hb15 (by (try simp only [World.size_alloc]); omega)
            have hB15_3 : HasV ((.slice A6 k6 c6)) (w6.heap.size) w15 := HasV.up (by unfold HasV; go_simp) hb15 (by (try simp only [World.size_alloc]); omega)
            have C15 : Below w.heap.size w w15 := by
              refine Below.trans ?_ (hb15.mono ?_)
              · repeat' (first | with_reducible exact Below.refl _ _ | with_reducible exact C14 | with_reducible refine set1 ?_ (by omega) _ _ | with_reducible refine Below.alloc ?_ (by (try simp only [World.size_alloc]); omega) _ | with_reducible refine below_drewN ?_ _ | with_reducible refine Below.drew ?_)
              · (try simp only [World.size_alloc]); omega
            have D15 : Below w14.heap.size w14 w15 := by
              refine Below.trans ?_ (hb15.mono ?_)
              · repeat' (first | with_reducible exact Below.refl _ _ | with_reducible exact Below.refl _ _ | with_reducible refine set1 ?_ (by omega) _ _ | with_reducible refine Below.alloc ?_ (by (try simp only [World.size_alloc]); omega) _ | with_reducible refine below_drewN ?_ _ | with_reducible refine Below.drew ?_)
              · (try simp only [World.size_alloc]); omega
            have H6 := Lib.hid (H6.out.up D15)
            clear D15
            clear f14_0_0 f14_1_0 f14_2_0 f14_3_0 hb15
            unfold HasV at hB15_0
            have f15_0_0 := hB15_0
            clear hB15_0
            have z15_0 : w.heap.size < w15.heap.size := World.block_lt_of_cell? _ _ f15_0_0
            unfold HasV at hB15_1
            have f15_1_0 := hB15_1
            clear hB15_1
            have z15_1 : w.heap.size + 1 < w15.heap.size := World.block_lt_of_cell? _ _ f15_1_0
            unfold HasV at hB15_2
            have f15_2_0 := hB15_2
            clear hB15_2
            have z15_2 : w4.heap.size < w15.heap.size := World.block_lt_of_cell? _ _ f15_2_0
            unfold HasV at hB15_3
            have f15_3_0 := hB15_3
            clear hB15_3
            have z15_3 : w6.heap.size < w15.heap.size := World.block_lt_of_cell? _ _ f15_3_0
            have zz15 := C15.size
            go_wp2_with fail
            refine (Y2.out _ _ _ _ (H15.out.up (by repeat' (first | with_reducible exact Below.refl _ _ | with_reducible exact Below.refl _ _ | with_reducible refine set1 ?_ (by omega) _ _ | with_reducible refine Below.alloc ?_ (by (try simp only [World.size_alloc]); omega) _ | with_reducible refine below_drewN ?_ _ | with_reducible refine Below.drew ?_))) (by repeat' (first | with_reducible exact Below.refl _ _ | with_reducible exact C15 | with_reducible refine set1 ?_ (by omega) _ _ | with_reducible refine Below.alloc ?_ (by (try simp only [World.size_alloc]); omega) _ | with_reducible refine below_drewN ?_ _ | with_reducible refine Below.drew ?_))).mono ?_
            rintro e w16 ⟨rfl, hb16⟩
            have hB16_0 : HasV ((.slice A n c)) (w.heap.size) w16 := HasV.up (by unfold HasV; go_simp) hb16 (by (try simp only [World.size_alloc]); omega)
            have hB16_1 : HasV ((.slice B n d)) (w.heap.size + 1) w16 := HasV.up (by unfold HasV; go_simp) hb16 (by (try simp only [World.size_alloc]); omega)
            have hB16_2 : HasV ((.slice A4 k4 c4)) (w4.heap.size) w16 := HasV.up (by unfold HasV; go_simp) hb16 (by (try simp only [World.size_alloc]); omega)
            have hB16_3 : HasV ((.slice A6 k6 c6)) (w6.heap.size) w16 := HasV.up (by unfold HasV; go_simp) hb16 (by (try simp only [World.size_alloc]); omega)
            have hB16_4 : HasV ((.slice A15 k15 c15)) (w15.heap.size) w16 := HasV.up (by unfold HasV; go_simp) hb16 (by (try simp only [World.size_alloc]); omega)
            have C16 : Below w.heap.size w w16 := by
              refine Below.trans ?_ (hb16.mono ?_)
              · repeat' (first | with_reducible exact Below.refl _ _ | with_reducible exact C15 | with_reducible refine set1 ?_ (by omega) _ _ | with_reducible refine Below.alloc ?_ (by (try simp only [World.size_alloc]); omega) _ | with_reducible refine below_drewN ?_ _ | with_reducible refine Below.drew ?_)
              · (try simp only [World.size_alloc]); omega
            have D16 : Below w15.heap.size w15 w16 := by
              refine Below.trans ?_ (hb16.mono ?_)
              · repeat' (first | with_reducible exact Below.refl _ _ | with_reducible exact Below.refl _ _ | with_reducible refine set1 ?_ (by omega) _ _ | with_reducible refine Below.alloc ?_ (by (try simp only [World.size_alloc]); omega) _ | with_reducible refine below_drewN ?_ _ | with_reducible refine Below.drew ?_)
              · (try simp only [World.size_alloc]); omega
            have H6 := Lib.hid (H6.out.up D16)
            clear D16
            clear f15_0_0 f15_1_0 f15_2_0 f15_3_0 hb16
            unfold HasV at hB16_0
            have f16_0_0 := hB16_0
            clear hB16_0
            have z16_0 : w.heap.size < w16.heap.size := World.block_lt_of_cell? _ _ f16_0_0
            unfold HasV at hB16_1
            have f16_1_0 := hB16_1
            clear hB16_1
            have z16_1 : w.heap.size + 1 < w16.heap.size := World.block_lt_of_cell? _ _ f16_1_0
            unfold HasV at hB16_2
            have f16_2_0 := hB16_2
            clear hB16_2
            have z16_2 : w4.heap.size < w16.heap.size := World.block_lt_of_cell? _ _ f16_2_0
            unfold HasV at hB16_3
            have f16_3_0 := hB16_3
            clear hB16_3
            have z16_3 : w6.heap.size < w16.heap.size := World.block_lt_of_cell? _ _ f16_3_0
            unfold HasV at hB16_4
            have f16_4_0 := hB16_4
            clear hB16_4
            have z16_4 : w15.heap.size < w16.heap.size := World.block_lt_of_cell? _ _ f16_4_0
            have zz16 := C16.size
            go_wp2_with fail
            refine (Y3.out _ _ _ _ (H6.out.up (by repeat' (first | with_reducible exact Below.refl _ _ | with_reducible exact Below.refl _ _ | with_reducible refine set1 ?_ (by omega) _ _ | with_reducible refine Below.alloc ?_ (by (try simp only [World.size_alloc]); omega) _ | with_reducible refine below_drewN ?_ _ | with_reducible refine Below.drew ?_))) (by repeat' (first | with_reducible exact Below.refl _ _ | with_reducible exact C16 | with_reducible refine set1 ?_ (by omega) _ _ | with_reducible refine Below.alloc ?_ (by (try simp only [World.size_alloc]); omega) _ | with_reducible refine below_drewN ?_ _ | with_reducible refine Below.drew ?_))).mono ?_
            rintro e w17 ⟨rfl, hb17⟩
            have hB17_0 : HasV ((.slice A n c)) (w.heap.size) w17 := HasV.up (by unfold HasV; go_simp) hb17 (by (try simp only [World.size_alloc]); omega)
            have hB17_1 : HasV ((.slice B n d)) (w.heap.size + 1) w17 := HasV.up (by unfold HasV; go_simp) hb17 (by (try simp only [World.size_alloc]); omega)
            have hB17_2 : HasV ((.slice A4 k4 c4)) (w4.heap.size) w17 := HasV.up (by unfold HasV; go_simp) hb17 (by (try simp only [World.size_alloc]); omega)
            have hB17_3 : HasV ((.slice A6 k6 c6)) (w6.heap.size) w17 := HasV.up (by unfold HasV; go_simp) hb17 (by (try simp only [World.size_alloc]); omega)
            have hB17_4 : HasV ((.slice A15 k15 c15)) (w15.heap.size) w17 := HasV.up (by unfold HasV; go_simp) hb17 (by (try simp only [World.size_alloc]); omega)
            have C17 : Below w.heap.size w w17 := by
              refine Below.trans ?_ (hb17.mono ?_)
              · repeat' (first | with_reducible exact Below.refl _ _ | with_reducible exact C16 | with_reducible refine set1 ?_ (by omega) _ _ | with_reducible refine Below.alloc ?_ (by (try simp only [World.size_alloc]); omega) _ | with_reducible refine below_drewN ?_ _ | with_reducible refine Below.drew ?_)
              · (try simp only [World.size_alloc]); omega
            clear f16_0_0 f16_1_0 f16_2_0 f16_3_0 f16_4_0 hb17
            unfold HasV at hB17_0
            have f17_0_0 := hB17_0
            clear hB17_0
            have z17_0 : w.heap.size < w17.heap.size := World.block_lt_of_cell? _ _ f17_0_0
            unfold HasV at hB17_1
            have f17_1_0 := hB17_1
            clear hB17_1
            have z17_1 : w.heap.size + 1 < w17.heap.size := World.block_lt_of_cell? _ _ f17_1_0
            unfold HasV at hB17_2
            have f17_2_0 := hB17_2
            clear hB17_2
            have z17_2 : w4.heap.size < w17.heap.size := World.block_lt_of_cell? _ _ f17_2_0
            unfold HasV at hB17_3
            have f17_3_0 := hB17_3
            clear hB17_3
            have z17_3 : w6.heap.size < w17.heap.size := World.block_lt_of_cell? _ _ f17_3_0
            unfold HasV at hB17_4
            have f17_4_0 := hB17_4
            clear hB17_4
            have z17_4 : w15.heap.size < w17.heap.size := World.block_lt_of_cell? _ _ f17_4_0
            have zz17 := C17.size
            go_wp2_with fail
            go_ret
            exact ⟨rfl, C17⟩
          · have d1 : (E2 == 0) = false := by simpa using e2
            have d2 : (E2 != 0) = true := by simpa using e2
            go_wp2_with fail
            go_ret
            exact ⟨rfl, C14⟩
      · have d1 : (E3 == 0) = false := by simpa using e3
        have d2 : (E3 != 0) = true := by simpa using e3
        go_wp2_with fail
        go_ret
        exact ⟨rfl, C10⟩
theorem lattice.own : ownKnob Try.prog.godebug = none := by kernel_rfl
set_option maxRecDepth 100000 in
set_option maxHeartbeats 1000000 in
theorem lattice_lifted (os : Os) (started : os.Started) (H : Type) (enc : TypeId × Value → H) :
    ReturnsInHanded {} Try.checked os 15 .any (Rows.paperLatticeSpec.pre6 enc Try.prog Try.f15 Rows.paperLatticeRow.domain false) (Rows.paperLatticeSpec.post enc Try.prog Try.f15 false true false false) := by
  refine returnsInHanded_of_change (C := Try.checked) lattice.own started (by kernel_rfl) Try.func15
    (ChangeSpec.witness6 (enc := enc) (C := Try.checked) false ⟨#[], #[.agg #[.slice none 0 0], .agg #[.slice none 0 0]], []⟩ 8 (by kernel_rfl) (by kernel_rfl) (by kernel_rfl) (by kernel_rfl)) ?_
  intro W base args ds gs before hval0 hW hcnd _
  have hval : ∀ (j : Nat) t v, Try.f15.params[j]? = some t → args[j]? = some v → Value.okWide Try.prog W .any base t v := hval0
  have hW' := hW
  obtain ⟨p, q, hA0, hV, rfl, hfz, hnd⟩ := hW
  have hA : DataW.TrodAll enc Try.prog W 0 (fun _ => true) true Try.f15.params.toList args.toList ds p := hA0
  rw [Try.params15] at hA hval
  obtain ⟨v0, v1, d0, d1, p0, p1, rfl, rfl, rfl, h0, h1⟩ := trodAll_two hA
  obtain ⟨rfl, rfl⟩ := trodVars_none hV
  have hlt := fun x hx => hW'.lt x hx
  simp only [List.append_nil, List.mem_append] at hlt
  have k0 := h0
  have k1 := h1
  obtain ⟨aA, an, ac, aP, rfl, ah⟩ := open_sheet (hval 0 29 v0 rfl rfl) h0
  obtain ⟨bA, bn, bc, bP, rfl, bh⟩ := open_sheet (hval 1 29 v1 rfl rfl) h1
  clear hA0 hval0
  simp only [List.append_nil] at hW'
  refine (lattice_law aA an ac aP bA bn bc bP W ah bh).mono fun e W' ⟨he, hw⟩ => ?_
  subst he
  exact ⟨_, rfl, [d0, d1], [], _, [], p0 ++ (p1), [], hW', trodAll_mk1 (shut_bool Try.underlying4 true), trodAll_mk2 (Below.trod Try.laidOut (by kernel_rfl) (of_decide_eq_true (by kernel_rfl)) k0 hw (fun x hx => hlt x (by simp [hx]))) (Below.trod Try.laidOut (by kernel_rfl) (of_decide_eq_true (by kernel_rfl)) k1 hw (fun x hx => hlt x (by simp [hx]))), rfl, hw.frame _, fun h => by cases h⟩
theorem lattice_holds : Rows.PaperLatticeSaid :=
  OpenClaim.holds_of_wide 15 Try.f15 rfl rfl rfl rfl rfl rfl rfl ⟨rfl, rfl, rfl, rfl, rfl⟩ rfl rfl rfl rfl rfl (by kernel_rfl) Try.func15 (by kernel_rfl)
    (of_decide_eq_true (by kernel_rfl)) (by unfold Func.isWrapper; first | (rw [if_pos (by decide +kernel)]; kernel_rfl) | (rw [if_neg (by decide +kernel)]; exact ⟨rfl, rfl⟩))
    (fun os started H enc _ => lattice_lifted os started H enc)
end Go.Proofs.Ytmeljcbefnojfaa
