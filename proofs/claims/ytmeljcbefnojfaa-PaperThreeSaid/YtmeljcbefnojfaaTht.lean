import Derived.Test.YtmeljcbefnojfaaLst
import Derived.Test.YtmeljcbefnojfaaLop
namespace Go.Proofs.Ytmeljcbefnojfaa
open Go.ChangeShapes Go.WideShapes Go.ChangeAt Go.RowKit
structure Three (A B C : Option Addr) (n m l c d f : Nat) (w : World) (E1 E2 : Int) (G1 G2 : Bool) (LX LU : Nat → List (Int × Int)) (E5 E6 E7 E8 E9 E10 : Int) (G3 G4 : Bool) (LY LXP LMY LV LUP LMV : Nat → List (Int × Int)) (nx nu : Nat) : Prop where
  wxa : E1 = 0 → ∀ (W : World) (A1 : Option Addr) (k1 c1 : Nat), ShQ n LX 0 A1 k1 W → Below w.heap.size w W → Calls Try.prog 60 #[.agg #[.slice A1 k1 c1], .agg #[.slice A n c]] W fun e w' => e = .returned (.tuple #[.bool true, .int .i64 0]) ∧ Below W.heap.size W w'
  wxb : E1 = 0 → ∀ (W : World) (A1 : Option Addr) (k1 c1 : Nat), ShQ n LX 0 A1 k1 W → Below w.heap.size w W → Calls Try.prog 60 #[.agg #[.slice A1 k1 c1], .agg #[.slice B m d]] W fun e w' => e = .returned (.tuple #[.bool true, .int .i64 0]) ∧ Below W.heap.size W w'
  wcx : E1 = 0 → ∀ (W : World) (A1 : Option Addr) (k1 c1 : Nat), ShQ n LX 0 A1 k1 W → Below w.heap.size w W → Calls Try.prog 60 #[.agg #[.slice C l f], .agg #[.slice A1 k1 c1]] W fun e w' => e = .returned (.tuple #[.bool (G1 && G2), .int .i64 0]) ∧ Below W.heap.size W w'
  none : E1 = 3 → (G1 && G2) = false
  e1 : E1 = 0 ∨ E1 = 2 ∨ E1 = 3
  e2 : E2 = 0 ∨ E2 = 2
  wau : E2 = 0 → ∀ (W : World) (A1 : Option Addr) (k1 c1 : Nat), ShQ n LU 0 A1 k1 W → Below w.heap.size w W → Calls Try.prog 60 #[.agg #[.slice A n c], .agg #[.slice A1 k1 c1]] W fun e w' => e = .returned (.tuple #[.bool true, .int .i64 0]) ∧ Below W.heap.size W w'
  wac : ∀ W : World, Below w.heap.size w W → Calls Try.prog 60 #[.agg #[.slice A n c], .agg #[.slice C l f]] W fun e w' => e = .returned (.tuple #[.bool G3, .int .i64 0]) ∧ Below W.heap.size W w'
  wbc : ∀ W : World, Below w.heap.size w W → Calls Try.prog 60 #[.agg #[.slice B m d], .agg #[.slice C l f]] W fun e w' => e = .returned (.tuple #[.bool G4, .int .i64 0]) ∧ Below W.heap.size W w'
  wuc : E2 = 0 → ∀ (W : World) (A1 : Option Addr) (k1 c1 : Nat), ShQ n LU 0 A1 k1 W → Below w.heap.size w W → Calls Try.prog 60 #[.agg #[.slice A1 k1 c1], .agg #[.slice C l f]] W fun e w' => e = .returned (.tuple #[.bool (G3 && G4), .int .i64 0]) ∧ Below W.heap.size W w'
  k16 : ∀ W : World, Below w.heap.size w W → Calls Try.prog 56 #[.agg #[.slice B m d], .agg #[.slice C l f]] W (ShP n LY E5 W)
  k17 : ∀ (W : World) (A1 : Option Addr) (k1 c1 : Nat), ShQ n LX E1 A1 k1 W → Below w.heap.size w W → Calls Try.prog 56 #[.agg #[.slice A1 k1 c1], .agg #[.slice C l f]] W (ShP nx LXP E6 W)
  k18 : ∀ (W : World) (A1 : Option Addr) (k1 c1 : Nat), ShQ n LY E5 A1 k1 W → Below w.heap.size w W → Calls Try.prog 56 #[.agg #[.slice A n c], .agg #[.slice A1 k1 c1]] W (ShP n LMY E7 W)
  e7 : E1 = 0 → E5 = 0 → E6 = 0 → E7 = 0
  s18 : E1 = 0 → E5 = 0 → E6 = 0 → ∀ (W : World) (A1 A2 : Option Addr) (k1 k2 c1 c2 : Nat), ShQ nx LXP 0 A1 k1 W → ShQ n LMY 0 A2 k2 W → Calls Try.prog 55 #[.slice A1 k1 c1, .slice A2 k2 c2] W fun e w' => e = .returned (.bool true) ∧ Below W.heap.size W w'
  k19 : ∀ W : World, Below w.heap.size w W → Calls Try.prog 58 #[.agg #[.slice B m d], .agg #[.slice C l f]] W (ShM n LV E8 W)
  k20 : ∀ (W : World) (A1 : Option Addr) (k1 c1 : Nat), ShQ n LU E2 A1 k1 W → Below w.heap.size w W → Calls Try.prog 58 #[.agg #[.slice A1 k1 c1], .agg #[.slice C l f]] W (ShM nu LUP E9 W)
  k21 : ∀ (W : World) (A1 : Option Addr) (k1 c1 B0 : Nat), ShL n LV E8 A1 k1 B0 W → Below w.heap.size w W → Calls Try.prog 58 #[.agg #[.slice A n c], .agg #[.slice A1 k1 c1]] W (ShM n LMV E10 W)
  e10 : E2 = 0 → E8 = 0 → E10 = E9
  s21 : E2 = 0 → E8 = 0 → ∀ (W : World) (A1 A2 : Option Addr) (k1 k2 c1 c2 B1 B2 : Nat), ShL nu LUP E9 A1 k1 B1 W → ShL n LMV E9 A2 k2 B2 W → Calls Try.prog 55 #[.slice A1 k1 c1, .slice A2 k2 c2] W fun e w' => e = .returned (.bool true) ∧ Below W.heap.size W w'
theorem bool_ex (p : Prop) : ∃ G : Bool, G = true ↔ p := by
  by_cases h : p
  · exact ⟨true, fun _ => h, fun _ => rfl⟩
  · exact ⟨false, fun e => (by cases e), fun e => absurd e h⟩
theorem shq_k {n k : Nat} {L : Nat → List (Int × Int)} {E : Int} {A : Option Addr} {w : World} (h : ShQ n L E A k w) : k = if E = 0 then n else 0 := by
  by_cases e : E = 0
  · rw [if_pos e]; exact h.2.1 e
  · rw [if_neg e]; exact h.2.2 e
theorem bth_val {n : Nat} {M N : Nat → List (Int × Int)} {E : Int} (g1 : Good n M) (g2 : Good n N) (h : bthE n n M N E) : E = 0 ∨ E = 2 ∨ E = 3 := by
  rcases h with ⟨h, h0⟩ | ⟨_, h | ⟨_, h | h⟩⟩
  · rcases h with h | h | h | h
    · exact absurd g1 h.1
    · exact absurd g2 h.2.1
    · exact absurd rfl h.2.2.1
    · exact absurd h.2.2.2 h0
  · exact .inr (.inl h.1)
  · exact .inr (.inr h.1)
  · exact .inl h.1
theorem eit_val {n : Nat} {M N : Nat → List (Int × Int)} {E : Int} (g1 : Good n M) (g2 : Good n N) (h : eitE n n M N E) : E = 0 ∨ E = 2 := by
  rcases h with ⟨h, h0⟩ | ⟨_, h | h⟩
  · rcases h with h | h | h | h
    · exact absurd g1 h.1
    · exact absurd g2 h.2.1
    · exact absurd rfl h.2.2.1
    · exact absurd h.2.2.2 h0
  · exact .inr h.1
  · exact .inl h.1
theorem alE_ok {n : Nat} {M N : Nat → List (Int × Int)} (g1 : Good n M) (g2 : Good n N) : alE n n M N 0 := .inr (.inr (.inr ⟨g1, g2, rfl, rfl⟩))
theorem three_ex (A B C : Option Addr) (n c d f : Nat) (M N P : Nat → List (Int × Int)) (w : World) (E1 E2 : Int) (G1 G2 : Bool) (ha : Sheet A n M w) (hb : Sheet B n N w) (hc : Sheet C n P w)
    (g1 : Good n M) (g2 : Good n N) (g3 : Good n P) (h1 : bthE n n M N E1) (h2 : eitE n n M N E2) (hG1 : G1 = true ↔ ∀ i, i < n → Win (P i) (M i)) (hG2 : G2 = true ↔ ∀ i, i < n → Win (P i) (N i)) :
    ∃ (E5 E6 E7 E8 E9 E10 : Int) (G3 G4 : Bool) (LY LXP LMY LV LUP LMV : Nat → List (Int × Int)) (nx nu : Nat), Three A B C n n n c d f w E1 E2 G1 G2 (fun c => bc (M c) (N c)) (fun c => ec (M c) (N c)) E5 E6 E7 E8 E9 E10 G3 G4 LY LXP LMY LV LUP LMV nx nu := by
  obtain ⟨G3, hG3⟩ := bool_ex (∀ i, i < n → Win (M i) (P i))
  obtain ⟨G4, hG4⟩ := bool_ex (∀ i, i < n → Win (N i) (P i))
  obtain ⟨E5, h5⟩ := bthE_ex n n N P
  obtain ⟨E6, h6⟩ := bthE_ex (if E1 = 0 then n else 0) n (fun c => bc (M c) (N c)) P
  obtain ⟨E7, h7, e7⟩ : ∃ E7, bthE n (if E5 = 0 then n else 0) M (fun c => bc (N c) (P c)) E7 ∧ (E1 = 0 → E5 = 0 → E6 = 0 → E7 = 0) := by
    by_cases h : E1 = 0 ∧ E5 = 0 ∧ E6 = 0
    · obtain ⟨rfl, rfl, rfl⟩ := h
      rw [if_pos rfl] at h6
      exact ⟨0, by rw [if_pos rfl]; exact (bth_three h1 h5 h6).1, fun _ _ _ => rfl⟩
    · obtain ⟨E7, h7⟩ := bthE_ex n (if E5 = 0 then n else 0) M (fun c => bc (N c) (P c))
      exact ⟨E7, h7, fun a b c => absurd ⟨a, b, c⟩ h⟩
  obtain ⟨E8, h8⟩ := eitE_ex n n N P
  obtain ⟨E9, h9⟩ := eitE_ex (if E2 = 0 then n else 0) n (fun c => ec (M c) (N c)) P
  obtain ⟨E10, h10, e10⟩ : ∃ E10, eitE n (if E8 = 0 then n else 0) M (fun c => ec (N c) (P c)) E10 ∧ (E2 = 0 → E8 = 0 → E10 = E9) := by
    by_cases h : E2 = 0 ∧ E8 = 0
    · obtain ⟨rfl, rfl⟩ := h
      rw [if_pos rfl] at h9
      exact ⟨E9, by rw [if_pos rfl]; exact (eit_three h2 h8 h9).1, fun _ _ => rfl⟩
    · obtain ⟨E10, h10⟩ := eitE_ex n (if E8 = 0 then n else 0) M (fun c => ec (N c) (P c))
      exact ⟨E10, h10, fun a b => absurd ⟨a, b⟩ h⟩
  refine ⟨E5, E6, E7, E8, E9, E10, G3, G4, _, _, _, _, _, _, _, _, {
    wxa := ?_, wxb := ?_, wcx := ?_, none := ?_, e1 := bth_val g1 g2 h1, e2 := eit_val g1 g2 h2, wau := ?_
    wac := fun W hW => Within_sh A C n n c f M P 0 G3 W (ha.up hW) (hc.up hW) (alE_ok g1 g3) (hG3.trans ⟨fun h => ⟨rfl, h⟩, fun h => h.2⟩)
    wbc := fun W hW => Within_sh B C n n d f N P 0 G4 W (hb.up hW) (hc.up hW) (alE_ok g2 g3) (hG4.trans ⟨fun h => ⟨rfl, h⟩, fun h => h.2⟩)
    wuc := ?_
    k16 := fun W hW => Both_sh B C n n d f N P E5 W (hb.up hW) (hc.up hW) h5
    k17 := fun W A1 k1 c1 q hW => by obtain rfl := shq_k q; exact Both_sh A1 C _ n c1 f _ P E6 W q.1 (hc.up hW) h6
    k18 := fun W A1 k1 c1 q hW => by obtain rfl := shq_k q; exact Both_sh A A1 n _ c c1 M _ E7 W (ha.up hW) q.1 h7
    e7 := e7
    s18 := ?_
    k19 := fun W hW => Either_shM B C n n d f N P E8 W (hb.up hW) (hc.up hW) h8
    k20 := fun W A1 k1 c1 q hW => by obtain rfl := shq_k q; exact Either_shM A1 C _ n c1 f _ P E9 W q.1 (hc.up hW) h9
    k21 := fun W A1 k1 c1 B0 q hW => by obtain rfl := shq_k q.shq; exact Either_shM A A1 n _ c c1 M _ E10 W (ha.up hW) q.shq.1 h10
    e10 := e10
    s21 := ?_ }⟩
  · intro e0 W A1 k1 c1 q hW
    subst e0
    obtain ⟨_, _, _, a8, an⟩ := bthE_zero h1
    obtain rfl : n = k1 := (q.2.1 rfl).symm
    exact Within_sh A1 A n n c1 c _ M 0 true W q.1 (ha.up hW) (alE_ok (g1.bc g2 a8) g1) ⟨fun _ => ⟨rfl, fun i hi => win_bc_left (an i hi)⟩, fun _ => rfl⟩
  · intro e0 W A1 k1 c1 q hW
    subst e0
    obtain ⟨_, _, _, a8, an⟩ := bthE_zero h1
    obtain rfl : n = k1 := (q.2.1 rfl).symm
    exact Within_sh A1 B n n c1 d _ N 0 true W q.1 (hb.up hW) (alE_ok (g1.bc g2 a8) g2) ⟨fun _ => ⟨rfl, fun i hi => win_bc_right (an i hi)⟩, fun _ => rfl⟩
  · intro e0 W A1 k1 c1 q hW
    subst e0
    obtain ⟨_, _, _, a8, an⟩ := bthE_zero h1
    obtain rfl : n = k1 := (q.2.1 rfl).symm
    refine Within_sh C A1 n n f c1 P _ 0 (G1 && G2) W (hc.up hW) q.1 (alE_ok g3 (g1.bc g2 a8)) ?_
    rw [Bool.and_eq_true, hG1, hG2]
    exact ⟨fun h => ⟨rfl, fun i hi => (win_bc_iff (an i hi)).2 ⟨h.1 i hi, h.2 i hi⟩⟩, fun h => ⟨fun i hi => ((win_bc_iff (an i hi)).1 (h.2 i hi)).1, fun i hi => ((win_bc_iff (an i hi)).1 (h.2 i hi)).2⟩⟩
  · intro e3
    subst e3
    cases hb : (G1 && G2) with
    | false => rfl
    | true =>
      rw [Bool.and_eq_true, hG1, hG2] at hb
      rcases h1 with ⟨h, _⟩ | ⟨_, h | ⟨_, ⟨_, i, hi, h⟩ | h⟩⟩
      · rcases h with h | h | h | h
        · exact absurd g1 h.1
        · exact absurd g2 h.2.1
        · exact absurd rfl h.2.2.1
        · exact absurd h.2.2.2 (by decide)
      · exact absurd h.1 (by decide)
      · exact absurd h (win_non (srt_good g3 hi) (hb.1 i hi) (hb.2 i hi))
      · exact absurd h.1 (by decide)
  · intro e0 W A1 k1 c1 q hW
    subst e0
    obtain ⟨_, _, _, a8⟩ := eitE_zero h2
    obtain rfl : n = k1 := (q.2.1 rfl).symm
    exact Within_sh A A1 n n c c1 M _ 0 true W (ha.up hW) q.1 (alE_ok g1 (g1.ec g2 a8)) ⟨fun _ => ⟨rfl, fun i hi => win_ec_left (srt_good g1 hi) (srt_good g2 hi)⟩, fun _ => rfl⟩
  · intro e0 W A1 k1 c1 q hW
    subst e0
    obtain ⟨_, _, _, a8⟩ := eitE_zero h2
    obtain rfl : n = k1 := (q.2.1 rfl).symm
    refine Within_sh A1 C n n c1 f _ P 0 (G3 && G4) W q.1 (hc.up hW) (alE_ok (g1.ec g2 a8) g3) ?_
    rw [Bool.and_eq_true, hG3, hG4]
    exact ⟨fun h => ⟨rfl, fun i hi => (win_ec_iff (srt_good g1 hi) (srt_good g2 hi)).2 ⟨h.1 i hi, h.2 i hi⟩⟩, fun h => ⟨fun i hi => ((win_ec_iff (srt_good g1 hi) (srt_good g2 hi)).1 (h.2 i hi)).1, fun i hi => ((win_ec_iff (srt_good g1 hi) (srt_good g2 hi)).1 (h.2 i hi)).2⟩⟩
  · intro a b e W A1 A2 k1 k2 c1 c2 q1 q2
    subst a; subst b; subst e
    rw [if_pos rfl] at q1 h6
    exact shq_same2 q1 q2 fun _ => ⟨rfl, (bth_three h1 h5 h6).2⟩
  · intro a b W A1 A2 k1 k2 c1 c2 B1 B2 q1 q2
    subst a; subst b
    rw [if_pos rfl] at q1 h9
    exact shq_same2 q1.shq q2.shq fun _ => ⟨rfl, (eit_three h2 h8 h9).2⟩
end Go.Proofs.Ytmeljcbefnojfaa
