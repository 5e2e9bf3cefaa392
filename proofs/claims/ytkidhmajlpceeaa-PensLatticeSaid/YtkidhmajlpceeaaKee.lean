import Derived.Test.YtkidhmajlpceeaaAwk
namespace Go.Proofs.Ytkidhmajlpceeaa
open Go.RowKit
/-- a list of moments, as it is read -/
def MosIn (A : Option Addr) (n : Nat) (M : Nat → Int × Int) (B : Nat) (w : World) : Prop :=
  (n : Int) ≤ 9223372036854775807 ∧ ∀ i, i < n → ∃ a : Addr, A = some a ∧ a.block < B ∧ w.cell? (a.add (i * 2)) = some (.int .i64 (M i).1) ∧ w.cell? ⟨(a.add (i * 2)).block, (a.add (i * 2)).off + 1, none⟩ = some (.int .i64 (M i).2)
theorem MosIn.up {A : Option Addr} {n : Nat} {M : Nat → Int × Int} {B C : Nat} {w w' : World} (h : MosIn A n M B w) (hb : Below C w w') (hC : B ≤ C) : MosIn A n M B w' :=
  ⟨h.1, fun i hi => by
    obtain ⟨a, e, hl, h1, h2⟩ := h.2 i hi
    exact ⟨a, e, hl, (hb.cell (by simp only [add_block]; omega)).trans h1, (hb.cell (by simp only [add_block]; omega)).trans h2⟩⟩
theorem MosIn.more {A : Option Addr} {n : Nat} {M : Nat → Int × Int} {B C : Nat} {w : World} (h : MosIn A n M B w) (hC : B ≤ C) : MosIn A n M C w :=
  ⟨h.1, fun i hi => by obtain ⟨a, e, hl, h1, h2⟩ := h.2 i hi; exact ⟨a, e, by omega, h1, h2⟩⟩
def LM (M : Nat → Int × Int) (i : Nat) : Prop := Lev (M i).1 ∧ Lev (M i).2
def MOk (M : Nat → Int × Int) (n : Nat) : Prop := 1 ≤ n ∧ n ≤ 401 ∧ ∀ i, i < n → LM M i
theorem lm_or (M : Nat → Int × Int) (n : Nat) : ∃ j, j ≤ n ∧ (∀ i, i < j → LM M i) ∧ (j < n → ¬ LM M j) := by
  induction n with
  | zero => exact ⟨0, Nat.le_refl _, fun i hi => absurd hi (by omega), fun h => absurd h (by omega)⟩
  | succ n ih =>
    obtain ⟨j, h1, h2, h3⟩ := ih
    by_cases hj : j < n
    · exact ⟨j, by omega, h2, fun _ => h3 hj⟩
    · obtain rfl : j = n := by omega
      by_cases hx : LM M j
      · exact ⟨j + 1, Nat.le_refl _, fun i hi => by
          by_cases e : i = j
          · rw [e]; exact hx
          · exact h2 i (by omega), fun h => absurd h (by omega)⟩
      · exact ⟨j, by omega, h2, fun _ => hx⟩
theorem lvs_two (x y : Int) : Lvs (asZ [x, y]) 2 ↔ Lev x ∧ Lev y := by
  constructor
  · intro h
    exact ⟨h 0 (by omega), h 1 (by omega)⟩
  · intro h i hi
    match i with
    | 0 => exact h.1
    | 1 => exact h.2
theorem levels_two (x y : Int) (G : Bool) (w : World) (N : Nat) (hN : N = w.heap.size) (hG : G = true ↔ Lev x ∧ Lev y) :
    Calls Try.prog 95 #[litV N 2] (litB w [x, y]) fun e w' => e = .returned (.bool G) ∧ Below w.heap.size w w' := by
  subst hN
  exact (areLevels_any _ 2 2 (asZ [x, y]) G _ (lit_ints w [x, y] (by simp)) (hG.trans (lvs_two x y).symm)).mono fun _ _ ⟨he, hw⟩ => ⟨he, by rw [← hw]; exact box1 _ _⟩
set_option maxRecDepth 100000 in
set_option maxHeartbeats 1000000 in
theorem areMoments_any (A : Option Addr) (n c : Nat) (M : Nat → Int × Int) (G : Bool) (w : World) (hin : MosIn A n M w.heap.size w) (hG : G = true ↔ MOk M n) :
    Calls Try.prog 76 #[.slice A n c] w fun e w' => e = .returned (.bool G) ∧ Below w.heap.size w w' := by
  obtain ⟨j, j1, j2, j3⟩ := lm_or M n
  have HIN := Lib.hid hin
  have hn := hin.1
  have HG := Lib.hid hG
  have H2 := Lib.hid j2
  have H3 := Lib.hid j3
  clear hin hG j2 j3
  go_enter Try.func76, Try.ntmps76
  go_wp2_with fail
  go_loopw [4, 7] (fun _ i wr => ∃ k : Nat, k ≤ j ∧ i = .int .i64 k ∧ Below w.heap.size w wr) (fun _ i _ => n - (intOf i).toNat)
  case atStart => exact ⟨0, Nat.zero_le _, rfl, Below.refl _ _⟩
  case round =>
    obtain ⟨k, hk, rfl, hb⟩ := hrel
    obtain ⟨wo, rfl⟩ : ∃ wo : World, wo = wr := ⟨_, rfl⟩
    have HB := Lib.hid hb
    clear hb
    have hk0 : (0 : Int) ≤ (k : Int) := by omega
    by_cases hlt : k < n
    · obtain ⟨a, rfl, ab, c0, c1⟩ := (HIN.out.up HB.out (Nat.le_refl _)).2 k hlt
      have hki : (k : Int) < (n : Int) := by omega
      have hs := HB.out.size
      by_cases hkj : k < j
      · have KL := Lib.hid fun W N hN => levels_two (M k).1 (M k).2 true W N hN ⟨fun _ => H2.out k hkj, fun _ => rfl⟩
        go_wp2_with fail
        refine (KL.out _ _ (by simp)).mono ?_
        rintro e w2 ⟨rfl, hb2⟩
        have D2 := Lib.hid (nextB (box1 wo _) hb2)
        clear hb2 KL
        go_wp2_with fail
        go_roundw
        case rel => exact ⟨k + 1, by omega, by go_num, HB.out.trans (D2.out.mono hs)⟩
        case measure => simp [intOf]; omega
      · obtain rfl : k = j := by omega
        have hbad := H3.out hlt
        obtain rfl : G = false := by
          cases G with
          | false => rfl
          | true => exact absurd ((HG.out.1 rfl).2.2 k hlt) hbad
        have KL := Lib.hid fun W N hN => levels_two (M k).1 (M k).2 false W N hN ⟨fun h => (by cases h), fun h => absurd h hbad⟩
        clear hbad
        go_wp2_with fail
        refine (KL.out _ _ (by simp)).mono ?_
        rintro e w2 ⟨rfl, hb2⟩
        have D2 := Lib.hid (nextB (box1 wo _) hb2)
        clear hb2 KL
        go_wp2_with fail
        go_ret
        exact ⟨rfl, HB.out.trans (D2.out.mono hs)⟩
    · have hki : (n : Int) ≤ (k : Int) := by omega
      obtain rfl : k = n := by omega
      obtain rfl : j = k := by omega
      have KB := Lib.hid fun W => between_any (j : Int) 1 401 W
      have eG : btw (j : Int) 1 401 = G := by
        have h1 : btw (j : Int) 1 401 = true ↔ G = true := by
          rw [HG.out]
          unfold btw
          rw [decide_eq_true_iff]
          exact ⟨fun h => ⟨by omega, by omega, H2.out⟩, fun h => ⟨by have := h.1; omega, by have := h.2.1; omega⟩⟩
        exact Bool.eq_iff_iff.2 h1
      rw [eG] at KB
      clear eG
      go_wp2_with fail
      refine (KB.out _).mono ?_
      rintro e w2 ⟨rfl, rfl⟩
      go_wp2_with fail
      go_ret
      exact ⟨rfl, HB.out⟩
end Go.Proofs.Ytkidhmajlpceeaa
