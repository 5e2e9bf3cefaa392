import Derived.Test.YtkidhmajlpceeaaFol
namespace Go.Proofs.Ytkidhmajlpceeaa
open Go.RowKit
/-- a list and no error, or nothing and an error -/
def LPost (w : World) (L : List Int) (E : Int) (e : Ending) (w' : World) : Prop :=
  (E = 0 → ∃ v, e = .returned (.tuple #[v, .int .i64 0]) ∧ RowZ w L v w') ∧ (E ≠ 0 → e = .returned (.tuple #[.slice none 0 0, .int .i64 E]) ∧ Below w.heap.size w w')
def Lev (x : Int) : Prop := -50000 ≤ x ∧ x ≤ 50000
def folR (p : Pn) (f : Int) (n : Nat) (Z : Nat → Int) (E : Int) : Prop :=
  (¬ p.Ok ∧ E = 30) ∨ p.Ok ∧ ((¬ Lev f ∧ E = 1) ∨ Lev f ∧ ((¬ LsOk Z n ∧ E = 1) ∨ LsOk Z n ∧ (((∀ k, k < n → okAt p f Z k) ∧ E = 0) ∨ (∃ j, j < n ∧ (∀ k, k < j → okAt p f Z k) ∧ ¬ okAt p f Z j) ∧ E = 31)))
theorem folR_ex (p : Pn) (f : Int) (n : Nat) (Z : Nat → Int) : ∃ E, folR p f n Z E := by
  by_cases h : p.Ok
  · by_cases hf : Lev f
    · by_cases hl : LsOk Z n
      · rcases ok_or p f Z n with h1 | h1
        · exact ⟨0, .inr ⟨h, .inr ⟨hf, .inr ⟨hl, .inl ⟨h1, rfl⟩⟩⟩⟩⟩
        · exact ⟨31, .inr ⟨h, .inr ⟨hf, .inr ⟨hl, .inr ⟨h1, rfl⟩⟩⟩⟩⟩
      · exact ⟨1, .inr ⟨h, .inr ⟨hf, .inl ⟨hl, rfl⟩⟩⟩⟩
    · exact ⟨1, .inr ⟨h, .inl ⟨hf, rfl⟩⟩⟩
  · exact ⟨30, .inl ⟨h, rfl⟩⟩
theorem ints1 {w : World} {b : Nat} {x : Int} (hb : b < w.heap.size) (h : w.cell? ⟨b, 0, none⟩ = some (.int .i64 x)) : IntsIn (some ⟨b, 0, none⟩) 1 (asZ [x]) w.heap.size w :=
  ints_of (l := [x]) hb (by simp) (fun i u hi => by
    match i, hi with
    | 0, hi => cases hi; exact h
    | i + 1, hi => simp at hi)
theorem lvs1 {x : Int} : Lvs (asZ [x]) 1 ↔ Lev x :=
  ⟨fun h => h 0 (by omega), fun h i hi => by obtain rfl : i = 0 := by omega
                                             exact h⟩
set_option maxHeartbeats 1000000 in
theorem Follow_any (p : Pn) (f : Int) (A : Option Addr) (n c : Nat) (Z : Nat → Int) (E : Int) (w : World) (hin : IntsIn A n Z w.heap.size w) (hE : folR p f n Z E) :
    Calls Try.prog 25 #[p.v, .int .i64 f, .slice A n c] w fun e w' => LPost w (upTo (shw p.b f Z) n) E e w' := by
  rcases hE with ⟨h, rfl⟩ | ⟨h, ⟨hf, rfl⟩ | ⟨hf, hE⟩⟩
  · go_enter Try.func25, Try.ntmps25
    go_wp2_with fail
    refine (check_bad p _ _ _ _ h).mono ?_
    rintro e w1 ⟨rfl, hb⟩
    go_wp2_with fail
    go_ret2
    exact ⟨fun e => by simp at e, fun _ => ⟨rfl, (box2 _ _ _).trans (hb.mono (by simp only [World.size_alloc]; omega))⟩⟩
  · clear hin
    go_enter Try.func25, Try.ntmps25
    go_wp2_with fail
    refine (check_arg p _ _ _ (asZ [f]) _ (ints1 (by simp) (by go_simp)) h (fun k => hf (lvs1.1 k))).mono ?_
    rintro e w1 ⟨rfl, hb⟩
    go_wp2_with fail
    go_ret2
    exact ⟨fun e => by simp at e, fun _ => ⟨rfl, (box2 _ _ _).trans (hb.mono (by simp only [World.size_alloc]; omega))⟩⟩
  · have HIN := Lib.hid hin
    have HE := Lib.hid hE
    have HF := Lib.hid hf
    clear hin hE hf
    go_enter Try.func25, Try.ntmps25
    go_wp2_with fail
    refine (check_ok p _ _ _ (asZ [f]) _ (ints1 (by simp) (by go_simp)) h (lvs1.2 HF.out)).mono ?_
    rintro e w1 ⟨rfl, hb⟩
    have C1 : Below w.heap.size w w1 := (box2 _ _ _).trans (hb.mono (by simp only [World.size_alloc]; omega))
    have hin1 := (HIN.out.up C1 (Nat.le_refl _)).more C1.size
    have s1 := hb.size
    simp only [World.size_alloc] at s1
    have q0 : w1.cell? ⟨w.heap.size, 0, none⟩ = some (.int .i64 p.b) := low_cell hb (by simp only [World.size_alloc]; omega) (by go_simp)
    have q1 : w1.cell? ⟨w.heap.size, 1, none⟩ = some (.int .i64 p.lo) := low_cell hb (by simp only [World.size_alloc]; omega) (by go_simp)
    have q2 : w1.cell? ⟨w.heap.size, 2, none⟩ = some (.int .i64 p.hi) := low_cell hb (by simp only [World.size_alloc]; omega) (by go_simp)
    have q3 : w1.cell? ⟨w.heap.size, 3, none⟩ = some (.int .i64 p.r) := low_cell hb (by simp only [World.size_alloc]; omega) (by go_simp)
    have HC := Lib.hid C1
    have z : w.heap.size < w1.heap.size := by omega
    clear hb C1
    rcases HE.out with ⟨hl, rfl⟩ | ⟨hl, hE⟩
    · have K := Lib.hid (isList_any A n c Z false w1 hin1 ⟨(fun e => by cases e), fun e => absurd e hl⟩)
      clear hin1 hl
      go_wp2_with fail
      refine K.out.mono ?_
      rintro e w' ⟨rfl, rfl⟩
      go_wp2_with fail
      go_ret2
      exact ⟨fun e => by simp at e, fun _ => ⟨rfl, HC.out⟩⟩
    · have K := Lib.hid (isList_any A n c Z true w1 hin1 ⟨fun _ => hl, fun _ => rfl⟩)
      obtain ⟨l1, l2, l3⟩ := hl
      have hf := HF.out
      unfold Lev at hf
      rcases hE with ⟨h1, rfl⟩ | ⟨⟨j, hj, h1, h2⟩, rfl⟩
      · have K2 := Lib.hid (follow_any p f A n c n Z w1 h (by omega) l3 (by omega) l2 hin1 (Nat.le_refl _) h1 (fun e => absurd e (by omega)))
        clear hin1 l3 h1 hf
        go_wp2_with fail
        refine K.out.mono ?_
        rintro e w' ⟨rfl, rfl⟩
        go_wp2_with fail
        refine K2.out.mono ?_
        rintro e w2 ⟨h1, -⟩
        obtain ⟨v, rfl, hr⟩ := h1 (by simp)
        have HRR := Lib.hid hr
        clear hr h1
        go_wp2_with fail
        go_ret2
        exact ⟨fun _ => ⟨_, rfl, HC.out.trans (HRR.out.below.mono HC.out.size), own_mono HRR.out.own HC.out.size⟩, fun e => by simp at e⟩
      · have K2 := Lib.hid (follow_any p f A n c j Z w1 h (by omega) l3 (by omega) l2 hin1 (by omega) h1 (fun _ => h2))
        clear hin1 l3 h1 hf h2
        go_wp2_with fail
        refine K.out.mono ?_
        rintro e w' ⟨rfl, rfl⟩
        go_wp2_with fail
        refine K2.out.mono ?_
        rintro e w2 ⟨-, h1⟩
        obtain ⟨rfl, hr⟩ := h1 (by simp; omega)
        have HRR := Lib.hid hr
        clear hr h1
        go_wp2_with fail
        go_ret2
        exact ⟨fun e => by simp at e, fun _ => ⟨rfl, HC.out.trans (HRR.out.mono HC.out.size)⟩⟩
end Go.Proofs.Ytkidhmajlpceeaa
