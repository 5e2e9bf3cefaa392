import Derived.Test.YtkidhmajlpceeaaOfs
namespace Go.Proofs.Ytkidhmajlpceeaa
open Go.RowKit
def reaR (p : Pn) (n : Nat) (Z : Nat → Int) (E : Int) : Prop :=
  (¬ p.Ok ∧ E = 30) ∨ p.Ok ∧ ((¬ LsOk Z n ∧ E = 1) ∨ LsOk Z n ∧ ((¬ Ful (Gs p Z n) n ∧ E = 31) ∨ Ful (Gs p Z n) n ∧ E = 0))
theorem reaR_ex (p : Pn) (n : Nat) (Z : Nat → Int) : ∃ E, reaR p n Z E := by
  by_cases h : p.Ok
  · by_cases hl : LsOk Z n
    · by_cases hf : Ful (Gs p Z n) n
      · exact ⟨0, .inr ⟨h, .inr ⟨hl, .inr ⟨hf, rfl⟩⟩⟩⟩
      · exact ⟨31, .inr ⟨h, .inr ⟨hl, .inl ⟨hf, rfl⟩⟩⟩⟩
    · exact ⟨1, .inr ⟨h, .inl ⟨hl, rfl⟩⟩⟩
  · exact ⟨30, .inl ⟨h, rfl⟩⟩
/-- the real levels that agree -/
def Rls (p : Pn) (Z : Nat → Int) (n i : Nat) : Int × Int := ((Gs p Z n i).1 + Z i, (Gs p Z n i).2 + Z i)
def Srl (p : Pn) (Z : Nat → Int) (n k i : Nat) : Int × Int := if i < k then Rls p Z n i else Gs p Z n i
theorem Srl_succ (p : Pn) (Z : Nat → Int) (n k : Nat) : (fun i => if i = k then ((Gs p Z n k).1 + Z k, (Gs p Z n k).2 + Z k) else Srl p Z n k i) = Srl p Z n (k + 1) := by
  funext i
  unfold Srl
  by_cases hi : i = k
  · rw [if_pos hi, if_pos (by omega), hi]; rfl
  · rw [if_neg hi]
    by_cases h2 : i < k
    · rw [if_pos h2, if_pos (by omega)]
    · rw [if_neg h2, if_neg (by omega)]
/-- spans and no error, or nothing and an error -/
def SPost (w : World) (n : Nat) (S : Nat → Int × Int) (E : Int) (e : Ending) (w' : World) : Prop :=
  (E = 0 → ∃ g cap, e = .returned (.tuple #[.slice (some ⟨g, 0, none⟩) n cap, .int .i64 0]) ∧ w.heap.size ≤ g ∧ SpR g n S w' ∧ Below w.heap.size w w') ∧ (E ≠ 0 → e = .returned (.tuple #[.slice none 0 0, .int .i64 E]) ∧ Below w.heap.size w w')
theorem Gs_bd {p : Pn} {Z : Nat → Int} {n : Nat} (h : p.Ok) (hl : LsOk Z n) (i : Nat) (hi : i < n) : Bd 1000000000 (Gs p Z n i) := by
  obtain ⟨l1, l2, l3⟩ := hl
  exact (Bk_bd h l3 (by omega) (n - 1 - i) (by omega)).more (by omega)
set_option maxRecDepth 100000 in
set_option maxHeartbeats 4000000 in
theorem Reals_any (p : Pn) (A : Option Addr) (n c : Nat) (Z : Nat → Int) (E : Int) (w : World) (hin : IntsIn A n Z w.heap.size w) (hE : reaR p n Z E) :
    Calls Try.prog 35 #[p.v, .slice A n c] w fun e w' => SPost w n (Rls p Z n) E e w' := by
  rcases hE with ⟨h, rfl⟩ | ⟨h, ⟨hl, rfl⟩ | ⟨hl, hE⟩⟩
  · go_enter Try.func35, Try.ntmps35
    go_wp2_with fail
    refine (checkList_bad p _ _ _ _ h).mono ?_
    rintro e w1 ⟨rfl, hb⟩
    go_wp2_with fail
    go_ret2
    exact ⟨fun e => by simp at e, fun _ => ⟨rfl, (box1 _ _).trans (hb.mono (by simp))⟩⟩
  · have HIN := Lib.hid (fun o => (hin.up (box1 w o) (Nat.le_refl _)).more (box1 w o).size)
    have HL := Lib.hid hl
    clear hl hin
    go_enter Try.func35, Try.ntmps35
    go_wp2_with fail
    refine (checkList_arg p _ _ _ Z _ (HIN.out _) h HL.out).mono ?_
    rintro e w1 ⟨rfl, hb⟩
    go_wp2_with fail
    go_ret2
    exact ⟨fun e => by simp at e, fun _ => ⟨rfl, (box1 _ _).trans (hb.mono (by simp))⟩⟩
  · have HIN := Lib.hid hin
    have HL := Lib.hid hl
    have HE := Lib.hid hE
    have HH := Lib.hid h
    have hn := hin.1
    clear hl hin hE h
    go_enter Try.func35, Try.ntmps35
    go_wp2_with fail
    refine (checkList_ok p _ _ _ Z _ ((HIN.out.up (box1 w _) (Nat.le_refl _)).more (by simp)) HH.out HL.out).mono ?_
    rintro e w1 ⟨rfl, hb⟩
    have C1 : Below w.heap.size w w1 := (box1 _ _).trans (hb.mono (by simp))
    have s1 := hb.size
    simp only [World.size_alloc] at s1
    have q0 : w1.cell? ⟨w.heap.size, 0, none⟩ = some (.int .i64 p.b) := low_cell hb (by simp only [World.size_alloc]; omega) (by go_simp)
    have q1 : w1.cell? ⟨w.heap.size, 1, none⟩ = some (.int .i64 p.lo) := low_cell hb (by simp only [World.size_alloc]; omega) (by go_simp)
    have q2 : w1.cell? ⟨w.heap.size, 2, none⟩ = some (.int .i64 p.hi) := low_cell hb (by simp only [World.size_alloc]; omega) (by go_simp)
    have q3 : w1.cell? ⟨w.heap.size, 3, none⟩ = some (.int .i64 p.r) := low_cell hb (by simp only [World.size_alloc]; omega) (by go_simp)
    have HC := Lib.hid C1
    have hin1 := Lib.hid ((HIN.out.up C1 (Nat.le_refl _)).more C1.size)
    clear hb C1
    rcases HE.out with ⟨hf, rfl⟩ | ⟨hf, rfl⟩
    · have K := Lib.hid (offsets_any p A n c Z false w1 hin1.out HH.out HL.out ⟨(fun e => by cases e), fun e => absurd e hf⟩)
      clear hf
      go_wp2_with fail
      refine K.out.mono ?_
      rintro e w2 ⟨g, cap, rfl, hg, hS, hb2⟩
      have HB := Lib.hid hb2
      clear hS hb2
      go_wp2_with fail
      go_ret2
      exact ⟨fun e => by simp at e, fun _ => ⟨rfl, HC.out.trans (HB.out.mono HC.out.size)⟩⟩
    · have K := Lib.hid (offsets_any p A n c Z true w1 hin1.out HH.out HL.out ⟨fun _ => hf, fun _ => rfl⟩)
      clear hf
      go_wp2_with fail
      refine K.out.mono ?_
      rintro e w2 ⟨g, cap, rfl, hg, hS, hb2⟩
      have HB := Lib.hid (HC.out.trans (hb2.mono HC.out.size))
      have HS := Lib.hid hS
      have HGW := Lib.hid (Nat.le_trans HC.out.size hg)
      clear hS hb2 hg
      go_wp2_with fail
      go_loopw [9, 10, 27] (fun _ _ i wr => ∃ k : Nat, k ≤ n ∧ i = .int .i64 k ∧ SpR g n (Srl p Z n k) wr ∧ Below w.heap.size w wr) (fun _ _ i _ => n - (intOf i).toNat)
      case atStart => exact ⟨0, Nat.zero_le _, rfl, by (have e : Srl p Z n 0 = Gs p Z n := by funext i; unfold Srl; rw [if_neg (by omega)]); rw [e]; exact HS.out, HB.out⟩
      case round =>
        obtain ⟨k, hk, rfl, hS, hB⟩ := hrel
        obtain ⟨wo, rfl⟩ : ∃ wo : World, wo = wr := ⟨_, rfl⟩
        have hk0 : (0 : Int) ≤ (k : Int) := by omega
        by_cases hlt : k < n
        · obtain ⟨a, rfl, ab, c0⟩ := (HIN.out.up hB (Nat.le_refl _)).2 k hlt
          have hki : (k : Int) < (n : Int) := by omega
          have e1 : Srl p Z n k k = Gs p Z n k := by unfold Srl; rw [if_neg (by omega)]
          have g0 := hS.c0 k hlt
          have g1 := hS.c1 k hlt
          rw [e1] at g0 g1
          have g2 := hS.f (k * 2)
          have g3 := hS.f (k * 2 + 1)
          have gl := hS.lt
          have hbd := Gs_bd HH.out HL.out k hlt
          obtain ⟨b1, b2, b3, b4⟩ := hbd
          obtain ⟨l1, l2⟩ := HL.out.2.2 k hlt
          have NS := hS.set (x := (Gs p Z n k).1 + Z k) (y := (Gs p Z n k).2 + Z k) hlt
          rw [Srl_succ] at NS
          have NN := Lib.hid NS
          have NB := Lib.hid (set1 (set1 hB HGW.out (k * 2) (.int .i64 ((Gs p Z n k).1 + Z k))) HGW.out (k * 2 + 1) (.int .i64 ((Gs p Z n k).2 + Z k)))
          clear NS hS hB e1
          go_wp2_with fail
          go_roundw
          case rel => exact ⟨k + 1, by omega, by go_num, NN.out, NB.out⟩
          case measure => simp [intOf]; omega
        · have hki : (n : Int) ≤ (k : Int) := by omega
          obtain rfl : k = n := by omega
          have NN : Hid (SpR g k (Rls p Z k) wo) := Lib.hid ⟨hS.lt, fun i hi => by have := hS.c0 i hi; unfold Srl at this; rwa [if_pos hi] at this, fun i hi => by have := hS.c1 i hi; unfold Srl at this; rwa [if_pos hi] at this, hS.f⟩
          have NB := Lib.hid hB
          clear hS hB
          go_wp2_with fail
          go_ret2
          exact ⟨fun _ => ⟨_, _, rfl, HGW.out, NN.out, NB.out⟩, fun e => by simp at e⟩
end Go.Proofs.Ytkidhmajlpceeaa
