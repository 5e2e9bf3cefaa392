/- PensReals' law. -/
import Derived.Test.YtkidhmajlpceeaaRch
import Derived.Test.YtkidhmajlpceeaaPgU
namespace Go.Proofs.Ytkidhmajlpceeaa
open Go.RowKit
set_option linter.unusedSimpArgs false
set_option linter.unusedVariables false
theorem SameSpans_nil (A B : Option Addr) (c d : Nat) (w : World) : Calls Try.prog 43 #[.slice A 0 c, .slice B 0 d] w fun e w' => e = .returned (.bool true) ∧ Below w.heap.size w w' := by
  go_enter Try.func43, Try.ntmps43
  go_wp2_with fail
  go_loopw [5] (fun i wr => i = .int .i64 0 ∧ wr = w) (fun _ _ => 0)
  case atStart => exact ⟨rfl, rfl⟩
  case round =>
    obtain ⟨rfl, rfl⟩ := hrel
    go_wp2_with fail
    go_ret
    exact ⟨rfl, Below.refl _ _⟩
/-- numbers as they read, or nil, with their error -/
def IX (n : Nat) (F : Nat → Int) (E : Int) (v : Value) (w : World) : Prop := ∃ A c, v = .slice A (mE n E) c ∧ IntsIn A (mE n E) F w.heap.size w
theorem IX.up {n : Nat} {F : Nat → Int} {E : Int} {v : Value} {w w' : World} (h : IX n F E v w) (hb : Below w.heap.size w w') : IX n F E v w' := by
  obtain ⟨A, c, e, hi⟩ := h
  exact ⟨A, c, e, (hi.up hb (Nat.le_refl _)).more hb.size⟩
theorem NPost.ix {w w' : World} {n : Nat} {F : Nat → Int} {E : Int} {e : Ending} (h : NPost w n F E e w') : ∃ v, e = .returned (.tuple #[v, .int .i64 E]) ∧ Below w.heap.size w w' ∧ IX n F E v w' := by
  by_cases h0 : E = 0
  · obtain ⟨A, c, e1, hi, hb⟩ := h.1 h0
    subst h0
    exact ⟨_, e1, hb, A, c, rfl, hi⟩
  · obtain ⟨e1, hb⟩ := h.2 h0
    refine ⟨_, e1, hb, none, 0, by unfold mE; rw [if_neg h0], ?_⟩
    unfold mE
    rw [if_neg h0]
    exact ⟨by omega, fun i hi => absurd hi (by omega)⟩
theorem LPost.ix {w w' : World} {n : Nat} {F : Nat → Int} {E : Int} {e : Ending} (h : LPost w (upTo F n) E e w') (hn : n ≤ 1000) : ∃ v, e = .returned (.tuple #[v, .int .i64 E]) ∧ Below w.heap.size w w' ∧ IX n F E v w' := by
  obtain ⟨v, e1, hb⟩ := h.any
  subst e1
  exact ⟨v, rfl, hb, (LQ.of h (Below.refl _ _)).row hn⟩
/-- spans, or nil, with their error -/
def SX (n : Nat) (S : Nat → Int × Int) (E : Int) (v : Value) (w : World) : Prop := (E = 0 → ∃ g cap, v = .slice (some ⟨g, 0, none⟩) n cap ∧ SpR g n S w) ∧ (E ≠ 0 → v = .slice none 0 0)
theorem SX.up {n : Nat} {S : Nat → Int × Int} {E : Int} {v : Value} {w w' : World} (h : SX n S E v w) (hb : Below w.heap.size w w') : SX n S E v w' :=
  ⟨fun e => by obtain ⟨g, cap, e1, hs⟩ := h.1 e; exact ⟨g, cap, e1, hs.up hb⟩, h.2⟩
theorem SPost.sx {w w' : World} {n : Nat} {S : Nat → Int × Int} {E : Int} {e : Ending} (h : SPost w n S E e w') : ∃ v, e = .returned (.tuple #[v, .int .i64 E]) ∧ Below w.heap.size w w' ∧ SX n S E v w' := by
  by_cases h0 : E = 0
  · obtain ⟨g, cap, e1, _, hs, hb⟩ := h.1 h0
    subst h0
    exact ⟨_, e1, hb, fun _ => ⟨g, cap, rfl, hs⟩, fun e => absurd rfl e⟩
  · obtain ⟨e1, hb⟩ := h.2 h0
    exact ⟨_, e1, hb, fun e => absurd e h0, fun _ => rfl⟩
theorem MPost.sx {w w' : World} {n : Nat} {S : Nat → Int × Int} {E : Int} {e : Ending} (h : MPost w n S E e w') (hn : E = 0 → 1 ≤ n) : ∃ v, e = .returned (.tuple #[v, .int .i64 E]) ∧ Below w.heap.size w w' ∧ SX n S E v w' := by
  by_cases h0 : E = 0
  · obtain ⟨v, e1, hr⟩ := h.1 h0
    have h1 := hn h0
    subst h0
    obtain ⟨g, cap, e2, _, hs⟩ := hr.spr h1
    exact ⟨v, e1, hr.below, fun _ => ⟨g, cap, e2, hs⟩, fun e => absurd rfl e⟩
  · obtain ⟨e1, hb⟩ := h.2 h0
    exact ⟨_, e1, hb, fun e => absurd e h0, fun _ => rfl⟩
theorem same_sx {n : Nat} {S : Nat → Int × Int} {E : Int} {v1 v2 : Value} {w : World} (hn : n ≤ 1000) (h1 : SX n S E v1 w) (h2 : SX n S E v2 w) :
    Calls Try.prog 43 #[v1, v2] w fun e w' => e = .returned (.bool true) ∧ Below w.heap.size w w' := by
  by_cases h0 : E = 0
  · obtain ⟨g, cap, rfl, hs⟩ := h1.1 h0
    obtain ⟨g', cap', rfl, hs'⟩ := h2.1 h0
    exact SameSpans_t _ _ _ _ _ _ _ w hn hs hs' fun _ _ => rfl
  · rw [h1.2 h0, h2.2 h0]
    exact SameSpans_nil _ _ _ _ w
theorem same_ix {n : Nat} {F : Nat → Int} {E : Int} {v1 v2 : Value} {w : World} (h1 : IX n F E v1 w) (h2 : IX n F E v2 w) :
    Calls Try.prog 29 #[v1, v2] w fun e w' => e = .returned (.bool true) ∧ Below w.heap.size w w' := by
  obtain ⟨A, c, rfl, h1⟩ := h1
  obtain ⟨B, d, rfl, h2⟩ := h2
  exact SameInts_t _ _ _ _ _ _ _ w h1 h2 fun _ _ => rfl
set_option maxRecDepth 100000 in
set_option maxHeartbeats 4000000 in
theorem reals_law (p : Pn) (A : Option Addr) (n c : Nat) (Z : Nat → Int) (w : World) (hin : IntsIn A n Z w.heap.size w) :
    Calls Try.prog 5 #[p.v, .slice A n c] w fun e w' => e = .returned (.bool true) ∧ Below w.heap.size w w' := by
  have HIN := Lib.hid hin
  have hn := hin.1
  clear hin
  have KF := Lib.hid fun W => few_any A n c W
  go_enter Try.func5, Try.ntmps5
  go_wp2_with fail
  refine (awake_any _).mono ?_
  rintro e w2 ⟨rfl, hb2⟩
  have hp2 := (pn_new w p.b p.lo p.hi p.r).up hb2 (by simp only [World.size_alloc]; omega)
  have C2 := Lib.hid (nextB (box1 w _) hb2)
  have zp2 := hp2.lt
  have Hp2 := Lib.hid hp2
  clear hb2 hp2
  by_cases hf : (n : Int) ≤ 500
  · have df : decide ((n : Int) ≤ 500) = true := by simpa using hf
    rw [df] at KF
    clear df
    have hn5 : n ≤ 1000 := by omega
    obtain ⟨E, hE⟩ := reaR_ex p n Z
    have hn1 : E = 0 → 1 ≤ n := fun e => by subst e; exact (reaR_zero hE).2.1.1
    have K1 : Hid (∀ W, Below w.heap.size w W → Calls Try.prog 35 #[p.v, .slice A n c] W fun e w' => SPost W n (Rls p Z n) E e w') :=
      Lib.hid fun W hW => Reals_any p A n c Z E W ((HIN.out.up hW (Nat.le_refl _)).more hW.size) hE
    have K2 : Hid (∀ W, Below w.heap.size w W → Calls Try.prog 36 #[p.v, .slice A n c] W fun e w' => MPost W n (Rls p Z n) E e w') :=
      Lib.hid fun W hW => RReals_any p A n c Z E W ((HIN.out.up hW (Nat.le_refl _)).more hW.size) hE
    have K3 : Hid (∀ W, Below w.heap.size w W → Calls Try.prog 37 #[p.v, .slice A n c] W fun e w' => NPost W n (Cz (fun x _y _z => x) (Rls p Z n) Z) E e w') :=
      Lib.hid fun W hW => Lowest_any p A n c Z E W ((HIN.out.up hW (Nat.le_refl _)).more hW.size) hE
    have K4 : Hid (∀ W, Below w.heap.size w W → Calls Try.prog 38 #[p.v, .slice A n c] W fun e w' => LPost W (upTo (Cz (fun x _y _z => x) (Rls p Z n) Z) n) E e w') :=
      Lib.hid fun W hW => RLowest_any p A n c Z E W ((HIN.out.up hW (Nat.le_refl _)).more hW.size) hE
    have K5 : Hid (∀ W, Below w.heap.size w W → Calls Try.prog 39 #[p.v, .slice A n c] W fun e w' => NPost W n (Cz (fun _x y _z => y) (Rls p Z n) Z) E e w') :=
      Lib.hid fun W hW => Highest_any p A n c Z E W ((HIN.out.up hW (Nat.le_refl _)).more hW.size) hE
    have K6 : Hid (∀ W, Below w.heap.size w W → Calls Try.prog 40 #[p.v, .slice A n c] W fun e w' => LPost W (upTo (Cz (fun _x y _z => y) (Rls p Z n) Z) n) E e w') :=
      Lib.hid fun W hW => RHighest_any p A n c Z E W ((HIN.out.up hW (Nat.le_refl _)).more hW.size) hE
    have K7 : Hid (∀ W, Below w.heap.size w W → Calls Try.prog 41 #[p.v, .slice A n c] W fun e w' => NPost W n (Cz (fun x y z => max x (min y z)) (Rls p Z n) Z) E e w') :=
      Lib.hid fun W hW => Real_any p A n c Z E W ((HIN.out.up hW (Nat.le_refl _)).more hW.size) hE
    have K8 : Hid (∀ W, Below w.heap.size w W → Calls Try.prog 42 #[p.v, .slice A n c] W fun e w' => LPost W (upTo (Cz (fun x y z => max x (min y z)) (Rls p Z n) Z) n) E e w') :=
      Lib.hid fun W hW => RReal_any p A n c Z E W ((HIN.out.up hW (Nat.le_refl _)).more hW.size) hE
    generalize Cz (fun x _y _z => x) (Rls p Z n) Z = F0 at *
    generalize Cz (fun _x y _z => y) (Rls p Z n) Z = F1 at *
    generalize Cz (fun x y z => max x (min y z)) (Rls p Z n) Z = F2 at *
    generalize Rls p Z n = S at *
    clear hE hf HIN
    obtain ⟨x0, x1, x2, x3⟩ := Hp2.out
    go_wp2_with (go_at_call 20; refine (KF.out _).mono ?_; rintro e w' ⟨rfl, rfl⟩; clear KF)
    refine (K1.out _ C2.out).mono ?_
    rintro e w3 hP
    obtain ⟨v0, e0, hb, hx⟩ := hP.sx
    subst e0
    have C3 := Lib.hid (nextB C2.out hb)
    have Hp3 := Lib.hid (Hp2.out.up hb zp2)
    have zp3 := Hp3.out.lt
    have X0_3 := Lib.hid hx
    clear hb hP hx x0 x1 x2 x3 K1 
    obtain ⟨x0, x1, x2, x3⟩ := Hp3.out
    go_wp2_with fail
    refine (K2.out _ C3.out).mono ?_
    rintro e w4 hP
    obtain ⟨v1, e1, hb, hx⟩ := hP.sx hn1
    subst e1
    have C4 := Lib.hid (nextB C3.out hb)
    have Hp4 := Lib.hid (Hp3.out.up hb zp3)
    have zp4 := Hp4.out.lt
    have X1_4 := Lib.hid hx
    have X0_4 := Lib.hid (X0_3.out.up hb)
    clear hb hP hx x0 x1 x2 x3 K2 X0_3
    obtain ⟨x0, x1, x2, x3⟩ := Hp4.out
    go_wp2_with fail
    refine (K3.out _ C4.out).mono ?_
    rintro e w5 hP
    obtain ⟨v2, e2, hb, hx⟩ := hP.ix
    subst e2
    have C5 := Lib.hid (nextB C4.out hb)
    have Hp5 := Lib.hid (Hp4.out.up hb zp4)
    have zp5 := Hp5.out.lt
    have X2_5 := Lib.hid hx
    have X0_5 := Lib.hid (X0_4.out.up hb)
    have X1_5 := Lib.hid (X1_4.out.up hb)
    clear hb hP hx x0 x1 x2 x3 K3 X0_4 X1_4
    obtain ⟨x0, x1, x2, x3⟩ := Hp5.out
    go_wp2_with fail
    refine (K4.out _ C5.out).mono ?_
    rintro e w6 hP
    obtain ⟨v3, e3, hb, hx⟩ := hP.ix hn5
    subst e3
    have C6 := Lib.hid (nextB C5.out hb)
    have Hp6 := Lib.hid (Hp5.out.up hb zp5)
    have zp6 := Hp6.out.lt
    have X3_6 := Lib.hid hx
    have X0_6 := Lib.hid (X0_5.out.up hb)
    have X1_6 := Lib.hid (X1_5.out.up hb)
    have X2_6 := Lib.hid (X2_5.out.up hb)
    clear hb hP hx x0 x1 x2 x3 K4 X0_5 X1_5 X2_5
    obtain ⟨x0, x1, x2, x3⟩ := Hp6.out
    go_wp2_with fail
    refine (K5.out _ C6.out).mono ?_
    rintro e w7 hP
    obtain ⟨v4, e4, hb, hx⟩ := hP.ix
    subst e4
    have C7 := Lib.hid (nextB C6.out hb)
    have Hp7 := Lib.hid (Hp6.out.up hb zp6)
    have zp7 := Hp7.out.lt
    have X4_7 := Lib.hid hx
    have X0_7 := Lib.hid (X0_6.out.up hb)
    have X1_7 := Lib.hid (X1_6.out.up hb)
    have X2_7 := Lib.hid (X2_6.out.up hb)
    have X3_7 := Lib.hid (X3_6.out.up hb)
    clear hb hP hx x0 x1 x2 x3 K5 X0_6 X1_6 X2_6 X3_6
    obtain ⟨x0, x1, x2, x3⟩ := Hp7.out
    go_wp2_with fail
    refine (K6.out _ C7.out).mono ?_
    rintro e w8 hP
    obtain ⟨v5, e5, hb, hx⟩ := hP.ix hn5
    subst e5
    have C8 := Lib.hid (nextB C7.out hb)
    have Hp8 := Lib.hid (Hp7.out.up hb zp7)
    have zp8 := Hp8.out.lt
    have X5_8 := Lib.hid hx
    have X0_8 := Lib.hid (X0_7.out.up hb)
    have X1_8 := Lib.hid (X1_7.out.up hb)
    have X2_8 := Lib.hid (X2_7.out.up hb)
    have X3_8 := Lib.hid (X3_7.out.up hb)
    have X4_8 := Lib.hid (X4_7.out.up hb)
    clear hb hP hx x0 x1 x2 x3 K6 X0_7 X1_7 X2_7 X3_7 X4_7
    obtain ⟨x0, x1, x2, x3⟩ := Hp8.out
    go_wp2_with fail
    refine (K7.out _ C8.out).mono ?_
    rintro e w9 hP
    obtain ⟨v6, e6, hb, hx⟩ := hP.ix
    subst e6
    have C9 := Lib.hid (nextB C8.out hb)
    have Hp9 := Lib.hid (Hp8.out.up hb zp8)
    have zp9 := Hp9.out.lt
    have X6_9 := Lib.hid hx
    have X0_9 := Lib.hid (X0_8.out.up hb)
    have X1_9 := Lib.hid (X1_8.out.up hb)
    have X2_9 := Lib.hid (X2_8.out.up hb)
    have X3_9 := Lib.hid (X3_8.out.up hb)
    have X4_9 := Lib.hid (X4_8.out.up hb)
    have X5_9 := Lib.hid (X5_8.out.up hb)
    clear hb hP hx x0 x1 x2 x3 K7 X0_8 X1_8 X2_8 X3_8 X4_8 X5_8
    obtain ⟨x0, x1, x2, x3⟩ := Hp9.out
    go_wp2_with fail
    refine (K8.out _ C9.out).mono ?_
    rintro e w10 hP
    obtain ⟨v7, e7, hb, hx⟩ := hP.ix hn5
    subst e7
    have C10 := Lib.hid (nextB C9.out hb)
    have Hp10 := Lib.hid (Hp9.out.up hb zp9)
    have zp10 := Hp10.out.lt
    have X7_10 := Lib.hid hx
    have X0_10 := Lib.hid (X0_9.out.up hb)
    have X1_10 := Lib.hid (X1_9.out.up hb)
    have X2_10 := Lib.hid (X2_9.out.up hb)
    have X3_10 := Lib.hid (X3_9.out.up hb)
    have X4_10 := Lib.hid (X4_9.out.up hb)
    have X5_10 := Lib.hid (X5_9.out.up hb)
    have X6_10 := Lib.hid (X6_9.out.up hb)
    clear hb hP hx x0 x1 x2 x3 K8 X0_9 X1_9 X2_9 X3_9 X4_9 X5_9 X6_9
    obtain ⟨x0, x1, x2, x3⟩ := Hp10.out
    go_wp2_with fail
    refine (same_sx hn5 X0_10.out X1_10.out).mono ?_
    rintro e w11 ⟨rfl, hb⟩
    have C11 := Lib.hid (nextB C10.out hb)
    have X2_11 := Lib.hid (X2_10.out.up hb)
    have X3_11 := Lib.hid (X3_10.out.up hb)
    have X4_11 := Lib.hid (X4_10.out.up hb)
    have X5_11 := Lib.hid (X5_10.out.up hb)
    have X6_11 := Lib.hid (X6_10.out.up hb)
    have X7_11 := Lib.hid (X7_10.out.up hb)
    clear hb
    go_wp2_with fail
    refine (same_ix X2_11.out X3_11.out).mono ?_
    rintro e w12 ⟨rfl, hb⟩
    have C12 := Lib.hid (nextB C11.out hb)
    have X4_12 := Lib.hid (X4_11.out.up hb)
    have X5_12 := Lib.hid (X5_11.out.up hb)
    have X6_12 := Lib.hid (X6_11.out.up hb)
    have X7_12 := Lib.hid (X7_11.out.up hb)
    clear hb
    go_wp2_with fail
    refine (same_ix X4_12.out X5_12.out).mono ?_
    rintro e w13 ⟨rfl, hb⟩
    have C13 := Lib.hid (nextB C12.out hb)
    have X6_13 := Lib.hid (X6_12.out.up hb)
    have X7_13 := Lib.hid (X7_12.out.up hb)
    clear hb
    go_wp2_with fail
    refine (same_ix X6_13.out X7_13.out).mono ?_
    rintro e w14 ⟨rfl, hb⟩
    have C14 := Lib.hid (nextB C13.out hb)
    clear hb
    go_wp2_with fail
    go_ret
    exact ⟨rfl, C14.out⟩
  · have df : decide ((n : Int) ≤ 500) = false := by simpa using hf
    rw [df] at KF
    clear df hf
    go_wp2_with (go_at_call 20; refine (KF.out _).mono ?_; rintro e w' ⟨rfl, rfl⟩)
    go_ret
    exact ⟨rfl, C2.out⟩
end Go.Proofs.Ytkidhmajlpceeaa
