/- PensTurns' law. -/
import Derived.Test.YtkidhmajlpceeaaPsk
import Derived.Test.YtkidhmajlpceeaaRtn
import Derived.Test.YtkidhmajlpceeaaRze
import Derived.Test.YtkidhmajlpceeaaPgU
namespace Go.Proofs.Ytkidhmajlpceeaa
open Go.RowKit
abbrev mP (L : List (Int × Int)) (E : Int) : List (Int × Int) := if E = 0 then L else []
theorem PPost.any {w w' : World} {L : List (Int × Int)} {E : Int} {e : Ending} (h : PPost w L E e w') : ∃ v, e = .returned (.tuple #[v, .int .i64 E]) ∧ Below w.heap.size w w' ∧ w'.ownsRow w.heap.size 23 2 v (mP L E).length (flatM (mP L E)) := by
  by_cases h0 : E = 0
  · obtain ⟨v, h1, h2⟩ := h.1 h0
    subst h0
    exact ⟨v, h1, h2.below, h2.own⟩
  · obtain ⟨h1, h2⟩ := h.2 h0
    unfold mP
    rw [if_neg h0]
    exact ⟨_, h1, h2, World.ownsRow_nil _ _ _ _⟩
theorem stuck_len (Z : Nat → Int) (n : Nat) (E : Int) (hn : n ≤ 500) : (mP (stuckL Z n) E).length ≤ 1000 := by
  unfold mP
  have h1 := sO_len Z (n - 1)
  have h2 : (stuckL Z n).length ≤ (sO Z (n - 1)).length + 1 := by
    unfold stuckL
    split
    · rw [List.length_append, List.length_singleton]; omega
    · omega
  split
  · omega
  · simp
theorem turR_ex (n : Nat) (Z : Nat → Int) : ∃ E, turR n Z E := by
  by_cases h : LsOk Z n
  · exact ⟨0, .inl ⟨h, rfl⟩⟩
  · exact ⟨1, .inr ⟨h, rfl⟩⟩
theorem memR_exT (p : Pn) (n : Nat) (Z : Nat → Int) : ∃ E, memR p n Z E := by
  by_cases h : p.Ok
  · by_cases hl : LsOk Z n
    · exact ⟨0, .inr ⟨h, .inr ⟨hl, rfl⟩⟩⟩
    · exact ⟨1, .inr ⟨h, .inl ⟨hl, rfl⟩⟩⟩
  · exact ⟨30, .inl ⟨h, rfl⟩⟩
set_option maxRecDepth 100000 in
set_option maxHeartbeats 4000000 in
theorem turns_law (p : Pn) (A : Option Addr) (n c : Nat) (Z : Nat → Int) (x lo hi : Int) (w : World) (hin : IntsIn A n Z w.heap.size w) :
    Calls Try.prog 6 #[p.v, .slice A n c, .int .i64 x, .agg #[.int .i64 lo, .int .i64 hi]] w fun e w' => e = .returned (.bool true) ∧ Below w.heap.size w w' := by
  have HIN := Lib.hid hin
  have hn := hin.1
  clear hin
  have KF := Lib.hid fun W => few_any A n c W
  go_enter Try.func6, Try.ntmps6
  go_wp2_with fail
  refine (awake_any _).mono ?_
  rintro e w2 ⟨rfl, hb2⟩
  have hp2 := ((pn_new w p.b p.lo p.hi p.r).up (box1 _ (.cells #[.int .i64 lo, .int .i64 hi] 23)) (by simp)).up hb2 (by simp only [World.size_alloc]; omega)
  have hm2 : Bt (w.heap.size + 1) lo hi w2 := (by have h := Bt.new (w.alloc (penO p)) 23 lo hi; simpa only [World.size_alloc] using h : Bt (w.heap.size + 1) lo hi ((w.alloc (penO p)).alloc (.cells #[.int .i64 lo, .int .i64 hi] 23))).up hb2
  have C2 := Lib.hid (nextB (box2 w _ _) hb2)
  have zp2 := hp2.lt
  have zm2 := hm2.lt
  have Hp2 := Lib.hid hp2
  have Hm2 := Lib.hid hm2
  clear hb2 hp2 hm2
  by_cases hf : (n : Int) ≤ 500
  · have df : decide ((n : Int) ≤ 500) = true := by simpa using hf
    rw [df] at KF
    clear df
    obtain ⟨E1, hE1⟩ := zerR_ex p x lo hi
    obtain ⟨E2, hE2⟩ := memR_exT p n Z
    obtain ⟨L, H, E3, hE3⟩ := swgR_ex n Z
    obtain ⟨E4, hE4⟩ := turR_ex n Z
    have K1 := Lib.hid fun W => Zeros_any p x lo hi E1 W hE1
    have K2 := Lib.hid fun W => RZeros_any p x lo hi E1 W hE1
    have K3 : Hid (∀ W, Below w.heap.size w W → Calls Try.prog 46 #[p.v, .slice A n c] W fun e w' => PPost W (stuckL Z n) E2 e w') :=
      Lib.hid fun W hW => Stuck_any p A n c Z E2 W ((HIN.out.up hW (Nat.le_refl _)).more hW.size) hE2
    have K4 : Hid (∀ W, Below w.heap.size w W → Calls Try.prog 47 #[p.v, .slice A n c] W fun e w' => PPost W (stuckL Z n) E2 e w') :=
      Lib.hid fun W hW => RStuck_any p A n c Z E2 W ((HIN.out.up hW (Nat.le_refl _)).more hW.size) hE2
    have K5 : Hid (∀ W, Below w.heap.size w W → Calls Try.prog 48 #[.slice A n c] W fun e w' => e = .returned (.tuple #[.agg #[.int .i64 L, .int .i64 H], .int .i64 E3]) ∧ Below W.heap.size W w') :=
      Lib.hid fun W hW => Swing_any A n c Z L H E3 W ((HIN.out.up hW (Nat.le_refl _)).more hW.size) hE3
    have K6 : Hid (∀ W, Below w.heap.size w W → Calls Try.prog 49 #[.slice A n c] W fun e w' => e = .returned (.tuple #[.agg #[.int .i64 L, .int .i64 H], .int .i64 E3]) ∧ Below W.heap.size W w') :=
      Lib.hid fun W hW => RSwing_any A n c Z L H E3 W ((HIN.out.up hW (Nat.le_refl _)).more hW.size) hE3
    have K7 : Hid (∀ W, Below w.heap.size w W → Calls Try.prog 50 #[.slice A n c] W fun e w' => LPost W (turnsL Z n) E4 e w') :=
      Lib.hid fun W hW => Turns_any A n c Z E4 W ((HIN.out.up hW (Nat.le_refl _)).more hW.size) hE4
    have K8 : Hid (∀ W, Below w.heap.size w W → Calls Try.prog 51 #[.slice A n c] W fun e w' => LPost W (turnsL Z n) E4 e w') :=
      Lib.hid fun W hW => RTurns_any A n c Z E4 W ((HIN.out.up hW (Nat.le_refl _)).more hW.size) hE4
    have hsl := stuck_len Z n E2 (by omega)
    have htl : (turnsL Z n).length ≤ 1000 := by
      have := tout_len Z (n - 1)
      unfold turnsL
      omega
    generalize zerL p x lo E1 = L1 at *
    generalize zerH p x hi E1 = H1 at *
    generalize stuckL Z n = SL at *
    generalize turnsL Z n = T at *
    clear hE1 hE2 hE3 hE4 hf
    obtain ⟨x0, x1, x2, x3⟩ := Hp2.out
    obtain ⟨y0, y1, _, _⟩ := Hm2.out
    go_wp2_with (go_at_call 20; refine (KF.out _).mono ?_; rintro e w' ⟨rfl, rfl⟩; clear KF)
    refine (K1.out _).mono ?_
    rintro e w3 ⟨rfl, hb⟩
    have hb0 := nextB hb (box1 w3 (.cells #[.int .i64 L1, .int .i64 H1] 23))
    obtain ⟨v3, hv⟩ : ∃ v, v = w3.alloc (.cells #[.int .i64 L1, .int .i64 H1] 23) := ⟨_, rfl⟩
    rw [← hv] at hb0
    have C3 := Lib.hid (nextB C2.out hb0)
    have Hp3 := Lib.hid (Hp2.out.up hb0 zp2)
    have Hm3 := Lib.hid (Hm2.out.up hb0)
    have zp3 := Hp3.out.lt
    have B03 := Lib.hid (show Bt w3.heap.size L1 H1 v3 by rw [hv]; exact Bt.new _ _ _ _)
    have HV := Lib.hid hv
    clear hb hb0 hv x0 x1 x2 x3 y0 y1 K1
    obtain ⟨x0, x1, x2, x3⟩ := Hp3.out
    obtain ⟨y0, y1, _, _⟩ := Hm3.out
    go_upto_region 5 with fail
    rw [← HV.out]
    clear HV
    go_wp2_with fail
    refine (K2.out _).mono ?_
    rintro e w4 ⟨rfl, hb⟩
    have hb1 := nextB hb (box1 w4 (.cells #[.int .i64 L1, .int .i64 H1] 23))
    obtain ⟨v4, hv⟩ : ∃ v, v = w4.alloc (.cells #[.int .i64 L1, .int .i64 H1] 23) := ⟨_, rfl⟩
    rw [← hv] at hb1
    have C4 := Lib.hid (nextB C3.out hb1)
    have Hp4 := Lib.hid (Hp3.out.up hb1 zp3)
    have zp4 := Hp4.out.lt
    have B14 := Lib.hid (show Bt w4.heap.size L1 H1 v4 by rw [hv]; exact Bt.new _ _ _ _)
    have B04 := Lib.hid (B03.out.up hb1)
    have HV := Lib.hid hv
    clear hb hb1 hv x0 x1 x2 x3 y0 y1 K2
    obtain ⟨x0, x1, x2, x3⟩ := Hp4.out
    go_upto_region 6 with fail
    rw [← HV.out]
    clear HV
    go_wp2_with fail
    refine (K3.out _ C4.out).mono ?_
    rintro e w5 hP
    obtain ⟨v5, e5, hb, ho5⟩ := hP.any
    subst e5
    have O5 := Lib.hid ho5
    have C5 := Lib.hid (nextB C4.out hb)
    have Hp5 := Lib.hid (Hp4.out.up hb zp4)
    have zp5 := Hp5.out.lt
    have B05 := Lib.hid (B04.out.up hb)
    have B15 := Lib.hid (B14.out.up hb)
    clear hb hP ho5 x0 x1 x2 x3 K3
    obtain ⟨x0, x1, x2, x3⟩ := Hp5.out
    go_wp2_with fail
    refine (K4.out _ C5.out).mono ?_
    rintro e w6 hP
    obtain ⟨v6, e6, hb, ho6⟩ := hP.any
    subst e6
    have O56 := Lib.hid (own_keep O5.out hb)
    have O6 := Lib.hid ho6
    have C6 := Lib.hid (nextB C5.out hb)
    have B06 := Lib.hid (B05.out.up hb)
    have B16 := Lib.hid (B15.out.up hb)
    clear hb hP ho6 x0 x1 x2 x3 K4
    go_wp2_with fail
    refine (K5.out _ C6.out).mono ?_
    rintro e w7 ⟨rfl, hb⟩
    have hb3 := nextB hb (box1 w7 (.cells #[.int .i64 L, .int .i64 H] 23))
    obtain ⟨v7, hv⟩ : ∃ v, v = w7.alloc (.cells #[.int .i64 L, .int .i64 H] 23) := ⟨_, rfl⟩
    rw [← hv] at hb3
    have C7 := Lib.hid (nextB C6.out hb3)
    have B27 := Lib.hid (show Bt w7.heap.size L H v7 by rw [hv]; exact Bt.new _ _ _ _)
    have B07 := Lib.hid (B06.out.up hb3)
    have B17 := Lib.hid (B16.out.up hb3)
    have O57 := Lib.hid (own_keep O56.out hb3)
    have O67 := Lib.hid (own_keep O6.out hb3)
    have HV := Lib.hid hv
    clear hb hb3 hv K5
    go_upto_region 9 with fail
    rw [← HV.out]
    clear HV
    go_wp2_with fail
    refine (K6.out _ C7.out).mono ?_
    rintro e w8 ⟨rfl, hb⟩
    have hb3 := nextB hb (box1 w8 (.cells #[.int .i64 L, .int .i64 H] 23))
    obtain ⟨v8, hv⟩ : ∃ v, v = w8.alloc (.cells #[.int .i64 L, .int .i64 H] 23) := ⟨_, rfl⟩
    rw [← hv] at hb3
    have C8 := Lib.hid (nextB C7.out hb3)
    have B38 := Lib.hid (show Bt w8.heap.size L H v8 by rw [hv]; exact Bt.new _ _ _ _)
    have B08 := Lib.hid (B07.out.up hb3)
    have B18 := Lib.hid (B17.out.up hb3)
    have B28 := Lib.hid (B27.out.up hb3)
    have O58 := Lib.hid (own_keep O57.out hb3)
    have O68 := Lib.hid (own_keep O67.out hb3)
    have HV := Lib.hid hv
    clear hb hb3 hv K6
    go_upto_region 10 with fail
    rw [← HV.out]
    clear HV
    go_wp2_with fail
    refine (K7.out _ C8.out).mono ?_
    rintro e w9 hP
    obtain ⟨v9, e9, hb⟩ := hP.any
    subst e9
    have Q9 := Lib.hid (LQ.of hP (Below.refl _ _))
    have C9 := Lib.hid (nextB C8.out hb)
    have B09 := Lib.hid (B08.out.up hb)
    have B19 := Lib.hid (B18.out.up hb)
    have B29 := Lib.hid (B28.out.up hb)
    have B39 := Lib.hid (B38.out.up hb)
    have O59 := Lib.hid (own_keep O58.out hb)
    have O69 := Lib.hid (own_keep O68.out hb)
    clear hP hb K7
    go_wp2_with fail
    refine (K8.out _ C9.out).mono ?_
    rintro e wt hP
    obtain ⟨vt, et, hb⟩ := hP.any
    subst et
    have Qt := Lib.hid (LQ.of hP (Below.refl _ _))
    have Q9' := Lib.hid (Q9.out.up hb)
    have Ct := Lib.hid (nextB C9.out hb)
    have B0t := Lib.hid (B09.out.up hb)
    have B1t := Lib.hid (B19.out.up hb)
    have B2t := Lib.hid (B29.out.up hb)
    have B3t := Lib.hid (B39.out.up hb)
    have O5t := Lib.hid (own_keep O59.out hb)
    have O6t := Lib.hid (own_keep O69.out hb)
    clear hP hb K8
    obtain ⟨A9, c9, rfl, hin9⟩ := Q9'.out.rowL htl
    obtain ⟨At, ct, rfl, hint⟩ := Qt.out.rowL htl
    have K9 : Hid (∀ W, Below wt.heap.size wt W → Calls Try.prog 29 #[.slice A9 (mE T.length E4) c9, .slice At (mE T.length E4) ct] W fun e w' => e = .returned (.bool true) ∧ Below W.heap.size W w') :=
      Lib.hid fun W hW => SameInts_t _ _ _ _ _ _ _ W ((hin9.up hW (Nat.le_refl _)).more hW.size) ((hint.up hW (Nat.le_refl _)).more hW.size) fun _ _ => rfl
    have K10 := Lib.hid (SameSpans_row (mP SL E2) v5 v6 _ _ wt hsl O5t.out O6t.out)
    clear hin9 hint Q9 Qt Q9' B03 B04 B05 B06 B07 B08 B09 B14 B15 B16 B17 B18 B19 B27 B28 B29 B38 B39 O5 O56 O57 O58 O59 O6 O67 O68 O69 O5t O6t Hm2 Hm3 Hp2 Hp3 Hp4 Hp5 C2 C3 C4 C5 C6 C7 C8 C9 hsl htl
    obtain ⟨a0, a1, _, _⟩ := B0t.out
    obtain ⟨b0, b1, _, _⟩ := B1t.out
    obtain ⟨c0, c1, _, _⟩ := B2t.out
    obtain ⟨d0, d1, _, _⟩ := B3t.out
    generalize w3.heap.size = i3 at *
    generalize w4.heap.size = i4 at *
    generalize w7.heap.size = i7 at *
    generalize w8.heap.size = i8 at *
    go_wp2_with fail
    refine K10.out.mono ?_
    rintro e wu ⟨rfl, hb⟩
    have Cu := Lib.hid hb
    have B2u := Lib.hid (B2t.out.up hb)
    have B3u := Lib.hid (B3t.out.up hb)
    clear hb a0 a1 b0 b1 c0 c1 d0 d1
    obtain ⟨c0, c1, _, _⟩ := B2u.out
    obtain ⟨d0, d1, _, _⟩ := B3u.out
    go_wp2_with fail
    refine (K9.out _ Cu.out).mono ?_
    rintro e wv ⟨rfl, hb⟩
    have Cv := Lib.hid (nextB Ct.out (nextB Cu.out hb))
    clear hb
    go_wp2_with fail
    go_ret
    exact ⟨rfl, Cv.out⟩
  · have df : decide ((n : Int) ≤ 500) = false := by simpa using hf
    rw [df] at KF
    clear df hf
    go_wp2_with (go_at_call 20; refine (KF.out _).mono ?_; rintro e w' ⟨rfl, rfl⟩)
    go_ret
    exact ⟨rfl, C2.out⟩
end Go.Proofs.Ytkidhmajlpceeaa
