/- PensFollows' law. -/
import Derived.Test.YtkidhmajlpceeaaRf3
import Derived.Test.YtkidhmajlpceeaaPgU
namespace Go.Proofs.Ytkidhmajlpceeaa
open Go.RowKit
theorem Check_is (p : Pn) (E : Int) (w : World) (hE : chkR p E) :
    Calls Try.prog 27 #[p.v] w fun e w' => e = .returned (.int .i64 E) ∧ Below w.heap.size w w' := by
  rcases hE with ⟨h, rfl⟩ | ⟨h, rfl⟩
  · exact Check_f p w h
  · exact Check_t p w h
set_option maxRecDepth 100000 in
set_option maxHeartbeats 4000000 in
theorem follows_law (p : Pn) (s r f : Int) (A : Option Addr) (n c : Nat) (Z : Nat → Int) (x : Int) (w : World) (hin : IntsIn A n Z w.heap.size w) :
    Calls Try.prog 3 #[p.v, Mo s r, .int .i64 f, .slice A n c, .int .i64 x] w fun e w' => e = .returned (.bool true) ∧ Below w.heap.size w w' := by
  have HIN := Lib.hid hin
  have hn := hin.1
  clear hin
  have KF := Lib.hid fun W => few_any A n c W
  go_enter Try.func3, Try.ntmps3
  go_wp2_with fail
  refine (awake_any _).mono ?_
  rintro e w2 ⟨rfl, hb2⟩
  have hp2 := ((pn_new w p.b p.lo p.hi p.r).up (box1 _ (.cells #[.int .i64 s, .int .i64 r] 27)) (by simp)).up hb2 (by simp only [World.size_alloc]; omega)
  have hm2 : Bt (w.heap.size + 1) s r w2 := (by have h := Bt.new (w.alloc (penO p)) 27 s r; simpa only [World.size_alloc] using h : Bt (w.heap.size + 1) s r ((w.alloc (penO p)).alloc (.cells #[.int .i64 s, .int .i64 r] 27))).up hb2
  have C2 := Lib.hid (nextB (box2 w _ _) hb2)
  have zp2 := hp2.lt
  have zm2 := hm2.lt
  have Hp2 := Lib.hid hp2
  have Hm2 := Lib.hid hm2
  clear hb2 hp2 hm2
  by_cases hf : (n : Int) ≤ 500
  · have df : decide ((n : Int) ≤ 500) = true := by simpa using hf
    rw [df] at KF
    clear df
    have hn5 : n ≤ 1000 := by omega
    obtain ⟨E0, hE0⟩ := chkR_ex p
    obtain ⟨E1, hE1⟩ := staR_ex p x
    obtain ⟨E2, hE2⟩ := stpR_ex p s r x
    obtain ⟨E3, hE3⟩ := folR_ex p f n Z
    have K1 := Lib.hid fun W => Starts_any p x E1 W hE1
    have K2 := Lib.hid fun W => RStarts_any p x E1 W hE1
    have K3 := Lib.hid fun W => Step_any p s r x E2 W hE2
    have K4 := Lib.hid fun W => RStep_any p s r x E2 W hE2
    have K5 : Hid (∀ W, Below w.heap.size w W → Calls Try.prog 25 #[p.v, .int .i64 f, .slice A n c] W fun e w' => LPost W (upTo (shw p.b f Z) n) E3 e w') :=
      Lib.hid fun W hW => Follow_any p f A n c Z E3 W ((HIN.out.up hW (Nat.le_refl _)).more hW.size) hE3
    have K6 : Hid (∀ W, Below w.heap.size w W → Calls Try.prog 26 #[p.v, .int .i64 f, .slice A n c] W fun e w' => LPost W (upTo (shw p.b f Z) n) E3 e w') :=
      Lib.hid fun W hW => RFollow_any p f A n c Z E3 W ((HIN.out.up hW (Nat.le_refl _)).more hW.size) hE3
    have K7 := Lib.hid fun W => Check_is p E0 W hE0
    have K8 := Lib.hid fun W => RCheck_any p E0 W hE0
    generalize hL : staL p x E1 = L at *
    generalize hH : staH p x E1 = H at *
    generalize hS : stpS p s x E2 = S at *
    generalize hX : stpX x E2 = X at *
    clear hE0 hE1 hE2 hE3 hL hH hS hX hf
    obtain ⟨x0, x1, x2, x3⟩ := Hp2.out
    go_wp2_with (go_at_call 20; refine (KF.out _).mono ?_; rintro e w' ⟨rfl, rfl⟩; clear KF)
    refine (K1.out _).mono ?_
    rintro e w3 ⟨rfl, hb⟩
    have hb0 := nextB hb (box1 w3 (.cells #[.int .i64 L, .int .i64 H] 23))
    obtain ⟨v3, hv⟩ : ∃ v, v = w3.alloc (.cells #[.int .i64 L, .int .i64 H] 23) := ⟨_, rfl⟩
    rw [← hv] at hb0
    have C3 := Lib.hid (nextB C2.out hb0)
    have Hp3 := Lib.hid (Hp2.out.up hb0 zp2)
    have Hm3 := Lib.hid (Hm2.out.up hb0)
    have zp3 := Hp3.out.lt
    have zm3 := Hm3.out.lt
    have B03 := Lib.hid (show Bt w3.heap.size L H v3 by rw [hv]; exact Bt.new _ _ _ _)
    have HV := Lib.hid hv
    clear hb hb0 hv x0 x1 x2 x3 K1
    obtain ⟨x0, x1, x2, x3⟩ := Hp3.out
    go_upto_region 5 with fail
    rw [← HV.out]
    clear HV
    go_wp2_with fail
    refine (K2.out _).mono ?_
    rintro e w4 ⟨rfl, hb⟩
    have hb1 := nextB hb (box1 w4 (.cells #[.int .i64 L, .int .i64 H] 23))
    obtain ⟨v4, hv⟩ : ∃ v, v = w4.alloc (.cells #[.int .i64 L, .int .i64 H] 23) := ⟨_, rfl⟩
    rw [← hv] at hb1
    have C4 := Lib.hid (nextB C3.out hb1)
    have Hp4 := Lib.hid (Hp3.out.up hb1 zp3)
    have Hm4 := Lib.hid (Hm3.out.up hb1)
    have zp4 := Hp4.out.lt
    have zm4 := Hm4.out.lt
    have B14 := Lib.hid (show Bt w4.heap.size L H v4 by rw [hv]; exact Bt.new _ _ _ _)
    have B04 := Lib.hid (B03.out.up hb1)
    have HV := Lib.hid hv
    clear hb hb1 hv x0 x1 x2 x3 K2
    obtain ⟨x0, x1, x2, x3⟩ := Hp4.out
    go_upto_region 6 with fail
    rw [← HV.out]
    clear HV
    obtain ⟨y0, y1, _, _⟩ := Hm4.out
    go_wp2_with fail
    refine (K3.out _).mono ?_
    rintro e w5 ⟨rfl, hb⟩
    have hb2 := nextB hb (box1 w5 (.cells #[.int .i64 S, .int .i64 X] 27))
    obtain ⟨v5, hv⟩ : ∃ v, v = w5.alloc (.cells #[.int .i64 S, .int .i64 X] 27) := ⟨_, rfl⟩
    rw [← hv] at hb2
    have C5 := Lib.hid (nextB C4.out hb2)
    have Hp5 := Lib.hid (Hp4.out.up hb2 zp4)
    have Hm5 := Lib.hid (Hm4.out.up hb2)
    have zp5 := Hp5.out.lt
    have zm5 := Hm5.out.lt
    have B25 := Lib.hid (show Bt w5.heap.size S X v5 by rw [hv]; exact Bt.new _ _ _ _)
    have B05 := Lib.hid (B04.out.up hb2)
    have B15 := Lib.hid (B14.out.up hb2)
    have HV := Lib.hid hv
    clear hb hb2 hv x0 x1 x2 x3 K3 y0 y1
    obtain ⟨x0, x1, x2, x3⟩ := Hp5.out
    go_upto_region 7 with fail
    rw [← HV.out]
    clear HV
    obtain ⟨y0, y1, _, _⟩ := Hm5.out
    go_wp2_with fail
    refine (K4.out _).mono ?_
    rintro e w6 ⟨rfl, hb⟩
    have hb3 := nextB hb (box1 w6 (.cells #[.int .i64 S, .int .i64 X] 27))
    obtain ⟨v6, hv⟩ : ∃ v, v = w6.alloc (.cells #[.int .i64 S, .int .i64 X] 27) := ⟨_, rfl⟩
    rw [← hv] at hb3
    have C6 := Lib.hid (nextB C5.out hb3)
    have Hp6 := Lib.hid (Hp5.out.up hb3 zp5)
    have Hm6 := Lib.hid (Hm5.out.up hb3)
    have zp6 := Hp6.out.lt
    have zm6 := Hm6.out.lt
    have B36 := Lib.hid (show Bt w6.heap.size S X v6 by rw [hv]; exact Bt.new _ _ _ _)
    have B06 := Lib.hid (B05.out.up hb3)
    have B16 := Lib.hid (B15.out.up hb3)
    have B26 := Lib.hid (B25.out.up hb3)
    have HV := Lib.hid hv
    clear hb hb3 hv x0 x1 x2 x3 K4 y0 y1
    obtain ⟨x0, x1, x2, x3⟩ := Hp6.out
    go_upto_region 8 with fail
    rw [← HV.out]
    clear HV
    go_wp2_with fail
    refine (K5.out _ C6.out).mono ?_
    rintro e w7 hP
    obtain ⟨v7, e7, hb7⟩ := hP.any
    subst e7
    have Q7 := Lib.hid (LQ.of hP (Below.refl _ _))
    have C7 := Lib.hid (nextB C6.out hb7)
    have Hp7 := Lib.hid (Hp6.out.up hb7 zp6)
    have zp7 := Hp7.out.lt
    have B07 := Lib.hid (B06.out.up hb7)
    have B17 := Lib.hid (B16.out.up hb7)
    have B27 := Lib.hid (B26.out.up hb7)
    have B37 := Lib.hid (B36.out.up hb7)
    clear x0 x1 x2 x3 hP hb7 K5
    obtain ⟨x0, x1, x2, x3⟩ := Hp7.out
    go_wp2_with fail
    refine (K6.out _ C7.out).mono ?_
    rintro e w8 hP
    obtain ⟨v8, e8, hb8⟩ := hP.any
    subst e8
    have Q8 := Lib.hid (LQ.of hP (Below.refl _ _))
    have Q7' := Lib.hid (Q7.out.up hb8)
    have C8 := Lib.hid (nextB C7.out hb8)
    have Hp8 := Lib.hid (Hp7.out.up hb8 zp7)
    have zp8 := Hp8.out.lt
    obtain ⟨a0, a1, _, _⟩ := B07.out.up hb8
    obtain ⟨b0, b1, _, _⟩ := B17.out.up hb8
    obtain ⟨c0, c1, _, _⟩ := B27.out.up hb8
    obtain ⟨d0, d1, _, _⟩ := B37.out.up hb8
    have za := World.block_lt_of_cell? _ _ a0
    have zb := World.block_lt_of_cell? _ _ b0
    have zc := World.block_lt_of_cell? _ _ c0
    have zd := World.block_lt_of_cell? _ _ d0
    clear x0 x1 x2 x3 hP hb8 K6
    obtain ⟨A7, c7, rfl, hin7⟩ := Q7'.out.row hn5
    obtain ⟨A8, c8, rfl, hin8⟩ := Q8.out.row hn5
    have K9 : Hid (∀ W, Below w8.heap.size w8 W → Calls Try.prog 29 #[.slice A7 (mE n E3) c7, .slice A8 (mE n E3) c8] W fun e w' => e = .returned (.bool true) ∧ Below W.heap.size W w') :=
      Lib.hid fun W hW => SameInts_t _ _ _ _ _ _ _ W ((hin7.up hW (Nat.le_refl _)).more hW.size) ((hin8.up hW (Nat.le_refl _)).more hW.size) fun _ _ => rfl
    obtain ⟨x0, x1, x2, x3⟩ := Hp8.out
    clear hin7 hin8 Q7 Q8 Q7' B03 B04 B05 B06 B07 B14 B15 B16 B17 B25 B26 B27 B36 B37 Hm2 Hm3 Hm4 Hm5 Hm6 Hp2 Hp3 Hp4 Hp5 Hp6 Hp7 C2 C3 C4 C5 C6 C7
    generalize w3.heap.size = i3 at *
    generalize w4.heap.size = i4 at *
    generalize w5.heap.size = i5 at *
    generalize w6.heap.size = i6 at *
    go_upto_region 10 with fail
    go_region_held3 (fun w' => w'.cell? ⟨w.heap.size, 0, none⟩ = some (.int .i64 (p.b)) ∧ w'.cell? ⟨w.heap.size, 1, none⟩ = some (.int .i64 (p.lo)) ∧ w'.cell? ⟨w.heap.size, 2, none⟩ = some (.int .i64 (p.hi)) ∧ w'.cell? ⟨w.heap.size, 3, none⟩ = some (.int .i64 (p.r)) ∧ w'.cell? ⟨i3, 0, none⟩ = some (.int .i64 (L)) ∧ w'.cell? ⟨i3, 1, none⟩ = some (.int .i64 (H)) ∧ w'.cell? ⟨i4, 0, none⟩ = some (.int .i64 (L)) ∧ w'.cell? ⟨i4, 1, none⟩ = some (.int .i64 (H)) ∧ w'.cell? ⟨i5, 0, none⟩ = some (.int .i64 (S)) ∧ w'.cell? ⟨i5, 1, none⟩ = some (.int .i64 (X)) ∧ w'.cell? ⟨i6, 0, none⟩ = some (.int .i64 (S)) ∧ w'.cell? ⟨i6, 1, none⟩ = some (.int .i64 (X)) ∧ w8.heap.size ≤ w'.heap.size)
      (first
        | (go_split_ands; (repeat' apply And.intro); all_goals first | assumption | (go_simp; done) | ((try simp only [World.size_drew]); omega))
        | (go_split_ands; (repeat' apply And.intro); all_goals first | exact (hbA.cell (by first | omega | (dsimp only; omega) | ((try simp only [World.size_drew]); omega))).trans (by assumption) | (have := hbA.size; first | omega | ((try simp only [World.size_drew] at this); omega)))
        | (go_split_ands; (repeat' apply And.intro); all_goals first | exact (hbB.cell (by first | omega | (dsimp only; omega))).trans (by assumption) | (have := hbB.size; omega))
        | (go_split_ands; (repeat' apply And.intro); all_goals first | exact (hbC.cell (by first | omega | (dsimp only; omega))).trans (by assumption) | (have := hbC.size; omega)))
      (first
        | (go_at_call 27; go_split_ands; ((with_reducible refine (K7.out _).mono ?_); rintro e wA ⟨rfl, hbA⟩; have DA := Lib.hid (show Below w8.heap.size w8 wA from by first | exact hbA | exact (Below.refl _ _).drew.trans (hbA.mono (by simp only [World.size_drew]; omega)))))
        | (go_at_call 28; go_split_ands; ((with_reducible refine (K8.out _).mono ?_); rintro e wB ⟨rfl, hbB⟩; have DB := Lib.hid (DA.out.trans (hbB.mono DA.out.size))))
        | (go_at_call 29; go_split_ands; ((with_reducible refine (K9.out _ DB.out).mono ?_); rintro e wC ⟨rfl, hbC⟩; have DC := Lib.hid (DB.out.trans (hbC.mono DB.out.size)))))
    all_goals
      go_wp2_with fail
      go_ret
      exact ⟨rfl, nextB C8.out DC.out⟩
  · have df : decide ((n : Int) ≤ 500) = false := by simpa using hf
    rw [df] at KF
    clear df hf
    go_wp2_with (go_at_call 20; refine (KF.out _).mono ?_; rintro e w' ⟨rfl, rfl⟩)
    go_ret
    exact ⟨rfl, C2.out⟩
end Go.Proofs.Ytkidhmajlpceeaa
