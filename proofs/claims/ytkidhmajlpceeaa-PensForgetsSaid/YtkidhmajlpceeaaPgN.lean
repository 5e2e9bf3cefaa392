/- PensForgets' law. -/
import Derived.Test.YtkidhmajlpceeaaRme
import Derived.Test.YtkidhmajlpceeaaRad
import Derived.Test.YtkidhmajlpceeaaPgU
namespace Go.Proofs.Ytkidhmajlpceeaa
open Go.RowKit
theorem pn2 (w : World) (p q : Pn) : HasPn p w.heap.size ((w.alloc (penO p)).alloc (penO q)) ∧ HasPn q (w.heap.size + 1) ((w.alloc (penO p)).alloc (penO q)) ∧ Below w.heap.size w ((w.alloc (penO p)).alloc (penO q)) :=
  ⟨⟨by go_simp, by go_simp, by go_simp, by go_simp⟩, ⟨by go_simp, by go_simp, by go_simp, by go_simp⟩, nextB (box1 _ _) (box1 _ _)⟩
theorem memR_ex (p : Pn) (n : Nat) (Z : Nat → Int) : ∃ E, memR p n Z E := by
  by_cases h : p.Ok
  · by_cases hl : LsOk Z n
    · exact ⟨0, .inr ⟨h, .inr ⟨hl, rfl⟩⟩⟩
    · exact ⟨1, .inr ⟨h, .inl ⟨hl, rfl⟩⟩⟩
  · exact ⟨30, .inl ⟨h, rfl⟩⟩
theorem mem_len {b : Int} {Z : Nat → Int} {n : Nat} (h : n ≤ 500) : (memL b Z n).length ≤ 1000 := by
  rcases Nat.eq_zero_or_pos n with h0 | h0
  · subst h0
    show (mOut Z 0 0).reverse.length ≤ 1000
    simp [mOut]
  · obtain ⟨g1, g2, g3⟩ := go_spec (b := b) (Z := Z) (n := n) (n - 1) 0 rfl (fun e he => absurd he (by omega))
    unfold memL
    have := (mOut_len Z n (memGo b Z n (n - 1) 0)).1
    rw [List.length_reverse]
    omega
theorem Forgets_any (p : Pn) (A : Option Addr) (n c : Nat) (Z : Nat → Int) (I E : Int) (w : World) (hin : IntsIn A n Z w.heap.size w) (hE : forR p n Z I E) :
    Calls Try.prog 52 #[p.v, .slice A n c] w fun e w' => e = .returned (.tuple #[.int .i64 I, .int .i64 E]) ∧ Below w.heap.size w w' := by
  rcases hE with ⟨h, rfl, rfl⟩ | ⟨h, ⟨hl, rfl, rfl⟩ | ⟨hl, ⟨hr, rfl, rfl⟩ | ⟨hr, j, hm, hI⟩⟩⟩
  · exact (Forgets_e p A n c Z w hin).1 h
  · exact (Forgets_e p A n c Z w hin).2 h hl
  · exact Forgets_no p A n c Z w hin h hl hr
  · exact Forgets_ok p A n c Z w hin j I E h hl hr hm hI
set_option maxRecDepth 100000 in
set_option maxHeartbeats 4000000 in
theorem forgets_law (p q : Pn) (A : Option Addr) (n c : Nat) (Z : Nat → Int) (w : World) (hin : IntsIn A n Z w.heap.size w) (hcap : n ≤ c) :
    Calls Try.prog 7 #[p.v, q.v, .slice A n c] w fun e w' => e = .returned (.bool true) ∧ Below w.heap.size w w' := by
  have HIN := Lib.hid hin
  have hn := hin.1
  have HCP := Lib.hid hcap
  clear hin hcap
  have KF := Lib.hid fun W => few_any A n c W
  go_enter Try.func7, Try.ntmps7
  go_wp2_with fail
  refine (awake_any _).mono ?_
  rintro e w2 ⟨rfl, hb2⟩
  obtain ⟨a1, a2, a4⟩ := pn2 w p q
  have hp2 := a1.up hb2 (by simp; omega)
  have hq2 := a2.up hb2 (by simp)
  have C2 := Lib.hid (nextB a4 hb2)
  have zp2 := hp2.lt
  have zq2 := hq2.lt
  have Hp2 := Lib.hid hp2
  have Hq2 := Lib.hid hq2
  clear a1 a2 a4 hb2 hp2 hq2
  by_cases hf : (n : Int) ≤ 500
  · have df : decide ((n : Int) ≤ 500) = true := by simpa using hf
    rw [df] at KF
    clear df
    obtain ⟨I, E1, hE1⟩ := forR_ex p n Z
    obtain ⟨E2, hE2⟩ := memR_ex p n Z
    obtain ⟨E3, hE3⟩ := addR_ex p q
    have hml := mem_len (b := p.b) (Z := Z) (n := n) (by omega)
    obtain ⟨u, hu⟩ : ∃ u, u = addV p q E3 := ⟨_, rfl⟩
    have K1 : Hid (∀ W, Below w.heap.size w W → Calls Try.prog 52 #[p.v, .slice A n c] W fun e w' => e = .returned (.tuple #[.int .i64 I, .int .i64 E1]) ∧ Below W.heap.size W w') :=
      Lib.hid fun W hW => Forgets_any p A n c Z I E1 W ((HIN.out.up hW (Nat.le_refl _)).more hW.size) hE1
    have K2 : Hid (∀ W, Below w.heap.size w W → Calls Try.prog 53 #[p.v, .slice A n c] W fun e w' => e = .returned (.tuple #[.int .i64 I, .int .i64 E1]) ∧ Below W.heap.size W w') :=
      Lib.hid fun W hW => RForgets_any p A n c Z I E1 W ((HIN.out.up hW (Nat.le_refl _)).more hW.size) hE1
    have K3 : Hid (∀ W, Below w.heap.size w W → Calls Try.prog 54 #[p.v, .slice A n c] W fun e w' => LPost W (memL p.b Z n) E2 e w') :=
      Lib.hid fun W hW => Memory_any p A n c Z E2 W ((HIN.out.up hW (Nat.le_refl _)).more hW.size) hE2
    have K4 : Hid (∀ W, Below w.heap.size w W → Calls Try.prog 55 #[p.v, .slice A n c] W fun e w' => LPost W (memL p.b Z n) E2 e w') :=
      Lib.hid fun W hW => RMemory_any p A n c Z E2 W ((HIN.out.up hW (Nat.le_refl _)).more hW.size) hE2 HCP.out
    have K5 := Lib.hid fun W => Add_any p q E3 W hE3
    have K6 := Lib.hid fun W => RAdd_any p q E3 W hE3
    rw [← hu] at K5 K6
    generalize hT : memL p.b Z n = T at *
    clear hE1 hE2 hE3 hu hf hT
    obtain ⟨x0, x1, x2, x3⟩ := Hp2.out
    go_wp2_with (go_at_call 20; refine (KF.out _).mono ?_; rintro e w' ⟨rfl, rfl⟩; clear KF)
    refine (K1.out _ C2.out).mono ?_
    rintro e w3 ⟨rfl, hb⟩
    have C3 := Lib.hid (nextB C2.out hb)
    have Hp3 := Lib.hid (Hp2.out.up hb zp2)
    have Hq3 := Lib.hid (Hq2.out.up hb zq2)
    have zp3 := Hp3.out.lt
    have zq3 := Hq3.out.lt
    clear hb x0 x1 x2 x3 K1
    obtain ⟨x0, x1, x2, x3⟩ := Hp3.out
    go_wp2_with fail
    refine (K2.out _ C3.out).mono ?_
    rintro e w4 ⟨rfl, hb⟩
    have C4 := Lib.hid (nextB C3.out hb)
    have Hp4 := Lib.hid (Hp3.out.up hb zp3)
    have Hq4 := Lib.hid (Hq3.out.up hb zq3)
    have zp4 := Hp4.out.lt
    have zq4 := Hq4.out.lt
    clear hb x0 x1 x2 x3 K2
    obtain ⟨x0, x1, x2, x3⟩ := Hp4.out
    go_wp2_with fail
    refine (K3.out _ C4.out).mono ?_
    rintro e w5 hP
    obtain ⟨v5, e5, hb⟩ := hP.any
    subst e5
    have Q5 := Lib.hid (LQ.of hP (Below.refl _ _))
    have C5 := Lib.hid (nextB C4.out hb)
    have Hp5 := Lib.hid (Hp4.out.up hb zp4)
    have Hq5 := Lib.hid (Hq4.out.up hb zq4)
    have zp5 := Hp5.out.lt
    have zq5 := Hq5.out.lt
    clear x0 x1 x2 x3 hP hb K3
    obtain ⟨x0, x1, x2, x3⟩ := Hp5.out
    go_wp2_with fail
    refine (K4.out _ C5.out).mono ?_
    rintro e w6 hP
    obtain ⟨v6, e6, hb⟩ := hP.any
    subst e6
    have Q6 := Lib.hid (LQ.of hP (Below.refl _ _))
    have Q5' := Lib.hid (Q5.out.up hb)
    have C6 := Lib.hid (nextB C5.out hb)
    have Hp6 := Lib.hid (Hp5.out.up hb zp5)
    have Hq6 := Lib.hid (Hq5.out.up hb zq5)
    have zp6 := Hp6.out.lt
    have zq6 := Hq6.out.lt
    clear x0 x1 x2 x3 hP hb K4 Q5
    obtain ⟨A5, c5, rfl, hin5⟩ := Q5'.out.rowL hml
    obtain ⟨A6, c6, rfl, hin6⟩ := Q6.out.rowL hml
    have K9 : Hid (∀ W, Below w6.heap.size w6 W → Calls Try.prog 29 #[.slice A5 (mE T.length E2) c5, .slice A6 (mE T.length E2) c6] W fun e w' => e = .returned (.bool true) ∧ Below W.heap.size W w') :=
      Lib.hid fun W hW => SameInts_t _ _ _ _ _ _ _ W ((hin5.up hW (Nat.le_refl _)).more hW.size) ((hin6.up hW (Nat.le_refl _)).more hW.size) fun _ _ => rfl
    clear hin5 hin6 Q5' Q6 hml Hp2 Hp3 Hp4 Hp5 Hq2 Hq3 Hq4 Hq5 C2 C3 C4 C5
    obtain ⟨x0, x1, x2, x3⟩ := Hp6.out
    obtain ⟨y0, y1, y2, y3⟩ := Hq6.out
    go_wp2_with fail
    refine (K5.out _).mono ?_
    rintro e w7 ⟨rfl, hb⟩
    have hb7 := nextB hb (box1 w7 (penO u))
    obtain ⟨v7, hv⟩ : ∃ v, v = w7.alloc (penO u) := ⟨_, rfl⟩
    rw [← hv] at hb7
    have D7 := Lib.hid hb7
    have Hp7 := Lib.hid (Hp6.out.up hb7 zp6)
    have Hq7 := Lib.hid (Hq6.out.up hb7 zq6)
    have zp7 := Hp7.out.lt
    have zq7 := Hq7.out.lt
    have U7 := Lib.hid (show HasPn u w7.heap.size v7 by rw [hv]; exact pn_new w7 u.b u.lo u.hi u.r)
    have zu7 := U7.out.lt
    have HV := Lib.hid hv
    clear hb hb7 hv x0 x1 x2 x3 y0 y1 y2 y3 K5
    obtain ⟨x0, x1, x2, x3⟩ := Hp7.out
    obtain ⟨y0, y1, y2, y3⟩ := Hq7.out
    go_upto_region 9 with fail
    rw [← HV.out]
    clear HV
    go_wp2_with fail
    refine (K6.out _).mono ?_
    rintro e w8 ⟨rfl, hb⟩
    have hb8 := nextB hb (box1 w8 (penO u))
    obtain ⟨v8, hv⟩ : ∃ v, v = w8.alloc (penO u) := ⟨_, rfl⟩
    rw [← hv] at hb8
    have D8 := Lib.hid (nextB D7.out hb8)
    have C8 := Lib.hid (nextB C6.out D8.out)
    have U7' := Lib.hid (U7.out.up hb8 zu7)
    have U8 := Lib.hid (show HasPn u w8.heap.size v8 by rw [hv]; exact pn_new w8 u.b u.lo u.hi u.r)
    have zu8 := U8.out.lt
    have HV := Lib.hid hv
    clear hb hb8 hv x0 x1 x2 x3 y0 y1 y2 y3 K6 U7
    obtain ⟨x0, x1, x2, x3⟩ := U7'.out
    obtain ⟨y0, y1, y2, y3⟩ := U8.out
    have zx := World.block_lt_of_cell? _ _ x0
    have zy := World.block_lt_of_cell? _ _ y0
    go_upto_region 10 with fail
    rw [← HV.out]
    clear HV
    have K9' := Lib.hid (K9.out v8 D8.out)
    generalize w7.heap.size = i7 at *
    generalize w8.heap.size = i8 at *
    go_wp2_with fail
    refine K9'.out.mono ?_
    rintro e w9 ⟨rfl, hb⟩
    have C9 := Lib.hid (nextB C8.out hb)
    have U7'' := Lib.hid (U7'.out.up hb zx)
    have U8' := Lib.hid (U8.out.up hb zy)
    clear hb x0 x1 x2 x3 y0 y1 y2 y3 K9 K9'
    obtain ⟨x0, x1, x2, x3⟩ := U7''.out
    obtain ⟨y0, y1, y2, y3⟩ := U8'.out
    go_wp2_with fail
    go_ret
    exact ⟨rfl, C9.out⟩
  · have df : decide ((n : Int) ≤ 500) = false := by simpa using hf
    rw [df] at KF
    clear df hf
    go_wp2_with (go_at_call 20; refine (KF.out _).mono ?_; rintro e w' ⟨rfl, rfl⟩)
    go_ret
    exact ⟨rfl, C2.out⟩
end Go.Proofs.Ytkidhmajlpceeaa
