import Derived.Test.YtkidhmajlpceeaaAwk
namespace Go.Proofs.Ytkidhmajlpceeaa
open Go.RowKit
theorem lz_comp {b c a s z : Int} (hb : 0 ≤ b) (hc : 0 ≤ c) (h : -c ≤ a - s ∧ a - s ≤ c) : lz c s (lz b a z) = lz (b + c) s z := by unfold lz; omega
/-- a pen that follows a pen -/
theorem shw_add {p q : Pn} {f s : Int} {Z : Nat → Int} (hp : 0 ≤ p.b) (hq : 0 ≤ q.b) (h0 : okAt p f Z 0) (h1 : okAt q s (shw p.b f Z) 0) : ∀ k, shw q.b s (shw p.b f Z) k = shw (p.b + q.b) s Z k
  | 0 => by
    have e0 : shw p.b f Z 0 = lz p.b f (Z 0) := rfl
    have h1' : -q.b ≤ shw p.b f Z 0 - s ∧ shw p.b f Z 0 - s ≤ q.b := h1
    have h0' : -p.b ≤ Z 0 - f ∧ Z 0 - f ≤ p.b := h0
    show lz q.b s (lz p.b f (Z 0)) = lz (p.b + q.b) s (Z 0)
    refine lz_comp hp hq ?_
    rw [e0] at h1'
    unfold lz at h1'
    omega
  | k + 1 => by
    have ih := shw_add hp hq h0 h1 k
    have hn := shw_near hq s (shw p.b f Z) k
    show lz q.b (shw q.b s (shw p.b f Z) k) (lz p.b (shw p.b f Z k) (Z (k + 1))) = lz (p.b + q.b) (shw (p.b + q.b) s Z k) (Z (k + 1))
    rw [lz_comp hp hq hn, ih]
theorem fol_add {p q : Pn} {f s : Int} {n : Nat} {Z : Nat → Int} (h1 : folR p f n Z 0) (h2 : folR q s n (shw p.b f Z) 0) (h : (p.add q).Ok) :
    folR (p.add q) s n Z 0 ∧ ∀ k, k < n → shw q.b s (shw p.b f Z) k = shw (p.b + q.b) s Z k := by
  rcases h1 with ⟨_, e⟩ | ⟨hp, ⟨_, e⟩ | ⟨_, ⟨_, e⟩ | ⟨hl, ⟨o1, _⟩ | ⟨_, e⟩⟩⟩⟩
  · omega
  · omega
  · omega
  · rcases h2 with ⟨_, e⟩ | ⟨hq, ⟨_, e⟩ | ⟨hs, ⟨_, e⟩ | ⟨_, ⟨o2, _⟩ | ⟨_, e⟩⟩⟩⟩
    · omega
    · omega
    · omega
    · have n0 := hl.1
      have a0 := o1 0 (by omega)
      have c0 := o2 0 (by omega)
      have key := shw_add hp.b.1 hq.b.1 a0 c0
      refine ⟨.inr ⟨h, .inr ⟨hs, .inr ⟨hl, .inl ⟨fun k hk => ?_, rfl⟩⟩⟩⟩, fun k _ => key k⟩
      match k with
      | 0 =>
        have h1' : -q.b ≤ shw p.b f Z 0 - s ∧ shw p.b f Z 0 - s ≤ q.b := c0
        have h0' : -p.b ≤ Z 0 - f ∧ Z 0 - f ≤ p.b := a0
        have e0 : shw p.b f Z 0 = lz p.b f (Z 0) := rfl
        rw [e0] at h1'
        unfold lz at h1'
        show -(p.b + q.b) ≤ Z 0 - s ∧ Z 0 - s ≤ p.b + q.b
        omega
      | k + 1 => exact o1 (k + 1) hk
    · omega
  · omega
theorem addV_assoc {p q r : Pn} : (p.add q).add r = p.add (q.add r) := by simp [Pn.add, Int.add_assoc]
abbrev penO (p : Pn) : Obj := .cells #[.int .i64 p.b, .int .i64 p.lo, .int .i64 p.hi, .int .i64 p.r] 25
theorem pn3 (w : World) (p q r : Pn) : HasPn p w.heap.size (((w.alloc (penO p)).alloc (penO q)).alloc (penO r)) ∧ HasPn q (w.heap.size + 1) (((w.alloc (penO p)).alloc (penO q)).alloc (penO r)) ∧ HasPn r (w.heap.size + 1 + 1) (((w.alloc (penO p)).alloc (penO q)).alloc (penO r)) ∧ Below w.heap.size w (((w.alloc (penO p)).alloc (penO q)).alloc (penO r)) :=
  ⟨⟨by go_simp, by go_simp, by go_simp, by go_simp⟩, ⟨by go_simp, by go_simp, by go_simp, by go_simp⟩, ⟨by go_simp, by go_simp, by go_simp, by go_simp⟩, nextB (box1 _ _) (nextB (box1 _ _) (box1 _ _))⟩
theorem LPost.any {w w' : World} {L : List Int} {E : Int} {e : Ending} (h : LPost w L E e w') : ∃ v, e = .returned (.tuple #[v, .int .i64 E]) ∧ Below w.heap.size w w' := by
  by_cases h0 : E = 0
  · obtain ⟨v, h1, h2⟩ := h.1 h0
    subst h0
    exact ⟨v, h1, h2.below⟩
  · exact ⟨_, h.2 h0⟩
set_option maxRecDepth 100000 in
set_option maxHeartbeats 4000000 in
theorem add_law (p q r : Pn) (f s : Int) (A : Option Addr) (n c : Nat) (Z : Nat → Int) (w : World) (hin : IntsIn A n Z w.heap.size w) :
    Calls Try.prog 15 #[p.v, q.v, r.v, .int .i64 f, .int .i64 s, .slice A n c] w fun e w' => e = .returned (.bool true) ∧ Below w.heap.size w w' := by
  have HIN := Lib.hid hin
  have hn := hin.1
  clear hin
  obtain ⟨E1, hE1⟩ := addR_ex p q
  obtain ⟨u1, hu1⟩ : ∃ u, u = addV p q E1 := ⟨_, rfl⟩
  obtain ⟨E2, hE2⟩ := addR_ex q r
  obtain ⟨u2, hu2⟩ : ∃ u, u = addV q r E2 := ⟨_, rfl⟩
  obtain ⟨E3, hE3⟩ := addR_ex u1 r
  obtain ⟨u3, hu3⟩ : ∃ u, u = addV u1 r E3 := ⟨_, rfl⟩
  obtain ⟨E4, hE4⟩ := addR_ex p u2
  obtain ⟨u4, hu4⟩ : ∃ u, u = addV p u2 E4 := ⟨_, rfl⟩
  have K1 := Lib.hid fun W => Add_any p q E1 W hE1
  have K2 := Lib.hid fun W => Add_any q r E2 W hE2
  have K3 := Lib.hid fun W => Add_any u1 r E3 W hE3
  have K4 := Lib.hid fun W => Add_any p u2 E4 W hE4
  rw [← hu1] at K1
  rw [← hu2] at K2
  rw [← hu3] at K3
  rw [← hu4] at K4
  have HE1 := Lib.hid hE1
  have HU := Lib.hid (And.intro hu1 (And.intro hu2 (And.intro hu3 hu4)))
  clear hE1 hE2 hE3 hE4 hu1 hu2 hu3 hu4
  go_enter Try.func15, Try.ntmps15
  go_wp2_with fail
  refine (awake_any _).mono ?_
  rintro e w2 ⟨rfl, hb2⟩
  obtain ⟨a1, a2, a3, a4⟩ := pn3 w p q r
  have hp2 := a1.up hb2 (by simp; omega)
  have hq2 := a2.up hb2 (by simp)
  have hr2 := a3.up hb2 (by simp)
  have C2 := Lib.hid (nextB a4 hb2)
  have zp2 := hp2.lt
  have zq2 := hq2.lt
  have zr2 := hr2.lt
  have Hp2 := Lib.hid hp2
  have Hq2 := Lib.hid hq2
  have Hr2 := Lib.hid hr2
  clear a1 a2 a3 a4 hb2 hp2 hq2 hr2
  have KF := Lib.hid fun W => few_any A n c W
  by_cases hf : (n : Int) ≤ 500
  · have df : decide ((n : Int) ≤ 500) = true := by simpa using hf
    rw [df] at KF
    clear df
    go_wp2_with fail
    refine (KF.out _).mono ?_
    rintro e w' ⟨rfl, rfl⟩
    have hn5 : n ≤ 1000 := by omega
    clear KF hf
    obtain ⟨x0, x1, x2, x3⟩ := Hp2.out
    obtain ⟨y0, y1, y2, y3⟩ := Hq2.out
    go_wp2_with fail
    refine (K1.out _).mono ?_
    rintro e w3 ⟨rfl, hb⟩
    clear x0 x1 x2 x3 y0 y1 y2 y3
    have D3 := Lib.hid hb
    have Hp3 := Lib.hid (Hp2.out.up hb zp2)
    have Hq3 := Lib.hid (Hq2.out.up hb zq2)
    have Hr3 := Lib.hid (Hr2.out.up hb zr2)
    have zp3 := Hp3.out.lt
    have zq3 := Hq3.out.lt
    have zr3 := Hr3.out.lt
    clear hb
    obtain ⟨x0, x1, x2, x3⟩ := Hq3.out
    obtain ⟨y0, y1, y2, y3⟩ := Hr3.out
    go_wp2_with fail
    refine (K2.out _).mono ?_
    rintro e w4 ⟨rfl, hb⟩
    clear x0 x1 x2 x3 y0 y1 y2 y3
    have D4 := Lib.hid (nextB (box1 w3 _) hb)
    have Hp4 := Lib.hid (Hp3.out.up D4.out zp3)
    have zp4 := Hp4.out.lt
    have Hq4 := Lib.hid (Hq3.out.up D4.out zq3)
    have zq4 := Hq4.out.lt
    have Hr4 := Lib.hid (Hr3.out.up D4.out zr3)
    have zr4 := Hr4.out.lt
    have Ha4 := Lib.hid ((pn_new w3 u1.b u1.lo u1.hi u1.r).up hb (by simp))
    have za4 := Ha4.out.lt
    clear hb
    obtain ⟨x0, x1, x2, x3⟩ := Ha4.out
    obtain ⟨y0, y1, y2, y3⟩ := Hr4.out
    go_wp2_with fail
    refine (K3.out _).mono ?_
    rintro e w5 ⟨rfl, hb⟩
    clear x0 x1 x2 x3 y0 y1 y2 y3
    have D5 := Lib.hid (nextB (box1 w4 _) hb)
    have Hp5 := Lib.hid (Hp4.out.up D5.out zp4)
    have zp5 := Hp5.out.lt
    have Hq5 := Lib.hid (Hq4.out.up D5.out zq4)
    have zq5 := Hq5.out.lt
    have Ha5 := Lib.hid (Ha4.out.up D5.out za4)
    have za5 := Ha5.out.lt
    have Hb5 := Lib.hid ((pn_new w4 u2.b u2.lo u2.hi u2.r).up hb (by simp))
    have zb5 := Hb5.out.lt
    clear hb
    obtain ⟨x0, x1, x2, x3⟩ := Hp5.out
    obtain ⟨y0, y1, y2, y3⟩ := Hb5.out
    go_wp2_with fail
    refine (K4.out _).mono ?_
    rintro e w6 ⟨rfl, hb⟩
    clear x0 x1 x2 x3 y0 y1 y2 y3
    have D6 := Lib.hid (nextB (box1 w5 _) hb)
    have Hp6 := Lib.hid (Hp5.out.up D6.out zp5)
    have zp6 := Hp6.out.lt
    have Hq6 := Lib.hid (Hq5.out.up D6.out zq5)
    have zq6 := Hq6.out.lt
    have Ha6 := Lib.hid (Ha5.out.up D6.out za5)
    have za6 := Ha6.out.lt
    have Hc6 := Lib.hid ((pn_new w5 u3.b u3.lo u3.hi u3.r).up hb (by simp))
    have zc6 := Hc6.out.lt
    clear hb K1 K2 K3 K4
    obtain ⟨E5, hE5⟩ := folR_ex p f n Z
    have C6 := Lib.hid (nextB C2.out (nextB D3.out (nextB D4.out (nextB D5.out D6.out))))
    have K5 : Hid (∀ W, Below w6.heap.size w6 W → Calls Try.prog 25 #[p.v, .int .i64 f, .slice A n c] W fun e w' => LPost W (upTo (shw p.b f Z) n) E5 e w') := Lib.hid fun W hb => Follow_any p f A n c Z E5 W ((HIN.out.up (nextB C6.out hb) (Nat.le_refl _)).more (nextB C6.out hb).size) hE5
    have HE5 := Lib.hid hE5
    clear hE5
    by_cases e1 : E1 = 0
    · subst e1
      have hu1 : u1 = p.add q := HU.out.1
      have hok : (p.add q).Ok := by
        rcases HE1.out with ⟨_, e⟩ | ⟨_, ⟨_, e⟩ | ⟨_, ⟨_, e⟩ | ⟨h, _⟩⟩⟩
        · omega
        · omega
        · omega
        · exact h
      have hcase : (E2 == 0) = false ∨ ((E2 == 0) = true ∧ ((E3 == 0) = false ∨ ((E3 == 0) = true ∧ ((E4 == 0) = false ∨ ((E4 == 0) = true ∧ u4 = u3))))) := by
        by_cases e2 : E2 = 0
        · refine .inr ⟨by simpa using e2, ?_⟩
          by_cases e3 : E3 = 0
          · refine .inr ⟨by simpa using e3, ?_⟩
            by_cases e4 : E4 = 0
            · refine .inr ⟨by simpa using e4, ?_⟩
              obtain ⟨_, h2, h3, h4⟩ := HU.out
              subst e2; subst e3; subst e4
              rw [h3, h4, h2, hu1]
              exact addV_assoc.symm
            · exact .inl (by simpa using e4)
          · exact .inl (by simpa using e3)
        · exact .inl (by simpa using e2)
      have Hok := Lib.hid hok
      have Hu1 := Lib.hid hu1
      clear HU HE1 hok hu1
      rcases hcase with g2 | ⟨g2, g3 | ⟨g3, g4 | ⟨g4, rfl⟩⟩⟩
      all_goals
        obtain ⟨x0, x1, x2, x3⟩ := Hp6.out
        obtain ⟨y0, y1, y2, y3⟩ := Hc6.out
        go_wp2_with fail
        refine (K5.out _ (box1 _ _)).mono ?_
        rintro e w7 hP
        clear x0 x1 x2 x3 y0 y1 y2 y3
        by_cases e5 : E5 = 0
        · subst e5
          obtain ⟨v5, rfl, hr⟩ := hP.1 rfl
          obtain ⟨A5, c5, rfl, hin5⟩ := row_upTo (by have := hr.own; rwa [upTo_len] at this) hn5
          have D7 := Lib.hid (nextB (box1 w6 _) hr.below)
          obtain ⟨E6, hE6⟩ := folR_ex q s n (shw p.b f Z)
          have K6 := Lib.hid (Follow_any q s A5 n c5 (shw p.b f Z) E6 w7 hin5 hE6)
          have HE6 := Lib.hid hE6
          have Hq7 := Lib.hid (Hq6.out.up D7.out zq6)
          have Ha7 := Lib.hid (Ha6.out.up D7.out za6)
          have zq7 := Hq7.out.lt
          have za7 := Ha7.out.lt
          clear hP hr hin5 hE6
          obtain ⟨x0, x1, x2, x3⟩ := Hq7.out
          go_wp2_with fail
          refine K6.out.mono ?_
          rintro e w8 hP
          clear x0 x1 x2 x3
          by_cases e6 : E6 = 0
          · subst e6
            obtain ⟨v6, rfl, hr⟩ := hP.1 rfl
            obtain ⟨hfol, hsame⟩ := fol_add HE5.out HE6.out Hok.out
            have D8 := Lib.hid hr.below
            have C8 := Lib.hid (nextB C6.out (nextB D7.out D8.out))
            have HR := Lib.hid hr
            have HS := Lib.hid hsame
            have K7 := Lib.hid (Follow_any u1 s A n c Z 0 w8 ((HIN.out.up C8.out (Nat.le_refl _)).more C8.out.size) (by rw [Hu1.out]; exact hfol))
            obtain ⟨x0, x1, x2, x3⟩ := (Ha7.out.up D8.out za7)
            clear hP hr hfol hsame
            go_wp2_with fail
            refine K7.out.mono ?_
            rintro e w9 hP
            obtain ⟨v7, rfl, hr⟩ := hP.1 rfl
            have D9 := Lib.hid hr.below
            obtain ⟨A7, c7, rfl, hin7⟩ := row_upTo (by have := hr.own; rwa [upTo_len] at this) hn5
            obtain ⟨A6, c6, rfl, hin6⟩ := row_upTo (by have := own_keep HR.out.own D9.out; rwa [upTo_len] at this) hn5
            have K8 := Lib.hid (SameInts_t n A6 A7 c6 c7 _ _ w9 hin6 hin7 (fun i hi => by rw [HS.out i hi, Hu1.out]))
            clear hP hr hin6 hin7 x0 x1 x2 x3
            go_wp2_with fail
            refine K8.out.mono ?_
            rintro e w10 ⟨rfl, hb10⟩
            have D10 := Lib.hid hb10
            clear hb10
            go_wp2_with fail
            go_ret
            exact ⟨rfl, nextB C8.out (nextB D9.out D10.out)⟩
          · have g6 : (E6 == 0) = false := by simpa using e6
            obtain ⟨rfl, hb8⟩ := hP.2 e6
            have D8 := Lib.hid hb8
            clear hP hb8 e6
            go_wp2_with fail
            go_ret
            exact ⟨rfl, nextB C6.out (nextB D7.out D8.out)⟩
        · have g5 : (E5 == 0) = false := by simpa using e5
          obtain ⟨rfl, hb7⟩ := hP.2 e5
          have D7 := Lib.hid (nextB (box1 w6 _) hb7)
          clear hP hb7 e5
          go_wp2_with fail
          go_ret
          exact ⟨rfl, nextB C6.out D7.out⟩
    · have g1 : (E1 == 0) = false := by simpa using e1
      clear e1
      obtain ⟨x0, x1, x2, x3⟩ := Hp6.out
      go_wp2_with fail
      refine (K5.out _ (box1 _ _)).mono ?_
      rintro e w7 hP
      obtain ⟨v5, rfl, hb7⟩ := hP.any
      have D7 := Lib.hid (nextB (box1 w6 _) hb7)
      clear hP hb7
      go_wp2_with fail
      go_ret
      exact ⟨rfl, nextB C6.out D7.out⟩
  · have df : decide ((n : Int) ≤ 500) = false := by simpa using hf
    rw [df] at KF
    clear df hf
    go_wp2_with fail
    refine (KF.out _).mono ?_
    rintro e w' ⟨rfl, rfl⟩
    go_wp2_with fail
    go_ret
    exact ⟨rfl, C2.out⟩
end Go.Proofs.Ytkidhmajlpceeaa
