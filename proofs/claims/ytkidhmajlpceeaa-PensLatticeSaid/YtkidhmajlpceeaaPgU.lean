import Derived.Test.YtkidhmajlpceeaaUpm
import Derived.Test.YtkidhmajlpceeaaPgE
namespace Go.Proofs.Ytkidhmajlpceeaa
open Go.RowKit
/-- a row or nil, with its error -/
def LQ (w0 : World) (L : List Int) (E : Int) (v : Value) (wx : World) : Prop :=
  Below w0.heap.size w0 wx ∧ (E = 0 → ∃ B, wx.ownsRow B 3 1 v L.length (intsZ L)) ∧ (E ≠ 0 → v = .slice none 0 0)
theorem LQ.of {w0 w5 w6 : World} {L : List Int} {E : Int} {v : Value} (h : LPost w5 L E (.returned (.tuple #[v, .int .i64 E])) w6) (hb : Below w0.heap.size w0 w5) : LQ w0 L E v w6 := by
  by_cases h0 : E = 0
  · obtain ⟨v', e, hr⟩ := h.1 h0
    subst h0
    cases e
    exact ⟨hb.trans (hr.below.mono hb.size), fun _ => ⟨_, hr.own⟩, fun h => absurd rfl h⟩
  · obtain ⟨e, hb2⟩ := h.2 h0
    cases e
    exact ⟨hb.trans (hb2.mono hb.size), fun h => absurd h h0, fun _ => rfl⟩
theorem LQ.up {w0 wx wy : World} {L : List Int} {E : Int} {v : Value} (h : LQ w0 L E v wx) (hb : Below wx.heap.size wx wy) : LQ w0 L E v wy :=
  ⟨h.1.trans (hb.mono h.1.size), fun e => by obtain ⟨B, hr⟩ := h.2.1 e; exact ⟨B, own_keep hr hb⟩, h.2.2⟩
abbrev mE (n : Nat) (E : Int) : Nat := if E = 0 then n else 0
theorem LQ.row {w0 wx : World} {F : Nat → Int} {n : Nat} {E : Int} {v : Value} (h : LQ w0 (upTo F n) E v wx) (hn : n ≤ 1000) : ∃ A c, v = .slice A (mE n E) c ∧ IntsIn A (mE n E) F wx.heap.size wx := by
  by_cases h0 : E = 0
  · obtain ⟨B, hr⟩ := h.2.1 h0
    unfold mE
    rw [if_pos h0]
    exact row_upTo (by rwa [upTo_len] at hr) hn
  · have e := h.2.2 h0
    unfold mE
    rw [if_neg h0, e]
    exact ⟨none, 0, rfl, by omega, fun i hi => absurd hi (by omega)⟩
theorem LQ.rowL {w0 wx : World} {L : List Int} {E : Int} {v : Value} (h : LQ w0 L E v wx) (hn : L.length ≤ 1000) : ∃ A c, v = .slice A (mE L.length E) c ∧ IntsIn A (mE L.length E) (asZ L) wx.heap.size wx := by
  by_cases h0 : E = 0
  · obtain ⟨B, hr⟩ := h.2.1 h0
    unfold mE
    rw [if_pos h0]
    exact row_ints hr hn
  · have e := h.2.2 h0
    unfold mE
    rw [if_neg h0, e]
    exact ⟨none, 0, rfl, by omega, fun i hi => absurd hi (by omega)⟩
/-- spans or nil, with their error -/
def SpN (A : Option Addr) (m : Nat) (S : Nat → Int × Int) (w : World) : Prop :=
  ∀ i, i < m → ∃ g, A = some ⟨g, 0, none⟩ ∧ g < w.heap.size ∧ w.cell? ⟨g, i * 2, none⟩ = some (.int .i64 (S i).1) ∧ w.cell? ⟨g, i * 2 + 1, none⟩ = some (.int .i64 (S i).2)
def SQ (w0 : World) (n : Nat) (S : Nat → Int × Int) (E : Int) (v : Value) (wx : World) : Prop :=
  Below w0.heap.size w0 wx ∧ ∃ A c, v = .slice A (mE n E) c ∧ SpN A (mE n E) S wx
theorem SpN.up {A : Option Addr} {m : Nat} {S : Nat → Int × Int} {wx wy : World} (h : SpN A m S wx) (hb : Below wx.heap.size wx wy) : SpN A m S wy := fun i hi => by
  obtain ⟨g, e, hl, h1, h2⟩ := h i hi
  exact ⟨g, e, Nat.lt_of_lt_of_le hl hb.size, cell_up hb hl h1, cell_up hb hl h2⟩
theorem SQ.of {w0 w5 w6 : World} {n : Nat} {S : Nat → Int × Int} {E : Int} {e : Ending} (h : SPost w5 n S E e w6) (hb : Below w0.heap.size w0 w5) : ∃ v, e = .returned (.tuple #[v, .int .i64 E]) ∧ SQ w0 n S E v w6 := by
  by_cases h0 : E = 0
  · obtain ⟨g, cap, e, _, hs, hb2⟩ := h.1 h0
    subst h0
    exact ⟨_, e, hb.trans (hb2.mono hb.size), _, cap, rfl, fun i hi => ⟨g, rfl, hs.lt, hs.c0 i hi, hs.c1 i hi⟩⟩
  · obtain ⟨e, hb2⟩ := h.2 h0
    refine ⟨_, e, hb.trans (hb2.mono hb.size), none, 0, by unfold mE; rw [if_neg h0], fun i hi => ?_⟩
    unfold mE at hi
    rw [if_neg h0] at hi
    omega
set_option maxRecDepth 100000 in
set_option maxHeartbeats 4000000 in
/-- where first and levels are not too great -/
theorem up_mid (p : Pn) (f f' av : Int) (A : Option Addr) (n c : Nat) (Z : Nat → Int) (w : World) (hin : IntsIn A n Z w.heap.size w) (hw : IntKind.i64.wrap (-f) = f') (hav : av ≤ 100000)
    (hA : ∀ W, Calls Try.prog 60 #[.int .i64 f] W fun e w' => e = .returned (.int .i64 av) ∧ W = w') (hfol : ∀ E, folR p f n Z E → folR p f' n (ngF Z) E) (hshw : folR p f n Z 0 → ∀ i, ngF (shw p.b f Z) i = shw p.b f' (ngF Z) i) (hn5 : n ≤ 500) (hb : ∀ i, i < n → -100000 ≤ Z i ∧ Z i ≤ 100000) :
    Calls Try.prog 17 #[p.v, .int .i64 f, .slice A n c] w fun e w' => e = .returned (.bool true) ∧ Below w.heap.size w w' := by
  have HIN := Lib.hid hin
  have HB := Lib.hid hb
  have hn := hin.1
  clear hin hb
  have KT : Hid (∀ W, Below w.heap.size w W → Calls Try.prog 63 #[.slice A n c] W fun e w' => ∃ v, e = .returned v ∧ RowZ W (upTo (ngF Z) n) v w') :=
    Lib.hid fun W hW => turned_any A n c Z W ((HIN.out.up hW (Nat.le_refl _)).more hW.size) (by omega) (fun i hi => by have := HB.out i hi; omega)
  have KF : Hid (∀ W, Calls Try.prog 20 #[.slice A n c] W fun e w' => e = .returned (.bool true) ∧ W = w') :=
    Lib.hid fun W => by have := few_any A n c W; rwa [show decide ((n : Int) ≤ 500) = true from decide_eq_true (by omega)] at this
  have KA := Lib.hid hA
  have HW := Lib.hid hw
  have HSH := Lib.hid hshw
  have dA : decide (100000 < av) = false := decide_eq_false (by omega)
  obtain ⟨E1, hE1⟩ := folR_ex p f n Z
  have K1 : Hid (∀ W, Below w.heap.size w W → Calls Try.prog 25 #[p.v, .int .i64 f, .slice A n c] W fun e w' => LPost W (upTo (shw p.b f Z) n) E1 e w') :=
    Lib.hid fun W hW => Follow_any p f A n c Z E1 W ((HIN.out.up hW (Nat.le_refl _)).more hW.size) hE1
  have K2 : Hid (∀ W B D, IntsIn B n (ngF Z) W.heap.size W → Calls Try.prog 25 #[p.v, .int .i64 f', .slice B n D] W fun e w' => LPost W (upTo (shw p.b f' (ngF Z)) n) E1 e w') :=
    Lib.hid fun W B D h => Follow_any p f' B n D (ngF Z) E1 W h (hfol _ hE1)
  obtain ⟨E3, hE3⟩ := reaR_ex p n Z
  have K3 : Hid (∀ W, Below w.heap.size w W → Calls Try.prog 35 #[p.v, .slice A n c] W fun e w' => SPost W n (Rls p Z n) E3 e w') :=
    Lib.hid fun W hW => Reals_any p A n c Z E3 W ((HIN.out.up hW (Nat.le_refl _)).more hW.size) hE3
  have K4 : Hid (∀ W B D, IntsIn B n (ngF Z) W.heap.size W → Calls Try.prog 35 #[p.v, .slice B n D] W fun e w' => SPost W n (Rls p (ngF Z) n) E3 e w') :=
    Lib.hid fun W B D h => Reals_any p B n D (ngF Z) E3 W h (reaR_ng hE3)
  obtain ⟨E4, hE4⟩ : ∃ E, memR p n Z E := by
    by_cases h : p.Ok
    · by_cases hl : LsOk Z n
      · exact ⟨0, .inr ⟨h, .inr ⟨hl, rfl⟩⟩⟩
      · exact ⟨1, .inr ⟨h, .inl ⟨hl, rfl⟩⟩⟩
    · exact ⟨30, .inl ⟨h, rfl⟩⟩
  have K5 : Hid (∀ W, Below w.heap.size w W → Calls Try.prog 54 #[p.v, .slice A n c] W fun e w' => LPost W (memL p.b Z n) E4 e w') :=
    Lib.hid fun W hW => Memory_any p A n c Z E4 W ((HIN.out.up hW (Nat.le_refl _)).more hW.size) hE4
  have K6 : Hid (∀ W B D, IntsIn B n (ngF Z) W.heap.size W → Calls Try.prog 54 #[p.v, .slice B n D] W fun e w' => LPost W (memL p.b Z n) E4 e w') :=
    Lib.hid fun W B D h => by have := Memory_any p B n D (ngF Z) E4 W h (memR_ng hE4); rwa [memL_ng] at this
  obtain ⟨E5, hE5⟩ : ∃ E, turR n Z E := by
    by_cases hl : LsOk Z n
    · exact ⟨0, .inl ⟨hl, rfl⟩⟩
    · exact ⟨1, .inr ⟨hl, rfl⟩⟩
  have K7 : Hid (∀ W, Below w.heap.size w W → Calls Try.prog 50 #[.slice A n c] W fun e w' => LPost W (turnsL Z n) E5 e w') :=
    Lib.hid fun W hW => Turns_any A n c Z E5 W ((HIN.out.up hW (Nat.le_refl _)).more hW.size) hE5
  have K8 : Hid (∀ W B D, IntsIn B n (ngF Z) W.heap.size W → Calls Try.prog 50 #[.slice B n D] W fun e w' => LPost W (turnsL Z n) E5 e w') :=
    Lib.hid fun W B D h => by have := Turns_any B n D (ngF Z) E5 W h (turR_ng hE5); rwa [turnsL_ng] at this
  have hlm : (memL p.b Z n).length ≤ 1000 := by
    have h1 : ∀ f d, memGo p.b Z n f d ≤ d + f := by
      intro f
      induction f with
      | zero => intro d; exact Nat.le_refl _
      | succ f ih => intro d; show (if _ then memGo p.b Z n f (d + 1) else d) ≤ _; split; have := ih (d + 1); omega; omega
    have h2 := (mOut_len Z n (memGo p.b Z n (n - 1) 0)).1
    have h3 := h1 (n - 1) 0
    unfold memL
    rw [List.length_reverse]
    omega
  have hlt' : (turnsL Z n).length ≤ 1000 := by have := tout_len Z (n - 1); unfold turnsL; omega
  have HLL := Lib.hid (And.intro hlm hlt')
  clear hlm hlt' hE4 hE5
  have HE3 := Lib.hid hE3
  have HE1 := Lib.hid hE1
  go_enter Try.func17, Try.ntmps17
  go_wp2_with fail
  refine (awake_any _).mono ?_
  rintro e w2 ⟨rfl, hb2⟩
  have hp2 := (pn_new w p.b p.lo p.hi p.r).up hb2 (by simp)
  have C2 := Lib.hid (nextB (box1 w _) hb2)
  have zp2 := hp2.lt
  have Hp2 := Lib.hid hp2
  clear hb2 hp2
  go_wp2_with (first | (go_at_call 20; refine (KF.out _).mono ?_; rintro e w' ⟨rfl, rfl⟩) | (go_at_call 60; refine (KA.out _).mono ?_; rintro e w' ⟨rfl, rfl⟩))
  go_loopw [8] (fun i wr => ∃ k : Nat, k ≤ n ∧ i = .int .i64 k ∧ Below w2.heap.size w2 wr) (fun i _ => n - (intOf i).toNat)
  case atStart => exact ⟨0, Nat.zero_le _, rfl, Below.refl _ _⟩
  case round =>
    obtain ⟨k, hk, rfl, hb⟩ := hrel
    obtain ⟨w3, rfl⟩ : ∃ w3 : World, w3 = wr := ⟨_, rfl⟩
    have D3 := Lib.hid hb
    have C3 := Lib.hid (nextB C2.out hb)
    clear hb
    have hk0 : (0 : Int) ≤ (k : Int) := by omega
    by_cases hlt : k < n
    · obtain ⟨a, rfl, _, c0⟩ := (HIN.out.up C3.out (Nat.le_refl _)).2 k hlt
      have hki : (k : Int) < (n : Int) := by omega
      have v1 := HB.out k hlt
      have t1 : decide (Z k < -100000) = false := decide_eq_false (by omega)
      have t2 : decide (100000 < Z k) = false := decide_eq_false (by omega)
      clear v1
      go_wp2_with fail
      go_roundw
      case rel => exact ⟨k + 1, by omega, by go_num, D3.out⟩
      case measure => simp [intOf]; omega
    · have hki : (n : Int) ≤ (k : Int) := by omega
      obtain rfl : k = n := by omega
      have Hp3 := Lib.hid (Hp2.out.up D3.out zp2)
      have zp3 := Hp3.out.lt
      obtain ⟨x0, x1, x2, x3⟩ := Hp3.out
      clear dA KA KF
      go_wp2_with fail
      refine (K1.out _ C3.out).mono ?_
      rintro e w4 hP
      obtain ⟨v4, e4, hb4⟩ := hP.any
      subst e4
      have D4 := Lib.hid hb4
      have HP4 := Lib.hid hP
      have C4 := Lib.hid (nextB C3.out hb4)
      have Hp4 := Lib.hid (Hp3.out.up hb4 zp3)
      have zp4 := Hp4.out.lt
      clear x0 x1 x2 x3 hP hb4
      obtain ⟨x0, x1, x2, x3⟩ := Hp4.out
      have w1' := HW.out
      clear HIN HB K1 C2 D3 Hp2 Hp3 zp2 zp3 hki hk hk0
      have Q4 := Lib.hid (LQ.of HP4.out (Below.refl _ _))
      clear HP4
      have hn1 : k ≤ 1000 := by omega
      go_wp2_with fail
      go_upto_region 10 with fail
      go_cut [11, 12] (fun v11 v12 wx => v12 = .int .i64 E1 ∧ LQ w4 (upTo (shw p.b f' (ngF Z)) k) E1 v11 wx)
      case first =>
        go_region_with (first
          | (go_at_call 63; refine (KT.out _ (by first | exact C4.out | exact C4.out.drew)).mono ?_; rintro e w5 ⟨v5, rfl, hr5⟩; have D5 := Lib.hid (show Below w4.heap.size w4 w5 from by first | exact hr5.below | exact (Below.refl _ _).drew.trans (hr5.below.mono (by simp only [World.size_drew]; omega))); obtain ⟨A5, c5, rfl, hin5⟩ := row_upTo (by have := hr5.own; rwa [upTo_len] at this) hn1; have HJ5 := Lib.hid hin5; obtain ⟨s0, s1, s2, s3⟩ := Hp4.out.up D5.out zp4; clear hr5 hin5)
          | (go_at_call 25; refine (K2.out _ _ _ HJ5.out).mono ?_; rintro e w6 hP6; obtain ⟨v6, e6, hb6⟩ := hP6.any; subst e6; have Q6 := Lib.hid (LQ.of hP6 D5.out); clear hP6 hb6))
        all_goals
          go_wp2_with fail
          go_meet
          exact ⟨rfl, Q6.out⟩
      case rest =>
        obtain ⟨rfl, hq⟩ := hcut
        obtain ⟨w6, rfl⟩ : ∃ w6 : World, w6 = wc := ⟨_, rfl⟩
        have Q6 := Lib.hid hq
        have C6 := Lib.hid (nextB C4.out hq.1)
        have Hp6 := Lib.hid (Hp4.out.up hq.1 zp4)
        have zp6 := Hp6.out.lt
        have Q4' := Lib.hid (Q4.out.up hq.1)
        clear hq x0 x1 x2 x3 w1' K2 Q4
        obtain ⟨x0, x1, x2, x3⟩ := Hp6.out
        go_wp2_with fail
        refine (K3.out _ C6.out).mono ?_
        rintro e w7 hP
        obtain ⟨v7, e7, hq7⟩ := SQ.of hP (Below.refl _ _)
        subst e7
        have Q7 := Lib.hid hq7
        have C7 := Lib.hid (nextB C6.out hq7.1)
        have D7 := Lib.hid hq7.1
        have Hp7 := Lib.hid (Hp6.out.up hq7.1 zp6)
        have zp7 := Hp7.out.lt
        clear x0 x1 x2 x3 hP hq7 K3
        obtain ⟨x0, x1, x2, x3⟩ := Hp7.out
        go_upto_region 12 with fail
        go_cut [15, 16] (fun v15 v16 wx => v16 = .int .i64 E3 ∧ SQ w7 k (Rls p (ngF Z) k) E3 v15 wx)
        case first =>
          go_region_with (first
            | (go_at_call 63; refine (KT.out _ (by first | exact C7.out | exact C7.out.drew)).mono ?_; rintro e w8 ⟨v8, rfl, hr8⟩; have D8 := Lib.hid (show Below w7.heap.size w7 w8 from by first | exact hr8.below | exact (Below.refl _ _).drew.trans (hr8.below.mono (by simp only [World.size_drew]; omega))); obtain ⟨A8, c8, rfl, hin8⟩ := row_upTo (by have := hr8.own; rwa [upTo_len] at this) hn1; have HJ8 := Lib.hid hin8; obtain ⟨s0, s1, s2, s3⟩ := Hp7.out.up D8.out zp7; clear hr8 hin8)
            | (go_at_call 35; refine (K4.out _ _ _ HJ8.out).mono ?_; rintro e w9 hP9; obtain ⟨v9, e9, hq9⟩ := SQ.of hP9 D8.out; subst e9; have Q9 := Lib.hid hq9; clear hP9 hq9))
          all_goals
            go_wp2_with fail
            go_meet
            exact ⟨rfl, Q9.out⟩
        case rest =>
          obtain ⟨rfl, hq⟩ := hcut
          obtain ⟨w9, rfl⟩ : ∃ w9 : World, w9 = wc := ⟨_, rfl⟩
          have D9 := Lib.hid hq.1
          have C9 := Lib.hid (nextB C7.out hq.1)
          have Hp9 := Lib.hid (Hp7.out.up hq.1 zp7)
          have zp9 := Hp9.out.lt
          obtain ⟨B9, d9, rfl, sn9⟩ := hq.2
          obtain ⟨_, B7, d7, rfl, sn7⟩ := Q7.out
          have S9 := Lib.hid sn9
          have S7 := Lib.hid (sn7.up D9.out)
          obtain ⟨A4, c4, rfl, hin4⟩ := (Q4'.out.up (nextB D7.out D9.out)).row hn1
          obtain ⟨A6, c6, rfl, hin6⟩ := (Q6.out.up (nextB D7.out D9.out)).row hn1
          have HJ4 := Lib.hid hin4
          have HJ6 := Lib.hid hin6
          have hm1 : mE k E1 ≤ 1000 := by unfold mE; split <;> omega
          have HT4 : Hid (∀ i, i < mE k E1 → -1000000 ≤ shw p.b f Z i ∧ shw p.b f Z i ≤ 1000000) := Lib.hid fun i hi => by
            by_cases h0 : E1 = 0
            · subst h0
              obtain ⟨hok, _, hl⟩ := fol_ok HE1.out
              have h1 := shw_near hok.b.1 f Z i
              have h2 := hl.2.2 i (by simpa [mE] using hi)
              have h3 := hok.b
              omega
            · unfold mE at hi; rw [if_neg h0] at hi; omega
          have HS46 : Hid (∀ i, i < mE k E1 → ngF (shw p.b f Z) i = shw p.b f' (ngF Z) i) := Lib.hid fun i hi => by
            by_cases h0 : E1 = 0
            · subst h0
              exact HSH.out HE1.out i
            · unfold mE at hi; rw [if_neg h0] at hi; omega
          clear hq sn9 sn7 hin4 hin6 Q4' Q6 Q7 x0 x1 x2 x3 K4
          generalize hmm : mE k E1 = m1 at *
          generalize hm3 : mE k E3 = m3 at *
          have HM3 := Lib.hid hm3
          clear hmm hm3
          have KT2 := Lib.hid (turned_any A4 m1 c4 (shw p.b f Z) w9 HJ4.out hm1 HT4.out)
          go_wp2_with fail
          refine KT2.out.mono ?_
          rintro e w10 ⟨v10, rfl, hr10⟩
          have D10 := Lib.hid hr10.below
          obtain ⟨A10, c10, rfl, hin10⟩ := row_upTo (by have := hr10.own; rwa [upTo_len] at this) hm1
          have KS := Lib.hid (SameInts_t m1 A10 A6 c10 c6 _ _ w10 hin10 ((HJ6.out.up hr10.below (Nat.le_refl _)).more hr10.below.size) HS46.out)
          clear hr10 hin10 KT2
          go_wp2_with fail
          refine KS.out.mono ?_
          rintro e w11 ⟨rfl, hb11⟩
          have D11 := Lib.hid (nextB D10.out hb11)
          have C11 := Lib.hid (nextB C9.out D11.out)
          have Hp11 := Lib.hid (Hp9.out.up D11.out zp9)
          have zp11 := Hp11.out.lt
          have T9 := Lib.hid (S9.out.up D11.out)
          have T7 := Lib.hid (S7.out.up D11.out)
          clear hb11 KS
          have HB3 : Hid (∀ i, i < m3 → -2000000000 ≤ (Rls p Z k i).1 ∧ (Rls p Z k i).1 ≤ 2000000000 ∧ -2000000000 ≤ (Rls p Z k i).2 ∧ (Rls p Z k i).2 ≤ 2000000000) := Lib.hid fun i hi => by
            by_cases h0 : E3 = 0
            · subst h0
              have hk3 : k = m3 := by have := HM3.out; simpa [mE] using this
              rcases HE3.out with ⟨_, e⟩ | ⟨hok, ⟨_, e⟩ | ⟨hl, ⟨_, e⟩ | ⟨hf, _⟩⟩⟩
              · omega
              · omega
              · omega
              · have h1 := Gs_bd hok hl i (by omega)
                have h2 := hl.2.2 i (by omega)
                unfold Bd at h1
                unfold Rls
                omega
            · have hk3 : m3 = 0 := by have := HM3.out; unfold mE at this; rw [if_neg h0] at this; exact this.symm
              omega
          have hm63 : (m3 : Int) ≤ 9223372036854775807 := by
            have h : m3 ≤ k := by rw [← HM3.out]; unfold mE; split <;> omega
            omega
          go_wp2_with fail
          go_loopw [17] (fun i wr => ∃ j : Nat, j ≤ m3 ∧ i = .int .i64 j ∧ Below w11.heap.size w11 wr) (fun i _ => m3 - (intOf i).toNat)
          case atStart => exact ⟨0, Nat.zero_le _, rfl, Below.refl _ _⟩
          case round =>
            obtain ⟨j, hj, rfl, hb⟩ := hrel
            obtain ⟨w12, rfl⟩ : ∃ w12 : World, w12 = wr := ⟨_, rfl⟩
            have D12 := Lib.hid hb
            clear hb
            have hj0 : (0 : Int) ≤ (j : Int) := by omega
            by_cases hlt2 : j < m3
            · obtain ⟨ga, rfl, _, a0, a1⟩ := (T9.out.up D12.out) j hlt2
              obtain ⟨gb, rfl, _, b0, b1⟩ := (T7.out.up D12.out) j hlt2
              have hji : (j : Int) < (m3 : Int) := by omega
              rw [Rls_ng] at a0 a1
              simp only [swp] at a0 a1
              obtain ⟨u1, u2, u3, u4⟩ := HB3.out j hlt2
              generalize (Rls p Z k j).1 = X at a1 b0 u1 u2
              generalize (Rls p Z k j).2 = Y at a0 b1 u3 u4
              have w1' : IntKind.i64.wrap (-X) = -X := IntWalk.i64_in _ (by omega)
              have w2' : IntKind.i64.wrap (-Y) = -Y := IntWalk.i64_in _ (by omega)
              clear u1 u2 u3 u4
              go_wp2_with fail
              go_quiet (fail)
              clear w1' w2'
              go_wp2_with fail
              go_roundw
              case rel => exact ⟨j + 1, by omega, by go_num, D12.out.trans (below_drewN (Below.refl _ _) _)⟩
              case measure => simp [intOf]; omega
            · have hji : (m3 : Int) ≤ (j : Int) := by omega
              have C12 := Lib.hid (nextB C11.out D12.out)
              have Hp12 := Lib.hid (Hp11.out.up D12.out zp11)
              have zp12 := Hp12.out.lt
              obtain ⟨x0, x1, x2, x3⟩ := Hp12.out
              go_wp2_with fail
              refine (K5.out _ C12.out).mono ?_
              rintro e w13 hP
              obtain ⟨v13, e13, hb13⟩ := hP.any
              subst e13
              have Q13 := Lib.hid (LQ.of hP (Below.refl _ _))
              have C13 := Lib.hid (nextB C12.out hb13)
              have Hp13 := Lib.hid (Hp12.out.up hb13 zp12)
              have zp13 := Hp13.out.lt
              clear x0 x1 x2 x3 hP hb13 K5
              obtain ⟨x0, x1, x2, x3⟩ := Hp13.out
              go_upto_region 21 with fail
              go_cut [20, 21] (fun v20 v21 wx => v21 = .int .i64 E4 ∧ LQ w13 (memL p.b Z k) E4 v20 wx)
              case first =>
                go_region_with (first
                  | (go_at_call 63; refine (KT.out _ (by first | exact C13.out | exact C13.out.drew)).mono ?_; rintro e w14 ⟨v14, rfl, hr14⟩; have D14 := Lib.hid (show Below w13.heap.size w13 w14 from by first | exact hr14.below | exact (Below.refl _ _).drew.trans (hr14.below.mono (by simp only [World.size_drew]; omega))); obtain ⟨A14, c14, rfl, hin14⟩ := row_upTo (by have := hr14.own; rwa [upTo_len] at this) hn1; have HJ14 := Lib.hid hin14; obtain ⟨s0, s1, s2, s3⟩ := Hp13.out.up D14.out zp13; clear hr14 hin14)
                  | (go_at_call 54; refine (K6.out _ _ _ HJ14.out).mono ?_; rintro e w15 hP15; obtain ⟨v15, e15, hb15⟩ := hP15.any; subst e15; have Q15 := Lib.hid (LQ.of hP15 D14.out); clear hP15 hb15))
                all_goals
                  go_wp2_with fail
                  go_meet
                  exact ⟨rfl, Q15.out⟩
              case rest =>
                obtain ⟨rfl, hq⟩ := hcut
                obtain ⟨w15, rfl⟩ : ∃ w15 : World, w15 = wc := ⟨_, rfl⟩
                have Q15 := Lib.hid hq
                have C15 := Lib.hid (nextB C13.out hq.1)
                have Q13' := Lib.hid (Q13.out.up hq.1)
                clear hq x0 x1 x2 x3 K6 Q13
                go_wp2_with fail
                refine (K7.out _ C15.out).mono ?_
                rintro e w16 hP
                obtain ⟨v16, e16, hb16⟩ := hP.any
                subst e16
                have Q16 := Lib.hid (LQ.of hP (Below.refl _ _))
                have C16 := Lib.hid (nextB C15.out hb16)
                have D16 := Lib.hid hb16
                clear hP hb16 K7
                go_wp2_with fail
                refine (KT.out _ C16.out).mono ?_
                rintro e w17 ⟨v17, rfl, hr17⟩
                have D17 := Lib.hid hr17.below
                obtain ⟨A17, c17, rfl, hin17⟩ := row_upTo (by have := hr17.own; rwa [upTo_len] at this) hn1
                have HJ17 := Lib.hid hin17
                clear hr17 hin17
                go_wp2_with fail
                refine (K8.out _ _ _ HJ17.out).mono ?_
                rintro e w18 hP18
                obtain ⟨v24, e18, hb18⟩ := hP18.any
                subst e18
                have hq := LQ.of hP18 D17.out
                clear hP18 hb18
                have D18 := Lib.hid hq.1
                have C18 := Lib.hid (nextB C16.out hq.1)
                obtain ⟨hlm, hltn⟩ := HLL.out
                obtain ⟨P1, e1, rfl, r1⟩ := (Q13'.out.up (nextB D16.out D18.out)).rowL hlm
                obtain ⟨P2, e2, rfl, r2⟩ := (Q15.out.up (nextB D16.out D18.out)).rowL hlm
                obtain ⟨P3, e3, rfl, r3⟩ := (Q16.out.up D18.out).rowL hltn
                obtain ⟨P4, e4, rfl, r4⟩ := hq.rowL hltn
                have R3 := Lib.hid r3
                have R4 := Lib.hid r4
                have KS1 := Lib.hid (SameInts_t _ P1 P2 e1 e2 _ _ w18 r1 r2 (fun _ _ => rfl))
                have KS2 : Hid (∀ W, Below w18.heap.size w18 W → Calls Try.prog 29 #[.slice P3 (mE (turnsL Z k).length E5) e3, .slice P4 (mE (turnsL Z k).length E5) e4] W fun e w' => e = .returned (.bool true) ∧ Below W.heap.size W w') :=
                  Lib.hid fun W hW => SameInts_t _ P3 P4 e3 e4 _ _ W ((R3.out.up hW (Nat.le_refl _)).more hW.size) ((R4.out.up hW (Nat.le_refl _)).more hW.size) (fun _ _ => rfl)
                clear hq r1 r2 r3 r4 K8 Q13' Q15 Q16 hlm hltn
                generalize mE (memL p.b Z k).length E4 = m4 at *
                generalize mE (turnsL Z k).length E5 = m5 at *
                go_wp2_with fail
                refine KS1.out.mono ?_
                rintro e w19 ⟨rfl, hb19⟩
                have D19 := Lib.hid hb19
                clear hb19
                go_wp2_with fail
                refine (KS2.out _ D19.out).mono ?_
                rintro e w20 ⟨rfl, hb20⟩
                have D20 := Lib.hid hb20
                clear hb20
                go_wp2_with fail
                go_ret
                exact ⟨rfl, nextB C18.out (nextB D19.out D20.out)⟩
end Go.Proofs.Ytkidhmajlpceeaa
