/- PensMemory's law. -/
import Derived.Test.YtkidhmajlpceeaaMma
import Derived.Test.YtkidhmajlpceeaaPgU
namespace Go.Proofs.Ytkidhmajlpceeaa
open Go.RowKit
set_option maxHeartbeats 1000000 in
theorem Lazy_any (b s r : Int) (w : World) (hb : -1000 ≤ b ∧ b ≤ 1000) (hr : -1000000 ≤ r ∧ r ≤ 1000000) :
    Calls Try.prog 62 #[.int .i64 b, .int .i64 s, .int .i64 r] w fun e w' => e = .returned (.int .i64 (lz b s r)) ∧ w = w' := by
  have w1' : IntKind.i64.wrap (r - b) = r - b := IntWalk.i64_in _ (by omega)
  have w2' : IntKind.i64.wrap (r + b) = r + b := IntWalk.i64_in _ (by omega)
  have el : lz b s r = max (r - b) (min (r + b) s) := rfl
  rw [el]
  clear el
  go_enter Try.func62, Try.ntmps62
  go_wp2_with fail
  go_ret
  exact ⟨rfl, rfl⟩
theorem fol_okM {p : Pn} {f : Int} {n : Nat} {Z : Nat → Int} (h : folR p f n Z 0) : p.Ok ∧ Lev f ∧ LsOk Z n := fol_ok h
theorem LQ.row2 {w0 wx : World} {F : Nat → Int} {n : Nat} {v : Value} (h : LQ w0 (upTo F n) 0 v wx) (hn : n ≤ 1000) : ∃ A c, v = .slice A n c ∧ IntsIn A n F wx.heap.size wx := h.row hn
theorem LQ.rowM {w0 wx : World} {L : List Int} {v : Value} (h : LQ w0 L 0 v wx) (hn : L.length ≤ 1000) : ∃ A c, v = .slice A L.length c ∧ IntsIn A L.length (asZ L) wx.heap.size wx := h.rowL hn
theorem pv_at (b f : Int) (K : Nat → Int) (q : Nat) (h : 0 < q) : pvS b f K q = shw b f K (q - 1) := by
  obtain ⟨k, rfl⟩ : ∃ k, q = k + 1 := ⟨q - 1, by omega⟩
  rfl
theorem sw_bdM {Z : Nat → Int} {n : Nat} (h : Lvs Z n) : ∀ k, k < n → -50000 ≤ swL Z k ∧ swH Z k ≤ 50000
  | 0, hk => h 0 hk
  | k + 1, hk => by
    have h1 := sw_bdM h k (by omega)
    have h2 := h (k + 1) hk
    show -50000 ≤ min (swL Z k) (Z (k + 1)) ∧ max (swH Z k) (Z (k + 1)) ≤ 50000
    omega
set_option maxRecDepth 100000 in
set_option maxHeartbeats 4000000 in
theorem memory_law (p : Pn) (f : Int) (A : Option Addr) (n c : Nat) (Z : Nat → Int) (g : Int) (w : World) (hin : IntsIn A n Z w.heap.size w) :
    Calls Try.prog 14 #[p.v, .int .i64 f, .slice A n c, .int .i64 g] w fun e w' => e = .returned (.bool true) ∧ Below w.heap.size w w' := by
  have HIN := Lib.hid hin
  have hn := hin.1
  clear hin
  have KF := Lib.hid fun W => few_any A n c W
  go_enter Try.func14, Try.ntmps14
  go_wp2_with fail
  refine (awake_any _).mono ?_
  rintro e w2 ⟨rfl, hb2⟩
  have hp2 := (pn_new w p.b p.lo p.hi p.r).up hb2 (by simp)
  have C2 := Lib.hid (nextB (box1 w _) hb2)
  have zp2 := hp2.lt
  have Hp2 := Lib.hid hp2
  clear hb2 hp2
  by_cases hf : (n : Int) ≤ 500
  · have df : decide ((n : Int) ≤ 500) = true := by simpa using hf
    rw [df] at KF
    clear df
    by_cases h0 : n = 0
    · subst h0
      go_wp2_with (go_at_call 20; refine (KF.out _).mono ?_; rintro e w' ⟨rfl, rfl⟩)
      go_ret
      exact ⟨rfl, C2.out⟩
    · have n0 : (n == 0) = false := by simpa using h0
      have n1 : ((n : Int) == 0) = false := by simpa using h0
      have hn5 : n ≤ 1000 := by omega
      have hn1 : 0 < n := by omega
      obtain ⟨E1, hE1⟩ := folR_ex p f n Z
      obtain ⟨E2, hE2⟩ : ∃ E, memR p n Z E := by
        by_cases h : p.Ok
        · by_cases hl : LsOk Z n
          · exact ⟨0, .inr ⟨h, .inr ⟨hl, rfl⟩⟩⟩
          · exact ⟨1, .inr ⟨h, .inl ⟨hl, rfl⟩⟩⟩
        · exact ⟨30, .inl ⟨h, rfl⟩⟩
      have K1 : Hid (∀ W, Below w.heap.size w W → Calls Try.prog 25 #[p.v, .int .i64 f, .slice A n c] W fun e w' => LPost W (upTo (shw p.b f Z) n) E1 e w') :=
        Lib.hid fun W hW => Follow_any p f A n c Z E1 W ((HIN.out.up hW (Nat.le_refl _)).more hW.size) hE1
      have K2 : Hid (∀ W, Below w.heap.size w W → Calls Try.prog 54 #[p.v, .slice A n c] W fun e w' => LPost W (memL p.b Z n) E2 e w') :=
        Lib.hid fun W hW => Memory_any p A n c Z E2 W ((HIN.out.up hW (Nat.le_refl _)).more hW.size) hE2
      have HE := Lib.hid (And.intro hE1 hE2)
      obtain ⟨x0, x1, x2, x3⟩ := Hp2.out
      clear hE1 hE2 hf h0
      go_wp2_with (go_at_call 20; refine (KF.out _).mono ?_; rintro e w' ⟨rfl, rfl⟩; clear KF)
      refine (K1.out _ C2.out).mono ?_
      rintro e w3 hP
      obtain ⟨v3, e3, hb3⟩ := hP.any
      subst e3
      have Q3 := Lib.hid (LQ.of hP (Below.refl _ _))
      have C3 := Lib.hid (nextB C2.out hb3)
      have Hp3 := Lib.hid (Hp2.out.up hb3 zp2)
      have zp3 := Hp3.out.lt
      clear x0 x1 x2 x3 hP hb3 K1
      obtain ⟨x0, x1, x2, x3⟩ := Hp3.out
      go_wp2_with fail
      refine (K2.out _ C3.out).mono ?_
      rintro e w4 hP
      obtain ⟨v4, e4, hb4⟩ := hP.any
      subst e4
      have Q4 := Lib.hid (LQ.of hP (Below.refl _ _))
      have C4 := Lib.hid (nextB C3.out hb4)
      have Hp4 := Lib.hid (Hp3.out.up hb4 zp3)
      have zp4 := Hp4.out.lt
      have Q3' := Lib.hid (Q3.out.up hb4)
      clear x0 x1 x2 x3 hP hb4 K2 Q3
      by_cases g1 : E1 = 0
      · subst g1
        obtain ⟨hok, hLf, hl⟩ := fol_okM HE.out.1
        obtain rfl : E2 = 0 := by
          rcases HE.out.2 with ⟨h, _⟩ | ⟨_, ⟨h, _⟩ | ⟨_, e⟩⟩
          · exact absurd hok h
          · exact absurd hl h
          · exact e
        obtain ⟨f1, f2, f3, f4, f5⟩ := memL_facts (b := p.b) (Z := Z) (n := n) hn1
        obtain ⟨A3, c3, rfl, hin3⟩ := Q3'.out.row2 hn5
        obtain ⟨A4, c4, rfl, hin4⟩ := Q4.out.rowM (by omega)
        obtain ⟨b1, b2⟩ := hok.b
        have hKv : Hid (∀ j, j < (memL p.b Z n).length → -50000 ≤ mKp p.b Z n j ∧ mKp p.b Z n j ≤ 50000) := Lib.hid fun j hj => hl.2.2 _ (f3 j hj).2
        have hag := mem_again (b := p.b) (Z := Z) (n := n) hn1
        have hsh := mem_shw b1 Z n hn1 f
        have hn4 := hl.2.1
        have HF3 := Lib.hid f3
        have HF4 := Lib.hid f4
        have HF5 := Lib.hid f5
        have HN3 := Lib.hid hin3
        have HN4 := Lib.hid hin4
        have KL := Lib.hid fun s r W h => Lazy_any p.b s r W (by omega) h
        have hlast : asZ (memL p.b Z n) ((memL p.b Z n).length - 1) = ((n - 1 : Nat) : Int) := by rw [(f3 _ (by omega)).1, f5]
        have hfg : 2 * p.b ≤ swH (mKp p.b Z n) ((memL p.b Z n).length - 1) - swL (mKp p.b Z n) ((memL p.b Z n).length - 1) → shw p.b g (mKp p.b Z n) ((memL p.b Z n).length - 1) = shw p.b f (mKp p.b Z n) ((memL p.b Z n).length - 1) := fun h => forgot b1 _ _ _ _ h
        have hKX : ∀ j, mKp p.b Z n j = Z (mIx p.b Z n j) := fun j => rfl
        have HKX := Lib.hid hKX
        have KMem : Hid (∀ W B d, IntsIn B (memL p.b Z n).length (mKp p.b Z n) W.heap.size W → Calls Try.prog 54 #[p.v, .slice B (memL p.b Z n).length d] W fun e w' => LPost W (memL p.b (mKp p.b Z n) (memL p.b Z n).length) 0 e w') :=
          Lib.hid fun W B d h => Memory_any p B _ d _ 0 W h (.inr ⟨hok, .inr ⟨⟨by omega, by omega, hKv.out⟩, rfl⟩⟩)
        have KSw : Hid (∀ W B d, IntsIn B (memL p.b Z n).length (mKp p.b Z n) W.heap.size W → Calls Try.prog 48 #[.slice B (memL p.b Z n).length d] W fun e w' => e = .returned (.tuple #[.agg #[.int .i64 (swL (mKp p.b Z n) ((memL p.b Z n).length - 1)), .int .i64 (swH (mKp p.b Z n) ((memL p.b Z n).length - 1))], .int .i64 0]) ∧ Below W.heap.size W w') :=
          Lib.hid fun W B d h => Swing_any B _ d _ _ _ 0 W h (.inl ⟨⟨by omega, by omega, hKv.out⟩, rfl, rfl, rfl⟩)
        have hswb := sw_bdM (Z := mKp p.b Z n) (n := (memL p.b Z n).length) hKv.out ((memL p.b Z n).length - 1) (by omega)
        have hswl := sw_le (mKp p.b Z n) ((memL p.b Z n).length - 1)
        clear hl hLf f3 f4 f5 hin3 hin4 hKX hok HE Q3' Q4
        generalize hT : memL p.b Z n = T at *
        generalize hq : T.length = q at *
        generalize hK : mKp p.b Z n = K at *
        generalize hX : mIx p.b Z n = X at *
        obtain ⟨x0, x1, x2, x3⟩ := Hp4.out
        obtain ⟨a4, r4, _, i4⟩ := HN4.out.2 (q - 1) (by omega)
        subst r4
        rw [hlast] at i4
        have q0 : (q == 0) = false := by simpa using (by omega : ¬ q = 0)
        have q1 : ((q : Int) == 0) = false := by simpa using (by omega : ¬ q = 0)
        have w1' : IntKind.i64.wrap ((q : Int) - 1) = ((q - 1 : Nat) : Int) := by rw [show (q : Int) - 1 = ((q - 1 : Nat) : Int) by omega]; exact IntWalk.i64_in _ (by omega)
        have w2' : IntKind.i64.wrap ((n : Int) - 1) = ((n - 1 : Nat) : Int) := by rw [show (n : Int) - 1 = ((n - 1 : Nat) : Int) by omega]; exact IntWalk.i64_in _ (by omega)
        have q2 : ((q - 1 : Nat) : Int) < (q : Int) := by omega
        have q3 : (0 : Int) ≤ ((q - 1 : Nat) : Int) := by omega
        have HQ := Lib.hid (And.intro hag (And.intro hsh hfg))
        have HQ2 := Lib.hid (And.intro hswb hswl)
        obtain ⟨qm, hqm⟩ : ∃ qm : Nat, qm = q - 1 := ⟨_, rfl⟩
        obtain ⟨nm, hnm⟩ : ∃ nm : Nat, nm = n - 1 := ⟨_, rfl⟩
        rw [← hqm] at i4 w1' q2 q3
        rw [← hnm] at i4 w2'
        have HQM := Lib.hid (And.intro hqm hnm)
        have HW2 := Lib.hid w2'
        have HWr : Hid (∀ x : Int, -1000000 ≤ x → x ≤ 1000000 → IntKind.i64.wrap x = x) := Lib.hid fun x h1 h2 => IntWalk.i64_in _ (by omega)
        have hnmn : nm < n := by omega
        have hq1000 : (memL p.b K q).length ≤ 1000 := by rw [hag]; omega
        have hq1 : q ≤ 1000 := by omega
        have nn0 : ((nm : Int) != (nm : Int)) = false := by simp
        have hql : q ≤ 401 := by omega
        clear hag hsh hfg hlast hT hq hX hswb hswl hqm hnm
        obtain ⟨i0, hi0, hz0, hz1, hz2⟩ := info_parts Try.infoInt
        go_wp2_with fail
        clear w1' w2' i4 x0 x1 x2 x3 nn0 q0 q1
        go_loopw [14, 15, 16, 17] (fun at_ far kept i wr => ∃ k : Nat, k ≤ q ∧ at_ = .int .i64 (pvS p.b f K k) ∧ far = .int .i64 (pvS p.b g K k) ∧ i = .int .i64 (k : Int) ∧ RowZ w4 (upTo K k) kept wr) (fun _ _ _ i _ => q - (intOf i).toNat)
        case atStart => exact ⟨0, Nat.zero_le _, rfl, rfl, rfl, Below.refl _ _, World.ownsRow_nil _ _ _ _⟩
        case round =>
          obtain ⟨k, hk, rfl, rfl, rfl, hR⟩ := hrel
          obtain ⟨wo, rfl⟩ : ∃ wo : World, wo = wr := ⟨_, rfl⟩
          have HR := Lib.hid hR
          have hk0 : (0 : Int) ≤ (k : Int) := by omega
          have C5 := Lib.hid (nextB C4.out hR.below)
          have Hp5 := Lib.hid (Hp4.out.up hR.below zp4)
          have zp5 := Hp5.out.lt
          have hzw := hR.below.size
          clear hR
          by_cases hlt : k < q
          · have hki : (k : Int) < (q : Int) := by omega
            obtain ⟨a5, r5, _, c5⟩ := (HN4.out.up HR.out.below (Nat.le_refl _)).2 k hlt
            cases r5
            obtain ⟨e5, hXn⟩ := HF3.out k hlt
            rw [e5] at c5
            obtain ⟨a6, r6, _, c6⟩ := (HIN.out.up C5.out (Nat.le_refl _)).2 (X k) hXn
            subst r6
            have eK := HKX.out k
            rw [← eK] at c6
            have az5 := World.block_lt_of_cell? _ _ c5
            have az6 := World.block_lt_of_cell? _ _ c6
            have eP : pvS p.b f K (k + 1) = lz p.b (pvS p.b f K k) (K k) := shw_pv p.b f K k
            have eG : pvS p.b g K (k + 1) = lz p.b (pvS p.b g K k) (K k) := shw_pv p.b g K k
            have HPG := Lib.hid (And.intro eP eG)
            have kv := hKv.out k hlt
            have KL1 := Lib.hid fun W => KL.out (pvS p.b f K k) (K k) W (by omega)
            have KL2 := Lib.hid fun W => KL.out (pvS p.b g K k) (K k) W (by omega)
            generalize hKk : K k = Kk at *
            have HKk := Lib.hid hKk
            have t1 : decide ((X k : Int) < 0) = false := decide_eq_false (by omega)
            have t2 : decide ((n : Int) ≤ (X k : Int)) = false := decide_eq_false (by omega)
            have t2' : decide (n ≤ X k) = false := decide_eq_false (by omega)
            have hXi : (X k : Int) < (n : Int) := by omega
            have hX0 : (0 : Int) ≤ (X k : Int) := by omega
            have HX1 : Hid (∀ m : Nat, m + 1 = k → X m < X k) := Lib.hid fun m hm => by subst hm; exact HF4.out m hlt
            generalize hXk : X k = Xk at *
            clear e5 hXn eK eP eG kv hKk hXk
            obtain ⟨x0, x1, x2, x3⟩ := Hp5.out
            go_wp2_with fail
            go_upto_region 16 with fail
            go_cut [104] (fun v wx => v = .bool false ∧ Below wo.heap.size wo wx)
            case first =>
              by_cases hk1 : k = 0
              · have u1 : decide ((0 : Int) < (k : Int)) = false := decide_eq_false (by omega)
                have u2 : decide (0 < k) = false := decide_eq_false (by omega)
                clear hk1
                go_quiet (fail)
                go_wp2_with fail
                go_meet
                exact ⟨rfl, below_drewN (Below.refl _ _) _⟩
              · obtain ⟨m, hm⟩ : ∃ m : Nat, m + 1 = k := ⟨k - 1, by omega⟩
                have u1 : decide ((0 : Int) < (k : Int)) = true := decide_eq_true (by omega)
                have u2 : decide (0 < k) = true := decide_eq_true (by omega)
                have u3 : IntKind.i64.wrap ((k : Int) - 1) = (m : Int) := by rw [show (k : Int) - 1 = (m : Int) by omega]; exact IntWalk.i64_in _ (by omega)
                have u4 : (m : Int) < (q : Int) := by omega
                have u5 : (0 : Int) ≤ (m : Int) := by omega
                obtain ⟨a7, r7, _, c7⟩ := (HN4.out.up HR.out.below (Nat.le_refl _)).2 m (by omega)
                cases r7
                rw [(HF3.out m (by omega)).1] at c7
                have hlt7 := HX1.out m hm
                have u6 : decide ((Xk : Int) ≤ (X m : Int)) = false := decide_eq_false (by omega)
                have u7 : decide (Xk ≤ X m) = false := decide_eq_false (by omega)
                clear hk1 hm hlt7
                generalize X m = Xm at *
                go_quiet (fail)
                go_wp2_with fail
                go_meet
                exact ⟨rfl, below_drewN (Below.refl _ _) _⟩
            case rest =>
              obtain ⟨rfl, hb6⟩ := hcut
              obtain ⟨w6, rfl⟩ : ∃ w6 : World, w6 = wc := ⟨_, rfl⟩
              have D6 := Lib.hid hb6
              have Hp6 := Lib.hid (Hp5.out.up hb6 zp5)
              have zp6 := Hp6.out.lt
              have d5 := (hb6.cell (p := a4.add k) az5).trans c5
              have d6 := (hb6.cell (p := a6.add Xk) az6).trans c6
              have bz5 := World.block_lt_of_cell? _ _ d5
              have bz6 := World.block_lt_of_cell? _ _ d6
              clear hb6 x0 x1 x2 x3 c5 c6 az5 az6 HX1
              obtain ⟨x0, x1, x2, x3⟩ := Hp6.out
              go_wp2_with fail
              go_upto_region 18 with fail
              go_cut [14] (fun v wx => v = .int .i64 (lz p.b (pvS p.b f K k) Kk) ∧ Below w6.heap.size w6 wx)
              case first =>
                go_quiet ((go_at_call 62; exact Calls.quiet_of_same ((KL1.out _).mono fun _ _ h => ⟨h.1, h.2.symm⟩)))
                go_wp2_with fail
                go_meet
                exact ⟨rfl, below_drewN (Below.refl _ _) _⟩
              case rest =>
              obtain ⟨rfl, hb9⟩ := hcut
              obtain ⟨w9, rfl⟩ : ∃ w9 : World, w9 = wc := ⟨_, rfl⟩
              have D6 := Lib.hid (D6.out.trans (hb9.mono D6.out.size))
              have Hp6 := Lib.hid (Hp6.out.up hb9 zp6)
              have zp6 := Hp6.out.lt
              have d5 := (hb9.cell (p := a4.add k) bz5).trans d5
              have d6 := (hb9.cell (p := a6.add Xk) bz6).trans d6
              have bz5 := World.block_lt_of_cell? _ _ d5
              have bz6 := World.block_lt_of_cell? _ _ d6
              obtain ⟨x0, x1, x2, x3⟩ := Hp6.out
              clear hb9
              obtain ⟨w6, hw6⟩ : ∃ w6 : World, w6 = w9 := ⟨_, rfl⟩
              rw [← hw6] at D6 Hp6 zp6 d5 d6 bz5 bz6 x0 x1 x2 x3 ⊢
              clear hw6
              go_wp2_with fail
              go_upto_region 19 with fail
              go_cut [15] (fun v wx => v = .int .i64 (lz p.b (pvS p.b g K k) Kk) ∧ Below w6.heap.size w6 wx)
              case first =>
                go_quiet ((go_at_call 62; exact Calls.quiet_of_same ((KL2.out _).mono fun _ _ h => ⟨h.1, h.2.symm⟩)))
                go_wp2_with fail
                go_meet
                exact ⟨rfl, by first | exact below_drewN (below_drewN (Below.refl _ _) _) _ | exact below_drewN (Below.refl _ _) _⟩
              case rest =>
                obtain ⟨rfl, hb7⟩ := hcut
                obtain ⟨w7, rfl⟩ : ∃ w7 : World, w7 = wc := ⟨_, rfl⟩
                have h67 := D6.out.trans (hb7.mono D6.out.size)
                have hR7 : RowZ w4 (upTo K k) _ w7 := ⟨HR.out.below.trans (h67.mono HR.out.below.size), own_keep HR.out.own h67⟩
                have HR7 := Lib.hid hR7
                have g5 := (hb7.cell (p := a4.add k) bz5).trans d5
                have g6 := (hb7.cell (p := a6.add Xk) bz6).trans d6
                have hown := hR7.own
                rw [upTo_len] at hown
                have hsz := hR7.below.size
                clear hR7 h67 hb7 d5 d6 bz5 bz6 x0 x1 x2 x3
                go_wp2_with (at_builtin; refine wpList_append_own _ rfl _ _ 28 rfl w4.heap.size 3 i0 (.int .i64 0) 1 8 Try.underlying28 hi0 hz0 hz1 hz2 rfl (by decide) _ k _ rfl (hown.alloc _) ⟨w7.heap.size, 0, none⟩ 1 1 [.int .i64 Kk] rfl rfl (new1 _ _) (by simp [Value.oneCell']) (by unfold maxLen; omega) (by omega) (by rw [World.size_alloc]; omega) ?_; intro v8 w8 hown8 hg8 _; have HN8 := Lib.hid (HR7.out.app (z := Kk) hg8 (by rw [upTo_len]; exact hown8)); clear hown hown8 hg8)
                go_roundw
                case rel => exact ⟨k + 1, by omega, by rw [HPG.out.1], by rw [HPG.out.2], by go_num, by rw [upTo_succ, HKk.out]; exact HN8.out⟩
                case measure => simp [intOf]; omega
          · have hki : (q : Int) ≤ (k : Int) := by omega
            obtain rfl : k = q := by omega
            obtain ⟨A5, c5, rfl, hin5⟩ := row_upTo (by have := HR.out.own; rwa [upTo_len] at this) hq1
            have eP := pv_at p.b f K k f1
            have eG := pv_at p.b g K k f1
            rw [eP, eG, HQ.out.2.1]
            have K3 := Lib.hid (KMem.out wo A5 c5 hin5)
            have HN5 := Lib.hid hin5
            obtain ⟨x0, x1, x2, x3⟩ := Hp5.out
            clear hin5 eP eG
            go_wp2_with fail
            refine K3.out.mono ?_
            rintro e w6 hP
            obtain ⟨v6, e6, hb6⟩ := hP.any
            subst e6
            have Q6 := Lib.hid (LQ.of hP (Below.refl _ _))
            have C6 := Lib.hid (nextB C5.out hb6)
            have Hp6 := Lib.hid (Hp5.out.up hb6 zp5)
            have zp6 := Hp6.out.lt
            have K4 := Lib.hid (KSw.out w6 A5 c5 ((HN5.out.up hb6 (Nat.le_refl _)).more hb6.size))
            obtain ⟨A6, c6, rfl, _⟩ := Q6.out.rowM hq1000
            rw [HQ.out.1]
            clear x0 x1 x2 x3 hP hb6 K3
            go_wp2_with fail
            refine K4.out.mono ?_
            rintro e w7 ⟨rfl, hb7⟩
            have C7 := Lib.hid (nextB C6.out hb7)
            have Hp7 := Lib.hid (Hp6.out.up hb7 zp6)
            have zp7 := Hp7.out.lt
            obtain ⟨a3, r3, _, i3⟩ := (HN3.out.up (nextB HR.out.below (nextB (show Below wo.heap.size wo w6 from Q6.out.1) hb7)) (Nat.le_refl _)).2 nm hnmn
            subst r3
            have az3 := World.block_lt_of_cell? _ _ i3
            have ei : shw p.b f Z nm = shw p.b f Z (n - 1) := by rw [HQM.out.2]
            rw [ei] at i3
            have w2' : IntKind.i64.wrap ((n : Int) - 1) = (nm : Int) := HW2.out
            have hfg := HQ.out.2.2
            rw [HQ.out.2.1] at hfg
            obtain ⟨⟨l1, l2⟩, l3⟩ := HQ2.out
            generalize hSf : shw p.b f Z (n - 1) = Sf at *
            generalize hSg : shw p.b g K (k - 1) = Sg at *
            generalize hL : swL K (k - 1) = L at *
            generalize hH : swH K (k - 1) = H at *
            have w3' : IntKind.i64.wrap (H - L) = H - L := HWr.out _ (by omega) (by omega)
            have w4' : IntKind.i64.wrap (2 * p.b) = 2 * p.b := HWr.out _ (by omega) (by omega)
            have hnl : (nm : Int) < (n : Int) := by omega
            have hn0 : (0 : Int) ≤ (nm : Int) := by omega
            have sff : (Sf != Sf) = false := by simp
            have kff : ((k : Int) != (k : Int)) = false := by simp
            have HD7 := Lib.hid (nextB C7.out (box1 w7 (.cells #[.int .i64 L, .int .i64 H] 23)))
            by_cases hd : H - L < 2 * p.b
            · have hdd : decide (H - L < 2 * p.b) = true := decide_eq_true hd
              clear K4 hb7 hfg l1 l2 l3 hSf hSg hL hH hd
              obtain ⟨x0, x1, x2, x3⟩ := Hp7.out
              go_wp2_with fail
              go_ret
              exact ⟨rfl, HD7.out⟩
            · have hdd : decide (H - L < 2 * p.b) = false := decide_eq_false hd
              have hgf : (Sg == Sf) = true := by simpa using hfg (by omega)
              clear K4 hb7 hfg l1 l2 l3 hSf hSg hL hH hd
              obtain ⟨x0, x1, x2, x3⟩ := Hp7.out
              go_wp2_with fail
              go_ret
              exact ⟨rfl, HD7.out⟩
      · have g4 : (E1 == 0) = false := by simpa using g1
        have g5 : (E1 != 0) = true := by simpa using g1
        clear g1
        go_wp2_with fail
        go_ret
        exact ⟨rfl, C4.out⟩
  · have df : decide ((n : Int) ≤ 500) = false := by simpa using hf
    rw [df] at KF
    clear df hf
    go_wp2_with (go_at_call 20; refine (KF.out _).mono ?_; rintro e w' ⟨rfl, rfl⟩)
    go_ret
    exact ⟨rfl, C2.out⟩
end Go.Proofs.Ytkidhmajlpceeaa
