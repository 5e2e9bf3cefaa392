/- PensApart's law. -/
import Derived.Test.YtkidhmajlpceeaaSwg
import Derived.Test.YtkidhmajlpceeaaPgU
namespace Go.Proofs.Ytkidhmajlpceeaa
open Go.RowKit
theorem shw_in {b : Int} (hb : 0 ≤ b) (K : Nat → Int) (x : Int) : ∀ k, shw b (K 0 - b) K k ≤ shw b x K k ∧ shw b x K k ≤ shw b (K 0 + b) K k
  | 0 => by show lz b (K 0 - b) (K 0) ≤ lz b x (K 0) ∧ lz b x (K 0) ≤ lz b (K 0 + b) (K 0); unfold lz; omega
  | k + 1 => by
    have ih := shw_in hb K x k
    show lz b (shw b (K 0 - b) K k) (K (k + 1)) ≤ lz b (shw b x K k) (K (k + 1)) ∧ lz b (shw b x K k) (K (k + 1)) ≤ lz b (shw b (K 0 + b) K k) (K (k + 1))
    unfold lz; omega
theorem sw_bd {Z : Nat → Int} {n : Nat} (h : Lvs Z n) : ∀ k, k < n → -50000 ≤ swL Z k ∧ swH Z k ≤ 50000
  | 0, hk => h 0 hk
  | k + 1, hk => by
    have h1 := sw_bd h k (by omega)
    have h2 := h (k + 1) hk
    show -50000 ≤ min (swL Z k) (Z (k + 1)) ∧ max (swH Z k) (Z (k + 1)) ≤ 50000
    omega
theorem fol_zeroP {p : Pn} {f : Int} {n : Nat} {Z : Nat → Int} (h : folR p f n Z 0) : ∀ k, k < n → okAt p f Z k := by
  rcases h with ⟨_, e⟩ | ⟨hp, ⟨_, e⟩ | ⟨hf, ⟨_, e⟩ | ⟨hl, ⟨h1, _⟩ | ⟨_, e⟩⟩⟩⟩
  · omega
  · omega
  · omega
  · exact h1
  · omega
theorem LQ.row1 {w0 wx : World} {F : Nat → Int} {n : Nat} {v : Value} (h : LQ w0 (upTo F n) 0 v wx) (hn : n ≤ 1000) : ∃ A c, v = .slice A n c ∧ IntsIn A n F wx.heap.size wx := h.row hn
theorem ints_cut {A : Option Addr} {n k B : Nat} {Z : Nat → Int} {w : World} (h : IntsIn A n Z B w) (hk : k ≤ n) : IntsIn A k Z B w := ⟨by have := h.1; omega, fun i hi => h.2 i (by omega)⟩
theorem swing_at (A : Option Addr) (n c k : Nat) (Z : Nat → Int) (W : World) (h : IntsIn A n Z W.heap.size W) (hl : LsOk Z n) (hk : k < n) :
    Calls Try.prog 48 #[.slice A (k + 1) c] W fun e w' => e = .returned (.tuple #[.agg #[.int .i64 (swL Z k), .int .i64 (swH Z k)], .int .i64 0]) ∧ Below W.heap.size W w' := by
  have h2 : LsOk Z (k + 1) := ⟨by omega, by have := hl.2.1; omega, fun i hi => hl.2.2 i (by omega)⟩
  have h3 : swgR (k + 1) Z (swL Z k) (swH Z k) 0 := .inl ⟨h2, by rw [Nat.add_sub_cancel], by rw [Nat.add_sub_cancel], rfl⟩
  exact Swing_any A (k + 1) c Z _ _ 0 W (ints_cut h (by omega)) h3
set_option maxRecDepth 100000 in
set_option maxHeartbeats 4000000 in
theorem apart_law (p : Pn) (A : Option Addr) (n c : Nat) (Z : Nat → Int) (f : Int) (w : World) (hin : IntsIn A n Z w.heap.size w) (hcap : n ≤ c) :
    Calls Try.prog 12 #[p.v, .slice A n c, .int .i64 f] w fun e w' => e = .returned (.bool true) ∧ Below w.heap.size w w' := by
  have HIN := Lib.hid hin
  have hn := hin.1
  clear hin
  have KF := Lib.hid fun W => few_any A n c W
  go_enter Try.func12, Try.ntmps12
  go_wp2_with fail
  refine (awake_any _).mono ?_
  rintro e w2 ⟨rfl, hb2⟩
  have hp2 := (pn_new w p.b p.lo p.hi p.r).up hb2 (by simp)
  have C2 := Lib.hid (nextB (box1 w _) hb2)
  have zp2 := hp2.lt
  have Hp2 := Lib.hid hp2
  clear hb2 hp2
  by_cases hf : (n : Int) ≤ 500
  · have df : decide ((n : Int) ≤ 500) = true := by simpa using hf
    rw [df] at KF
    clear df
    by_cases h0 : n = 0
    · subst h0
      go_wp2_with (go_at_call 20; refine (KF.out _).mono ?_; rintro e w' ⟨rfl, rfl⟩)
      go_ret
      exact ⟨rfl, C2.out⟩
    · have n0 : (n == 0) = false := by simpa using h0
      have n1 : ((n : Int) == 0) = false := by simpa using h0
      have nn : (0 : Int) < n := by omega
      have hn5 : n ≤ 1000 := by omega
      have hn1 : 0 < n := by omega
      obtain ⟨a, rfl, ab, c0⟩ := (HIN.out.up C2.out (Nat.le_refl _)).2 0 hn1
      have d0 : w2.cell? a = some (.int .i64 (Z 0)) := by simpa [Addr.add] using c0
      have az := World.block_lt_of_cell? _ _ d0
      obtain ⟨E1, hE1⟩ := staR_ex p (Z 0)
      have K1 := Lib.hid fun W => Starts_any p (Z 0) E1 W hE1
      have HE1 := Lib.hid hE1
      obtain ⟨L1, hL1⟩ : ∃ L, L = staL p (Z 0) E1 := ⟨_, rfl⟩
      obtain ⟨H1, hH1⟩ : ∃ H, H = staH p (Z 0) E1 := ⟨_, rfl⟩
      rw [← hL1, ← hH1] at K1
      have HLH := Lib.hid (And.intro hL1 hH1)
      obtain ⟨E2, hE2⟩ := folR_ex p L1 n Z
      obtain ⟨E3, hE3⟩ := folR_ex p H1 n Z
      obtain ⟨E4, hE4⟩ := folR_ex p f n Z
      have K2 : Hid (∀ W, Below w.heap.size w W → Calls Try.prog 25 #[p.v, .int .i64 L1, .slice (some a) n c] W fun e w' => LPost W (upTo (shw p.b L1 Z) n) E2 e w') :=
        Lib.hid fun W hW => Follow_any p L1 (some a) n c Z E2 W ((HIN.out.up hW (Nat.le_refl _)).more hW.size) hE2
      have K3 : Hid (∀ W, Below w.heap.size w W → Calls Try.prog 25 #[p.v, .int .i64 H1, .slice (some a) n c] W fun e w' => LPost W (upTo (shw p.b H1 Z) n) E3 e w') :=
        Lib.hid fun W hW => Follow_any p H1 (some a) n c Z E3 W ((HIN.out.up hW (Nat.le_refl _)).more hW.size) hE3
      have K4 : Hid (∀ W, Below w.heap.size w W → Calls Try.prog 25 #[p.v, .int .i64 f, .slice (some a) n c] W fun e w' => LPost W (upTo (shw p.b f Z) n) E4 e w') :=
        Lib.hid fun W hW => Follow_any p f (some a) n c Z E4 W ((HIN.out.up hW (Nat.le_refl _)).more hW.size) hE4
      have HE2 := Lib.hid (And.intro hE2 hE3)
      obtain ⟨x0, x1, x2, x3⟩ := Hp2.out
      clear hE1 hE2 hE3 hE4 hL1 hH1 h0 c0 hf
      go_wp2_with (go_at_call 20; refine (KF.out _).mono ?_; rintro e w' ⟨rfl, rfl⟩; clear KF)
      go_upto_region 4 with fail
      go_cut [8, 9] (fun v8 v9 wx => ∃ sb : Nat, v8 = .pointer (some ⟨sb, 0, none⟩) ∧ v9 = .int .i64 E1 ∧ w2.heap.size ≤ sb ∧ Below w2.heap.size w2 wx ∧ Bt sb L1 H1 wx)
      case first =>
        --SLOW
        clear HIN K2 K3 K4 HE1 HLH HE2 C2 Hp2
        go_region_with (go_at_call 21; refine (K1.out _).mono ?_; rintro e wA ⟨rfl, hbA⟩; (try (have hN := bt_a hbA; obtain ⟨n0, n1, n2, n3, n4⟩ := hN)); (try (have hN := bt_d hbA; obtain ⟨n0, n1, n2, n3, n4⟩ := hN)); have DA := Lib.hid (show Below w2.heap.size w2 wA from nextB (by first | exact Below.refl _ _ | exact (Below.refl _ _).drew | exact box1 _ _ | exact (box1 _ _).drew) hbA); clear hbA)
        all_goals
          go_wp2_with fail
          go_meet
          first
            | exact ⟨_, rfl, rfl, DA.out.size, nextB DA.out (box1 _ _), Bt.new _ _ _ _⟩
            | exact ⟨_, rfl, rfl, Nat.le_refl _, set1 (set1 DA.out (Nat.le_refl _) _ _) (Nat.le_refl _) _ _, Bt.store ⟨n1, n2, n3, n4⟩ _ _⟩
        --END
      case rest =>
        obtain ⟨sb, rfl, rfl, hsb, hq, hB3⟩ := hcut
        obtain ⟨w3, rfl⟩ : ∃ w3 : World, w3 = wc := ⟨_, rfl⟩
        have C3 := Lib.hid (nextB C2.out hq)
        have Hp3 := Lib.hid (Hp2.out.up hq zp2)
        have zp3 := Hp3.out.lt
        have HB3 := Lib.hid hB3
        have zB3 := hB3.lt
        clear hq x0 x1 x2 x3 K1 d0 hsb
        obtain ⟨x0, x1, x2, x3⟩ := Hp3.out
        obtain ⟨y0, y1, _, _⟩ := hB3
        go_wp2_with fail
        refine (K2.out _ C3.out).mono ?_
        rintro e w4 hP
        obtain ⟨v4, e4, hb4⟩ := hP.any
        subst e4
        have Q4 := Lib.hid (LQ.of hP (Below.refl _ _))
        have C4 := Lib.hid (nextB C3.out hb4)
        have D4 := Lib.hid hb4
        have Hp4 := Lib.hid (Hp3.out.up hb4 zp3)
        have zp4 := Hp4.out.lt
        have HB4 := Lib.hid (HB3.out.up hb4)
        have zB4 := HB4.out.lt
        clear x0 x1 x2 x3 y0 y1 hP hb4 K2
        obtain ⟨x0, x1, x2, x3⟩ := Hp4.out
        obtain ⟨y0, y1, _, _⟩ := HB4.out
        go_wp2_with fail
        refine (K3.out _ C4.out).mono ?_
        rintro e w5 hP
        obtain ⟨v5, e5, hb5⟩ := hP.any
        subst e5
        have Q5 := Lib.hid (LQ.of hP (Below.refl _ _))
        have C5 := Lib.hid (nextB C4.out hb5)
        have D5 := Lib.hid hb5
        have Hp5 := Lib.hid (Hp4.out.up hb5 zp4)
        have zp5 := Hp5.out.lt
        clear x0 x1 x2 x3 y0 y1 hP hb5 K3
        obtain ⟨x0, x1, x2, x3⟩ := Hp5.out
        by_cases g1 : E1 = 0
        · by_cases g2 : E2 = 0
          · by_cases g3 : E3 = 0
            · subst g1; subst g2; subst g3
              obtain ⟨hok, hLv1, hl⟩ := fol_ok HE2.out.1
              have ha1 := fol_zeroP HE2.out.1
              have e1 : L1 = Z 0 - p.b := HLH.out.1
              have e2 : H1 = Z 0 + p.b := HLH.out.2
              subst e1; subst e2
              have hb0 := hok.b.1
              have hb8 := hok.b.2
              have hrate : RateOk p Z n := fun k hk => (okAt_b hok (f := Z 0 - p.b) (by omega) k).1 (ha1 k hk)
              obtain ⟨j, hj⟩ := meets_ex p Z n
              obtain ⟨I, E5, hI⟩ : ∃ I E : Int, (j < n ∧ I = j ∧ E = 0) ∨ (j = n ∧ I = 0 ∧ E = 3) := by
                by_cases h : j < n
                · exact ⟨j, 0, .inl ⟨h, rfl, rfl⟩⟩
                · exact ⟨0, 3, .inr ⟨by have := hj.le; omega, rfl, rfl⟩⟩
              have K5 : Hid (∀ W, Below w.heap.size w W → Calls Try.prog 52 #[p.v, .slice (some a) n c] W fun e w' => e = .returned (.tuple #[.int .i64 I, .int .i64 E5]) ∧ Below W.heap.size W w') :=
                Lib.hid fun W hW => Forgets_ok p (some a) n c Z W ((HIN.out.up hW (Nat.le_refl _)).more hW.size) j I E5 hok hl hrate hj hI
              have HI := Lib.hid hI
              have HLv := Lib.hid hl
              have HPT : Hid (∀ k, k < n → (shw p.b (Z 0 + p.b) Z k - shw p.b (Z 0 - p.b) Z k = max 0 (2 * p.b - (swH Z k - swL Z k))) ∧ (shw p.b (Z 0 - p.b) Z k ≤ shw p.b f Z k ∧ shw p.b f Z k ≤ shw p.b (Z 0 + p.b) Z k) ∧ (-50000 ≤ swL Z k ∧ swL Z k ≤ swH Z k ∧ swH Z k ≤ 50000) ∧ (-60000 ≤ shw p.b (Z 0 - p.b) Z k ∧ shw p.b (Z 0 + p.b) Z k ≤ 60000)) := Lib.hid fun k hk => by
                have b1 := sw_bd hl.2.2 k hk
                have b2 := sw_le Z k
                have b3 := shw_near hb0 (Z 0 - p.b) Z k
                have b4 := shw_near hb0 (Z 0 + p.b) Z k
                have b5 := hl.2.2 k hk
                exact ⟨apart_eq hb0 Z k, shw_in hb0 Z f k, ⟨b1.1, b2, b1.2⟩, ⟨by omega, by omega⟩⟩
              have HJ1 : Hid (∀ k, k < n → k < j → ¬ 2 * p.b ≤ swH Z k - swL Z k) := Lib.hid fun k hk hkj => by
                rw [← apart_iff hb0 Z k]; exact hj.ne k hkj
              have HJ2 : Hid (j < n → 2 * p.b ≤ swH Z j - swL Z j) := Lib.hid fun h => by
                rw [← apart_iff hb0 Z j]; exact hj.eq h
              have hjn := hj.le
              have KW : Hid (∀ k W, k < n → Below w.heap.size w W → Calls Try.prog 48 #[.slice (some a) (k + 1) c] W fun e w' => e = .returned (.tuple #[.agg #[.int .i64 (swL Z k), .int .i64 (swH Z k)], .int .i64 0]) ∧ Below W.heap.size W w') :=
                Lib.hid fun k W hk hW => swing_at (some a) n c k Z W ((HIN.out.up hW (Nat.le_refl _)).more hW.size) hl hk
              obtain ⟨A4, c4, rfl, hin4⟩ := Q4.out.row1 hn5
              obtain ⟨A5, c5, rfl, hin5⟩ := Q5.out.row1 hn5
              have HN4 := Lib.hid (hin4.up D5.out (Nat.le_refl _))
              have HN5 := Lib.hid hin5
              clear hLv1 ha1 hrate hI hj hl hok hin4 hin5 HE1 HE2 HLH
              go_wp2_with fail
              refine (K4.out _ C5.out).mono ?_
              rintro e w6 hP
              obtain ⟨v6, e6, hb6⟩ := hP.any
              subst e6
              have Q6 := Lib.hid (LQ.of hP (Below.refl _ _))
              have C6 := Lib.hid (nextB C5.out hb6)
              have D6 := Lib.hid hb6
              have Hp6 := Lib.hid (Hp5.out.up hb6 zp5)
              have zp6 := Hp6.out.lt
              clear x0 x1 x2 x3 hP hb6 K4
              obtain ⟨x0, x1, x2, x3⟩ := Hp6.out
              go_wp2_with fail
              refine (K5.out _ C6.out).mono ?_
              rintro e w7 ⟨rfl, hb7⟩
              have C7 := Lib.hid (nextB C6.out hb7)
              have D7 := Lib.hid (nextB D6.out hb7)
              have Hp7 := Lib.hid (Hp6.out.up hb7 zp6)
              have zp7 := Hp7.out.lt
              have Q7 := Lib.hid (Q6.out.up hb7)
              clear x0 x1 x2 x3 hb7 K5
              obtain ⟨A6, c6, rfl, hin6⟩ := Q7.out.row hn5
              have HN6 := Lib.hid hin6
              clear hin6 Q6 Q7
              have hz7 := D7.out.size
              have nf : ((n : Int) != (n : Int)) = false := by simp
              have HN4' := Lib.hid ((HN4.out.more D5.out.size).up D7.out (Nat.le_refl _))
              have HN5' := Lib.hid (HN5.out.up D7.out (Nat.le_refl _))
              have hz5 := D5.out.size
              clear HN4 HN5
              go_upto_region 11 with fail
              go_cut [102] (fun v wx => v = .bool false ∧ wx = w7)
              case first =>
                by_cases g6 : E4 = 0
                · subst g6
                  rw [show mE n 0 = n from rfl]
                  go_wp2_with fail
                  go_meet
                  exact ⟨rfl, rfl⟩
                · have g7 : (E4 == 0) = false := by simpa using g6
                  have g8 : (E4 != 0) = true := by simpa using g6
                  clear g6
                  go_wp2_with fail
                  go_meet
                  exact ⟨rfl, rfl⟩
              case rest =>
                obtain ⟨rfl, rfl⟩ := hcut
                obtain ⟨w7, rfl⟩ : ∃ w7 : World, w7 = wc := ⟨_, rfl⟩
                go_wp2_with fail
                go_loopw [18, 19, 20, 21, 109] (fun g i _ _ _ wr => ∃ k : Nat, k ≤ n ∧ g = .bool (decide (j < k)) ∧ i = .int .i64 (k : Int) ∧ Below w7.heap.size w7 wr) (fun _ i _ _ _ _ => n - (intOf i).toNat)
                case atStart => exact ⟨0, Nat.zero_le _, by rw [decide_eq_false (by omega)], rfl, Below.refl _ _⟩
                case round =>
                  obtain ⟨k, hk, rfl, rfl, hb⟩ := hrel
                  obtain ⟨wo, rfl⟩ : ∃ wo : World, wo = wr := ⟨_, rfl⟩
                  have HB := Lib.hid hb
                  have hk0 : (0 : Int) ≤ (k : Int) := by omega
                  have Hp8 := Lib.hid (Hp7.out.up hb zp7)
                  have zp8 := Hp8.out.lt
                  by_cases hlt : k < n
                  · have hki : (k : Int) < (n : Int) := by omega
                    have KS := Lib.hid fun W hW => KW.out k W hlt hW
                    have w1' : IntKind.i64.wrap ((k : Int) + 1) = ((k + 1 : Nat) : Int) := by rw [show (k : Int) + 1 = ((k + 1 : Nat) : Int) by omega]; exact IntWalk.i64_in _ (by omega)
                    have hc0 : (0 : Int) ≤ ((k + 1 : Nat) : Int) := by omega
                    have hc1 : ((k + 1 : Nat) : Int) ≤ (c : Int) := by omega
                    have C8 := Lib.hid (nextB C7.out hb)
                    clear hb
                    go_wp2_with fail
                    refine (KS.out _ C8.out).mono ?_
                    rintro e w9 ⟨rfl, hb9⟩
                    have D9 := Lib.hid (HB.out.trans (hb9.mono HB.out.size))
                    have Hp9 := Lib.hid (Hp8.out.up hb9 zp8)
                    have zp9 := Hp9.out.lt
                    have hz9 := D9.out.size
                    obtain ⟨x0, x1, x2, x3⟩ := Hp9.out
                    obtain ⟨a4, r4, _, i4⟩ := (HN4'.out.up D9.out hz7).2 k hlt
                    obtain ⟨a5, r5, _, i5⟩ := (HN5'.out.up D9.out hz7).2 k hlt
                    subst r4
                    subst r5
                    have az4 := World.block_lt_of_cell? _ _ i4
                    have az5 := World.block_lt_of_cell? _ _ i5
                    obtain ⟨hp1, ⟨hp2, hp3⟩, ⟨q1, q2, q3⟩, ⟨q4, q5⟩⟩ := HPT.out k hlt
                    have H6 := Lib.hid fun hm => (HN6.out.up D9.out (Nat.le_refl _)).2 k hm
                    generalize hX4 : shw p.b (Z 0 - p.b) Z k = X4 at *
                    generalize hX5 : shw p.b (Z 0 + p.b) Z k = X5 at *
                    generalize hX6 : shw p.b f Z k = X6 at *
                    generalize hL : swL Z k = L at *
                    generalize hH : swH Z k = H at *
                    have w2' : IntKind.i64.wrap (X5 - X4) = X5 - X4 := IntWalk.i64_in _ (by omega)
                    have w3' : IntKind.i64.wrap (2 * p.b) = 2 * p.b := IntWalk.i64_in _ (by omega)
                    have w4' : IntKind.i64.wrap (H - L) = H - L := IntWalk.i64_in _ (by omega)
                    have w5' : IntKind.i64.wrap (2 * p.b - (H - L)) = 2 * p.b - (H - L) := IntWalk.i64_in _ (by omega)
                    have s1 : (X5 - X4 == max 0 (2 * p.b - (H - L))) = true := by simpa using hp1
                    have s2 : (X5 - X4 != max 0 (2 * p.b - (H - L))) = false := by simpa using hp1
                    have s3 : decide (X6 < X4) = false := decide_eq_false (by omega)
                    have s4 : decide (X5 < X6) = false := decide_eq_false (by omega)
                    have s3' := Lib.hid (And.intro s3 s4)
                    have hLH := Lib.hid (And.intro hL hH)
                    clear hp1 hp2 hp3 q1 q2 q3 q4 q5 hX4 hX5 hX6 hL hH hb9 s3 s4
                    go_wp2_with fail
                    go_quiet (fail)
                    obtain ⟨wA, hwA⟩ : ∃ wA, wA = (w9.alloc (.cells #[.int .i64 L, .int .i64 H] 23)).drewN nq := ⟨_, rfl⟩
                    rw [← hwA]
                    have hDA : Below w9.heap.size w9 wA := by rw [hwA]; exact below_drewN (box1 _ _) _
                    have hBA : Bt w9.heap.size L H wA := by rw [hwA]; exact (Bt.new w9 _ L H).up (below_drewN (Below.refl _ _) _)
                    have DA := Lib.hid (nextB (show Below w7.heap.size w7 w9 from D9.out) hDA)
                    have HBA := Lib.hid hBA
                    have HpA := Lib.hid (Hp9.out.up hDA zp9)
                    have zpA := HpA.out.lt
                    have zBA := hBA.lt
                    have j4 := (hDA.cell (p := a4.add k) az4).trans i4
                    have j5 := (hDA.cell (p := a5.add k) az5).trans i5
                    have H6A := Lib.hid fun hm => by
                      obtain ⟨u, e, hu, hc⟩ := H6.out hm
                      exact (⟨u, e, (hDA.cell (p := u.add k) (World.block_lt_of_cell? _ _ hc)).trans hc⟩ : ∃ u : Addr, A6 = some u ∧ wA.cell? (u.add k) = some (.int .i64 X6))
                    clear hwA hDA hBA i4 i5 H6 x0 x1 x2 x3 s1 s2 w5' az4 az5
                    obtain ⟨x0, x1, x2, x3⟩ := HpA.out
                    go_wp2_with fail
                    go_upto_region 20 with fail
                    go_cut [164] (fun v wx => v = .bool false ∧ Below wA.heap.size wA wx)
                    case first =>
                      by_cases g6 : E4 = 0
                      · have g7 : (E4 == 0) = true := by simpa using g6
                        have hm : mE n E4 = n := by rw [g6]; rfl
                        obtain ⟨u6, r6, j6⟩ := H6A.out (by rw [hm]; exact hlt)
                        subst r6
                        have hk6 : (k : Int) < ((mE n E4 : Nat) : Int) := by rw [hm]; exact hki
                        obtain ⟨s3, s4⟩ := s3'.out
                        clear g6 hm
                        go_quiet (fail)
                        go_wp2_with fail
                        go_meet
                        exact ⟨rfl, below_drewN (Below.refl _ _) _⟩
                      · have g7 : (E4 == 0) = false := by simpa using g6
                        clear g6
                        go_quiet (fail)
                        go_wp2_with fail
                        go_meet
                        exact ⟨rfl, below_drewN (Below.refl _ _) _⟩
                    case rest =>
                      obtain ⟨rfl, hq⟩ := hcut
                      obtain ⟨wB, rfl⟩ : ∃ wB : World, wB = wc := ⟨_, rfl⟩
                      have DB := Lib.hid (nextB DA.out hq)
                      have HpB := Lib.hid (HpA.out.up hq zpA)
                      have zpB := HpB.out.lt
                      have HBB := HBA.out.up hq
                      have zBB := HBB.lt
                      obtain ⟨y0, y1, _, _⟩ := HBB
                      clear hq x0 x1 x2 x3 j4 j5
                      obtain ⟨x0, x1, x2, x3⟩ := HpB.out
                      rcases Nat.lt_trichotomy j k with hj1 | hj1 | hj1
                      · have hJ : decide (j < k) = true := decide_eq_true hj1
                        have HK := Lib.hid (show decide (j < k + 1) = true from decide_eq_true (by omega))
                        rw [hJ]
                        clear hj1 hJ
                        go_wp2_with fail
                        go_roundw
                        case rel => exact ⟨k + 1, by omega, by rw [HK.out], by go_num, DB.out⟩
                        case measure => simp [intOf]; omega
                      · have hJ : decide (j < k) = false := decide_eq_false (by omega)
                        have HK := Lib.hid (show decide (j < k + 1) = true from decide_eq_true (by omega))
                        have hsw : decide (2 * p.b ≤ H - L) = true := by rw [← hLH.out.1, ← hLH.out.2, ← hj1]; exact decide_eq_true (HJ2.out (by omega))
                        have hI5 : E5 = 0 ∧ I = k := by
                          rcases HI.out with ⟨_, e1, e2⟩ | ⟨e0, _, _⟩
                          · exact ⟨e2, by rw [e1, hj1]⟩
                          · omega
                        have g1 : (E5 == 0) = true := by simpa using hI5.1
                        have g2 : (E5 != 0) = false := by simpa using hI5.1
                        have g3 : (I == (k : Int)) = true := by simpa using hI5.2
                        have g4 : (I != (k : Int)) = false := by simpa using hI5.2
                        rw [hJ]
                        clear hj1 hJ hI5
                        go_wp2_with fail
                        go_roundw
                        case rel => exact ⟨k + 1, by omega, by rw [HK.out], by go_num, DB.out⟩
                        case measure => simp [intOf]; omega
                      · have hJ : decide (j < k) = false := decide_eq_false (by omega)
                        have HK := Lib.hid (show decide (j < k + 1) = false from decide_eq_false (by omega))
                        have hsw : decide (2 * p.b ≤ H - L) = false := by rw [← hLH.out.1, ← hLH.out.2]; exact decide_eq_false (by have := HJ1.out k hlt hj1; omega)
                        rw [hJ]
                        clear hj1 hJ
                        go_wp2_with fail
                        go_roundw
                        case rel => exact ⟨k + 1, by omega, by rw [HK.out], by go_num, DB.out⟩
                        case measure => simp [intOf]; omega
                  · have hki : (n : Int) ≤ (k : Int) := by omega
                    obtain rfl : k = n := by omega
                    by_cases hjk : j < k
                    · have hJ : decide (j < k) = true := decide_eq_true hjk
                      rw [hJ]
                      clear hJ hjk
                      go_wp2_with fail
                      go_ret
                      exact ⟨rfl, nextB C7.out HB.out⟩
                    · have hJ : decide (j < k) = false := decide_eq_false hjk
                      have hI5 : E5 = 3 := by
                        rcases HI.out with ⟨e0, _, _⟩ | ⟨_, _, e2⟩
                        · omega
                        · exact e2
                      have g1 : (E5 == 3) = true := by simpa using hI5
                      rw [hJ]
                      clear hJ hjk hI5
                      go_wp2_with fail
                      go_ret
                      exact ⟨rfl, nextB C7.out HB.out⟩
            · have g4 : (E3 == 0) = false := by simpa using g3
              have g5 : (E3 != 0) = true := by simpa using g3
              subst g1; subst g2
              clear g3
              go_wp2_with fail
              go_ret
              exact ⟨rfl, C5.out⟩
          · have g4 : (E2 == 0) = false := by simpa using g2
            have g5 : (E2 != 0) = true := by simpa using g2
            subst g1
            clear g2
            go_wp2_with fail
            go_ret
            exact ⟨rfl, C5.out⟩
        · have g4 : (E1 == 0) = false := by simpa using g1
          have g5 : (E1 != 0) = true := by simpa using g1
          clear g1
          go_wp2_with fail
          go_ret
          exact ⟨rfl, C5.out⟩
  · have df : decide ((n : Int) ≤ 500) = false := by simpa using hf
    rw [df] at KF
    clear df hf
    go_wp2_with (go_at_call 20; refine (KF.out _).mono ?_; rintro e w' ⟨rfl, rfl⟩)
    go_ret
    exact ⟨rfl, C2.out⟩
end Go.Proofs.Ytkidhmajlpceeaa
