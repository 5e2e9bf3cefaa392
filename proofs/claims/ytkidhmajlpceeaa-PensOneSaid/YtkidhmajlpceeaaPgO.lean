/- PensOne's law. -/
import Derived.Test.YtkidhmajlpceeaaMts
import Derived.Test.YtkidhmajlpceeaaStp
import Derived.Test.YtkidhmajlpceeaaPgU
namespace Go.Proofs.Ytkidhmajlpceeaa
open Go.RowKit
/-- the list that is shown, and no other one -/
theorem one_keep {p : Pn} (hb : 0 ≤ p.b) (f : Int) (Z : Nat → Int) (n : Nat) (hr : ∀ k, k + 1 < n → -p.r ≤ Z (k + 1) - Z k ∧ Z (k + 1) - Z k ≤ p.r) : ∀ k, k < n → kAt p (fun i => (shw p.b f Z i, Z i)) k
  | 0, _ => lz_near hb f (Z 0)
  | k + 1, hk => ⟨hr k hk, rfl⟩
theorem one_only {p : Pn} (f : Int) (Z O : Nat → Int) (n : Nat) (h0 : -p.b ≤ Z 0 - f ∧ Z 0 - f ≤ p.b) (e0 : O 0 = f) (h : ∀ k, k < n → kAt p (fun i => (O i, Z i)) k) : ∀ k, k < n → shw p.b f Z k = O k
  | 0, _ => by
    show lz p.b f (Z 0) = O 0
    unfold lz; omega
  | k + 1, hk => by
    have ih := one_only f Z O n h0 e0 h k (by omega)
    have h2 : O (k + 1) = lz p.b (O k) (Z (k + 1)) := (h (k + 1) hk).2
    show lz p.b (shw p.b f Z k) (Z (k + 1)) = _
    rw [ih, h2]
theorem shw_lev {b : Int} {f : Int} {Z : Nat → Int} {n : Nat} (hb : 0 ≤ b) (hf : Lev f) (hL : Lvs Z n) : ∀ k, k < n → Lev (shw b f Z k)
  | 0, h => by
    have := hL 0 h
    unfold Lev at *
    show -50000 ≤ lz b f (Z 0) ∧ lz b f (Z 0) ≤ 50000
    unfold lz; omega
  | k + 1, h => by
    have h1 := hL (k + 1) h
    have h2 := shw_lev hb hf hL k (by omega)
    unfold Lev at *
    show -50000 ≤ lz b (shw b f Z k) (Z (k + 1)) ∧ lz b (shw b f Z k) (Z (k + 1)) ≤ 50000
    unfold lz; omega
theorem LQ.row0 {w0 wx : World} {F : Nat → Int} {n : Nat} {v : Value} (h : LQ w0 (upTo F n) 0 v wx) (hn : n ≤ 1000) : ∃ A c, v = .slice A n c ∧ IntsIn A n F wx.heap.size wx := h.row hn
theorem kee_zero {p : Pn} {n : Nat} {M : Nat → Int × Int} (h : keeR p n M 0) : p.Ok ∧ MOk M n ∧ ∀ k, k < n → kAt p M k := by
  rcases h with ⟨_, e⟩ | ⟨hp, ⟨_, e⟩ | ⟨hm, ⟨h1, _⟩ | ⟨_, e⟩⟩⟩
  · omega
  · omega
  · exact ⟨hp, hm, h1⟩
  · omega
theorem kee_is {p : Pn} {n : Nat} {M : Nat → Int × Int} {E : Int} (h : keeR p n M E) (hp : p.Ok) (hm : MOk M n) (hk : ∀ k, k < n → kAt p M k) : E = 0 := by
  rcases h with ⟨h, _⟩ | ⟨_, ⟨h, _⟩ | ⟨_, ⟨_, e⟩ | ⟨⟨j, hj, _, hn⟩, _⟩⟩⟩
  · exact absurd hp h
  · exact absurd hm h
  · exact e
  · exact absurd (hk j hj) hn
theorem fol_zero {p : Pn} {f : Int} {n : Nat} {Z : Nat → Int} (h : folR p f n Z 0) : ∀ k, k < n → okAt p f Z k := by
  rcases h with ⟨_, e⟩ | ⟨hp, ⟨_, e⟩ | ⟨hf, ⟨_, e⟩ | ⟨hl, ⟨h1, _⟩ | ⟨_, e⟩⟩⟩⟩
  · omega
  · omega
  · omega
  · exact h1
  · omega
theorem fol_is {p : Pn} {f : Int} {n : Nat} {Z : Nat → Int} {E : Int} (h : folR p f n Z E) (hp : p.Ok) (hf : Lev f) (hl : LsOk Z n) (hk : ∀ k, k < n → okAt p f Z k) : E = 0 := by
  rcases h with ⟨h, _⟩ | ⟨_, ⟨h, _⟩ | ⟨_, ⟨h, _⟩ | ⟨_, ⟨_, e⟩ | ⟨⟨j, hj, _, hn⟩, _⟩⟩⟩⟩
  · exact absurd hp h
  · exact absurd hf h
  · exact absurd hl h
  · exact e
  · exact absurd (hk j hj) hn
theorem one_err {p : Pn} {f : Int} {n : Nat} {Z O : Nat → Int} {E E2 : Int} (h : folR p f n Z E) (hE : E ≠ 0) (hk : keeR p n (prF O Z) E2) (h0 : O 0 = f) : E2 ≠ 0 := by
  rintro rfl
  obtain ⟨hp, hm, hk⟩ := kee_zero hk
  refine hE (fol_is h hp ?_ ⟨hm.1, hm.2.1, fun i hi => (hm.2.2 i hi).2⟩ fun k hk' => ?_)
  · rw [← h0]; exact (hm.2.2 0 (by have := hm.1; omega)).1
  · match k with
    | 0 => rw [← h0]; exact hk 0 hk'
    | k + 1 => exact (hk (k + 1) hk').1
theorem one_own {p : Pn} {f : Int} {n : Nat} {Z : Nat → Int} {E2 : Int} (h : folR p f n Z 0) (hk : keeR p n (prF (shw p.b f Z) Z) E2) : E2 = 0 := by
  obtain ⟨hok, hf, hl⟩ := fol_ok h
  have ha := fol_zero h
  exact kee_is hk hok ⟨hl.1, hl.2.1, fun i hi => ⟨shw_lev hok.b.1 hf hl.2.2 i hi, hl.2.2 i hi⟩⟩ (one_keep hok.b.1 f Z n (fun k hk => ha (k + 1) hk))
theorem one_iff {p : Pn} {f : Int} {n : Nat} {Z O : Nat → Int} {E2 : Int} (h : folR p f n Z 0) (hk : keeR p n (prF O Z) E2) (h0 : O 0 = f) : (E2 == 0) = true ↔ eqF n n (shw p.b f Z) O := by
  obtain ⟨hok, hf, hl⟩ := fol_ok h
  have ha := fol_zero h
  constructor
  · intro e
    obtain rfl : E2 = 0 := by simpa using e
    obtain ⟨_, _, hk'⟩ := kee_zero hk
    exact ⟨rfl, one_only f Z O n (ha 0 hl.1) h0 hk'⟩
  · rintro ⟨_, e⟩
    have : E2 = 0 := kee_is hk hok ⟨hl.1, hl.2.1, fun i hi => ⟨by rw [show (prF O Z i).1 = shw p.b f Z i from (e i hi).symm]; exact shw_lev hok.b.1 hf hl.2.2 i hi, hl.2.2 i hi⟩⟩ fun k hk' => by
      have h1 := one_keep hok.b.1 f Z n (fun k hk => ha (k + 1) hk) k hk'
      match k with
      | 0 =>
        have e0 : O 0 = shw p.b f Z 0 := (e 0 hk').symm
        show -p.b ≤ Z 0 - O 0 ∧ Z 0 - O 0 ≤ p.b
        rw [e0]; exact h1
      | k + 1 =>
        have e0 : O k = shw p.b f Z k := (e k (by omega)).symm
        have e1 : O (k + 1) = shw p.b f Z (k + 1) := (e (k + 1) hk').symm
        show (-p.r ≤ Z (k + 1) - Z k ∧ Z (k + 1) - Z k ≤ p.r) ∧ O (k + 1) = lz p.b (O k) (Z (k + 1))
        rw [e0, e1]; exact h1
    simp [this]
theorem shw_first {p : Pn} {f : Int} {Z : Nat → Int} (h : okAt p f Z 0) : shw p.b f Z 0 = f := by
  have h' : -p.b ≤ Z 0 - f ∧ Z 0 - f ≤ p.b := h
  show lz p.b f (Z 0) = f
  unfold lz; omega
theorem one_step {p : Pn} {f : Int} {n : Nat} {Z : Nat → Int} (h : folR p f n Z 0) {k : Nat} (hk : k + 1 < n) : stpR p (shw p.b f Z k) (Z k) (Z (k + 1)) 0 := by
  obtain ⟨hok, hf, hl⟩ := fol_ok h
  have ha := fol_zero h (k + 1) hk
  exact .inr ⟨hok, .inr ⟨⟨shw_lev hok.b.1 hf hl.2.2 k (by omega), hl.2.2 k (by omega), hl.2.2 (k + 1) hk⟩, .inr ⟨⟨shw_near hok.b.1 f Z k, ha⟩, rfl⟩⟩⟩
set_option maxRecDepth 100000 in
set_option maxHeartbeats 4000000 in
theorem one_law (p : Pn) (f : Int) (A : Option Addr) (n c : Nat) (Z : Nat → Int) (B : Option Addr) (m d : Nat) (Y : Nat → Int) (w : World) (hin : IntsIn A n Z w.heap.size w) (hin2 : IntsIn B m Y w.heap.size w) :
    Calls Try.prog 8 #[p.v, .int .i64 f, .slice A n c, .slice B m d] w fun e w' => e = .returned (.bool true) ∧ Below w.heap.size w w' := by
  have HIN := Lib.hid hin
  have HIN2 := Lib.hid hin2
  have hn := hin.1
  have hm := hin2.1
  clear hin hin2
  have KF := Lib.hid fun W => few_any A n c W
  have KG := Lib.hid fun W => few_any B m d W
  go_enter Try.func8, Try.ntmps8
  go_wp2_with fail
  refine (awake_any _).mono ?_
  rintro e w2 ⟨rfl, hb2⟩
  have hp2 := (pn_new w p.b p.lo p.hi p.r).up hb2 (by simp)
  have C2 := Lib.hid (nextB (box1 w _) hb2)
  have zp2 := hp2.lt
  have Hp2 := Lib.hid hp2
  clear hb2 hp2
  by_cases hf : (n : Int) ≤ 500
  · have df : decide ((n : Int) ≤ 500) = true := by simpa using hf
    rw [df] at KF
    clear df
    by_cases hg : (m : Int) ≤ 500
    · have dg : decide ((m : Int) ≤ 500) = true := by simpa using hg
      rw [dg] at KG
      clear dg
      obtain ⟨E, hE⟩ := folR_ex p f n Z
      have K1 := Lib.hid (Follow_any p f A n c Z E w2 ((HIN.out.up C2.out (Nat.le_refl _)).more C2.out.size) hE)
      have HE := Lib.hid hE
      clear hE
      obtain ⟨x0, x1, x2, x3⟩ := Hp2.out
      go_wp2_with (first | (go_at_call 20; refine (KF.out _).mono ?_; rintro e w' ⟨rfl, rfl⟩; clear KF) | (go_at_call 20; refine (KG.out _).mono ?_; rintro e w' ⟨rfl, rfl⟩; clear KG))
      refine K1.out.mono ?_
      rintro e w3 hP
      obtain ⟨v3, e3, hb3⟩ := hP.any
      subst e3
      have D3 := Lib.hid hb3
      have Q3 := Lib.hid (LQ.of hP (Below.refl _ _))
      have C3 := Lib.hid (nextB C2.out hb3)
      have Hp3 := Lib.hid (Hp2.out.up hb3 zp2)
      have zp3 := Hp3.out.lt
      clear x0 x1 x2 x3 hP hb3 K1
      obtain ⟨x0, x1, x2, x3⟩ := Hp3.out
      by_cases h0 : E = 0
      · subst h0
        obtain ⟨hok, hfl, hl⟩ := fol_ok HE.out
        have ha := fol_zero HE.out
        have hl1 := hl.1
        have hf0 := shw_first (ha 0 hl1)
        obtain ⟨A3, c3, rfl, hin3⟩ := Q3.out.row0 (n := n) (by omega)
        obtain ⟨E2, hE2⟩ := keeR_ex p n (prF (shw p.b f Z) Z)
        obtain rfl := one_own HE.out hE2
        have HJ3 := Lib.hid hin3
        have KM : Hid (∀ W, Below w3.heap.size w3 W → Calls Try.prog 58 #[.slice A3 n c3, .slice A n c] W fun e w' => ∃ A' c', e = .returned (.slice A' n c') ∧ MosIn A' n (prF (shw p.b f Z) Z) w'.heap.size w' ∧ Below W.heap.size W w') :=
          Lib.hid fun W hW => by
            have h := moments_any A3 n c3 (shw p.b f Z) A n c Z W ((HJ3.out.up hW (Nat.le_refl _)).more hW.size) ((HIN.out.up (nextB C3.out hW) (Nat.le_refl _)).more (nextB C3.out hW).size) (by omega) (by omega)
            rwa [Nat.min_self] at h
        have KK : Hid (∀ W A' c', MosIn A' n (prF (shw p.b f Z) Z) W.heap.size W → Calls Try.prog 32 #[p.v, .slice A' n c'] W fun e w' => e = .returned (.int .i64 0) ∧ Below W.heap.size W w') :=
          Lib.hid fun W A' c' h => Keeps_any p A' n c' _ 0 W h hE2
        obtain ⟨a3, e3, ab3, c0⟩ := hin3.2 0 hl1
        subst e3
        have d0 : w3.cell? a3 = some (.int .i64 f) := by rw [← hf0]; simpa [Addr.add] using c0
        have nn : (0 : Int) < n := by omega
        have nn1 : 0 < n := by omega
        have ff : (f == f) = true := by simp
        have n0 : ((n : Int) == (n : Int)) = true := by simp
        clear hok hfl hl ha hin3 c0 hE2
        go_wp2_with fail
        go_upto_region 8 with fail
        go_cut [84] (fun v wx => v = .bool false ∧ Below w3.heap.size w3 wx)
        case first =>
          go_region_held3 (fun w' => w'.cell? ⟨w.heap.size, 0, none⟩ = some (.int .i64 (p.b)) ∧ w'.cell? ⟨w.heap.size, 1, none⟩ = some (.int .i64 (p.lo)) ∧ w'.cell? ⟨w.heap.size, 2, none⟩ = some (.int .i64 (p.hi)) ∧ w'.cell? ⟨w.heap.size, 3, none⟩ = some (.int .i64 (p.r)) ∧ w'.cell? a3 = some (.int .i64 f) ∧ w3.heap.size ≤ w'.heap.size)
            (first
              | (go_split_ands; (repeat' apply And.intro); all_goals first | assumption | (go_simp; done) | ((try simp only [World.size_drew]); omega))
              | (go_split_ands; (repeat' apply And.intro); all_goals first | exact (hbA.cell (by first | omega | ((try simp only [World.size_drew]); omega))).trans (by assumption) | (have := hbA.size; first | omega | ((try simp only [World.size_drew] at this); omega)))
              | (go_split_ands; (repeat' apply And.intro); all_goals first | exact (hbB.cell (by first | omega | (dsimp only; omega))).trans (by assumption) | (have := hbB.size; omega)))
            (first
              | (go_at_call 58; go_split_ands; ((with_reducible refine (KM.out _ (by first | exact Below.refl _ _ | exact (Below.refl _ _).drew)).mono ?_); rintro e wA ⟨A', c', rfl, hmA, hbA⟩; have DA := Lib.hid (show Below w3.heap.size w3 wA from by first | exact hbA | exact (Below.refl _ _).drew.trans (hbA.mono (by simp only [World.size_drew]; omega))); have HMA := Lib.hid hmA; clear hmA))
              | (go_at_call 32; go_split_ands; ((with_reducible refine (KK.out _ _ _ HMA.out).mono ?_); rintro e wB ⟨rfl, hbB⟩; have DB := Lib.hid (DA.out.trans (hbB.mono DA.out.size)))))
          all_goals
            go_wp2_with fail
            go_meet
            exact ⟨rfl, DB.out⟩
        case rest =>
          obtain ⟨rfl, hq⟩ := hcut
          obtain ⟨w4, rfl⟩ : ∃ w4 : World, w4 = wc := ⟨_, rfl⟩
          have D4 := Lib.hid hq
          have C4 := Lib.hid (nextB C3.out hq)
          have Hp4 := Lib.hid (Hp3.out.up hq zp3)
          have zp4 := Hp4.out.lt
          obtain ⟨a0, rfl, _, c0⟩ := (HIN.out.up C4.out (Nat.le_refl _)).2 0 hl1
          have e0 : w4.cell? a0 = some (.int .i64 (Z 0)) := by simpa [Addr.add] using c0
          have HJ := Lib.hid (HJ3.out.up D4.out (Nat.le_refl _))
          have hz4 := D4.out.size
          clear hq x0 x1 x2 x3 d0 c0 KM
          go_wp2_with fail
          have HB0 := Lib.hid (Bt.new w4 27 f (Z 0))
          have hsl : ∀ k, k + 1 < n → Sm (shw p.b f Z k) := fun k hk => by
            obtain ⟨hok, hfl, hl⟩ := fol_ok HE.out
            obtain ⟨u1, u2⟩ := shw_lev hok.b.1 hfl hl.2.2 k (by omega)
            exact ⟨by omega, by omega⟩
          clear hsl e0
          go_loopw [14, 15, 16, 96] (fun i _ _ _ wr => ∃ k : Nat, k + 1 ≤ n ∧ i = .int .i64 ((k + 1 : Nat) : Int) ∧ Below w4.heap.size w4 wr ∧ Bt w4.heap.size (shw p.b f Z k) (Z k) wr) (fun i _ _ _ _ => n - (intOf i).toNat)
          case atStart => exact ⟨0, hl1, rfl, box1 _ _, by rw [hf0]; exact HB0.out⟩
          case round =>
            obtain ⟨k, hk, rfl, hb, hB⟩ := hrel
            obtain ⟨wo, rfl⟩ : ∃ wo : World, wo = wr := ⟨_, rfl⟩
            have HB := Lib.hid hb
            have HBt := Lib.hid hB
            have zB := hB.lt
            have hk0 : (0 : Int) ≤ ((k + 1 : Nat) : Int) := by omega
            have Hp5 := Lib.hid (Hp4.out.up hb zp4)
            clear HB0
            by_cases hlt : k + 1 < n
            · obtain ⟨a1, e1, _, c1⟩ := (HIN.out.up (nextB C4.out hb) (Nat.le_refl _)).2 (k + 1) hlt
              cases e1
              have hki : ((k + 1 : Nat) : Int) < (n : Int) := by omega
              have KS := Lib.hid fun W => Step_any p (shw p.b f Z k) (Z k) (Z (k + 1)) 0 W (one_step HE.out hlt)
              have eS : stpS p (shw p.b f Z k) (Z (k + 1)) 0 = shw p.b f Z (k + 1) := rfl
              have eX : stpX (Z (k + 1)) 0 = Z (k + 1) := rfl
              rw [eS, eX] at KS
              obtain ⟨b3, eb, _, c3'⟩ := (HJ.out.up hb hz4).2 (k + 1) hlt
              cases eb
              have HC3 := Lib.hid c3'
              have HC1 := Lib.hid c1
              have az := World.block_lt_of_cell? _ _ c1
              have zp5 := Hp5.out.lt
              obtain ⟨x0, x1, x2, x3⟩ := Hp5.out
              obtain ⟨y0, y1, g0, g1⟩ := hB
              clear eS eX hb c3'
              generalize hS1 : shw p.b f Z (k + 1) = S1 at *
              generalize hZ1 : Z (k + 1) = Z1 at *
              generalize hS0 : shw p.b f Z k = S0 at *
              generalize hZ0 : Z k = Z0 at *
              generalize hq : k + 1 = q at *
              have HS1 := Lib.hid (And.intro hS1 (And.intro hZ1 hq))
              clear hS1 hZ1 hS0 hZ0 hq
              go_wp2_with fail
              go_upto_region 14 with fail
              go_cut [15, 16] (fun v15 v16 wx => ∃ cb : Nat, v15 = .pointer (some ⟨cb, 0, none⟩) ∧ v16 = .int .i64 0 ∧ wo.heap.size ≤ cb ∧ Below wo.heap.size wo wx ∧ Bt cb S1 Z1 wx)
              case first =>
                --SLOW
                clear HIN HIN2 HE KK HJ HJ3 Q3 HB HBt HS1 HC1 HC3 C2 C3 C4 D3 D4 Hp2 Hp3 Hp4 Hp5
                go_region_with (go_at_call 23; refine (KS.out _).mono ?_; rintro e wA ⟨rfl, hbA⟩; (try (have hN := bt_a hbA; obtain ⟨n0, n1, n2, n3, n4⟩ := hN)); (try (have hN := bt_d hbA; obtain ⟨n0, n1, n2, n3, n4⟩ := hN)); have DA := Lib.hid (show Below wo.heap.size wo wA from nextB (by first | exact Below.refl _ _ | exact (Below.refl _ _).drew | exact box1 _ _ | exact (box1 _ _).drew) hbA); clear hbA)
                all_goals
                  go_wp2_with fail
                  go_meet
                  first
                    | exact ⟨_, rfl, rfl, DA.out.size, nextB DA.out (box1 _ _), Bt.new _ _ _ _⟩
                    | exact ⟨_, rfl, rfl, Nat.le_refl _, set1 (set1 DA.out (Nat.le_refl _) _ _) (Nat.le_refl _) _ _, Bt.store ⟨n1, n2, n3, n4⟩ _ _⟩
                --END
              case rest =>
                obtain ⟨cb, rfl, rfl, hcb, hq, hBc⟩ := hcut
                obtain ⟨w6, rfl⟩ : ∃ w6 : World, w6 = wc := ⟨_, rfl⟩
                have D6 := Lib.hid hq
                have HBc := Lib.hid hBc
                have c6 := (hq.cell (p := a0.add q) az).trans c1
                have b6 := (hq.cell (p := a3.add q) (by rw [add_block]; have := HB.out.size; omega)).trans HC3.out
                have hB6 := HBt.out.up hq
                have HB6 := Lib.hid hB6
                have z6 := hB6.lt
                obtain ⟨m0, m1, mf0, mf1⟩ := hB6
                obtain ⟨k0, k1, kf0, kf1⟩ := hBc
                have kz := HBc.out.lt
                have s11 : (S1 == S1) = true := by simp
                have z11 : (Z1 == Z1) = true := by simp
                clear hq x0 x1 x2 x3 y0 y1 g0 g1 c1 KS
                go_wp2_with fail
                go_quiet (fail)
                go_wp2_with fail
                go_roundw
                case rel => exact ⟨q, by have := HS1.out.2.2; omega, by go_num, set1 (set1 (HB.out.trans ((below_drewN D6.out _).mono HB.out.size)) (Nat.le_refl _) _ _) (Nat.le_refl _) _ _, by rw [HS1.out.1, HS1.out.2.1]; exact (HB6.out.up (below_drewN (Below.refl _ _) _)).store S1 Z1⟩
                case measure => simp [intOf]; omega
            · have hki : (n : Int) ≤ ((k + 1 : Nat) : Int) := by omega
              have HN := Lib.hid (show k + 1 = n by omega)
              obtain ⟨x0, x1, x2, x3⟩ := Hp5.out
              have zp5 := Hp5.out.lt
              have hzz := hb.size
              clear hB hlt
              generalize k + 1 = q at hki hk0 ⊢
              by_cases hmn : m = n
              · subst hmn
                obtain ⟨b0, rfl, _, c0⟩ := (HIN2.out.up (nextB C4.out hb) (Nat.le_refl _)).2 0 (by omega)
                have e0 : wo.cell? b0 = some (.int .i64 (Y 0)) := by simpa [Addr.add] using c0
                have mm : ((m : Int) == (m : Int)) = true := by simp
                have m0 : (0 : Int) < m := by omega
                by_cases hY : Y 0 = f
                · obtain ⟨E3, hE3⟩ := keeR_ex p m (prF Y Z)
                  have hG := one_iff HE.out hE3 hY
                  have KM2 : Hid (∀ W, Below wo.heap.size wo W → Calls Try.prog 58 #[.slice (some b0) m d, .slice (some a0) m c] W fun e w' => ∃ A' c', e = .returned (.slice A' m c') ∧ MosIn A' m (prF Y Z) w'.heap.size w' ∧ Below W.heap.size W w') :=
                    Lib.hid fun W hW => by
                      have hC := nextB (nextB C4.out HB.out) hW
                      have h := moments_any (some b0) m d Y (some a0) m c Z W ((HIN2.out.up hC (Nat.le_refl _)).more hC.size) ((HIN.out.up hC (Nat.le_refl _)).more hC.size) (by omega) (by omega)
                      rwa [Nat.min_self] at h
                  have KK2 : Hid (∀ W A' c', MosIn A' m (prF Y Z) W.heap.size W → Calls Try.prog 32 #[p.v, .slice A' m c'] W fun e w' => e = .returned (.int .i64 E3) ∧ Below W.heap.size W w') :=
                    Lib.hid fun W A' c' h => Keeps_any p A' m c' _ E3 W h hE3
                  have KS2 : Hid (∀ W, Below wo.heap.size wo W → Calls Try.prog 29 #[.slice (some a3) m c3, .slice (some b0) m d] W fun e w' => e = .returned (.bool (E3 == 0)) ∧ Below W.heap.size W w') :=
                    Lib.hid fun W hW => by
                      have hC := nextB (nextB C4.out HB.out) hW
                      have hD := nextB HB.out hW
                      exact SameInts_any m m (some a3) (some b0) c3 d _ Y (E3 == 0) W ((HJ.out.up hD hz4).more (Nat.le_trans hz4 hD.size)) ((HIN2.out.up hC (Nat.le_refl _)).more hC.size) hG
                  have yf : (Y 0 == f) = true := by simpa using hY
                  clear hE3 hG hY c0 KK
                  go_wp2_with fail
                  go_upto_region 20 with fail
                  go_region_held3 (fun w' => w'.cell? ⟨w.heap.size, 0, none⟩ = some (.int .i64 (p.b)) ∧ w'.cell? ⟨w.heap.size, 1, none⟩ = some (.int .i64 (p.lo)) ∧ w'.cell? ⟨w.heap.size, 2, none⟩ = some (.int .i64 (p.hi)) ∧ w'.cell? ⟨w.heap.size, 3, none⟩ = some (.int .i64 (p.r)) ∧ wo.heap.size ≤ w'.heap.size)
                    (first
                      | (go_split_ands; (repeat' apply And.intro); all_goals first | assumption | (go_simp; done) | ((try simp only [World.size_drew]); omega))
                      | (go_split_ands; (repeat' apply And.intro); all_goals first | exact (hbA.cell (by first | omega | ((try simp only [World.size_drew]); omega))).trans (by assumption) | (have := hbA.size; first | omega | ((try simp only [World.size_drew] at this); omega)))
                      | (go_split_ands; (repeat' apply And.intro); all_goals first | exact (hbB.cell (by first | omega | (dsimp only; omega))).trans (by assumption) | (have := hbB.size; omega))
                      | (go_split_ands; (repeat' apply And.intro); all_goals first | exact (hbC.cell (by first | omega | (dsimp only; omega))).trans (by assumption) | (have := hbC.size; omega)))
                    (first
                      | (go_at_call 58; go_split_ands; ((with_reducible refine (KM2.out _ (by first | exact Below.refl _ _ | exact (Below.refl _ _).drew)).mono ?_); rintro e wA ⟨A', c', rfl, hmA, hbA⟩; have DA := Lib.hid (show Below wo.heap.size wo wA from by first | exact hbA | exact (Below.refl _ _).drew.trans (hbA.mono (by simp only [World.size_drew]; omega))); have HMA := Lib.hid hmA; clear hmA))
                      | (go_at_call 32; go_split_ands; ((with_reducible refine (KK2.out _ _ _ HMA.out).mono ?_); rintro e wB ⟨rfl, hbB⟩; have DB := Lib.hid (DA.out.trans (hbB.mono DA.out.size))))
                      | (go_at_call 29; go_split_ands; ((with_reducible refine (KS2.out _ DB.out).mono ?_); rintro e wC ⟨rfl, hbC⟩; have DC := Lib.hid (DB.out.trans (hbC.mono DB.out.size)))))
                  all_goals
                    go_wp2_with fail
                    go_ret
                    exact ⟨rfl, nextB (nextB C4.out HB.out) DC.out⟩
                · have yf : (Y 0 == f) = false := by simpa using hY
                  clear hY c0
                  go_wp2_with fail
                  go_ret
                  exact ⟨rfl, nextB C4.out HB.out⟩
              · have dl : ((m : Int) == (n : Int)) = false := by simpa using (by omega : ¬ (m : Int) = n)
                have dl2 : (m == n) = false := by simpa using hmn
                go_wp2_with fail
                go_ret
                exact ⟨rfl, nextB C4.out HB.out⟩
      · have g0 : (E == 0) = false := by simpa using h0
        have H0 := Lib.hid h0
        obtain rfl := Q3.out.2.2 h0
        obtain ⟨E2, hE2⟩ := keeR_ex p (min m n) (prF Y Z)
        have KM : Hid (∀ W, Below w3.heap.size w3 W → Calls Try.prog 58 #[.slice B m d, .slice A n c] W fun e w' => ∃ A' c', e = .returned (.slice A' (min m n : Nat) c') ∧ MosIn A' (min m n) (prF Y Z) w'.heap.size w' ∧ Below W.heap.size W w') :=
          Lib.hid fun W hW => by
            have hC := nextB C3.out hW
            exact moments_any B m d Y A n c Z W ((HIN2.out.up hC (Nat.le_refl _)).more hC.size) ((HIN.out.up hC (Nat.le_refl _)).more hC.size) (by omega) (by omega)
        have KK : Hid (∀ W A' c', MosIn A' (min m n) (prF Y Z) W.heap.size W → Calls Try.prog 32 #[p.v, .slice A' (min m n : Nat) c'] W fun e w' => e = .returned (.int .i64 E2) ∧ Below W.heap.size W w') :=
          Lib.hid fun W A' c' h => Keeps_any p A' _ c' _ E2 W h hE2
        have HE2 := Lib.hid hE2
        obtain ⟨M, hM⟩ : ∃ M : Nat, M = min m n := ⟨_, rfl⟩
        rw [← hM] at KM KK
        have HM := Lib.hid hM
        clear h0 hE2 hM
        go_wp2_with fail
        go_upto_region 6 with fail
        go_cut [12] (fun v wx => v = .int .i64 E2 ∧ Below w3.heap.size w3 wx)
        case first =>
          go_region_held3 (fun w' => w'.cell? ⟨w.heap.size, 0, none⟩ = some (.int .i64 (p.b)) ∧ w'.cell? ⟨w.heap.size, 1, none⟩ = some (.int .i64 (p.lo)) ∧ w'.cell? ⟨w.heap.size, 2, none⟩ = some (.int .i64 (p.hi)) ∧ w'.cell? ⟨w.heap.size, 3, none⟩ = some (.int .i64 (p.r)) ∧ w3.heap.size ≤ w'.heap.size)
            (first
                      | (go_split_ands; (repeat' apply And.intro); all_goals first | assumption | (go_simp; done) | ((try simp only [World.size_drew]); omega))
                      | (go_split_ands; (repeat' apply And.intro); all_goals first | exact (hbA.cell (by first | omega | ((try simp only [World.size_drew]); omega))).trans (by assumption) | (have := hbA.size; first | omega | ((try simp only [World.size_drew] at this); omega)))
                      | (go_split_ands; (repeat' apply And.intro); all_goals first | exact (hbB.cell (by first | omega | (dsimp only; omega))).trans (by assumption) | (have := hbB.size; omega)))
            (first
              | (go_at_call 58; go_split_ands; ((with_reducible refine (KM.out _ (by first | exact Below.refl _ _ | exact (Below.refl _ _).drew)).mono ?_); rintro e wA ⟨A', c', rfl, hmA, hbA⟩; have DA := Lib.hid (show Below w3.heap.size w3 wA from by first | exact hbA | exact (Below.refl _ _).drew.trans (hbA.mono (by simp only [World.size_drew]; omega))); have HMA := Lib.hid hmA; clear hmA))
              | (go_at_call 32; go_split_ands; ((with_reducible refine (KK.out _ _ _ HMA.out).mono ?_); rintro e wB ⟨rfl, hbB⟩; have DB := Lib.hid (DA.out.trans (hbB.mono DA.out.size)))))
          all_goals
            go_wp2_with fail
            go_meet
            exact ⟨rfl, DB.out⟩
        case rest =>
          obtain ⟨rfl, hq⟩ := hcut
          obtain ⟨w4, rfl⟩ : ∃ w4 : World, w4 = wc := ⟨_, rfl⟩
          have C4 := Lib.hid (nextB C3.out hq)
          clear hq KM KK x0 x1 x2 x3
          by_cases hmn : m = n
          · subst hmn
            have mm : ((m : Int) == (m : Int)) = true := by simp
            by_cases hm0 : m = 0
            · subst hm0
              go_wp2_with fail
              go_ret
              exact ⟨rfl, C4.out⟩
            · obtain ⟨b0, rfl, _, c0⟩ := (HIN2.out.up C4.out (Nat.le_refl _)).2 0 (by omega)
              have e0 : w4.cell? b0 = some (.int .i64 (Y 0)) := by simpa [Addr.add] using c0
              have m0 : (m == 0) = false := by simpa using hm0
              have m1 : ((m : Int) == 0) = false := by simpa using hm0
              have m2 : (0 : Int) < m := by omega
              have hM : M = m := by rw [HM.out, Nat.min_self]
              clear c0 hm0
              by_cases hY : Y 0 = f
              · have hne := one_err HE.out H0.out (by have h := HE2.out; rw [Nat.min_self] at h; exact h) hY
                have ge : (E2 != 0) = true := by simpa using hne
                have yf : (Y 0 == f) = true := by simpa using hY
                have yg : (Y 0 != f) = false := by simpa using hY
                clear hne hY hM
                go_wp2_with fail
                go_ret
                exact ⟨rfl, C4.out⟩
              · have yf : (Y 0 == f) = false := by simpa using hY
                have yg : (Y 0 != f) = true := by simpa using hY
                clear hY hM
                go_wp2_with fail
                go_ret
                exact ⟨rfl, C4.out⟩
          · have dl : ((m : Int) == (n : Int)) = false := by simpa using (by omega : ¬ (m : Int) = n)
            have dl2 : (m == n) = false := by simpa using hmn
            go_wp2_with fail
            go_ret
            exact ⟨rfl, C4.out⟩
    · have dg : decide ((m : Int) ≤ 500) = false := by simpa using hg
      rw [dg] at KG
      clear dg hg
      go_wp2_with (first | (go_at_call 20; refine (KF.out _).mono ?_; rintro e w' ⟨rfl, rfl⟩; clear KF) | (go_at_call 20; refine (KG.out _).mono ?_; rintro e w' ⟨rfl, rfl⟩; clear KG))
      go_ret
      exact ⟨rfl, C2.out⟩
  · have df : decide ((n : Int) ≤ 500) = false := by simpa using hf
    rw [df] at KF
    clear df hf
    go_wp2_with (go_at_call 20; refine (KF.out _).mono ?_; rintro e w' ⟨rfl, rfl⟩)
    go_ret
    exact ⟨rfl, C2.out⟩
end Go.Proofs.Ytkidhmajlpceeaa
