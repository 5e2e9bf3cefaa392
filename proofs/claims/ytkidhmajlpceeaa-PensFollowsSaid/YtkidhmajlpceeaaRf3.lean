/- The specification's Follow. -/
import Derived.Test.YtkidhmajlpceeaaRf2
namespace Go.Proofs.Ytkidhmajlpceeaa
open Go.RowKit
/-- what the loop holds: the moment before in its box, the list so far -/
structure RfI (w : World) (p : Pn) (f : Int) (Z : Nat → Int) (bq k : Nat) (v : Value) (wr : World) : Prop where
  below : Below w.heap.size w wr
  own : wr.ownsRow (bq + 1) 3 1 v (k + 1) (intsZ (upTo (shw p.b f Z) (k + 1)))
  bt : Bt bq (shw p.b f Z k) (Z k) wr
  pn : HasPn p w.heap.size wr
  lo : w.heap.size < bq
theorem RfI.step {w wr w1 w2 : World} {p : Pn} {f : Int} {Z : Nat → Int} {bq k : Nat} {v v' : Value} {o : Obj} (h : RfI w p f Z bq k v wr) (hb : Below wr.heap.size wr w1)
    (hg : (((w1.setCell ⟨bq, 0, none⟩ (.int .i64 (shw p.b f Z (k + 1)))).setCell ⟨bq, 1, none⟩ (.int .i64 (Z (k + 1)))).alloc o).grownBy w2 v.ownBlock)
    (hown : w2.ownsRow (bq + 1) 3 1 v' (k + 1 + 1) (intsZ (upTo (shw p.b f Z) (k + 1)) ++ [.int .i64 (shw p.b f Z (k + 1))])) : RfI w p f Z bq (k + 1) v' w2 := by
  have hlo := h.lo
  have s0 := h.below.size
  have s1 := hb.size
  have hne := own_ne h.own (Nat.lt_succ_self bq)
  have hne2 := own_ne h.own (b := w.heap.size) (by omega)
  have b1 := (h.bt.up hb).store (shw p.b f Z (k + 1)) (Z (k + 1))
  have b2 := b1.up (box1 _ o)
  have hp1 := h.pn.up hb h.pn.lt
  have hw1 : Below w.heap.size w ((w1.setCell ⟨bq, 0, none⟩ (.int .i64 (shw p.b f Z (k + 1)))).setCell ⟨bq, 1, none⟩ (.int .i64 (Z (k + 1)))) := set1 (set1 (h.below.trans (hb.mono s0)) (by omega) _ _) (by omega) _ _
  have hp2 : HasPn p w.heap.size ((w1.setCell ⟨bq, 0, none⟩ (.int .i64 (shw p.b f Z (k + 1)))).setCell ⟨bq, 1, none⟩ (.int .i64 (Z (k + 1)))) :=
    ⟨keepA (keepA hp1.1 (by dsimp only; omega)) (by dsimp only; omega), keepA (keepA hp1.2.1 (by dsimp only; omega)) (by dsimp only; omega), keepA (keepA hp1.2.2.1 (by dsimp only; omega)) (by dsimp only; omega), keepA (keepA hp1.2.2.2 (by dsimp only; omega)) (by dsimp only; omega)⟩
  have hp3 := hp2.up (box1 _ o) hp2.lt
  refine ⟨?_, ?_, ⟨cell_row hg b2.lt hne b2.c0, cell_row hg b2.lt hne b2.c1, frozen_row hg b2.lt hne b2.f0, frozen_row hg b2.lt hne b2.f1⟩, hp3.row hg hne2, hlo⟩
  · refine (hw1.alloc hw1.size o).grown hg (by rw [World.size_alloc]; have := hw1.size; omega) (fun r e => ?_)
    have := (own_block h.own e).1
    omega
  · rw [upTo_succ (shw p.b f Z) (k + 1), intsZ_snoc]
    exact hown
theorem RfI.row {w wr : World} {p : Pn} {f : Int} {Z : Nat → Int} {bq k : Nat} {v : Value} (h : RfI w p f Z bq k v wr) : RowZ w (upTo (shw p.b f Z) (k + 1)) v wr :=
  ⟨h.below, by rw [upTo_len]; exact own_mono h.own (by have := h.lo; omega)⟩
theorem fol_cases {p : Pn} {f : Int} {n : Nat} {Z : Nat → Int} {E : Int} (h : folR p f n Z E) : (¬ p.Ok ∧ E = 30) ∨ p.Ok ∧ ((¬ Lev f ∧ E = 1) ∨ Lev f ∧ ((¬ LsOk Z n ∧ E = 1) ∨ LsOk Z n ∧ ∃ j, j ≤ n ∧ (∀ k, k < j → okAt p f Z k) ∧ ((j = n ∧ E = 0) ∨ (j < n ∧ ¬ okAt p f Z j ∧ E = 31)))) := by
  rcases h with h | ⟨hp, h | ⟨hf, h | ⟨hl, ⟨h, e⟩ | ⟨⟨j, h1, h2, h3⟩, e⟩⟩⟩⟩
  · exact .inl h
  · exact .inr ⟨hp, .inl h⟩
  · exact .inr ⟨hp, .inr ⟨hf, .inl h⟩⟩
  · exact .inr ⟨hp, .inr ⟨hf, .inr ⟨hl, n, Nat.le_refl _, h, .inl ⟨rfl, e⟩⟩⟩⟩
  · exact .inr ⟨hp, .inr ⟨hf, .inr ⟨hl, j, by omega, h2, .inr ⟨h1, h3, e⟩⟩⟩⟩
set_option maxRecDepth 100000 in
set_option maxHeartbeats 4000000 in
theorem RFollow_any (p : Pn) (f : Int) (A : Option Addr) (n c : Nat) (Z : Nat → Int) (E : Int) (w : World) (hin : IntsIn A n Z w.heap.size w) (hE : folR p f n Z E) :
    Calls Try.prog 26 #[p.v, .int .i64 f, .slice A n c] w fun e w' => LPost w (upTo (shw p.b f Z) n) E e w' := by
  have HIN := Lib.hid hin
  have hn := hin.1
  clear hin
  rcases fol_cases hE with ⟨h, rfl⟩ | ⟨h, hE'⟩
  · have KC := Lib.hid fun W => RCheck_any p 30 W (.inl ⟨h, rfl⟩)
    clear h hE
    go_enter Try.func26, Try.ntmps26
    go_wp2_with fail
    refine (KC.out _).mono ?_
    rintro e w1 ⟨rfl, hb⟩
    go_wp2_with fail
    go_ret2
    exact ⟨fun e => by simp at e, fun _ => ⟨rfl, nextB (box1 _ _) hb⟩⟩
  · have KC := Lib.hid fun W => RCheck_any p 0 W (.inr ⟨h, rfl⟩)
    clear hE
    rcases hE' with ⟨h2, rfl⟩ | ⟨h2, hE'⟩
    · have KX := Lib.hid fun W => isLevel_f W h2
      clear h h2
      go_enter Try.func26, Try.ntmps26
      go_wp2_with fail
      refine (KC.out _).mono ?_
      rintro e w1 ⟨rfl, hb⟩
      have C1 := Lib.hid (nextB (box1 w _) hb)
      clear hb
      go_wp2_with fail
      refine (KX.out _).mono ?_
      rintro e w' ⟨rfl, rfl⟩
      go_wp2_with fail
      go_ret2
      exact ⟨fun e => by simp at e, fun _ => ⟨rfl, C1.out⟩⟩
    · have KX := Lib.hid fun W => isLevel_t W h2
      rcases hE' with ⟨h3, rfl⟩ | ⟨h3, j, j1, j2, j3⟩
      · have KL : Hid (∀ W, Below w.heap.size w W → Calls Try.prog 72 #[.slice A n c] W fun e w' => e = .returned (.bool false) ∧ W = w') :=
          Lib.hid fun W hW => levels_is A n c Z false W ((HIN.out.up hW (Nat.le_refl _)).more hW.size) ⟨fun e => (by cases e), fun e => absurd e h3⟩
        clear h h2 h3
        go_enter Try.func26, Try.ntmps26
        go_wp2_with fail
        refine (KC.out _).mono ?_
        rintro e w1 ⟨rfl, hb⟩
        have C1 := Lib.hid (nextB (box1 w _) hb)
        clear hb
        go_wp2_with fail
        refine (KX.out _).mono ?_
        rintro e w' ⟨rfl, rfl⟩
        go_wp2_with fail
        refine (KL.out _ C1.out).mono ?_
        rintro e w' ⟨rfl, rfl⟩
        go_wp2_with fail
        go_ret2
        exact ⟨fun e => by simp at e, fun _ => ⟨rfl, C1.out⟩⟩
      · have KL : Hid (∀ W, Below w.heap.size w W → Calls Try.prog 72 #[.slice A n c] W fun e w' => e = .returned (.bool true) ∧ W = w') :=
          Lib.hid fun W hW => levels_is A n c Z true W ((HIN.out.up hW (Nat.le_refl _)).more hW.size) ⟨fun _ => h3, fun _ => rfl⟩
        have hn0 := h3.1
        have hn4 := h3.2.1
        have hb0 := h.b
        obtain ⟨G0, hG0⟩ : ∃ G : Bool, G = true ↔ (-p.b ≤ Z 0 - f ∧ Z 0 - f ≤ p.b) := ⟨decide (-p.b ≤ Z 0 - f ∧ Z 0 - f ≤ p.b), decide_eq_true_iff⟩
        have KR := Lib.hid fun W => right_is p f (Z 0) G0 W h.b h2 (h3.2.2 0 (by omega)) hG0
        have hj0 : (G0 = true ∧ 1 ≤ j ∧ shw p.b f Z 0 = f) ∨ (G0 = false ∧ E = 31) := by
          by_cases hk : -p.b ≤ Z 0 - f ∧ Z 0 - f ≤ p.b
          · refine .inl ⟨hG0.2 hk, ?_, by show lz p.b f (Z 0) = f; unfold lz; omega⟩
            rcases j3 with ⟨e, _⟩ | ⟨_, hbad, _⟩
            · omega
            · cases j with
              | zero => exact absurd hk hbad
              | succ j => omega
          · refine .inr ⟨?_, ?_⟩
            · cases G0 with
              | false => rfl
              | true => exact absurd (hG0.1 rfl) hk
            · cases j with
              | zero =>
                rcases j3 with ⟨e, _⟩ | ⟨_, _, e⟩
                · omega
                · exact e
              | succ j => exact absurd (j2 0 (by omega)) hk
        have KN : Hid (∀ k, k + 1 < n → ∀ G : Bool, (G = true ↔ okAt p f Z (k + 1)) → ∀ W, Calls Try.prog 68 #[p.v, Mo (shw p.b f Z k) (Z k), .int .i64 (Z (k + 1))] W fun e w' => e = .returned (.tuple #[Mo (shw p.b f Z (k + 1)) (Z (k + 1)), .bool G]) ∧ Below W.heap.size W w') :=
          Lib.hid fun k hk G hG W => by
            have l1 := h3.2.2 k (by omega)
            have l2 := h3.2.2 (k + 1) hk
            exact nextR_is p (shw p.b f Z k) (Z k) (Z (k + 1)) G W h.b h.r ⟨by omega, by omega⟩ ⟨by omega, by omega⟩ hG
        have HJ := Lib.hid (And.intro j2 j3)
        clear h h2 h3 hG0 hb0 j2 j3
        go_enter Try.func26, Try.ntmps26
        go_wp2_with fail
        refine (KC.out _).mono ?_
        rintro e w1 ⟨rfl, hb⟩
        have C1 := Lib.hid (nextB (box1 w _) hb)
        have P1 := Lib.hid ((pn_new w p.b p.lo p.hi p.r).up hb (by simp))
        have zp1 := P1.out.lt
        clear hb
        go_wp2_with fail
        refine (KX.out _).mono ?_
        rintro e w' ⟨rfl, rfl⟩
        obtain ⟨a, rfl, ab, c0⟩ := (HIN.out.up C1.out (Nat.le_refl _)).2 0 (by omega)
        have d0 : w1.cell? a = some (.int .i64 (Z 0)) := by simpa [Addr.add] using c0
        have nn : (0 : Int) < n := by omega
        have nn1 : 0 < n := by omega
        obtain ⟨x0, x1, x2, x3⟩ := P1.out
        clear c0
        go_wp2_with fail
        refine (KL.out _ C1.out).mono ?_
        rintro e w' ⟨rfl, rfl⟩
        go_wp2_with fail
        refine (KR.out _).mono ?_
        rintro e w2 ⟨rfl, hb⟩
        have bx := box2 w1 (.cells #[.int .i64 f, .int .i64 (Z 0)] 27) (.cells #[.int .i64 f] 3)
        have hb12 := nextB bx hb
        have C2 := Lib.hid (nextB C1.out hb12)
        have P2 := Lib.hid (P1.out.up hb12 zp1)
        have z12 := hb12.size
        have B2 := Lib.hid (((Bt.new w1 27 f (Z 0)).up (box1 _ (.cells #[.int .i64 f] 3))).up hb)
        have zB2 := B2.out.lt
        have hown : w2.ownsRow (w1.heap.size + 1) 3 1 (.slice (some ⟨w1.heap.size + 1, 0, none⟩) 1 1) 1 (intsZ [f]) := by
          refine own_keep ?_ hb
          exact ⟨by simp [intsZ], .inr ⟨w1.heap.size + 1, 1, #[.int .i64 f], rfl, Nat.le_refl _, by have h := World.alloc_heap_new (w1.alloc (.cells #[.int .i64 f, .int .i64 (Z 0)] 27)) (.cells #[.int .i64 f] 3); rwa [World.size_alloc] at h, by simp, by unfold maxLen; omega, by simp, by simp [intsZ]⟩⟩
        have HO := Lib.hid hown
        clear hb hb12 bx hown x0 x1 x2 x3 d0 KC KX KL
        rcases hj0 with ⟨rfl, hj1, hs0⟩ | ⟨rfl, rfl⟩
        · have hI : RfI w p f Z w1.heap.size 0 (.slice (some ⟨w1.heap.size + 1, 0, none⟩) 1 1) w2 :=
            ⟨C2.out, by have e : upTo (shw p.b f Z) (0 + 1) = [f] := by simp [upTo, hs0]
                        rw [e]; exact HO.out, by rw [hs0]; exact B2.out, P2.out, by omega⟩
          have HI0 := Lib.hid hI
          obtain ⟨i0, hi0, hz0, hz1, hz2⟩ := info_parts Try.infoInt
          clear hI
          go_wp2_with fail
          go_loopw [9, 10, 11, 12, 41] (fun v i _ _ _ wr => ∃ (vv : Value) (k : Nat), vv = v ∧ k + 1 ≤ j ∧ i = .int .i64 ((k + 1 : Nat) : Int) ∧ RfI w p f Z w1.heap.size k vv wr) (fun _ i _ _ _ _ => n - (intOf i).toNat)
          case atStart => exact ⟨_, 0, rfl, hj1, rfl, HI0.out⟩
          case round =>
            obtain ⟨v9, k, e9, hk, rfl, hI⟩ := hrel
            have HE9 := Lib.hid e9
            clear e9
            obtain ⟨wo, rfl⟩ : ∃ wo : World, wo = wr := ⟨_, rfl⟩
            have HI := Lib.hid hI
            have hk0 : (0 : Int) ≤ ((k + 1 : Nat) : Int) := by omega
            have zb := hI.bt.lt
            have zp := hI.pn.lt
            have hlo := hI.lo
            have hsz := hI.below.size
            clear HI0
            by_cases hlt : k + 1 < n
            · obtain ⟨a1, e1, _, c1⟩ := (HIN.out.up hI.below (Nat.le_refl _)).2 (k + 1) hlt
              cases e1
              have hki : ((k + 1 : Nat) : Int) < (n : Int) := by omega
              have az := World.block_lt_of_cell? _ _ c1
              obtain ⟨G, hG⟩ : ∃ G : Bool, G = true ↔ okAt p f Z (k + 1) := by
                rcases Classical.em (okAt p f Z (k + 1)) with h | h
                · exact ⟨true, fun _ => h, fun _ => rfl⟩
                · exact ⟨false, fun e => (by cases e), fun e => absurd e h⟩
              have KS := Lib.hid (KN.out k hlt G hG)
              have hGj : (G = true ∧ k + 1 + 1 ≤ j) ∨ (G = false ∧ E = 31) := by
                rcases Nat.lt_or_ge (k + 1) j with h | h
                · exact .inl ⟨hG.2 (HJ.out.1 _ h), h⟩
                · have ej : j = k + 1 := by omega
                  rcases HJ.out.2 with ⟨e, _⟩ | ⟨_, hbad, e⟩
                  · omega
                  · refine .inr ⟨?_, e⟩
                    rw [ej] at hbad
                    cases G with
                    | false => rfl
                    | true => exact absurd (hG.1 rfl) hbad
              obtain ⟨x0, x1, x2, x3⟩ := hI.pn
              obtain ⟨y0, y1, g0, g1⟩ := hI.bt
              have hown := hI.own
              have hstep : ∀ (w5 w6 : World) (v v' : Value) (o : Obj), RfI w p f Z w1.heap.size k v wo → Below wo.heap.size wo w5 → (((w5.setCell ⟨w1.heap.size, 0, none⟩ (.int .i64 (shw p.b f Z (k + 1)))).setCell ⟨w1.heap.size, 1, none⟩ (.int .i64 (Z (k + 1)))).alloc o).grownBy w6 v.ownBlock →
                  w6.ownsRow (w1.heap.size + 1) 3 1 v' (k + 1 + 1) (intsZ (upTo (shw p.b f Z) (k + 1)) ++ [.int .i64 (shw p.b f Z (k + 1))]) → RfI w p f Z w1.heap.size (k + 1) v' w6 := fun w5 w6 v v' o h hb hg ho => h.step hb hg ho
              have HST := Lib.hid hstep
              clear hI hG hstep
              generalize hS1 : shw p.b f Z (k + 1) = S1 at *
              generalize hZ1 : Z (k + 1) = Z1 at *
              generalize hS0 : shw p.b f Z k = S0 at *
              generalize hZ0 : Z k = Z0 at *
              generalize hL0 : upTo (shw p.b f Z) (k + 1) = L0 at *
              have HLL := Lib.hid (show L0.length = k + 1 by rw [← hL0, upTo_len])
              generalize hq : k + 1 = q at *
              have HQ := Lib.hid hq
              clear hS1 hZ1 hS0 hZ0 hL0 hq
              go_wp2_with fail
              go_upto_region 12 with fail
              go_cut [11, 12] (fun v11 v12 wx => ∃ cb : Nat, v11 = .pointer (some ⟨cb, 0, none⟩) ∧ v12 = .bool G ∧ wo.heap.size ≤ cb ∧ Below wo.heap.size wo wx ∧ Bt cb S1 Z1 wx)
              case first =>
                --SLOW
                clear HIN HJ HI HST HLL HQ C1 C2 P1 P2 B2 HO KN
                go_region_with (go_at_call 68; refine (KS.out _).mono ?_; rintro e wA ⟨rfl, hbA⟩; (try (have hN := bt_a hbA; obtain ⟨n0, n1, n2, n3, n4⟩ := hN)); (try (have hN := bt_d hbA; obtain ⟨n0, n1, n2, n3, n4⟩ := hN)); have DA := Lib.hid (show Below wo.heap.size wo wA from nextB (by first | exact Below.refl _ _ | exact (Below.refl _ _).drew | exact box1 _ _ | exact (box1 _ _).drew) hbA); clear hbA)
                all_goals
                  go_wp2_with fail
                  go_meet
                  first
                    | exact ⟨_, rfl, rfl, DA.out.size, nextB DA.out (box1 _ _), Bt.new _ _ _ _⟩
                    | exact ⟨_, rfl, rfl, Nat.le_refl _, set1 (set1 DA.out (Nat.le_refl _) _ _) (Nat.le_refl _) _ _, Bt.store ⟨n1, n2, n3, n4⟩ _ _⟩
                --END
              case rest =>
                obtain ⟨cb, rfl, rfl, hcb, hq5, hBc⟩ := hcut
                obtain ⟨w5, rfl⟩ : ∃ w5 : World, w5 = wc := ⟨_, rfl⟩
                have D5 := Lib.hid hq5
                rcases hGj with ⟨rfl, hj2⟩ | ⟨rfl, rfl⟩
                · have hB5 := (show Bt w1.heap.size S0 Z0 wo from ⟨y0, y1, g0, g1⟩).up hq5
                  have zB5 := hB5.lt
                  have hown5 := own_keep hown hq5
                  have hne : cb ≠ w1.heap.size := by omega
                  have hsz5 := hq5.size
                  have kz := hBc.lt
                  have hq1000 : q ≤ 1000 := by omega
                  have HBc := Lib.hid hBc
                  have HB5 := Lib.hid hB5
                  have HO5 := Lib.hid hown5
                  obtain ⟨k0, k1, _, _⟩ := hBc
                  obtain ⟨m0, m1, mf0, mf1⟩ := hB5
                  clear hq5 x0 x1 x2 x3 y0 y1 g0 g1 c1 hown hown5 KS HJ
                  go_upto_region 16 with fail
                  obtain ⟨w6, hw6⟩ : ∃ w6, w6 = (w5.setCell ⟨w1.heap.size, 0, none⟩ (.int .i64 S1)).setCell ⟨w1.heap.size, 1, none⟩ (.int .i64 Z1) := ⟨_, rfl⟩
                  have hB6 : Bt w1.heap.size S1 Z1 w6 := by rw [hw6]; exact HB5.out.store S1 Z1
                  have hown6 : w6.ownsRow (w1.heap.size + 1) 3 1 v9 q (intsZ L0) := by rw [hw6]; exact own_set (own_set HO5.out (Nat.lt_succ_self _)) (Nat.lt_succ_self _)
                  have hs6 : w5.heap.size ≤ w6.heap.size := by rw [hw6, World.size_setCell, World.size_setCell]; exact Nat.le_refl _
                  have HST6 : Hid (∀ (w7 : World) (v' : Value) (o : Obj), (w6.alloc o).grownBy w7 v9.ownBlock → w7.ownsRow (w1.heap.size + 1) 3 1 v' (q + 1) (intsZ L0 ++ [.int .i64 S1]) → RfI w p f Z w1.heap.size q v' w7) :=
                    Lib.hid fun w7 v' o h1 h2 => HST.out w5 w7 _ v' o HI.out D5.out (by rw [← hw6]; exact h1) h2
                  rw [HE9.out] at hown6 HST6
                  rw [← hw6]
                  have zB6 := hB6.lt
                  obtain ⟨n0, n1, _, _⟩ := hB6
                  clear hw6 k0 k1 m0 m1 mf0 mf1 HB5 HO5 HBc
                  go_wp2_with (at_builtin; refine wpList_append_own _ rfl _ _ 28 rfl (w1.heap.size + 1) 3 i0 (.int .i64 0) 1 8 Try.underlying28 hi0 hz0 hz1 hz2 rfl (by decide) _ q _ rfl (hown6.alloc _) ⟨w6.heap.size, 0, none⟩ 1 1 [.int .i64 S1] rfl rfl (new1 _ _) (by simp [Value.oneCell']) (by unfold maxLen; omega) (by omega) (by rw [World.size_alloc]; omega) ?_; intro v8 w8 hown8 hg8 _; have HN8 := Lib.hid (HST6.out _ _ _ hg8 hown8); clear hown6 hown8 hg8)
                  go_roundw
                  case rel => exact ⟨_, q, rfl, hj2, by go_num, HN8.out⟩
                  case measure => simp [intOf]; omega
                · have hB := Lib.hid (nextB (show Below w.heap.size w wo from HI.out.below) hq5)
                  clear hq5 hBc x0 x1 x2 x3 y0 y1 g0 g1 c1 hown
                  go_wp2_with fail
                  go_ret2
                  exact ⟨fun e => by simp at e, fun _ => ⟨rfl, hB.out⟩⟩
            · have hki : (n : Int) ≤ ((k + 1 : Nat) : Int) := by omega
              have hjn : j = n ∧ k + 1 = n := by omega
              have hE0 : E = 0 := by
                rcases HJ.out.2 with ⟨_, e⟩ | ⟨h, _, _⟩
                · exact e
                · omega
              have HR := Lib.hid (show RowZ w (upTo (shw p.b f Z) n) v9 wo by have h := hI.row; rw [hjn.2] at h; exact h)
              rw [HE9.out] at HR
              subst hE0
              clear hI hjn
              generalize k + 1 = q at hki hk0 ⊢
              go_wp2_with fail
              go_ret2
              exact ⟨fun _ => ⟨_, rfl, HR.out⟩, fun e => absurd rfl e⟩
        · go_wp2_with fail
          go_ret2
          exact ⟨fun e => by simp at e, fun _ => ⟨rfl, C2.out⟩⟩
end Go.Proofs.Ytkidhmajlpceeaa
