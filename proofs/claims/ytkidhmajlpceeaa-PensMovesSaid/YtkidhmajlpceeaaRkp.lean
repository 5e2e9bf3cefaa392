/- The specification's Keeps. -/
import Derived.Test.YtkidhmajlpceeaaRf2
namespace Go.Proofs.Ytkidhmajlpceeaa
open Go.RowKit
theorem kee_cases {p : Pn} {n : Nat} {M : Nat → Int × Int} {E : Int} (h : keeR p n M E) : (¬ p.Ok ∧ E = 30) ∨ p.Ok ∧ ((¬ MOk M n ∧ E = 1) ∨ MOk M n ∧ ∃ j, j ≤ n ∧ (∀ k, k < j → kAt p M k) ∧ ((j = n ∧ E = 0) ∨ (j < n ∧ ¬ kAt p M j ∧ E = 31))) := by
  rcases h with h | ⟨hp, h | ⟨hm, ⟨h1, e⟩ | ⟨⟨j, h1, h2, h3⟩, e⟩⟩⟩
  · exact .inl h
  · exact .inr ⟨hp, .inl h⟩
  · exact .inr ⟨hp, .inr ⟨hm, n, Nat.le_refl _, h1, .inl ⟨rfl, e⟩⟩⟩
  · exact .inr ⟨hp, .inr ⟨hm, j, by omega, h2, .inr ⟨h1, h3, e⟩⟩⟩
set_option maxRecDepth 100000 in
set_option maxHeartbeats 4000000 in
theorem RKeeps_any (p : Pn) (A : Option Addr) (n c : Nat) (M : Nat → Int × Int) (E : Int) (w : World) (hin : MosIn A n M w.heap.size w) (hE : keeR p n M E) :
    Calls Try.prog 33 #[p.v, .slice A n c] w fun e w' => e = .returned (.int .i64 E) ∧ Below w.heap.size w w' := by
  have HIN := Lib.hid hin
  have hn := hin.1
  clear hin
  rcases kee_cases hE with ⟨h, rfl⟩ | ⟨h, hE'⟩
  · have KC := Lib.hid fun W => RCheck_any p 30 W (.inl ⟨h, rfl⟩)
    clear h hE
    go_enter Try.func33, Try.ntmps33
    go_wp2_with fail
    refine (KC.out _).mono ?_
    rintro e w1 ⟨rfl, hb⟩
    go_wp2_with fail
    go_ret
    exact ⟨rfl, nextB (box1 _ _) hb⟩
  · have KC := Lib.hid fun W => RCheck_any p 0 W (.inr ⟨h, rfl⟩)
    clear hE
    by_cases hlen : 1 ≤ n ∧ n ≤ 401
    · have KW := Lib.hid fun W => within_is (n := (n : Int)) (a := 1) (b := 401) (G := true) W ⟨fun _ => ⟨by omega, by omega⟩, fun _ => rfl⟩
      obtain ⟨n1, n4⟩ := hlen
      obtain ⟨j1, l1, l2, l3⟩ := lm_or M n
      have HL2 := Lib.hid l2
      have HL3 := Lib.hid l3
      have hE1 : j1 < n → E = 1 := fun hj => by
        rcases hE' with ⟨_, e⟩ | ⟨hm, _⟩
        · exact e
        · exact absurd (hm.2.2 j1 hj) (l3 hj)
      have hE2 : j1 = n → ∃ j, j ≤ n ∧ (∀ k, k < j → kAt p M k) ∧ ((j = n ∧ E = 0) ∨ (j < n ∧ ¬ kAt p M j ∧ E = 31)) := fun hj => by
        rcases hE' with ⟨hm, _⟩ | ⟨_, h⟩
        · exact absurd ⟨n1, n4, by rw [← hj]; exact l2⟩ hm
        · exact h
      have HE1 := Lib.hid hE1
      have HE2 := Lib.hid hE2
      have HP := Lib.hid h
      clear l2 l3 hE1 hE2 hE' h
      go_enter Try.func33, Try.ntmps33
      go_wp2_with fail
      refine (KC.out _).mono ?_
      rintro e w1 ⟨rfl, hb⟩
      have C1 := Lib.hid (nextB (box1 w _) hb)
      have P1 := Lib.hid ((pn_new w p.b p.lo p.hi p.r).up hb (by simp))
      have zp1 := P1.out.lt
      clear hb KC
      go_wp2_with fail
      refine (KW.out _).mono ?_
      rintro e w' ⟨rfl, rfl⟩
      clear KW
      go_wp2_with fail
      go_loopw [5] (fun i wr => ∃ k : Nat, k ≤ j1 ∧ i = .int .i64 (k : Int) ∧ wr = w1) (fun i _ => n - (intOf i).toNat)
      case atStart => exact ⟨0, Nat.zero_le _, rfl, rfl⟩
      case round =>
        obtain ⟨k, hk, rfl, rfl⟩ := hrel
        have hk0 : (0 : Int) ≤ (k : Int) := by omega
        by_cases hlt : k < n
        · obtain ⟨a, rfl, _, c0, c1⟩ := (HIN.out.up C1.out (Nat.le_refl _)).2 k hlt
          have hki : (k : Int) < (n : Int) := by omega
          by_cases hkj : k < j1
          · have hlm := HL2.out k hkj
            have K1 := Lib.hid fun W => isLevel_t W hlm.1
            have K2 := Lib.hid fun W => isLevel_t W hlm.2
            clear hlm
            go_wp2_with fail
            refine (K1.out _).mono ?_
            rintro e w' ⟨rfl, rfl⟩
            go_wp2_with fail
            refine (K2.out _).mono ?_
            rintro e w' ⟨rfl, rfl⟩
            go_wp2_with fail
            go_roundw
            case rel => exact ⟨k + 1, by omega, by go_num, trivial⟩
            case measure => simp [intOf]; omega
          · obtain rfl : k = j1 := by omega
            have hbad := HL3.out hlt
            obtain rfl := HE1.out hlt
            by_cases hs : Lev (M k).1
            · have K1 := Lib.hid fun W => isLevel_t W hs
              have K2 := Lib.hid fun W => isLevel_f W (fun h2 => hbad ⟨hs, h2⟩)
              clear hs hbad
              go_wp2_with fail
              refine (K1.out _).mono ?_
              rintro e w' ⟨rfl, rfl⟩
              go_wp2_with fail
              refine (K2.out _).mono ?_
              rintro e w' ⟨rfl, rfl⟩
              go_wp2_with fail
              go_ret
              exact ⟨rfl, C1.out⟩
            · have K1 := Lib.hid fun W => isLevel_f W hs
              clear hs hbad
              go_wp2_with fail
              refine (K1.out _).mono ?_
              rintro e w' ⟨rfl, rfl⟩
              go_wp2_with fail
              go_ret
              exact ⟨rfl, C1.out⟩
        · have hki : (n : Int) ≤ (k : Int) := by omega
          obtain rfl : k = n := by omega
          obtain rfl : j1 = k := by omega
          obtain ⟨j, q1, q2, q3⟩ := HE2.out rfl
          have HQ := Lib.hid (And.intro q2 q3)
          obtain ⟨w1, rfl⟩ : ∃ w1 : World, w1 = wr := ⟨_, rfl⟩
          have HMv : Hid (∀ i, i < j1 → (-50000 ≤ (M i).1 ∧ (M i).1 ≤ 50000) ∧ (-50000 ≤ (M i).2 ∧ (M i).2 ≤ 50000)) := Lib.hid fun i hi => HL2.out i hi
          have hpb := HP.out.b
          have hpr := HP.out.r
          clear q2 q3 HE1 HE2 HL2 HL3
          go_wp2_with fail
          go_loopw [6, 7, 8, 53] (fun i _ _ _ wr => ∃ k : Nat, k ≤ j ∧ i = .int .i64 (k : Int) ∧ Below w1.heap.size w1 wr) (fun i _ _ _ _ => j1 - (intOf i).toNat)
          case atStart => exact ⟨0, Nat.zero_le _, rfl, Below.refl _ _⟩
          case round =>
            obtain ⟨k, hk, rfl, hb⟩ := hrel
            obtain ⟨wo, rfl⟩ : ∃ wo : World, wo = wr := ⟨_, rfl⟩
            have HB := Lib.hid hb
            have hk0 : (0 : Int) ≤ (k : Int) := by omega
            have C2 := Lib.hid (nextB C1.out hb)
            have P2 := Lib.hid (P1.out.up hb zp1)
            have zp2 := P2.out.lt
            by_cases hlt : k < j1
            · obtain ⟨a, e1, ab, c0, c1⟩ := (HIN.out.up C2.out (Nat.le_refl _)).2 k hlt
              subst e1
              have hki : (k : Int) < (j1 : Int) := by omega
              have az : (a.add (k * 2)).block < wo.heap.size := World.block_lt_of_cell? _ _ c0
              have hmv := HMv.out k hlt
              obtain ⟨G2, hG2⟩ : ∃ G : Bool, G = true ↔ (-p.b ≤ (M k).2 - (M k).1 ∧ (M k).2 - (M k).1 ≤ p.b) := ⟨decide (-p.b ≤ (M k).2 - (M k).1 ∧ (M k).2 - (M k).1 ≤ p.b), decide_eq_true_iff⟩
              have KR := Lib.hid fun W => right_is p (M k).1 (M k).2 G2 W hpb hmv.1 hmv.2 hG2
              have hgj : (G2 = true) ∨ (G2 = false ∧ E = 31) := by
                rcases Nat.lt_or_ge k j with h | h
                · exact .inl (hG2.2 (k_band hpb.1 k (HQ.out.1 k h)))
                · obtain rfl : k = j := by omega
                  rcases HQ.out.2 with ⟨e, _⟩ | ⟨_, _, e⟩
                  · omega
                  · cases G2 with
                    | true => exact .inl rfl
                    | false => exact .inr ⟨rfl, e⟩
              have HG2 := Lib.hid hG2
              obtain ⟨x0, x1, x2, x3⟩ := P2.out
              clear hb hG2 hmv
              go_wp2_with fail
              go_upto_region 13 with fail
              go_cut [50] (fun v wx => v = .bool (!G2) ∧ Below wo.heap.size wo wx)
              case first =>
                go_region_with (go_at_call 69; refine (KR.out _).mono ?_; rintro e wA ⟨rfl, hbA⟩; have DA := Lib.hid (show Below wo.heap.size wo wA from nextB (by first | exact Below.refl _ _ | exact (Below.refl _ _).drew) hbA); clear hbA)
                all_goals
                  go_wp2_with fail
                  go_meet
                  exact ⟨rfl, DA.out⟩
              case rest =>
                obtain ⟨rfl, hb3⟩ := hcut
                obtain ⟨w3, rfl⟩ : ∃ w3 : World, w3 = wc := ⟨_, rfl⟩
                have D3 := Lib.hid (HB.out.trans (hb3.mono HB.out.size))
                have C3 := Lib.hid (nextB C2.out hb3)
                have P3 := Lib.hid (P2.out.up hb3 zp2)
                have zp3 := P3.out.lt
                have d0 := (hb3.cell (p := a.add (k * 2)) az).trans c0
                have d1 := (hb3.cell (p := ⟨(a.add (k * 2)).block, (a.add (k * 2)).off + 1, none⟩) az).trans c1
                have bz : (a.add (k * 2)).block < w3.heap.size := World.block_lt_of_cell? _ _ d0
                clear hb3 c0 c1 x0 x1 x2 x3 KR
                obtain ⟨x0, x1, x2, x3⟩ := P3.out
                rcases hgj with rfl | ⟨rfl, rfl⟩
                · by_cases hk00 : k = 0
                  · have hk1 : k + 1 ≤ j := by
                      rcases Nat.lt_or_ge k j with h | h
                      · exact h
                      · obtain rfl : k = j := by omega
                        rcases HQ.out.2 with ⟨e, _⟩ | ⟨_, hbad, _⟩
                        · omega
                        · subst hk00; exact absurd (HG2.out.1 rfl) hbad
                    have u0 : (k == 0) = true := by simpa using hk00
                    have u1 : ((k : Int) == 0) = true := by simpa using hk00
                    clear hk00
                    go_wp2_with fail
                    go_roundw
                    case rel => exact ⟨k + 1, hk1, by go_num, D3.out⟩
                    case measure => simp [intOf]; omega
                  · have u0 : (k == 0) = false := by simpa using hk00
                    have u1 : ((k : Int) == 0) = false := by simpa using hk00
                    obtain ⟨m, hm⟩ : ∃ m : Nat, k = m + 1 := ⟨k - 1, by omega⟩
                    obtain ⟨a', e1, _, f0, f1⟩ := (HIN.out.up C3.out (Nat.le_refl _)).2 m (by omega)
                    cases e1
                    have fz : (a.add (m * 2)).block < w3.heap.size := World.block_lt_of_cell? _ _ f0
                    have mv1 := HMv.out m (by omega)
                    have mv2 := HMv.out k hlt
                    obtain ⟨G1, hG1⟩ : ∃ G : Bool, G = true ↔ (-p.r ≤ (M k).2 - (M m).2 ∧ (M k).2 - (M m).2 ≤ p.r) := ⟨decide (-p.r ≤ (M k).2 - (M m).2 ∧ (M k).2 - (M m).2 ≤ p.r), decide_eq_true_iff⟩
                    have KN := Lib.hid fun W => nextR_is p (M m).1 (M m).2 (M k).2 G1 W hpb hpr ⟨by omega, by omega⟩ ⟨by omega, by omega⟩ hG1
                    have hres : (G1 = true ∧ (M k).1 = lz p.b (M m).1 (M k).2 ∧ k + 1 ≤ j) ∨ (G1 = false ∧ E = 31) ∨ (G1 = true ∧ (M k).1 ≠ lz p.b (M m).1 (M k).2 ∧ E = 31) := by
                      have hkA : kAt p M k ↔ (-p.r ≤ (M k).2 - (M m).2 ∧ (M k).2 - (M m).2 ≤ p.r) ∧ (M k).1 = lz p.b (M m).1 (M k).2 := by rw [hm]; exact Iff.rfl
                      rcases Nat.lt_or_ge k j with h | h
                      · have := hkA.1 (HQ.out.1 k h)
                        exact .inl ⟨hG1.2 this.1, this.2, h⟩
                      · have ej : k = j := by omega
                        rcases HQ.out.2 with ⟨e, _⟩ | ⟨_, hbad, e⟩
                        · omega
                        · rw [← ej] at hbad
                          cases G1 with
                          | false => exact .inr (.inl ⟨rfl, e⟩)
                          | true => exact .inr (.inr ⟨rfl, fun h2 => hbad (hkA.2 ⟨hG1.1 rfl, h2⟩), e⟩)
                    have w1' : IntKind.i64.wrap ((k : Int) - 1) = (m : Int) := by rw [show (k : Int) - 1 = (m : Int) by omega]; exact IntWalk.i64_in _ (by omega)
                    have m1 : (m : Int) < (j1 : Int) := by omega
                    have m0 : (0 : Int) ≤ (m : Int) := by omega
                    have HLZ := Lib.hid (show ∃ L, L = lz p.b (M m).1 (M k).2 from ⟨_, rfl⟩)
                    generalize hL : lz p.b (M m).1 (M k).2 = L at KN hres
                    generalize hA1 : (M m).1 = A1 at f0 KN
                    generalize hA2 : (M m).2 = A2 at f1 KN
                    generalize hB1 : (M k).1 = B1 at d0 hres
                    generalize hB2 : (M k).2 = B2 at d1 KN
                    clear hk00 hm mv1 mv2 hG1 hL hA1 hA2 hB1 hB2 HLZ
                    go_wp2_with fail
                    go_upto_region 16 with fail
                    go_cut [7, 8] (fun v7 v8 wx => ∃ cb : Nat, v7 = .pointer (some ⟨cb, 0, none⟩) ∧ v8 = .bool G1 ∧ w3.heap.size ≤ cb ∧ Below w3.heap.size w3 wx ∧ Bt cb L B2 wx)
                    case first =>
                      --SLOW
                      clear HIN HQ HMv HB C1 C2 C3 P1 P2 P3 D3 HG2 hres
                      go_region_with (go_at_call 68; refine (KN.out _).mono ?_; rintro e wA ⟨rfl, hbA⟩; (try (have hN := bt_a hbA; obtain ⟨n0, n1, n2, n3, n4⟩ := hN)); (try (have hN := bt_d hbA; obtain ⟨n0, n1, n2, n3, n4⟩ := hN)); have DA := Lib.hid (show Below w3.heap.size w3 wA from nextB (by first | exact Below.refl _ _ | exact (Below.refl _ _).drew | exact box1 _ _ | exact (box1 _ _).drew) hbA); clear hbA)
                      all_goals
                        go_wp2_with fail
                        go_meet
                        first
                          | exact ⟨_, rfl, rfl, DA.out.size, nextB DA.out (box1 _ _), Bt.new _ _ _ _⟩
                          | exact ⟨_, rfl, rfl, Nat.le_refl _, set1 (set1 DA.out (Nat.le_refl _) _ _) (Nat.le_refl _) _ _, Bt.store ⟨n1, n2, n3, n4⟩ _ _⟩
                      --END
                    case rest =>
                      obtain ⟨cb, rfl, rfl, hcb, hb4, hBc⟩ := hcut
                      obtain ⟨w4, rfl⟩ : ∃ w4 : World, w4 = wc := ⟨_, rfl⟩
                      have D4 := Lib.hid (D3.out.trans (hb4.mono D3.out.size))
                      have C4 := Lib.hid (nextB C3.out hb4)
                      have g0 := (hb4.cell (p := a.add (k * 2)) bz).trans d0
                      have g1 := (hb4.cell (p := ⟨(a.add (k * 2)).block, (a.add (k * 2)).off + 1, none⟩) bz).trans d1
                      have kz := hBc.lt
                      obtain ⟨k0, k1, _, _⟩ := hBc
                      have bb : (B2 == B2) = true := by simp
                      clear hb4 d0 d1 f0 f1 x0 x1 x2 x3 w1' KN
                      rcases hres with ⟨rfl, hbl, hk1⟩ | ⟨rfl, rfl⟩ | ⟨rfl, hbl, rfl⟩
                      · have bl : (L == B1) = true := by simpa using hbl.symm
                        clear hbl
                        go_wp2_with fail
                        go_quiet (fail)
                        go_wp2_with fail
                        go_roundw
                        case rel => exact ⟨k + 1, hk1, by go_num, below_drewN D4.out _⟩
                        case measure => simp [intOf]; omega
                      · go_wp2_with fail
                        go_quiet (fail)
                        go_wp2_with fail
                        go_ret
                        exact ⟨rfl, below_drewN C4.out _⟩
                      · have bl : (L == B1) = false := by simpa using (fun h => hbl h.symm : ¬ L = B1)
                        clear hbl
                        go_wp2_with fail
                        go_quiet (fail)
                        go_wp2_with fail
                        go_ret
                        exact ⟨rfl, below_drewN C4.out _⟩
                · go_wp2_with fail
                  go_ret
                  exact ⟨rfl, C3.out⟩
            · have hki : (j1 : Int) ≤ (k : Int) := by omega
              obtain rfl : E = 0 := by
                rcases HQ.out.2 with ⟨_, e⟩ | ⟨h, _, _⟩
                · exact e
                · omega
              clear hb
              go_wp2_with fail
              go_ret
              exact ⟨rfl, C2.out⟩
    · have KW := Lib.hid fun W => within_is (n := (n : Int)) (a := 1) (b := 401) (G := false) W ⟨fun e => (by cases e), fun e => absurd ⟨by obtain ⟨e1, e2⟩ := e; omega, by obtain ⟨e1, e2⟩ := e; omega⟩ hlen⟩
      obtain rfl : E = 1 := by
        rcases hE' with ⟨_, e⟩ | ⟨hm, _⟩
        · exact e
        · exact absurd ⟨hm.1, hm.2.1⟩ hlen
      clear hlen hE' h
      go_enter Try.func33, Try.ntmps33
      go_wp2_with fail
      refine (KC.out _).mono ?_
      rintro e w1 ⟨rfl, hb⟩
      have C1 := Lib.hid (nextB (box1 w _) hb)
      clear hb
      go_wp2_with fail
      refine (KW.out _).mono ?_
      rintro e w' ⟨rfl, rfl⟩
      go_wp2_with fail
      go_ret
      exact ⟨rfl, C1.out⟩
end Go.Proofs.Ytkidhmajlpceeaa
