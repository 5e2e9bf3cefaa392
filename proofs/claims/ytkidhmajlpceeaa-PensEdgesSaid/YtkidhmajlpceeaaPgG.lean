import Derived.Test.YtkidhmajlpceeaaKep
import Derived.Test.YtkidhmajlpceeaaPgA
namespace Go.Proofs.Ytkidhmajlpceeaa
open Go.RowKit
/-- one edge leads from a moment to another one -/
def edB (p : Pn) (s r s2 r2 : Int) (i : Nat) : Bool := decide ((edgeF p (r - s) i).1 = r2 - s2 + p.b) && (decide ((edgeF p (r - s) i).2.1 ≤ s2 - s) && decide (s2 - s ≤ (edgeF p (r - s) i).2.2))
def mayB (p : Pn) (s r s2 r2 : Int) : Nat → Bool
  | 0 => false
  | k + 1 => mayB p s r s2 r2 k || edB p s r s2 r2 k
theorem mayB_iff (p : Pn) (s r s2 r2 : Int) : ∀ k, mayB p s r s2 r2 k = true ↔ ∃ i, i < k ∧ edB p s r s2 r2 i = true
  | 0 => ⟨fun h => (by cases h), fun ⟨i, h, _⟩ => absurd h (by omega)⟩
  | k + 1 => by
    show (mayB p s r s2 r2 k || edB p s r s2 r2 k) = true ↔ _
    rw [Bool.or_eq_true, mayB_iff p s r s2 r2 k]
    constructor
    · rintro (⟨i, h1, h2⟩ | h)
      · exact ⟨i, by omega, h2⟩
      · exact ⟨k, by omega, h⟩
    · rintro ⟨i, h1, h2⟩
      by_cases e : i = k
      · subst e; exact .inr h2
      · exact .inl ⟨i, by omega, h2⟩
theorem edge_iff {p : Pn} {s r s2 r2 : Int} (h : p.Ok) (h1 : -p.b ≤ r - s ∧ r - s ≤ p.b) (h2 : -p.b ≤ r2 - s2 ∧ r2 - s2 ≤ p.b) :
    mayB p s r s2 r2 (mvN p (r - s)) = true ↔ (-p.r ≤ r2 - r ∧ r2 - r ≤ p.r) ∧ s2 = lz p.b s r2 := by
  obtain ⟨b1, b2⟩ := h.b
  obtain ⟨q1, q2⟩ := h.r
  rw [mayB_iff]
  have hN : mvN p (r - s) = (min p.b (r - s + p.r) - max (-p.b) (r - s - p.r) + 1).toNat := rfl
  constructor
  · rintro ⟨i, hi, he⟩
    unfold edB edgeF chg mv0 at he
    simp only [Bool.and_eq_true, decide_eq_true_eq] at he
    obtain ⟨e1, e2, e3⟩ := he
    rw [hN] at hi
    unfold lz
    generalize ht : max (-p.b) (r - s - p.r) + (i : Int) = t at *
    have hi' : (i : Int) ≤ min p.b (r - s + p.r) - max (-p.b) (r - s - p.r) := by omega
    split at e2 <;> split at e3 <;> omega
  · rintro ⟨h3, h4⟩
    unfold lz at h4
    refine ⟨(r2 - s2 - max (-p.b) (r - s - p.r)).toNat, by rw [hN]; omega, ?_⟩
    have e0 : max (-p.b) (r - s - p.r) + ((r2 - s2 - max (-p.b) (r - s - p.r)).toNat : Int) = r2 - s2 := by omega
    unfold edB edgeF chg mv0
    simp only [e0, Bool.and_eq_true, decide_eq_true_eq]
    refine ⟨trivial, ?_, ?_⟩
    · split <;> omega
    · split <;> omega
theorem mos_one (w : World) (s r : Int) (N : Nat) (hN : N = w.heap.size) : MosIn (some ⟨N, 0, none⟩) 1 (fun _ => (s, r)) (w.alloc (.cells #[.int .i64 s, .int .i64 r] 27)).heap.size (w.alloc (.cells #[.int .i64 s, .int .i64 r] 27)) := by
  subst hN
  refine ⟨by omega, fun i hi => ⟨_, rfl, by simp, ?_, ?_⟩⟩
  · obtain rfl : i = 0 := by omega
    simp only [Nat.zero_mul, Addr.add, if_true]; go_simp
  · obtain rfl : i = 0 := by omega
    simp only [Nat.zero_mul, Addr.add, if_true]; go_simp
abbrev twoM (s r s2 r2 : Int) (i : Nat) : Int × Int := if i = 0 then (s, r) else (s2, r2)
theorem mos_two (w : World) (s r s2 r2 : Int) (N : Nat) (hN : N = w.heap.size) : MosIn (some ⟨N, 0, none⟩) 2 (twoM s r s2 r2) (w.alloc (.cells #[.int .i64 s, .int .i64 r, .int .i64 s2, .int .i64 r2] 27)).heap.size (w.alloc (.cells #[.int .i64 s, .int .i64 r, .int .i64 s2, .int .i64 r2] 27)) := by
  subst hN
  refine ⟨by omega, fun i hi => ⟨_, rfl, by simp, ?_, ?_⟩⟩
  · match i with
    | 0 => simp only [Nat.zero_mul, Addr.add, if_true]; go_simp; rfl
    | 1 => simp only [Addr.add, Nat.one_mul]; go_simp; rfl
  · match i with
    | 0 => simp only [Nat.zero_mul, Addr.add, if_true]; go_simp; rfl
    | 1 => simp only [Addr.add, Nat.one_mul]; go_simp; rfl
theorem kee1 {p : Pn} {s r : Int} (h : keeR p 1 (fun _ => (s, r)) 0) : p.Ok ∧ (Lev s ∧ Lev r) ∧ (-p.b ≤ r - s ∧ r - s ≤ p.b) := by
  rcases h with ⟨_, e⟩ | ⟨hp, ⟨_, e⟩ | ⟨hm, ⟨h1, _⟩ | ⟨_, e⟩⟩⟩
  · omega
  · omega
  · exact ⟨hp, hm.2.2 0 (by omega), h1 0 (by omega)⟩
  · omega
theorem kee2 {p : Pn} {s r s2 r2 E : Int} (h : keeR p 2 (twoM s r s2 r2) E) (hp : p.Ok) (h1 : Lev s ∧ Lev r) (h2 : Lev s2 ∧ Lev r2) (hb : -p.b ≤ r - s ∧ r - s ≤ p.b) :
    (E == 0) = true ↔ (-p.r ≤ r2 - r ∧ r2 - r ≤ p.r) ∧ s2 = lz p.b s r2 := by
  have hm : MOk (twoM s r s2 r2) 2 := ⟨by omega, by omega, fun i hi => by
    match i with
    | 0 => exact h1
    | 1 => exact h2⟩
  have k1 : kAt p (twoM s r s2 r2) 1 ↔ (-p.r ≤ r2 - r ∧ r2 - r ≤ p.r) ∧ s2 = lz p.b s r2 := Iff.rfl
  rcases h with ⟨h, _⟩ | ⟨_, ⟨h, _⟩ | ⟨_, ⟨h, rfl⟩ | ⟨⟨j, hj, _, hn⟩, rfl⟩⟩⟩
  · exact absurd hp h
  · exact absurd hm h
  · exact ⟨fun _ => k1.1 (h 1 (by omega)), fun _ => rfl⟩
  · refine ⟨fun e => (by simp at e), fun e => ?_⟩
    match j with
    | 0 => exact absurd hb hn
    | 1 => exact absurd (k1.2 e) hn
theorem bx3 (w : World) (p : Pn) (s r s2 r2 : Int) : HasPn p w.heap.size (((w.alloc (penO p)).alloc (.cells #[.int .i64 s, .int .i64 r] 27)).alloc (.cells #[.int .i64 s2, .int .i64 r2] 27)) ∧
    Below w.heap.size w (((w.alloc (penO p)).alloc (.cells #[.int .i64 s, .int .i64 r] 27)).alloc (.cells #[.int .i64 s2, .int .i64 r2] 27)) :=
  ⟨⟨by go_simp, by go_simp, by go_simp, by go_simp⟩, nextB (box1 _ _) (nextB (box1 _ _) (box1 _ _))⟩
/-- the boxes of the law's arguments -/
structure Bx (p : Pn) (s r s2 r2 : Int) (b : Nat) (w : World) : Prop where
  pn : HasPn p b w
  a0 : w.cell? ⟨b + 1, 0, none⟩ = some (.int .i64 s)
  a1 : w.cell? ⟨b + 1, 1, none⟩ = some (.int .i64 r)
  b0 : w.cell? ⟨b + 1 + 1, 0, none⟩ = some (.int .i64 s2)
  b1 : w.cell? ⟨b + 1 + 1, 1, none⟩ = some (.int .i64 r2)
theorem Bx.lt {p : Pn} {s r s2 r2 : Int} {b : Nat} {w : World} (h : Bx p s r s2 r2 b w) : b + 1 + 1 < w.heap.size := World.block_lt_of_cell? _ _ h.b0
theorem Bx.up {p : Pn} {s r s2 r2 : Int} {b : Nat} {w w' : World} (h : Bx p s r s2 r2 b w) (hb : Below w.heap.size w w') : Bx p s r s2 r2 b w' := by
  have := h.lt
  exact ⟨h.pn.up hb (by omega), cell_up hb (by omega) h.a0, cell_up hb (by omega) h.a1, cell_up hb (by omega) h.b0, cell_up hb (by omega) h.b1⟩
theorem bx_new (w : World) (p : Pn) (s r s2 r2 : Int) : Bx p s r s2 r2 w.heap.size (((w.alloc (penO p)).alloc (.cells #[.int .i64 s, .int .i64 r] 27)).alloc (.cells #[.int .i64 s2, .int .i64 r2] 27)) :=
  ⟨(bx3 w p s r s2 r2).1, by go_simp, by go_simp, by go_simp, by go_simp⟩
set_option maxRecDepth 100000 in
set_option maxHeartbeats 4000000 in
theorem edges_law (p : Pn) (s r s2 r2 : Int) (w : World) :
    Calls Try.prog 9 #[p.v, Mo s r, Mo s2 r2] w fun e w' => e = .returned (.bool true) ∧ Below w.heap.size w w' := by
  obtain ⟨E1, hE1⟩ := keeR_ex p 1 (fun _ => (s, r))
  obtain ⟨E2, hE2⟩ := keeR_ex p 1 (fun _ => (s2, r2))
  obtain ⟨E3, hE3⟩ := keeR_ex p 2 (twoM s r s2 r2)
  have K1 : Hid (∀ W N, N = W.heap.size → Calls Try.prog 32 #[p.v, .slice (some ⟨N, 0, none⟩) 1 1] (W.alloc (.cells #[.int .i64 s, .int .i64 r] 27)) fun e w' => e = .returned (.int .i64 E1) ∧ Below W.heap.size W w') :=
    Lib.hid fun W N hN => (Keeps_any p _ 1 1 _ E1 _ (mos_one W s r N hN) hE1).mono fun _ _ ⟨he, hb⟩ => ⟨he, nextB (box1 _ _) hb⟩
  have K2 : Hid (∀ W N, N = W.heap.size → Calls Try.prog 32 #[p.v, .slice (some ⟨N, 0, none⟩) 1 1] (W.alloc (.cells #[.int .i64 s2, .int .i64 r2] 27)) fun e w' => e = .returned (.int .i64 E2) ∧ Below W.heap.size W w') :=
    Lib.hid fun W N hN => (Keeps_any p _ 1 1 _ E2 _ (mos_one W s2 r2 N hN) hE2).mono fun _ _ ⟨he, hb⟩ => ⟨he, nextB (box1 _ _) hb⟩
  have K3 : Hid (∀ W N, N = W.heap.size → Calls Try.prog 32 #[p.v, .slice (some ⟨N, 0, none⟩) 2 2] (W.alloc (.cells #[.int .i64 s, .int .i64 r, .int .i64 s2, .int .i64 r2] 27)) fun e w' => e = .returned (.int .i64 E3) ∧ Below W.heap.size W w') :=
    Lib.hid fun W N hN => (Keeps_any p _ 2 2 _ E3 _ (mos_two W s r s2 r2 N hN) hE3).mono fun _ _ ⟨he, hb⟩ => ⟨he, nextB (box1 _ _) hb⟩
  have HE := Lib.hid (And.intro hE1 (And.intro hE2 hE3))
  clear hE1 hE2 hE3
  go_enter Try.func9, Try.ntmps9
  go_wp2_with fail
  refine (awake_any _).mono ?_
  rintro e w2 ⟨rfl, hb2⟩
  have B2 := Lib.hid ((bx_new w p s r s2 r2).up hb2)
  have C2 := Lib.hid (nextB (bx3 w p s r s2 r2).2 hb2)
  have z2 := B2.out.lt
  clear hb2
  obtain ⟨x0, x1, x2, x3⟩ := B2.out.pn
  have y0 := B2.out.a0
  have y1 := B2.out.a1
  go_wp2_with fail
  refine (K1.out _ _ (by first | rfl | simp)).mono ?_
  rintro e w3 ⟨rfl, hb3⟩
  have B3 := Lib.hid (B2.out.up hb3)
  have C3 := Lib.hid (nextB C2.out hb3)
  have z3 := B3.out.lt
  clear x0 x1 x2 x3 y0 y1 hb3 K1
  by_cases h1 : E1 = 0
  · subst h1
    obtain ⟨hok, ⟨u1, u2⟩, hbd⟩ := kee1 HE.out.1
    obtain ⟨x0, x1, x2, x3⟩ := B3.out.pn
    have y0 := B3.out.b0
    have y1 := B3.out.b1
    go_wp2_with fail
    refine (K2.out _ _ (by first | rfl | simp)).mono ?_
    rintro e w4 ⟨rfl, hb4⟩
    have B4 := Lib.hid (B3.out.up hb4)
    have C4 := Lib.hid (nextB C3.out hb4)
    have z4 := B4.out.lt
    clear x0 x1 x2 x3 y0 y1 hb4 K2
    by_cases h2 : E2 = 0
    · subst h2
      obtain ⟨_, ⟨u3, u4⟩, hbd2⟩ := kee1 HE.out.2.1
      have hmay := edge_iff hok hbd hbd2
      have hk3 := kee2 HE.out.2.2 hok ⟨u1, u2⟩ ⟨u3, u4⟩ hbd
      have hmE : mayB p s r s2 r2 (mvN p (r - s)) = (E3 == 0) := Bool.eq_iff_iff.2 (hmay.trans hk3.symm)
      have HME := Lib.hid hmE
      obtain ⟨b1, b2⟩ := hok.b
      have w1' : IntKind.i64.wrap (r - s) = r - s := IntWalk.i64_in _ (by omega)
      have KM := Lib.hid fun W => Moves_any p (r - s) 0 W (.inr ⟨hok, .inr ⟨hbd, rfl⟩⟩)
      obtain ⟨m1, m2, m3, m4, m5⟩ := mv_bd hok hbd
      have hNle : mvN p (r - s) ≤ 17 := by unfold mvN; omega
      have HMV := Lib.hid (And.intro m1 (And.intro m2 m3))
      obtain ⟨u1a, u1b⟩ := u1
      obtain ⟨u2a, u2b⟩ := u2
      obtain ⟨u3a, u3b⟩ := u3
      obtain ⟨u4a, u4b⟩ := u4
      obtain ⟨x0, x1, x2, x3⟩ := B4.out.pn
      have y0 := B4.out.a0
      have y1 := B4.out.a1
      clear hmay hk3 hmE m1 m2 m3 m4 m5 HE
      go_wp2_with fail
      refine (KM.out _).mono ?_
      rintro e w5 ⟨hP, _⟩
      obtain ⟨A, c, rfl, heds, hb5⟩ := hP rfl
      have B5 := Lib.hid (B4.out.up hb5)
      have C5 := Lib.hid (nextB C4.out hb5)
      have z5 := B5.out.lt
      have HEd := Lib.hid heds
      have hN63 : ((mvN p (r - s) : Nat) : Int) ≤ 9223372036854775807 := heds.1
      clear x0 x1 x2 x3 y0 y1 hb5 w1' KM hP heds
      generalize hNN : mvN p (r - s) = N at *
      have HNN := Lib.hid hNN
      clear hNN
      go_wp2_with fail
      go_loopw [10, 11, 12] (fun b i _ wr => ∃ k : Nat, k ≤ N ∧ b = .bool (mayB p s r s2 r2 k) ∧ i = .int .i64 k ∧ Below w5.heap.size w5 wr) (fun _ i _ _ => N - (intOf i).toNat)
      case atStart => exact ⟨0, Nat.zero_le _, rfl, rfl, Below.refl _ _⟩
      case round =>
        obtain ⟨k, hk, rfl, rfl, hb⟩ := hrel
        obtain ⟨wo, rfl⟩ : ∃ wo : World, wo = wr := ⟨_, rfl⟩
        have HB := Lib.hid hb
        clear hb
        have hk0 : (0 : Int) ≤ (k : Int) := by omega
        have BW := Lib.hid (B5.out.up HB.out)
        have zw := BW.out.lt
        by_cases hlt : k < N
        · obtain ⟨a, rfl, _, c0, c1, c2⟩ := (HEd.out.up HB.out (Nat.le_refl _)).2 k hlt
          have hki : (k : Int) < (N : Int) := by omega
          have hbv : mayB p s r s2 r2 (k + 1) = (mayB p s r s2 r2 k || edB p s r s2 r2 k) := rfl
          unfold edB at hbv
          generalize (edgeF p (r - s) k).1 = X at *
          generalize (edgeF p (r - s) k).2.1 = L at *
          generalize (edgeF p (r - s) k).2.2 = H at *
          obtain ⟨x0, x1, x2, x3⟩ := BW.out.pn
          have y0 := BW.out.a0
          have y2 := BW.out.b0
          have y3 := BW.out.b1
          have w3' : IntKind.i64.wrap (s2 - s) = s2 - s := IntWalk.i64_in _ (by omega)
          have w4' : IntKind.i64.wrap (r2 - s2) = r2 - s2 := IntWalk.i64_in _ (by omega)
          have w5' : IntKind.i64.wrap (r2 - s2 + p.b) = r2 - s2 + p.b := IntWalk.i64_in _ (by omega)
          cases M1 : mayB p s r s2 r2 k
          · rw [M1, Bool.false_or] at hbv
            by_cases t1 : X = r2 - s2 + p.b
            · rw [decide_eq_true t1, Bool.true_and] at hbv
              have g1 : (X == r2 - s2 + p.b) = true := by simpa using t1
              clear t1
              cases t2 : decide (L ≤ s2 - s)
              · rw [t2, Bool.false_and] at hbv
                have HBV := Lib.hid hbv
                clear hbv
                go_wp2_with fail
                go_quiet (fail)
                clear w3' w4' w5'
                go_wp2_with fail
                go_roundw
                case rel => exact ⟨k + 1, by omega, by rw [HBV.out], by go_num, HB.out.trans (below_drewN (Below.refl _ _) _)⟩
                case measure => simp [intOf]; omega
              · rw [t2, Bool.true_and] at hbv
                cases t3 : decide (s2 - s ≤ H)
                · rw [t3] at hbv
                  have HBV := Lib.hid hbv
                  clear hbv
                  go_wp2_with fail
                  go_quiet (fail)
                  clear w3' w4' w5'
                  go_wp2_with fail
                  go_roundw
                  case rel => exact ⟨k + 1, by omega, by rw [HBV.out], by go_num, HB.out.trans (below_drewN (Below.refl _ _) _)⟩
                  case measure => simp [intOf]; omega
                · rw [t3] at hbv
                  have HBV := Lib.hid hbv
                  clear hbv
                  go_wp2_with fail
                  go_quiet (fail)
                  clear w3' w4' w5'
                  go_wp2_with fail
                  go_roundw
                  case rel => exact ⟨k + 1, by omega, by rw [HBV.out], by go_num, HB.out.trans (below_drewN (Below.refl _ _) _)⟩
                  case measure => simp [intOf]; omega
            · rw [decide_eq_false t1, Bool.false_and] at hbv
              have g1 : (X == r2 - s2 + p.b) = false := by simpa using t1
              have HBV := Lib.hid hbv
              clear hbv t1
              go_wp2_with fail
              go_quiet (fail)
              clear w3' w4' w5'
              go_wp2_with fail
              go_roundw
              case rel => exact ⟨k + 1, by omega, by rw [HBV.out], by go_num, HB.out.trans (below_drewN (Below.refl _ _) _)⟩
              case measure => simp [intOf]; omega
          · rw [M1, Bool.true_or] at hbv
            have HBV := Lib.hid hbv
            clear hbv
            go_wp2_with fail
            go_quiet (fail)
            clear w3' w4' w5'
            go_wp2_with fail
            go_roundw
            case rel => exact ⟨k + 1, by omega, by rw [HBV.out], by go_num, HB.out.trans (below_drewN (Below.refl _ _) _)⟩
            case measure => simp [intOf]; omega
        · have hki : (N : Int) ≤ (k : Int) := by omega
          obtain rfl : k = N := by omega
          obtain ⟨x0, x1, x2, x3⟩ := BW.out.pn
          have y0 := BW.out.a0
          have y1 := BW.out.a1
          have y2 := BW.out.b0
          have y3 := BW.out.b1
          cases g3 : (E3 == 0) <;>
            have hmv : mayB p s r s2 r2 k = _ := HME.out.trans g3
          all_goals
            go_wp2_with fail
            refine (K3.out _ _ (by first | rfl | simp)).mono ?_
            rintro e w6 ⟨rfl, hb6⟩
            have D6 := Lib.hid hb6
            clear hb6 x0 x1 x2 x3 y0 y1 y2 y3
            go_wp2_with fail
            go_ret
            exact ⟨rfl, nextB (nextB C5.out HB.out) D6.out⟩
    · have g2 : (E2 == 0) = false := by simpa using h2
      go_wp2_with fail
      go_ret
      exact ⟨rfl, C4.out⟩
  · have g1 : (E1 == 0) = false := by simpa using h1
    go_wp2_with fail
    go_ret
    exact ⟨rfl, C3.out⟩
end Go.Proofs.Ytkidhmajlpceeaa
