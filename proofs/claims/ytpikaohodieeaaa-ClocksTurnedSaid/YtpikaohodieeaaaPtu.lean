/- ClocksTurned's law. -/
import Derived.Test.YtpikaohodieeaaaBck
namespace Go.Proofs.Ytpikaohodieeaaa
open Go.RowKit
set_option linter.unusedSimpArgs false
set_option linter.unusedVariables false
/-- a list is a reading just where it is one backwards -/
theorem turn_is {c c' : Clo} (h : TrnR c c') (hd : DrOk c.d) (hk : MksOk c.d c.m c.F) (n : Nat) (Z : Nat → Int) : IsR c' n (bkF n Z) ↔ IsR c n Z := by
  unfold IsR
  rw [h.n]
  constructor
  · rintro ⟨_, _, rfl, hr⟩
    refine ⟨hd, hk, rfl, h.back hk (T' := bkF (c.d.n + 1) Z) (fun i hi => ?_) (by rw [h.n]; exact hr)⟩
    unfold bkF
    rw [show c.d.n + 1 - 1 - i = c.d.n - i by omega]
  · rintro ⟨_, _, rfl, hr⟩
    refine ⟨h.dr hd, h.mks hk, rfl, ?_⟩
    have := h.rdg hk (T' := bkF (c.d.n + 1) Z) (fun i hi => by unfold bkF; rw [show c.d.n + 1 - 1 - i = c.d.n - i by omega]) hr
    rw [h.n] at this
    exact this
theorem turn_rd {c c' : Clo} {E : Int} {S : Nat → Int × Int} (h : TrnR c c') (hd : DrOk c.d) (hk : MksOk c.d c.m c.F) (hE : RdR c.d c.m c.F true E S) :
    (E = 0 ∧ ∃ S', RdR c'.d c'.m c'.F true 0 S' ∧ (∀ i, i ≤ c.d.n → (S i).2 = 400 - (S' (c.d.n - i)).1) ∧ ∀ i, i ≤ c.d.n → 0 ≤ (S' i).1 ∧ (S' i).1 ≤ 400) ∨ (E = 22 ∧ RdR c'.d c'.m c'.F true 22 S) := by
  by_cases hz : E = 0
  · subst hz
    obtain ⟨_, _, _, he⟩ := rdR_0 hE
    have h1 := h.rdg hk (T := fun i => (S i).2) (T' := fun i => 400 - (S (c.d.n - i)).2) (fun i hi => rfl) he.hi
    rcases ends_ex (gpOk (h.dr hd)) (mkOk_of (h.mks hk)) with ⟨S', he'⟩ | hno
    · exact .inl ⟨rfl, S', .inr ⟨h.dr hd, h.mks hk, .inr (.inr ⟨rfl, rfl, he'⟩)⟩, fun i hi => turn_ends h hk he he' i hi, fun i hi => he'.lo.tick i (by rw [h.n]; omega)⟩
    · exact absurd h1 (hno _)
  · right
    have hno := rdR_none hE hz
    refine ⟨?_, .inr ⟨h.dr hd, h.mks hk, .inr (.inl ⟨rfl, rfl, fun T hT => hno ⟨hd, hk, fun i => 400 - T (c.d.n - i), ?_⟩⟩)⟩⟩
    · rcases hE with ⟨h1, h2⟩ | ⟨_, _, ⟨h1, _⟩ | ⟨_, h1, _⟩ | ⟨_, h1, _⟩⟩
      · rcases h2 with ⟨_, h2⟩ | ⟨_, _, h2⟩ | ⟨h2, _⟩
        · exact absurd hd h2
        · exact absurd hk h2
        · exact absurd h2 hz
      · cases h1
      · exact h1
      · exact absurd h1 hz
    · exact h.back hk (T := fun i => 400 - T (c.d.n - i)) (T' := T) (fun i hi => by show T i = 400 - (400 - T (c.d.n - (c.d.n - i))); rw [show c.d.n - (c.d.n - i) = i by omega]; omega) hT
def BeL (w0 w : World) : Prop := Below w0.heap.size w0 w
theorem BeL.up {w0 w w' : World} (h : BeL w0 w) (hb : Below w.heap.size w w') : BeL w0 w' := nextB h hb
set_option maxRecDepth 100000 in
set_option maxHeartbeats 40000000 in
theorem turned_law (c : Clo) (x : Aks) (w : World) (hc : ClIn c w.heap.size w) (hx : AkIn x w.heap.size w) :
    Calls Try.prog 18 #[c.v, x.v] w fun e w' => e = .returned (.bool true) ∧ Below w.heap.size w w' := by
  have CC : Hid (∀ W, Below w.heap.size w W → ClIn c W.heap.size W) := Lib.hid fun W h => (hc.up h (Nat.le_refl _)).more h.size
  have AA : Hid (∀ W, Below w.heap.size w W → AkIn x W.heap.size W) := Lib.hid fun W h => (hx.up h (Nat.le_refl _)).more h.size
  obtain ⟨G, hG⟩ := few_ex c
  have HG := Lib.hid hG
  clear hc hG hx
  go_enter Try.func18, Try.ntmps18
  go_wp2_with fail
  refine (awake_any _).mono ?_
  rintro e w2 ⟨rfl, hb⟩
  have D := Lib.hid (nextB (w2b_below c x w) hb)
  have C : Hid (HasCl c w.heap.size w2) := Lib.hid ((w2b_cl c x w).up hb)
  have X : Hid (HasAk x (w.heap.size + 1) w2) := Lib.hid ((w2b_ak c x w).up hb)
  clear hb
  obtain ⟨c0, c1, c2⟩ := C.out
  have zC := C.out.lt
  have x0 : w2.cell? ⟨w.heap.size + 1, 0, none⟩ = some (.int .i64 x.A) := X.out.c 0 _ rfl
  have x1 : w2.cell? ⟨w.heap.size + 1, 1, none⟩ = some (.int .i64 x.B) := X.out.c 1 _ rfl
  have x2 : w2.cell? ⟨w.heap.size + 1, 2, none⟩ = some (.int .i64 x.t) := X.out.c 2 _ rfl
  have x3 : w2.cell? ⟨w.heap.size + 1, 3, none⟩ = some (.slice x.A1 x.n1 x.c1) := X.out.c 3 _ rfl
  have x4 : w2.cell? ⟨w.heap.size + 1, 4, none⟩ = some (.slice x.A2 x.n2 x.c2) := X.out.c 4 _ rfl
  have x5 : w2.cell? ⟨w.heap.size + 1, 5, none⟩ = some (.slice x.A3 x.n3 x.c3) := X.out.c 5 _ rfl
  have x6 : w2.cell? ⟨w.heap.size + 1, 6, none⟩ = some (.int .i64 x.f.1) := X.out.c 6 _ rfl
  have x7 : w2.cell? ⟨w.heap.size + 1, 7, none⟩ = some (.int .i64 x.f.2.1) := X.out.c 7 _ rfl
  have x8 : w2.cell? ⟨w.heap.size + 1, 8, none⟩ = some (.int .i64 x.f.2.2) := X.out.c 8 _ rfl
  have x9 : w2.cell? ⟨w.heap.size + 1, 9, none⟩ = some (.int .i64 x.s.1) := X.out.c 9 _ rfl
  have x10 : w2.cell? ⟨w.heap.size + 1, 10, none⟩ = some (.int .i64 x.s.2.1) := X.out.c 10 _ rfl
  have x11 : w2.cell? ⟨w.heap.size + 1, 11, none⟩ = some (.int .i64 x.s.2.2) := X.out.c 11 _ rfl
  have x12 : w2.cell? ⟨w.heap.size + 1, 12, none⟩ = some (.int .i64 x.p.1) := X.out.c 12 _ rfl
  have x13 : w2.cell? ⟨w.heap.size + 1, 13, none⟩ = some (.int .i64 x.p.2.1) := X.out.c 13 _ rfl
  have x14 : w2.cell? ⟨w.heap.size + 1, 14, none⟩ = some (.int .i64 x.p.2.2) := X.out.c 14 _ rfl
  have zX := X.out.lt
  go_wp2_with fail
  refine (few_any c G _ HG.out).mono ?_
  rintro e w3 ⟨rfl, hb⟩
  have J := Lib.hid (hb)
  have D := Lib.hid (nextB D.out J.out)
  clear c0 c1 c2 zC x0 x1 x2 x3 x4 x5 x6 x7 x8 x9 x10 x11 x12 x13 x14 zX
  have C := Lib.hid (C.out.up J.out)
  have X := Lib.hid (X.out.up J.out)
  clear hb
  obtain ⟨c0, c1, c2⟩ := C.out
  have zC := C.out.lt
  have x0 : w3.cell? ⟨w.heap.size + 1, 0, none⟩ = some (.int .i64 x.A) := X.out.c 0 _ rfl
  have x1 : w3.cell? ⟨w.heap.size + 1, 1, none⟩ = some (.int .i64 x.B) := X.out.c 1 _ rfl
  have x2 : w3.cell? ⟨w.heap.size + 1, 2, none⟩ = some (.int .i64 x.t) := X.out.c 2 _ rfl
  have x3 : w3.cell? ⟨w.heap.size + 1, 3, none⟩ = some (.slice x.A1 x.n1 x.c1) := X.out.c 3 _ rfl
  have x4 : w3.cell? ⟨w.heap.size + 1, 4, none⟩ = some (.slice x.A2 x.n2 x.c2) := X.out.c 4 _ rfl
  have x5 : w3.cell? ⟨w.heap.size + 1, 5, none⟩ = some (.slice x.A3 x.n3 x.c3) := X.out.c 5 _ rfl
  have x6 : w3.cell? ⟨w.heap.size + 1, 6, none⟩ = some (.int .i64 x.f.1) := X.out.c 6 _ rfl
  have x7 : w3.cell? ⟨w.heap.size + 1, 7, none⟩ = some (.int .i64 x.f.2.1) := X.out.c 7 _ rfl
  have x8 : w3.cell? ⟨w.heap.size + 1, 8, none⟩ = some (.int .i64 x.f.2.2) := X.out.c 8 _ rfl
  have x9 : w3.cell? ⟨w.heap.size + 1, 9, none⟩ = some (.int .i64 x.s.1) := X.out.c 9 _ rfl
  have x10 : w3.cell? ⟨w.heap.size + 1, 10, none⟩ = some (.int .i64 x.s.2.1) := X.out.c 10 _ rfl
  have x11 : w3.cell? ⟨w.heap.size + 1, 11, none⟩ = some (.int .i64 x.s.2.2) := X.out.c 11 _ rfl
  have x12 : w3.cell? ⟨w.heap.size + 1, 12, none⟩ = some (.int .i64 x.p.1) := X.out.c 12 _ rfl
  have x13 : w3.cell? ⟨w.heap.size + 1, 13, none⟩ = some (.int .i64 x.p.2.1) := X.out.c 13 _ rfl
  have x14 : w3.cell? ⟨w.heap.size + 1, 14, none⟩ = some (.int .i64 x.p.2.2) := X.out.c 14 _ rfl
  have zX := X.out.lt
  cases G with
  | false =>
    go_wp2_with fail
    go_ret
    exact ⟨rfl, D.out⟩
  | true =>
    clear HG
    obtain ⟨L, hL⟩ := bool_of (Light x)
    go_wp2_with fail
    refine (light_any x L _ hL).mono ?_
    rintro e w4 ⟨rfl, hb⟩
    have J := Lib.hid (hb)
    have D := Lib.hid (nextB D.out J.out)
    clear c0 c1 c2 zC x0 x1 x2 x3 x4 x5 x6 x7 x8 x9 x10 x11 x12 x13 x14 zX
    have C := Lib.hid (C.out.up J.out)
    have X := Lib.hid (X.out.up J.out)
    clear hb
    obtain ⟨c0, c1, c2⟩ := C.out
    have zC := C.out.lt
    have x3 : w4.cell? ⟨w.heap.size + 1, 3, none⟩ = some (.slice x.A1 x.n1 x.c1) := X.out.c 3 _ rfl
    have zX := X.out.lt
    have HL := Lib.hid hL
    clear hL
    cases L with
    | false =>
      go_wp2_with fail
      go_ret
      exact ⟨rfl, D.out⟩
    | true =>
      have hl4 : x.n1 ≤ 400 := (HL.out.1 rfl).1
      obtain ⟨E1, hE1⟩ : ∃ E1 : Int, (E1 = 0 ∧ DrOk c.d) ∨ (E1 = 20 ∧ ¬ DrOk c.d) := by
        by_cases h : DrOk c.d
        · exact ⟨0, .inl ⟨rfl, h⟩⟩
        · exact ⟨20, .inr ⟨rfl, h⟩⟩
      have K1 := Lib.hid fun W h => Check_any c.d E1 W (CC.out W h).1 hE1
      have HE1 := Lib.hid hE1
      clear hE1
      go_wp2_with fail
      refine (K1.out _ D.out).mono ?_
      rintro e w5 ⟨rfl, hb⟩
      have J := Lib.hid (hb)
      have D := Lib.hid (nextB D.out J.out)
      clear c0 c1 c2 zC x3 zX
      have C := Lib.hid (C.out.up J.out)
      have X := Lib.hid (X.out.up J.out)
      clear hb
      obtain ⟨c0, c1, c2⟩ := C.out
      have zC := C.out.lt
      have x3 : w5.cell? ⟨w.heap.size + 1, 3, none⟩ = some (.slice x.A1 x.n1 x.c1) := X.out.c 3 _ rfl
      have zX := X.out.lt
      rcases HE1.out with ⟨rfl, hd⟩ | ⟨rfl, _⟩
      · obtain ⟨E2, x2, hE2⟩ := cmR_ex c.d c.m c.F
        have K2 := Lib.hid fun W h => CheckMarks_any c.d c.MA c.m c.mc c.F E2 x2 W (CC.out W h).1 (CC.out W h).2 hE2
        have HE2 : Hid (E2 = 0 → MksOk c.d c.m c.F) := Lib.hid fun h => by
          rcases hE2 with ⟨h1, _⟩ | ⟨h1, _⟩ | ⟨h1, _⟩ | ⟨_, _, _, h2, h3⟩
          · omega
          · omega
          · omega
          · exact ⟨h2, h3⟩
        have HD := Lib.hid hd
        clear hE2 hd
        go_wp2_with fail
        refine (K2.out _ D.out).mono ?_
        rintro e w6 ⟨rfl, hb⟩
        have J := Lib.hid (hb)
        have D := Lib.hid (nextB D.out J.out)
        clear c0 c1 c2 zC x3 zX
        have C := Lib.hid (C.out.up J.out)
        have X := Lib.hid (X.out.up J.out)
        clear hb
        obtain ⟨c0, c1, c2⟩ := C.out
        have zC := C.out.lt
        have x3 : w6.cell? ⟨w.heap.size + 1, 3, none⟩ = some (.slice x.A1 x.n1 x.c1) := X.out.c 3 _ rfl
        have zX := X.out.lt
        by_cases hz : E2 = 0
        · have HK := Lib.hid (HE2.out hz)
          subst hz
          obtain ⟨j0, j1, j2, j3⟩ := first_bad (fun i => 0 ≤ x.Z1 i ∧ x.Z1 i ≤ 400) x.n1
          have J2 := Lib.hid j2
          have J3 := Lib.hid j3
          clear j2 j3
          go_wp2_with fail
          go_loopw [8] (fun i wr => ∃ k : Nat, k ≤ j0 ∧ i = .int .i64 (k : Int) ∧ Below w6.heap.size w6 wr) (fun i _ => x.n1 - (intOf i).toNat)
          case atStart => exact ⟨0, Nat.zero_le _, rfl, Below.refl _ _⟩
          case round =>
            obtain ⟨k, hk, rfl, hb⟩ := hrel
            obtain ⟨wo, rfl⟩ : ∃ wo : World, wo = wr := ⟨_, rfl⟩
            have HBO := Lib.hid hb
            have D := Lib.hid (nextB D.out hb)
            have C := Lib.hid (C.out.up hb)
            have X := Lib.hid (X.out.up hb)
            have hk0 : (0 : Int) ≤ (k : Int) := by omega
            clear hb
            clear c0 c1 c2 zC x3 zX
            obtain ⟨w90, h90⟩ : ∃ W : World, W = wo := ⟨_, rfl⟩
            subst h90
            obtain ⟨c0, c1, c2⟩ := C.out
            have zC := C.out.lt
            have x3 : w90.cell? ⟨w.heap.size + 1, 3, none⟩ = some (.slice x.A1 x.n1 x.c1) := X.out.c 3 _ rfl
            have zX := X.out.lt
            by_cases hlt : k < x.n1
            · have hki : (k : Int) < (x.n1 : Int) := by omega
              obtain ⟨a1, ea, _, r1⟩ := (AA.out _ D.out).1.2 k hlt
              rw [ea] at x3
              by_cases hkj : k < j0
              · have hz := J2.out k hkj
                have d1 : decide (x.Z1 k < 0) = false := decide_eq_false (by omega)
                have d2 : decide (400 < x.Z1 k) = false := decide_eq_false (by omega)
                have wk : IntKind.i64.wrap ((k : Int) + 1) = ((k + 1 : Nat) : Int) := by rw [show ((k : Int) + 1) = ((k + 1 : Nat) : Int) by omega]; exact IntWalk.i64_in _ (by omega)
                generalize x.Z1 k = zk at *
                clear hz ea
                go_wp2_with fail
                go_roundw
                case rel => exact ⟨k + 1, by omega, by go_num, HBO.out⟩
                case measure => simp [intOf]; omega
              · obtain rfl : k = j0 := by omega
                have hz := J3.out hlt
                by_cases h0 : x.Z1 k < 0
                · have d1 : decide (x.Z1 k < 0) = true := decide_eq_true h0
                  generalize x.Z1 k = zk at *
                  clear hz h0 ea
                  go_wp2_with fail
                  go_ret
                  exact ⟨rfl, D.out⟩
                · have d1 : decide (x.Z1 k < 0) = false := decide_eq_false h0
                  have d2 : decide (400 < x.Z1 k) = true := decide_eq_true (by omega)
                  generalize x.Z1 k = zk at *
                  clear hz h0 ea
                  go_wp2_with fail
                  go_ret
                  exact ⟨rfl, D.out⟩
            · obtain rfl : x.n1 = k := by omega
              have hnl : ¬ ((x.n1 : Int) < (x.n1 : Int)) := by omega
              have HJ : Hid (∀ i, i < x.n1 → 0 ≤ x.Z1 i ∧ x.Z1 i ≤ 400) := Lib.hid fun i hi => J2.out i (by omega)
              obtain ⟨E, S, hE⟩ := rdR_ex c.d c.m c.F true
              have HE := Lib.hid hE
              clear hE hlt
              go_wp2_with fail
              refine (turned_any c _ (CC.out _ D.out) HD.out HK.out).mono ?_
              rintro e w91 ⟨c', rfl, hcin, htr, hb⟩
              have J := Lib.hid hb
              have D := Lib.hid (nextB D.out hb)
              clear c0 c1 c2 zC x3 zX
              have C := Lib.hid (C.out.up hb)
              have X := Lib.hid (X.out.up hb)
              have CW : Hid (∀ V, Below w91.heap.size w91 V → ClIn c' V.heap.size V) := Lib.hid fun V h => (hcin.up h (Nat.le_refl _)).more h.size
              have HTR := Lib.hid htr
              clear hb hcin htr
              obtain ⟨c0, c1, c2⟩ := C.out
              have zC := C.out.lt
              have x3 : w91.cell? ⟨w.heap.size + 1, 3, none⟩ = some (.slice x.A1 x.n1 x.c1) := X.out.c 3 _ rfl
              have zX := X.out.lt
              rcases turn_rd HTR.out HD.out HK.out HE.out with ⟨rfl, S', hE', hS1, hS2⟩ | ⟨rfl, hE'⟩
              · have HE2 := Lib.hid hE'
                have HS1 := Lib.hid hS1
                have HS2 := Lib.hid hS2
                clear hE' hS1 hS2
                have KL := Lib.hid fun W (h : Below w.heap.size w W) => lat_ok c.d c.MA c.m c.mc c.F S W (CC.out W h).1 (CC.out W h).2 HE.out
                have KE := Lib.hid fun W (h : Below w91.heap.size w91 W) => ear_ok c'.d c'.MA c'.m c'.mc c'.F S' W (CW.out W h).1 (CW.out W h).2 HE2.out
                go_wp2_with fail
                obtain ⟨w92, hw92⟩ : ∃ V : World, V = w91.alloc (.cells #[.slice c'.d.RA c'.d.n c'.d.rc, .slice c'.d.SA c'.d.m c'.d.sc, .slice c'.MA c'.m c'.mc] 28) := ⟨_, rfl⟩
                have hb92 : Below w91.heap.size w91 w92 := by rw [hw92]; exact box1 _ _
                have M : Hid (HasCl c' w91.heap.size w92) := Lib.hid (by rw [hw92]; exact cl_new w91 c')
                have Q : Hid (BeL w91 w92) := Lib.hid hb92
                rw [← hw92]
                clear hw92
                have D := Lib.hid (nextB D.out hb92)
                have C := Lib.hid (C.out.up hb92)
                have X := Lib.hid (X.out.up hb92)
                clear hb92 c0 c1 c2 zC x3 zX
                obtain ⟨c0, c1, c2⟩ := C.out
                have zC := C.out.lt
                have x3 : w92.cell? ⟨w.heap.size + 1, 3, none⟩ = some (.slice x.A1 x.n1 x.c1) := X.out.c 3 _ rfl
                have zX := X.out.lt
                obtain ⟨m0, m1, m2⟩ := M.out
                have zM := M.out.lt
                refine (KL.out _ D.out).mono ?_
                rintro e w93 ⟨A1, k1, rfl, hi, hb⟩
                have J := Lib.hid (hb)
                have D := Lib.hid (nextB D.out J.out)
                clear c0 c1 c2 zC x3 zX m0 m1 m2 zM
                have C := Lib.hid (C.out.up J.out)
                have X := Lib.hid (X.out.up J.out)
                have M := Lib.hid (M.out.up J.out)
                have Q := Lib.hid (Q.out.up J.out)
                have I1 := Lib.hid hi
                clear hi
                clear hb
                obtain ⟨c0, c1, c2⟩ := C.out
                have zC := C.out.lt
                have x3 : w93.cell? ⟨w.heap.size + 1, 3, none⟩ = some (.slice x.A1 x.n1 x.c1) := X.out.c 3 _ rfl
                have zX := X.out.lt
                obtain ⟨m0, m1, m2⟩ := M.out
                have zM := M.out.lt
                go_wp2_with fail
                refine (KE.out _ Q.out).mono ?_
                rintro e w94 ⟨A2, k2, rfl, hi, hb⟩
                have J := Lib.hid (hb)
                have D := Lib.hid (nextB D.out J.out)
                clear c0 c1 c2 zC x3 zX m0 m1 m2 zM
                have C := Lib.hid (C.out.up J.out)
                have X := Lib.hid (X.out.up J.out)
                have M := Lib.hid (M.out.up J.out)
                have Q := Lib.hid (Q.out.up J.out)
                have I1 := Lib.hid (I1.out.up J.out)
                have I2 := Lib.hid hi
                clear hi
                clear hb
                obtain ⟨c0, c1, c2⟩ := C.out
                have zC := C.out.lt
                have x3 : w94.cell? ⟨w.heap.size + 1, 3, none⟩ = some (.slice x.A1 x.n1 x.c1) := X.out.c 3 _ rfl
                have zX := X.out.lt
                obtain ⟨m0, m1, m2⟩ := M.out
                have zM := M.out.lt
                obtain ⟨G1, hG1⟩ := bool_of (IsR c x.n1 x.Z1)
                have HG1 := Lib.hid hG1
                have HG2 : Hid (G1 = true ↔ IsR c' x.n1 (bkF x.n1 x.Z1)) := Lib.hid (hG1.trans (turn_is HTR.out HD.out HK.out x.n1 x.Z1).symm)
                have KBk := Lib.hid fun W (h : Below w.heap.size w W) => back_any x.A1 x.n1 x.c1 x.Z1 W (AA.out W h).1 (by omega) (fun i hi => by have := HJ.out i hi; omega)
                have hgg : (G1 != G1) = false := by cases G1 <;> rfl
                clear hG1
                go_wp2_with fail
                refine wp_region_M [] (fun w' => w'.cell? ⟨w.heap.size, 0, none⟩ = some (.slice c.d.RA c.d.n c.d.rc) ∧ w'.cell? ⟨w.heap.size, 1, none⟩ = some (.slice c.d.SA c.d.m c.d.sc) ∧ w'.cell? ⟨w.heap.size, 2, none⟩ = some (.slice c.MA c.m c.mc) ∧ w'.cell? ⟨w91.heap.size, 0, none⟩ = some (.slice c'.d.RA c'.d.n c'.d.rc) ∧ w'.cell? ⟨w91.heap.size, 1, none⟩ = some (.slice c'.d.SA c'.d.m c'.d.sc) ∧ w'.cell? ⟨w91.heap.size, 2, none⟩ = some (.slice c'.MA c'.m c'.mc) ∧ w'.cell? ⟨w.heap.size + 1, 3, none⟩ = some (.slice x.A1 x.n1 x.c1)) (by kernel_rfl) (by kernel_rfl) (by (try dsimp only); (repeat' apply And.intro); all_goals first | assumption | (go_simp; done)) (fun hT0 => ?_)
                refine M_take (v := ?_) 0 rfl (by kernel_rfl) (by assumption) (fun _ _ _ h => h) (Or.inl ⟨by rfl, ?_⟩) ?_
                rotate_left
                · (intro w hSw; (try dsimp only at hSw); go_simp; (try with_reducible rfl))
                (try simp only [Act.put, List.setIfInBounds_toArray, List.set_cons_zero, List.set_cons_succ])
                refine M_take (v := ?_) 1 rfl (by kernel_rfl) (by assumption) (fun _ _ _ h => h) (Or.inl ⟨by rfl, ?_⟩) ?_
                rotate_left
                · (intro w hSw; (try dsimp only at hSw); go_simp; (try with_reducible rfl))
                (try simp only [Act.put, List.setIfInBounds_toArray, List.set_cons_zero, List.set_cons_succ])
                refine M_take (v := ?_) 2 rfl (by kernel_rfl) (by assumption) (fun _ _ _ h => h) (Or.inl ⟨by rfl, ?_⟩) ?_
                rotate_left
                · (intro w hSw; (try dsimp only at hSw); go_simp; (try with_reducible rfl))
                (try simp only [Act.put, List.setIfInBounds_toArray, List.set_cons_zero, List.set_cons_succ])
                refine M_take (v := ?_) 4 rfl (by kernel_rfl) (by assumption) (fun _ _ _ h => h) (Or.inl ⟨by rfl, ?_⟩) ?_
                rotate_left
                · (intro w hSw; (try dsimp only at hSw); go_simp; (try with_reducible rfl))
                (try simp only [Act.put, List.setIfInBounds_toArray, List.set_cons_zero, List.set_cons_succ])
                refine M_take (v := ?_) 5 rfl (by kernel_rfl) (by assumption) (fun _ _ _ h => h) (Or.inl ⟨by rfl, ?_⟩) ?_
                rotate_left
                · (intro w hSw; (try dsimp only at hSw); go_simp; (try with_reducible rfl))
                (try simp only [Act.put, List.setIfInBounds_toArray, List.set_cons_zero, List.set_cons_succ])
                refine M_take (v := ?_) 6 rfl (by kernel_rfl) (by assumption) (fun _ _ _ h => h) (Or.inl ⟨by rfl, ?_⟩) ?_
                rotate_left
                · (intro w hSw; (try dsimp only at hSw); go_simp; (try with_reducible rfl))
                (try simp only [Act.put, List.setIfInBounds_toArray, List.set_cons_zero, List.set_cons_succ])
                refine M_step 3 rfl (by kernel_rfl) (fun K hK => ?_)
                go_simp
                go_at_call 64
                refine (is_any c x.A1 x.n1 x.c1 x.Z1 G1 _ (CC.out _ (nextB D.out (Below.refl w94.heap.size w94).drew)) (AA.out _ (nextB D.out (Below.refl w94.heap.size w94).drew)).1 HG1.out).mono ?_
                rintro e wA ⟨rfl, hbA⟩
                have HBA := Lib.hid (show Below w94.heap.size w94 wA from nextB (Below.refl _ _).drew hbA)
                have hTA : (fun w' => w'.cell? ⟨w.heap.size, 0, none⟩ = some (.slice c.d.RA c.d.n c.d.rc) ∧ w'.cell? ⟨w.heap.size, 1, none⟩ = some (.slice c.d.SA c.d.m c.d.sc) ∧ w'.cell? ⟨w.heap.size, 2, none⟩ = some (.slice c.MA c.m c.mc) ∧ w'.cell? ⟨w91.heap.size, 0, none⟩ = some (.slice c'.d.RA c'.d.n c'.d.rc) ∧ w'.cell? ⟨w91.heap.size, 1, none⟩ = some (.slice c'.d.SA c'.d.m c'.d.sc) ∧ w'.cell? ⟨w91.heap.size, 2, none⟩ = some (.slice c'.MA c'.m c'.mc) ∧ w'.cell? ⟨w.heap.size + 1, 3, none⟩ = some (.slice x.A1 x.n1 x.c1)) wA := ⟨(HBA.out.cell (World.block_lt_of_cell? _ _ c0)).trans c0, (HBA.out.cell (World.block_lt_of_cell? _ _ c1)).trans c1, (HBA.out.cell (World.block_lt_of_cell? _ _ c2)).trans c2, (HBA.out.cell (World.block_lt_of_cell? _ _ m0)).trans m0, (HBA.out.cell (World.block_lt_of_cell? _ _ m1)).trans m1, (HBA.out.cell (World.block_lt_of_cell? _ _ m2)).trans m2, (HBA.out.cell (World.block_lt_of_cell? _ _ x3)).trans x3⟩
                clear hbA
                refine hK.out _ _ (fun _ => hTA) ?_
                clear hK K
                (try simp only [Act.put, List.setIfInBounds_toArray, List.set_cons_zero, List.set_cons_succ])
                refine M_step 7 rfl (by kernel_rfl) (fun K hK => ?_)
                go_simp
                go_at_call 73
                refine (KBk.out _ (nextB D.out HBA.out)).mono ?_
                rintro e wB ⟨B5, k5, rfl, hi5, hbB⟩
                have HBB := Lib.hid (show Below w94.heap.size w94 wB from nextB HBA.out hbB)
                have HI5 := Lib.hid hi5
                have hTB : (fun w' => w'.cell? ⟨w.heap.size, 0, none⟩ = some (.slice c.d.RA c.d.n c.d.rc) ∧ w'.cell? ⟨w.heap.size, 1, none⟩ = some (.slice c.d.SA c.d.m c.d.sc) ∧ w'.cell? ⟨w.heap.size, 2, none⟩ = some (.slice c.MA c.m c.mc) ∧ w'.cell? ⟨w91.heap.size, 0, none⟩ = some (.slice c'.d.RA c'.d.n c'.d.rc) ∧ w'.cell? ⟨w91.heap.size, 1, none⟩ = some (.slice c'.d.SA c'.d.m c'.d.sc) ∧ w'.cell? ⟨w91.heap.size, 2, none⟩ = some (.slice c'.MA c'.m c'.mc) ∧ w'.cell? ⟨w.heap.size + 1, 3, none⟩ = some (.slice x.A1 x.n1 x.c1)) wB := ⟨(HBB.out.cell (World.block_lt_of_cell? _ _ c0)).trans c0, (HBB.out.cell (World.block_lt_of_cell? _ _ c1)).trans c1, (HBB.out.cell (World.block_lt_of_cell? _ _ c2)).trans c2, (HBB.out.cell (World.block_lt_of_cell? _ _ m0)).trans m0, (HBB.out.cell (World.block_lt_of_cell? _ _ m1)).trans m1, (HBB.out.cell (World.block_lt_of_cell? _ _ m2)).trans m2, (HBB.out.cell (World.block_lt_of_cell? _ _ x3)).trans x3⟩
                clear hbB hi5
                refine hK.out _ _ (fun _ => hTB) ?_
                clear hK K
                (try simp only [Act.put, List.setIfInBounds_toArray, List.set_cons_zero, List.set_cons_succ])
                refine M_step 8 rfl (by kernel_rfl) (fun K hK => ?_)
                go_simp
                go_at_call 64
                refine (is_any c' B5 x.n1 k5 (bkF x.n1 x.Z1) G1 _ (CW.out _ (nextB Q.out HBB.out)) HI5.out HG2.out).mono ?_
                rintro e wC ⟨rfl, hbC⟩
                have HBC := Lib.hid (show Below w94.heap.size w94 wC from nextB HBB.out hbC)
                have hTC : (fun w' => w'.cell? ⟨w.heap.size, 0, none⟩ = some (.slice c.d.RA c.d.n c.d.rc) ∧ w'.cell? ⟨w.heap.size, 1, none⟩ = some (.slice c.d.SA c.d.m c.d.sc) ∧ w'.cell? ⟨w.heap.size, 2, none⟩ = some (.slice c.MA c.m c.mc) ∧ w'.cell? ⟨w91.heap.size, 0, none⟩ = some (.slice c'.d.RA c'.d.n c'.d.rc) ∧ w'.cell? ⟨w91.heap.size, 1, none⟩ = some (.slice c'.d.SA c'.d.m c'.d.sc) ∧ w'.cell? ⟨w91.heap.size, 2, none⟩ = some (.slice c'.MA c'.m c'.mc) ∧ w'.cell? ⟨w.heap.size + 1, 3, none⟩ = some (.slice x.A1 x.n1 x.c1)) wC := ⟨(HBC.out.cell (World.block_lt_of_cell? _ _ c0)).trans c0, (HBC.out.cell (World.block_lt_of_cell? _ _ c1)).trans c1, (HBC.out.cell (World.block_lt_of_cell? _ _ c2)).trans c2, (HBC.out.cell (World.block_lt_of_cell? _ _ m0)).trans m0, (HBC.out.cell (World.block_lt_of_cell? _ _ m1)).trans m1, (HBC.out.cell (World.block_lt_of_cell? _ _ m2)).trans m2, (HBC.out.cell (World.block_lt_of_cell? _ _ x3)).trans x3⟩
                clear hbC
                refine hK.out _ _ (fun _ => hTC) ?_
                clear hK K
                (try simp only [Act.put, List.setIfInBounds_toArray, List.set_cons_zero, List.set_cons_succ])
                refine M_take (v := ?_) 9 rfl (by kernel_rfl) (by assumption) (fun _ _ _ h => h) (Or.inl ⟨by rfl, ?_⟩) ?_
                rotate_left
                · (intro w hSw; (try dsimp only at hSw); go_simp; (try with_reducible rfl))
                (try simp only [Act.put, List.setIfInBounds_toArray, List.set_cons_zero, List.set_cons_succ])
                refine M_take (v := ?_) 10 rfl (by kernel_rfl) (by assumption) (fun _ _ _ h => h) (Or.inl ⟨by rfl, ?_⟩) ?_
                rotate_left
                · (intro w hSw; (try dsimp only at hSw); go_simp; (try with_reducible rfl))
                (try simp only [Act.put, List.setIfInBounds_toArray, List.set_cons_zero, List.set_cons_succ])
                refine M_take (v := ?_) 11 rfl (by kernel_rfl) (by assumption) (fun _ _ _ h => h) (Or.inl ⟨by rfl, ?_⟩) ?_
                rotate_left
                · (intro w hSw; (try dsimp only at hSw); go_simp; (try with_reducible rfl))
                (try simp only [Act.put, List.setIfInBounds_toArray, List.set_cons_zero, List.set_cons_succ])
                refine M_take (v := ?_) 12 rfl (by kernel_rfl) (by assumption) (fun _ _ _ h => h) (Or.inl ⟨by rfl, ?_⟩) ?_
                rotate_left
                · (intro w hSw; (try dsimp only at hSw); go_simp; (try with_reducible rfl))
                (try simp only [Act.put, List.setIfInBounds_toArray, List.set_cons_zero, List.set_cons_succ])
                refine M_take (v := ?_) 13 rfl (by kernel_rfl) (by assumption) (fun _ _ _ h => h) (Or.inl ⟨by rfl, ?_⟩) ?_
                rotate_left
                · (intro w hSw; (try dsimp only at hSw); go_simp; (try with_reducible rfl))
                (try simp only [Act.put, List.setIfInBounds_toArray, List.set_cons_zero, List.set_cons_succ])
                refine M_take (v := ?_) 14 rfl (by kernel_rfl) (by assumption) (fun _ _ _ h => h) (Or.inl ⟨by rfl, ?_⟩) ?_
                rotate_left
                · (intro w hSw; (try dsimp only at hSw); go_simp; (try with_reducible rfl))
                (try simp only [Act.put, List.setIfInBounds_toArray, List.set_cons_zero, List.set_cons_succ])
                refine M_done (by kernel_rfl) ?_ _
                obtain ⟨w95, hwC⟩ : ∃ W : World, W = wC := ⟨_, rfl⟩
                rw [← hwC] at HBC hTC ⊢
                clear hwC
                have J := HBC
                have D := Lib.hid (nextB D.out J.out)
                clear hT0 hTA hTB hTC
                clear c0 c1 c2 zC x3 zX m0 m1 m2 zM
                have C := Lib.hid (C.out.up J.out)
                have X := Lib.hid (X.out.up J.out)
                have M := Lib.hid (M.out.up J.out)
                have Q := Lib.hid (Q.out.up J.out)
                have I1 := Lib.hid (I1.out.up J.out)
                have I2 := Lib.hid (I2.out.up J.out)
                have en : c'.d.n = c.d.n := HTR.out.n
                have hn2 := HD.out.n2
                have KB2 := Lib.hid fun W (h : LiR A2 (c'.d.n + 1) (fun i => (S' i).1) W) => back_any A2 (c'.d.n + 1) k2 (fun i => (S' i).1) W h (by omega) (fun i hi => by have := HS2.out i (by omega); omega)
                have KSI : Hid (∀ B k W, LiR B (c'.d.n + 1) (bkF (c'.d.n + 1) fun i => (S' i).1) W → LiR A1 (c.d.n + 1) (fun i => (S i).2) W → Calls Try.prog 41 #[.slice A1 (c.d.n + 1) k1, .slice B (c'.d.n + 1) k] W fun e w' => e = .returned (.bool true) ∧ Below W.heap.size W w') := Lib.hid fun B k W h1 h2 => SameInts_any (c.d.n + 1) (c'.d.n + 1) A1 B k1 k _ _ true W h2 h1 ⟨fun _ => ⟨by omega, fun i hi => by
                  show (S i).2 = bkF (c'.d.n + 1) (fun i => (S' i).1) i
                  unfold bkF
                  rw [HS1.out i (by omega), en, show c.d.n + 1 - 1 - i = c.d.n - i by omega]⟩, fun _ => rfl⟩
                clear en hn2
                go_wp2_with fail
                refine (KB2.out _ I2.out).mono ?_
                rintro e w96 ⟨B6, k6, rfl, hi, hb⟩
                have J := Lib.hid (hb)
                have D := Lib.hid (nextB D.out J.out)
                have I1 := Lib.hid (I1.out.up J.out)
                have I2 := Lib.hid (I2.out.up J.out)
                have I6 := Lib.hid hi
                clear hi
                clear hb
                go_wp2_with fail
                refine (KSI.out B6 k6 _ I6.out I1.out).mono ?_
                rintro e w97 ⟨rfl, hb⟩
                have J := Lib.hid (hb)
                have D := Lib.hid (nextB D.out J.out)
                have I1 := Lib.hid (I1.out.up J.out)
                have I2 := Lib.hid (I2.out.up J.out)
                have I6 := Lib.hid (I6.out.up J.out)
                clear hb
                go_wp2_with fail
                go_ret
                exact ⟨rfl, D.out⟩
              · have HE2 := Lib.hid hE'
                clear hE'
                have KL := Lib.hid fun W (h : Below w.heap.size w W) => lat_no c.d c.MA c.m c.mc c.F 22 S W (CC.out W h).1 (CC.out W h).2 HE.out (by omega)
                have KE := Lib.hid fun W (h : Below w91.heap.size w91 W) => ear_no c'.d c'.MA c'.m c'.mc c'.F 22 S W (CW.out W h).1 (CW.out W h).2 HE2.out (by omega)
                go_wp2_with fail
                obtain ⟨w92, hw92⟩ : ∃ V : World, V = w91.alloc (.cells #[.slice c'.d.RA c'.d.n c'.d.rc, .slice c'.d.SA c'.d.m c'.d.sc, .slice c'.MA c'.m c'.mc] 28) := ⟨_, rfl⟩
                have hb92 : Below w91.heap.size w91 w92 := by rw [hw92]; exact box1 _ _
                have M : Hid (HasCl c' w91.heap.size w92) := Lib.hid (by rw [hw92]; exact cl_new w91 c')
                have Q : Hid (BeL w91 w92) := Lib.hid hb92
                rw [← hw92]
                clear hw92
                have D := Lib.hid (nextB D.out hb92)
                have C := Lib.hid (C.out.up hb92)
                have X := Lib.hid (X.out.up hb92)
                clear hb92 c0 c1 c2 zC x3 zX
                obtain ⟨c0, c1, c2⟩ := C.out
                have zC := C.out.lt
                have x3 : w92.cell? ⟨w.heap.size + 1, 3, none⟩ = some (.slice x.A1 x.n1 x.c1) := X.out.c 3 _ rfl
                have zX := X.out.lt
                obtain ⟨m0, m1, m2⟩ := M.out
                have zM := M.out.lt
                refine (KL.out _ D.out).mono ?_
                rintro e w93 ⟨A1, k1, rfl, hi, hb⟩
                have J := Lib.hid (hb)
                have D := Lib.hid (nextB D.out J.out)
                clear c0 c1 c2 zC x3 zX m0 m1 m2 zM
                have C := Lib.hid (C.out.up J.out)
                have X := Lib.hid (X.out.up J.out)
                have M := Lib.hid (M.out.up J.out)
                have Q := Lib.hid (Q.out.up J.out)
                have I1 := Lib.hid hi
                clear hi
                clear hb
                obtain ⟨c0, c1, c2⟩ := C.out
                have zC := C.out.lt
                have x3 : w93.cell? ⟨w.heap.size + 1, 3, none⟩ = some (.slice x.A1 x.n1 x.c1) := X.out.c 3 _ rfl
                have zX := X.out.lt
                obtain ⟨m0, m1, m2⟩ := M.out
                have zM := M.out.lt
                go_wp2_with fail
                refine (KE.out _ Q.out).mono ?_
                rintro e w94 ⟨A2, k2, rfl, hi, hb⟩
                have J := Lib.hid (hb)
                have D := Lib.hid (nextB D.out J.out)
                clear c0 c1 c2 zC x3 zX m0 m1 m2 zM
                have C := Lib.hid (C.out.up J.out)
                have X := Lib.hid (X.out.up J.out)
                have M := Lib.hid (M.out.up J.out)
                have Q := Lib.hid (Q.out.up J.out)
                have I1 := Lib.hid (I1.out.up J.out)
                have I2 := Lib.hid hi
                clear hi
                clear hb
                obtain ⟨c0, c1, c2⟩ := C.out
                have zC := C.out.lt
                have x3 : w94.cell? ⟨w.heap.size + 1, 3, none⟩ = some (.slice x.A1 x.n1 x.c1) := X.out.c 3 _ rfl
                have zX := X.out.lt
                obtain ⟨m0, m1, m2⟩ := M.out
                have zM := M.out.lt
                obtain ⟨G1, hG1⟩ := bool_of (IsR c x.n1 x.Z1)
                have HG1 := Lib.hid hG1
                have HG2 : Hid (G1 = true ↔ IsR c' x.n1 (bkF x.n1 x.Z1)) := Lib.hid (hG1.trans (turn_is HTR.out HD.out HK.out x.n1 x.Z1).symm)
                have KBk := Lib.hid fun W (h : Below w.heap.size w W) => back_any x.A1 x.n1 x.c1 x.Z1 W (AA.out W h).1 (by omega) (fun i hi => by have := HJ.out i hi; omega)
                have hgg : (G1 != G1) = false := by cases G1 <;> rfl
                clear hG1
                go_wp2_with fail
                refine wp_region_M [] (fun w' => w'.cell? ⟨w.heap.size, 0, none⟩ = some (.slice c.d.RA c.d.n c.d.rc) ∧ w'.cell? ⟨w.heap.size, 1, none⟩ = some (.slice c.d.SA c.d.m c.d.sc) ∧ w'.cell? ⟨w.heap.size, 2, none⟩ = some (.slice c.MA c.m c.mc) ∧ w'.cell? ⟨w91.heap.size, 0, none⟩ = some (.slice c'.d.RA c'.d.n c'.d.rc) ∧ w'.cell? ⟨w91.heap.size, 1, none⟩ = some (.slice c'.d.SA c'.d.m c'.d.sc) ∧ w'.cell? ⟨w91.heap.size, 2, none⟩ = some (.slice c'.MA c'.m c'.mc) ∧ w'.cell? ⟨w.heap.size + 1, 3, none⟩ = some (.slice x.A1 x.n1 x.c1)) (by kernel_rfl) (by kernel_rfl) (by (try dsimp only); (repeat' apply And.intro); all_goals first | assumption | (go_simp; done)) (fun hT0 => ?_)
                refine M_take (v := ?_) 0 rfl (by kernel_rfl) (by assumption) (fun _ _ _ h => h) (Or.inl ⟨by rfl, ?_⟩) ?_
                rotate_left
                · (intro w hSw; (try dsimp only at hSw); go_simp; (try with_reducible rfl))
                (try simp only [Act.put, List.setIfInBounds_toArray, List.set_cons_zero, List.set_cons_succ])
                refine M_take (v := ?_) 1 rfl (by kernel_rfl) (by assumption) (fun _ _ _ h => h) (Or.inl ⟨by rfl, ?_⟩) ?_
                rotate_left
                · (intro w hSw; (try dsimp only at hSw); go_simp; (try with_reducible rfl))
                (try simp only [Act.put, List.setIfInBounds_toArray, List.set_cons_zero, List.set_cons_succ])
                refine M_take (v := ?_) 2 rfl (by kernel_rfl) (by assumption) (fun _ _ _ h => h) (Or.inl ⟨by rfl, ?_⟩) ?_
                rotate_left
                · (intro w hSw; (try dsimp only at hSw); go_simp; (try with_reducible rfl))
                (try simp only [Act.put, List.setIfInBounds_toArray, List.set_cons_zero, List.set_cons_succ])
                refine M_take (v := ?_) 4 rfl (by kernel_rfl) (by assumption) (fun _ _ _ h => h) (Or.inl ⟨by rfl, ?_⟩) ?_
                rotate_left
                · (intro w hSw; (try dsimp only at hSw); go_simp; (try with_reducible rfl))
                (try simp only [Act.put, List.setIfInBounds_toArray, List.set_cons_zero, List.set_cons_succ])
                refine M_take (v := ?_) 5 rfl (by kernel_rfl) (by assumption) (fun _ _ _ h => h) (Or.inl ⟨by rfl, ?_⟩) ?_
                rotate_left
                · (intro w hSw; (try dsimp only at hSw); go_simp; (try with_reducible rfl))
                (try simp only [Act.put, List.setIfInBounds_toArray, List.set_cons_zero, List.set_cons_succ])
                refine M_take (v := ?_) 6 rfl (by kernel_rfl) (by assumption) (fun _ _ _ h => h) (Or.inl ⟨by rfl, ?_⟩) ?_
                rotate_left
                · (intro w hSw; (try dsimp only at hSw); go_simp; (try with_reducible rfl))
                (try simp only [Act.put, List.setIfInBounds_toArray, List.set_cons_zero, List.set_cons_succ])
                refine M_step 3 rfl (by kernel_rfl) (fun K hK => ?_)
                go_simp
                go_at_call 64
                refine (is_any c x.A1 x.n1 x.c1 x.Z1 G1 _ (CC.out _ (nextB D.out (Below.refl w94.heap.size w94).drew)) (AA.out _ (nextB D.out (Below.refl w94.heap.size w94).drew)).1 HG1.out).mono ?_
                rintro e wA ⟨rfl, hbA⟩
                have HBA := Lib.hid (show Below w94.heap.size w94 wA from nextB (Below.refl _ _).drew hbA)
                have hTA : (fun w' => w'.cell? ⟨w.heap.size, 0, none⟩ = some (.slice c.d.RA c.d.n c.d.rc) ∧ w'.cell? ⟨w.heap.size, 1, none⟩ = some (.slice c.d.SA c.d.m c.d.sc) ∧ w'.cell? ⟨w.heap.size, 2, none⟩ = some (.slice c.MA c.m c.mc) ∧ w'.cell? ⟨w91.heap.size, 0, none⟩ = some (.slice c'.d.RA c'.d.n c'.d.rc) ∧ w'.cell? ⟨w91.heap.size, 1, none⟩ = some (.slice c'.d.SA c'.d.m c'.d.sc) ∧ w'.cell? ⟨w91.heap.size, 2, none⟩ = some (.slice c'.MA c'.m c'.mc) ∧ w'.cell? ⟨w.heap.size + 1, 3, none⟩ = some (.slice x.A1 x.n1 x.c1)) wA := ⟨(HBA.out.cell (World.block_lt_of_cell? _ _ c0)).trans c0, (HBA.out.cell (World.block_lt_of_cell? _ _ c1)).trans c1, (HBA.out.cell (World.block_lt_of_cell? _ _ c2)).trans c2, (HBA.out.cell (World.block_lt_of_cell? _ _ m0)).trans m0, (HBA.out.cell (World.block_lt_of_cell? _ _ m1)).trans m1, (HBA.out.cell (World.block_lt_of_cell? _ _ m2)).trans m2, (HBA.out.cell (World.block_lt_of_cell? _ _ x3)).trans x3⟩
                clear hbA
                refine hK.out _ _ (fun _ => hTA) ?_
                clear hK K
                (try simp only [Act.put, List.setIfInBounds_toArray, List.set_cons_zero, List.set_cons_succ])
                refine M_step 7 rfl (by kernel_rfl) (fun K hK => ?_)
                go_simp
                go_at_call 73
                refine (KBk.out _ (nextB D.out HBA.out)).mono ?_
                rintro e wB ⟨B5, k5, rfl, hi5, hbB⟩
                have HBB := Lib.hid (show Below w94.heap.size w94 wB from nextB HBA.out hbB)
                have HI5 := Lib.hid hi5
                have hTB : (fun w' => w'.cell? ⟨w.heap.size, 0, none⟩ = some (.slice c.d.RA c.d.n c.d.rc) ∧ w'.cell? ⟨w.heap.size, 1, none⟩ = some (.slice c.d.SA c.d.m c.d.sc) ∧ w'.cell? ⟨w.heap.size, 2, none⟩ = some (.slice c.MA c.m c.mc) ∧ w'.cell? ⟨w91.heap.size, 0, none⟩ = some (.slice c'.d.RA c'.d.n c'.d.rc) ∧ w'.cell? ⟨w91.heap.size, 1, none⟩ = some (.slice c'.d.SA c'.d.m c'.d.sc) ∧ w'.cell? ⟨w91.heap.size, 2, none⟩ = some (.slice c'.MA c'.m c'.mc) ∧ w'.cell? ⟨w.heap.size + 1, 3, none⟩ = some (.slice x.A1 x.n1 x.c1)) wB := ⟨(HBB.out.cell (World.block_lt_of_cell? _ _ c0)).trans c0, (HBB.out.cell (World.block_lt_of_cell? _ _ c1)).trans c1, (HBB.out.cell (World.block_lt_of_cell? _ _ c2)).trans c2, (HBB.out.cell (World.block_lt_of_cell? _ _ m0)).trans m0, (HBB.out.cell (World.block_lt_of_cell? _ _ m1)).trans m1, (HBB.out.cell (World.block_lt_of_cell? _ _ m2)).trans m2, (HBB.out.cell (World.block_lt_of_cell? _ _ x3)).trans x3⟩
                clear hbB hi5
                refine hK.out _ _ (fun _ => hTB) ?_
                clear hK K
                (try simp only [Act.put, List.setIfInBounds_toArray, List.set_cons_zero, List.set_cons_succ])
                refine M_step 8 rfl (by kernel_rfl) (fun K hK => ?_)
                go_simp
                go_at_call 64
                refine (is_any c' B5 x.n1 k5 (bkF x.n1 x.Z1) G1 _ (CW.out _ (nextB Q.out HBB.out)) HI5.out HG2.out).mono ?_
                rintro e wC ⟨rfl, hbC⟩
                have HBC := Lib.hid (show Below w94.heap.size w94 wC from nextB HBB.out hbC)
                have hTC : (fun w' => w'.cell? ⟨w.heap.size, 0, none⟩ = some (.slice c.d.RA c.d.n c.d.rc) ∧ w'.cell? ⟨w.heap.size, 1, none⟩ = some (.slice c.d.SA c.d.m c.d.sc) ∧ w'.cell? ⟨w.heap.size, 2, none⟩ = some (.slice c.MA c.m c.mc) ∧ w'.cell? ⟨w91.heap.size, 0, none⟩ = some (.slice c'.d.RA c'.d.n c'.d.rc) ∧ w'.cell? ⟨w91.heap.size, 1, none⟩ = some (.slice c'.d.SA c'.d.m c'.d.sc) ∧ w'.cell? ⟨w91.heap.size, 2, none⟩ = some (.slice c'.MA c'.m c'.mc) ∧ w'.cell? ⟨w.heap.size + 1, 3, none⟩ = some (.slice x.A1 x.n1 x.c1)) wC := ⟨(HBC.out.cell (World.block_lt_of_cell? _ _ c0)).trans c0, (HBC.out.cell (World.block_lt_of_cell? _ _ c1)).trans c1, (HBC.out.cell (World.block_lt_of_cell? _ _ c2)).trans c2, (HBC.out.cell (World.block_lt_of_cell? _ _ m0)).trans m0, (HBC.out.cell (World.block_lt_of_cell? _ _ m1)).trans m1, (HBC.out.cell (World.block_lt_of_cell? _ _ m2)).trans m2, (HBC.out.cell (World.block_lt_of_cell? _ _ x3)).trans x3⟩
                clear hbC
                refine hK.out _ _ (fun _ => hTC) ?_
                clear hK K
                (try simp only [Act.put, List.setIfInBounds_toArray, List.set_cons_zero, List.set_cons_succ])
                refine M_take (v := ?_) 9 rfl (by kernel_rfl) (by assumption) (fun _ _ _ h => h) (Or.inl ⟨by rfl, ?_⟩) ?_
                rotate_left
                · (intro w hSw; (try dsimp only at hSw); go_simp; (try with_reducible rfl))
                (try simp only [Act.put, List.setIfInBounds_toArray, List.set_cons_zero, List.set_cons_succ])
                refine M_take (v := ?_) 10 rfl (by kernel_rfl) (by assumption) (fun _ _ _ h => h) (Or.inl ⟨by rfl, ?_⟩) ?_
                rotate_left
                · (intro w hSw; (try dsimp only at hSw); go_simp; (try with_reducible rfl))
                (try simp only [Act.put, List.setIfInBounds_toArray, List.set_cons_zero, List.set_cons_succ])
                refine M_take (v := ?_) 11 rfl (by kernel_rfl) (by assumption) (fun _ _ _ h => h) (Or.inl ⟨by rfl, ?_⟩) ?_
                rotate_left
                · (intro w hSw; (try dsimp only at hSw); go_simp; (try with_reducible rfl))
                (try simp only [Act.put, List.setIfInBounds_toArray, List.set_cons_zero, List.set_cons_succ])
                refine M_take (v := ?_) 12 rfl (by kernel_rfl) (by assumption) (fun _ _ _ h => h) (Or.inl ⟨by rfl, ?_⟩) ?_
                rotate_left
                · (intro w hSw; (try dsimp only at hSw); go_simp; (try with_reducible rfl))
                (try simp only [Act.put, List.setIfInBounds_toArray, List.set_cons_zero, List.set_cons_succ])
                refine M_take (v := ?_) 13 rfl (by kernel_rfl) (by assumption) (fun _ _ _ h => h) (Or.inl ⟨by rfl, ?_⟩) ?_
                rotate_left
                · (intro w hSw; (try dsimp only at hSw); go_simp; (try with_reducible rfl))
                (try simp only [Act.put, List.setIfInBounds_toArray, List.set_cons_zero, List.set_cons_succ])
                refine M_take (v := ?_) 14 rfl (by kernel_rfl) (by assumption) (fun _ _ _ h => h) (Or.inl ⟨by rfl, ?_⟩) ?_
                rotate_left
                · (intro w hSw; (try dsimp only at hSw); go_simp; (try with_reducible rfl))
                (try simp only [Act.put, List.setIfInBounds_toArray, List.set_cons_zero, List.set_cons_succ])
                refine M_done (by kernel_rfl) ?_ _
                obtain ⟨w95, hwC⟩ : ∃ W : World, W = wC := ⟨_, rfl⟩
                rw [← hwC] at HBC hTC ⊢
                clear hwC
                have J := HBC
                have D := Lib.hid (nextB D.out J.out)
                clear hT0 hTA hTB hTC
                clear c0 c1 c2 zC x3 zX m0 m1 m2 zM
                have C := Lib.hid (C.out.up J.out)
                have X := Lib.hid (X.out.up J.out)
                have M := Lib.hid (M.out.up J.out)
                have Q := Lib.hid (Q.out.up J.out)
                have I1 := Lib.hid (I1.out.up J.out)
                have I2 := Lib.hid (I2.out.up J.out)
                have KB2 := Lib.hid fun W (h : LiR A2 0 (fun i => (S i).1) W) => back_any A2 0 k2 (fun i => (S i).1) W h (by omega) (fun i hi => absurd hi (by omega))
                have KSI : Hid (∀ B k W, LiR B 0 (bkF 0 fun i => (S i).1) W → LiR A1 0 (fun i => (S i).2) W → Calls Try.prog 41 #[.slice A1 0 k1, .slice B 0 k] W fun e w' => e = .returned (.bool true) ∧ Below W.heap.size W w') := Lib.hid fun B k W h1 h2 => SameInts_any 0 0 A1 B k1 k _ _ true W h2 h1 ⟨fun _ => ⟨rfl, fun i hi => absurd hi (by omega)⟩, fun _ => rfl⟩
                go_wp2_with fail
                refine (KB2.out _ I2.out).mono ?_
                rintro e w96 ⟨B6, k6, rfl, hi, hb⟩
                have J := Lib.hid (hb)
                have D := Lib.hid (nextB D.out J.out)
                have I1 := Lib.hid (I1.out.up J.out)
                have I2 := Lib.hid (I2.out.up J.out)
                have I6 := Lib.hid hi
                clear hi
                clear hb
                go_wp2_with fail
                refine (KSI.out B6 k6 _ I6.out I1.out).mono ?_
                rintro e w97 ⟨rfl, hb⟩
                have J := Lib.hid (hb)
                have D := Lib.hid (nextB D.out J.out)
                have I1 := Lib.hid (I1.out.up J.out)
                have I2 := Lib.hid (I2.out.up J.out)
                have I6 := Lib.hid (I6.out.up J.out)
                clear hb
                go_wp2_with fail
                go_ret
                exact ⟨rfl, D.out⟩
        · have hn1 : (E2 != 0) = true := by simpa using hz
          clear hz
          go_wp2_with fail
          go_ret
          exact ⟨rfl, D.out⟩
      · go_wp2_with fail
        go_ret
        exact ⟨rfl, D.out⟩
end Go.Proofs.Ytpikaohodieeaaa
