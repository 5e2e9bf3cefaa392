/- ClocksRuns' law. -/
import Derived.Test.YtpikaohodieeaaaWit
namespace Go.Proofs.Ytpikaohodieeaaa
open Go.RowKit
set_option linter.unusedSimpArgs false
set_option linter.unusedVariables false
/-- what the runs up to a tick have told of a column -/
structure RunI (n : Nat) (R : (Nat → Int) → Prop) (S : Nat → Int × Int) (a : Nat) (t lo hi : Int) : Prop where
  b1 : lo ≤ 401 ∧ (S a).1 ≤ lo
  b2 : -1 ≤ hi ∧ hi ≤ (S a).2
  all : ∀ T, R T → T 0 < t → lo ≤ T a ∧ T a ≤ hi
theorem RunI.skip {n : Nat} {R : (Nat → Int) → Prop} {S : Nat → Int × Int} {a : Nat} {t lo hi : Int} (h : RunI n R S a t lo hi) (h2 : ∀ T, R T → ¬ T 0 = t) : RunI n R S a (t + 1) lo hi :=
  ⟨h.b1, h.b2, fun T hT hlt => h.all T hT (by have := h2 T hT; omega)⟩
theorem RunI.next {n : Nat} {R : (Nat → Int) → Prop} {S : Nat → Int × Int} {a : Nat} {t lo hi p1 p2 : Int} (h : RunI n R S a t lo hi) (h1 : (S a).1 ≤ p1) (h2 : p2 ≤ (S a).2) (h3 : ∀ T, R T → T 0 = t → p1 ≤ T a ∧ T a ≤ p2) : RunI n R S a (t + 1) (min lo p1) (max hi p2) := by
  refine ⟨?_, ?_, fun T hT hlt => ?_⟩
  · have := h.b1; omega
  · have := h.b2; omega
  · by_cases e : T 0 = t
    · have := h3 T hT e; omega
    · have := h.all T hT (by omega); omega
theorem RunI.done {n : Nat} {R : (Nat → Int) → Prop} {S : Nat → Int × Int} {a : Nat} {lo hi : Int} (h : RunI n R S a 401 lo hi) (he : Ends n R S) (hb : ∀ T, R T → T 0 ≤ 400) : lo = (S a).1 ∧ hi = (S a).2 := by
  have h1 := h.all _ he.lo (by have := hb _ he.lo; omega)
  have h2 := h.all _ he.hi (by have := hb _ he.hi; omega)
  have h3 := h.b1
  have h4 := h.b2
  omega
set_option maxRecDepth 100000 in
set_option maxHeartbeats 4000000 in
theorem runs_law (c : Clo) (x : Aks) (w : World) (hc : ClIn c w.heap.size w) (hx : AkIn x w.heap.size w) :
    Calls Try.prog 15 #[c.v, x.v] w fun e w' => e = .returned (.bool true) ∧ Below w.heap.size w w' := by
  have CC : Hid (∀ W, Below w.heap.size w W → ClIn c W.heap.size W) := Lib.hid fun W h => (hc.up h (Nat.le_refl _)).more h.size
  have AA : Hid (∀ W, Below w.heap.size w W → AkIn x W.heap.size W) := Lib.hid fun W h => (hx.up h (Nat.le_refl _)).more h.size
  obtain ⟨G, hG⟩ := few_ex c
  have HG := Lib.hid hG
  clear hc hG hx
  go_enter Try.func15, Try.ntmps15
  go_wp2_with fail
  refine (awake_any _).mono ?_
  rintro e w2 ⟨rfl, hb⟩
  have D := Lib.hid (nextB (w2b_below c x w) hb)
  have C : Hid (HasCl c w.heap.size w2) := Lib.hid ((w2b_cl c x w).up hb)
  have X : Hid (HasAk x (w.heap.size + 1) w2) := Lib.hid ((w2b_ak c x w).up hb)
  clear hb
  obtain ⟨c0, c1, c2⟩ := C.out
  have zC := C.out.lt
  have x0 : w2.cell? ⟨w.heap.size + 1, 0, none⟩ = some (.int .i64 x.A) := X.out.c 0 _ rfl
  have zX := X.out.lt
  go_wp2_with fail
  refine (few_any c G _ HG.out).mono ?_
  rintro e w3 ⟨rfl, hb⟩
  have J := Lib.hid (hb)
  have D := Lib.hid (nextB D.out J.out)
  clear c0 c1 c2 zC x0 zX
  have C := Lib.hid (C.out.up J.out)
  have X := Lib.hid (X.out.up J.out)
  clear hb
  obtain ⟨c0, c1, c2⟩ := C.out
  have zC := C.out.lt
  have x0 : w3.cell? ⟨w.heap.size + 1, 0, none⟩ = some (.int .i64 x.A) := X.out.c 0 _ rfl
  have zX := X.out.lt
  cases G with
  | false =>
    go_wp2_with fail
    go_ret
    exact ⟨rfl, D.out⟩
  | true =>
    clear HG
    by_cases hm20 : c.m ≤ 20
    · have dm1 : decide (20 < c.m) = false := decide_eq_false (by omega)
      have dm2 : decide ((20 : Int) < (c.m : Int)) = false := decide_eq_false (by omega)
      clear hm20
      obtain ⟨vd, hv⟩ := bool_of (0 ≤ x.A ∧ x.A ≤ c.d.n)
      obtain ⟨E, S, hE⟩ := rdR_ex c.d c.m c.F vd
      obtain ⟨v0, hv0⟩ := bool_of ((0 : Int) ≤ 0 ∧ (0 : Int) ≤ c.d.n)
      obtain ⟨E0, S0, hE0, hES⟩ : ∃ E0 S0, RdR c.d c.m c.F v0 E0 S0 ∧ (E = 0 → E0 = 0 ∧ S0 = S) := by
        by_cases hz : E = 0
        · subst hz
          obtain ⟨hvt, hd, hk, he⟩ := rdR_0 hE
          exact ⟨0, S, .inr ⟨hd, hk, .inr (.inr ⟨hv0.2 (by omega), rfl, he⟩)⟩, fun _ => ⟨rfl, rfl⟩⟩
        · obtain ⟨Ea, Sa, h⟩ := rdR_ex c.d c.m c.F v0
          exact ⟨Ea, Sa, h, fun h => absurd h hz⟩
      obtain ⟨⟨s1, s2⟩, hs⟩ : ∃ s : Int × Int, (if E = 0 then S x.A.toNat else (0, 0)) = s := ⟨_, rfl⟩
      obtain ⟨⟨f1, f2⟩, hf⟩ : ∃ s : Int × Int, (if E0 = 0 then S0 (0 : Int).toNat else (0, 0)) = s := ⟨_, rfl⟩
      have K1 := Lib.hid fun W h => Span_any c.d c.MA c.m c.mc c.F x.A vd E S W (CC.out W h).1 (CC.out W h).2 hv hE
      rw [hs] at K1
      have K2 := Lib.hid fun W h => Span_any c.d c.MA c.m c.mc c.F 0 v0 E0 S0 W (CC.out W h).1 (CC.out W h).2 hv0 hE0
      rw [hf] at K2
      have HV := Lib.hid hv
      have HE := Lib.hid hE
      have HS := Lib.hid hs
      have HF := Lib.hid hf
      have HES := Lib.hid hES
      clear hv hE hs hf hv0 hE0 hES
      go_wp2_with fail
      refine (K1.out _ D.out).mono ?_
      rintro e w4 ⟨rfl, hb⟩
      have J := Lib.hid (hb)
      have D := Lib.hid (nextB D.out J.out)
      clear c0 c1 c2 zC x0 zX
      have C := Lib.hid (C.out.up J.out)
      have X := Lib.hid (X.out.up J.out)
      clear hb
      obtain ⟨c0, c1, c2⟩ := C.out
      have zC := C.out.lt
      have x0 : w4.cell? ⟨w.heap.size + 1, 0, none⟩ = some (.int .i64 x.A) := X.out.c 0 _ rfl
      have zX := X.out.lt
      go_wp2_with fail
      refine (K2.out _ (nextB D.out (box1 w4 _))).mono ?_
      rintro e w5 ⟨rfl, hb⟩
      have J := Lib.hid (nextB (box1 w4 _) hb)
      have D := Lib.hid (nextB D.out J.out)
      clear c0 c1 c2 zC x0 zX
      have C := Lib.hid (C.out.up J.out)
      have X := Lib.hid (X.out.up J.out)
      have L := Lib.hid (((Bt.new w4 31 (s1) (s2))).up hb)
      clear hb
      obtain ⟨c0, c1, c2⟩ := C.out
      have zC := C.out.lt
      have x0 : w5.cell? ⟨w.heap.size + 1, 0, none⟩ = some (.int .i64 x.A) := X.out.c 0 _ rfl
      have zX := X.out.lt
      obtain ⟨l0, l1, l2, l3⟩ := L.out
      have zL := L.out.lt
      by_cases hz : E = 0
      · subst hz
        obtain ⟨hvt, hd, hk, he⟩ := rdR_0 HE.out
        obtain ⟨rfl, rfl⟩ := HES.out rfl
        obtain ⟨hA0, hA1⟩ := HV.out.1 hvt
        obtain ⟨a, ha⟩ : ∃ a : Nat, x.A = (a : Int) := ⟨x.A.toNat, by omega⟩
        have hs := HS.out
        have hf : S0 0 = (f1, f2) := HF.out
        rw [if_pos rfl, ha, Int.toNat_natCast] at hs
        have han : a ≤ c.d.n := by omega
        have KR : Hid (∀ t : Int, 0 ≤ t → t ≤ 400 → ((f1 ≤ t ∧ t ≤ f2) → ∃ q1 q2 : Nat → Int, q1 0 = t ∧ q2 0 = t ∧ s1 ≤ q1 a ∧ q2 a ≤ s2 ∧ (∀ T, Rdg c.d.n (gapF c.d) c.m c.F T → T 0 = t → q1 a ≤ T a ∧ T a ≤ q2 a) ∧
            ∀ W, Below w.heap.size w W → Calls Try.prog 50 #[c.d.v, .slice c.MA c.m c.mc, .int .i64 t] W fun e w' => ∃ g, e = .returned (.tuple #[.slice (some ⟨g, 0, none⟩) (c.d.n + 1) (c.d.n + 1), .int .i64 0]) ∧ SpR g (c.d.n + 1) (fun i => (q1 i, q2 i)) w' ∧ Below W.heap.size W w') ∧
            (¬ (f1 ≤ t ∧ t ≤ f2) → (∀ T, Rdg c.d.n (gapF c.d) c.m c.F T → ¬ T 0 = t) ∧ ∀ W, Below w.heap.size w W → Calls Try.prog 50 #[c.d.v, .slice c.MA c.m c.mc, .int .i64 t] W fun e w' => e = .returned (.tuple #[.slice none 0 0, .int .i64 3]) ∧ Below W.heap.size W w')) := Lib.hid fun t ht0 ht4 => by
          obtain ⟨Ew, Sw, hw⟩ := rwR_ex c.d c.m c.F 0 t
          have hi := rwR_iff (a := 0) hd hk he (by omega) hw
          rw [hf] at hi
          simp only at hi
          refine ⟨fun h => ?_, fun h => ?_⟩
          · obtain rfl := hi.2 h
            have hc : Ends c.d.n (Rdg c.d.n (gapF c.d) (c.m + 1) (catF c.m c.F fun _ => (0, t, t))) Sw := by
              rcases hw with ⟨h, _⟩ | ⟨_, _, _, _, ⟨h, _⟩ | ⟨_, h⟩⟩
              · exact absurd rfl h
              · omega
              · exact h
            have k1 := rdg_cat.1 hc.lo
            have k2 := rdg_cat.1 hc.hi
            have k3 := k1.2 0 (by omega)
            have k4 := k2.2 0 (by omega)
            unfold hasP at k3 k4
            have z0 : (0 : Int).toNat = 0 := rfl
            simp only [z0] at k3 k4
            have k5 := he.all _ k1.1 a han
            have k6 := he.all _ k2.1 a han
            rw [hs] at k5 k6
            simp only at k5 k6
            refine ⟨fun i => (Sw i).1, fun i => (Sw i).2, by simp only; omega, by simp only; omega, by simp only; omega, by simp only; omega, fun T hT hT0 => hc.all T (rdg_cat.2 ⟨hT, fun j _ => ?_⟩) a han, fun W hW => ?_⟩
            · unfold hasP
              simp only [z0]
              omega
            · refine (Run_any c.d c.MA c.m c.mc c.F t 0 Sw W (CC.out W hW).1 (CC.out W hW).2 hw).mono ?_
              rintro e w' ⟨v, rfl, hb, ⟨h, _⟩ | ⟨_, g, rfl, _, hg⟩⟩
              · exact absurd rfl h
              · exact ⟨g, rfl, hg, hb⟩
          · have hw0 : ¬ Ew = 0 := fun e => h (hi.1 e)
            have hw3 : Ew = 3 := by
              rcases hw with ⟨_, vd, S1, hv, h1⟩ | ⟨_, _, _, _, ⟨h1, _⟩ | ⟨h1, _⟩⟩
              · have h2 := (rdR_in h1 hw0 hd hk he).1
                have h3 := hv.2 ⟨by omega, by omega⟩
                rw [h2] at h3
                cases h3
              · exact h1
              · exact absurd h1 hw0
            subst hw3
            refine ⟨fun T hT e => h ?_, fun W hW => ?_⟩
            · have := he.all T hT 0 (by omega)
              rw [hf] at this
              simp only at this
              omega
            · refine (Run_any c.d c.MA c.m c.mc c.F t 3 Sw W (CC.out W hW).1 (CC.out W hW).2 hw).mono ?_
              rintro e w' ⟨v, rfl, hb, ⟨_, rfl⟩ | ⟨h, _⟩⟩
              · exact ⟨rfl, hb⟩
              · omega
        have ha4 := he.lo.tick a (by omega)
        have hle := (he.all _ he.lo a han).2
        have ha5 := he.hi.tick a (by omega)
        rw [hs] at ha4 hle ha5
        simp only at ha4 hle ha5
        have HI0 : Hid (RunI c.d.n (Rdg c.d.n (gapF c.d) c.m c.F) S0 a 0 401 (-1)) := Lib.hid ⟨by rw [hs]; simp only; omega, by rw [hs]; simp only; omega, fun T hT h => by have := hT.tick 0 (by omega); omega⟩
        have HDN : Hid (∀ lo hi, RunI c.d.n (Rdg c.d.n (gapF c.d) c.m c.F) S0 a 401 lo hi → lo = s1 ∧ hi = s2) := Lib.hid fun lo hi h => by
          have := h.done he (fun T hT => (hT.tick 0 (by omega)).2)
          rw [hs] at this
          exact this
        have HAB : Hid ((S0 a).1 = s1 ∧ (S0 a).2 = s2 ∧ a ≤ c.d.n ∧ c.d.n < 200) := Lib.hid ⟨by rw [hs], by rw [hs], han, hd.n2⟩
        have HA := Lib.hid ha
        clear hvt hd hk he hA0 hA1 hs hf han ha4 hle ha5 ha
        go_wp2_with fail
        obtain ⟨w6, hw6⟩ : ∃ w6 : World, w6 = (w5.alloc (.cells #[.int .i64 f1, .int .i64 f2] 31)).alloc (.cells #[.int .i64 401, .int .i64 (-1)] 31) := ⟨_, rfl⟩
        have hb6 : Below w5.heap.size w5 w6 := by rw [hw6]; exact box2 _ _ _
        have M : Hid (Bt w5.heap.size f1 f2 w6) := Lib.hid (by rw [hw6]; exact (Bt.new _ _ _ _).up (box1 _ _))
        have U : Hid (Bt (w5.heap.size + 1) 401 (-1) w6) := Lib.hid (by rw [hw6]; have h := Bt.new (w5.alloc (.cells #[.int .i64 f1, .int .i64 f2] 31)) 31 401 (-1); rwa [World.size_alloc] at h)
        rw [← hw6]
        clear hw6
        have HZ : Hid (w.heap.size < w5.heap.size ∧ w.heap.size + 1 < w5.heap.size ∧ w4.heap.size < w5.heap.size) := Lib.hid ⟨zC, zX, zL⟩
        have D := Lib.hid (nextB D.out hb6)
        have C := Lib.hid (C.out.up hb6)
        have X := Lib.hid (X.out.up hb6)
        have L := Lib.hid (L.out.up hb6)
        clear c0 c1 c2 zC x0 zX l0 l1 l2 l3 zL
        obtain ⟨bs, hbs⟩ : ∃ bs : Nat, bs = w5.heap.size + 1 := ⟨_, rfl⟩
        have hl6 : w5.heap.size + 1 < w6.heap.size := U.out.lt
        rw [← hbs] at U hl6 ⊢
        have HBS := Lib.hid hbs
        have HL6 := Lib.hid hl6
        clear hbs hl6 hb6
        go_loopw [11, 12, 13] (fun tick l g wr => ∃ t lo hi : Int, 0 ≤ t ∧ t ≤ 401 ∧ tick = .int .i64 t ∧ Bt bs lo hi wr ∧ Hid (RunI c.d.n (Rdg c.d.n (gapF c.d) c.m c.F) S0 a t lo hi) ∧ Below bs w6 wr) (fun tick _ _ _ => (401 - intOf tick).toNat)
        case atStart => exact ⟨0, 401, -1, by omega, by omega, rfl, U.out, HI0, Below.refl _ _⟩
        case round =>
          obtain ⟨t, lo, hi, ht0, ht1, rfl, hU, HI, hb7⟩ := hrel
          obtain ⟨w7, rfl⟩ : ∃ w7 : World, w7 = wr := ⟨_, rfl⟩
          have V := Lib.hid hU
          have hz := HZ.out
          have hbs := HBS.out
          have D : Hid (Below w.heap.size w w7) := Lib.hid (D.out.trans (hb7.mono (by omega)))
          have HB7 := Lib.hid hb7
          have C := Lib.hid (C.out.low hb7 (by omega))
          have X := Lib.hid (X.out.low hb7 (by omega))
          have L := Lib.hid (bt_low L.out hb7 (by omega))
          have M := Lib.hid (bt_low M.out hb7 (by omega))
          clear hz hbs hU hb7
          obtain ⟨c0, c1, c2⟩ := C.out
          have zC := C.out.lt
          have x0 : w7.cell? ⟨w.heap.size + 1, 0, none⟩ = some (.int .i64 x.A) := X.out.c 0 _ rfl
          have zX := X.out.lt
          obtain ⟨l0, l1, l2, l3⟩ := L.out
          have zL := L.out.lt
          obtain ⟨m0, m1, m2, m3⟩ := M.out
          have zM := M.out.lt
          obtain ⟨v0, v1, v2, v3⟩ := V.out
          have zV := V.out.lt
          by_cases hlt : t ≤ 400
          · have dt : decide (t ≤ 400) = true := decide_eq_true hlt
            have wt : IntKind.i64.wrap (t + 1) = t + 1 := IntWalk.i64_in _ (by omega)
            by_cases hin : f1 ≤ t ∧ t ≤ f2
            · obtain ⟨q1, q2, k1, k2, k3, k4, k5, KX⟩ := (KR.out t ht0 hlt).1 hin
              have KX := Lib.hid KX
              have d1 : decide (f1 ≤ t) = true := decide_eq_true hin.1
              have d2 : decide (t ≤ f2) = true := decide_eq_true hin.2
              have hab := HAB.out
              have HI2 := Lib.hid (HI.out.next (p1 := q1 a) (p2 := q2 a) (by rw [hab.1]; exact k3) (by rw [hab.2.1]; exact k4) k5)
              have wn : IntKind.i64.wrap ((c.d.n : Int) + 1) = (c.d.n : Int) + 1 := IntWalk.i64_in _ (by omega)
              have nn : (((c.d.n + 1 : Nat) : Int) != (c.d.n : Int) + 1) = false := by simp
              have nn2 : ((c.d.n : Int) + 1 != (c.d.n : Int) + 1) = false := by simp
              have HK12 := Lib.hid (And.intro k1 k2)
              clear k1 k2 k3 k4 k5 hin hab
              go_wp2_with fail
              refine (KX.out _ D.out).mono ?_
              rintro e w8 ⟨gl, rfl, hg, hb⟩
              have J := Lib.hid (hb)
              have D := Lib.hid (nextB D.out J.out)
              clear c0 c1 c2 zC x0 zX l0 l1 l2 l3 zL m0 m1 m2 m3 zM v0 v1 v2 v3 zV
              have C := Lib.hid (C.out.up J.out)
              have X := Lib.hid (X.out.up J.out)
              have L := Lib.hid (L.out.up J.out)
              have M := Lib.hid (M.out.up J.out)
              have V := Lib.hid (V.out.up J.out)
              have GG := Lib.hid hg
              clear hg
              clear hb
              obtain ⟨c0, c1, c2⟩ := C.out
              have zC := C.out.lt
              have x0 : w8.cell? ⟨w.heap.size + 1, 0, none⟩ = some (.int .i64 x.A) := X.out.c 0 _ rfl
              have zX := X.out.lt
              obtain ⟨l0, l1, l2, l3⟩ := L.out
              have zL := L.out.lt
              obtain ⟨m0, m1, m2, m3⟩ := M.out
              have zM := M.out.lt
              obtain ⟨v0, v1, v2, v3⟩ := V.out
              have zV := V.out.lt
              have y0 : w8.cell? ⟨gl, 0, none⟩ = some (.int .i64 t) := by have h := GG.out.c0 0 (by omega); rw [Nat.zero_mul] at h; simp only [HK12.out.1] at h; exact h
              have y1 : w8.cell? ⟨gl, 1, none⟩ = some (.int .i64 t) := by have h := GG.out.c1 0 (by omega); rw [Nat.zero_mul] at h; simp only [HK12.out.2] at h; exact h
              have zg : gl < w8.heap.size := World.block_lt_of_cell? _ _ y0
              go_wp2_with fail
              clear y0 y1
              have hab := HAB.out
              have y2 : w8.cell? ⟨gl, a * 2, none⟩ = some (.int .i64 (q1 a)) := GG.out.c0 a (by omega)
              have y3 : w8.cell? ⟨gl, a * 2 + 1, none⟩ = some (.int .i64 (q2 a)) := GG.out.c1 a (by omega)
              generalize q1 a = qa at *
              generalize q2 a = qb at *
              rw [HA.out] at x0
              have hxa : (0 : Int) ≤ (a : Int) := by omega
              have hxb : (a : Int) < (c.d.n : Int) + 1 := by omega
              have hxb2 : a < c.d.n + 1 := by omega
              clear hab
              refine wp_region_M [19] (fun w' => w'.cell? ⟨w.heap.size + 1, 0, none⟩ = some (.int .i64 (a : Int)) ∧ w'.cell? ⟨bs, 0, none⟩ = some (.int .i64 lo) ∧ w'.cell? ⟨bs, 1, none⟩ = some (.int .i64 hi) ∧ w'.cell? ⟨gl, a * 2, none⟩ = some (.int .i64 qa) ∧ w'.cell? ⟨gl, a * 2 + 1, none⟩ = some (.int .i64 qb)) (by kernel_rfl) (by kernel_rfl) (by (try dsimp only); (repeat' apply And.intro); all_goals first | assumption | (go_simp; done)) (fun hT0 => ?_)
              refine M_take (v := ?_) 0 rfl (by kernel_rfl) (by assumption) (fun _ _ _ h => h) (Or.inl ⟨by rfl, ?_⟩) ?_
              rotate_left
              · (intro w hSw; (try dsimp only at hSw); go_simp; (try with_reducible rfl))
              (try simp only [Act.put, List.setIfInBounds_toArray, List.set_cons_zero, List.set_cons_succ])
              refine M_take (v := ?_) 1 rfl (by kernel_rfl) (by assumption) (fun _ _ _ h => h) (Or.inl ⟨by rfl, ?_⟩) ?_
              rotate_left
              · (intro w hSw; (try dsimp only at hSw); go_simp; (try with_reducible rfl))
              (try simp only [Act.put, List.setIfInBounds_toArray, List.set_cons_zero, List.set_cons_succ])
              refine M_take (v := ?_) 2 rfl (by kernel_rfl) (by assumption) (fun _ _ _ h => h) (Or.inl ⟨by rfl, ?_⟩) ?_
              rotate_left
              · (intro w hSw; (try dsimp only at hSw); go_simp; (try with_reducible rfl))
              (try simp only [Act.put, List.setIfInBounds_toArray, List.set_cons_zero, List.set_cons_succ])
              refine M_take (v := ?_) 3 rfl (by kernel_rfl) (by assumption) (fun _ _ _ h => h) (Or.inl ⟨by rfl, ?_⟩) ?_
              rotate_left
              · (intro w hSw; (try dsimp only at hSw); go_simp; (try with_reducible rfl))
              (try simp only [Act.put, List.setIfInBounds_toArray, List.set_cons_zero, List.set_cons_succ])
              refine M_take (v := ?_) 4 rfl (by kernel_rfl) (by assumption) (fun _ _ _ h => h) (Or.inl ⟨by rfl, ?_⟩) ?_
              rotate_left
              · (intro w hSw; (try dsimp only at hSw); go_simp; (try with_reducible rfl))
              (try simp only [Act.put, List.setIfInBounds_toArray, List.set_cons_zero, List.set_cons_succ])
              refine M_take (v := ?_) 5 rfl (by kernel_rfl) (by assumption) (fun _ _ _ h => h) (Or.inl ⟨by rfl, ?_⟩) ?_
              rotate_left
              · (intro w hSw; (try dsimp only at hSw); go_simp; (try with_reducible rfl))
              (try simp only [Act.put, List.setIfInBounds_toArray, List.set_cons_zero, List.set_cons_succ])
              refine M_take (v := ?_) 6 rfl (by kernel_rfl) (by assumption) (fun _ _ _ h => h) (Or.inl ⟨by rfl, ?_⟩) ?_
              rotate_left
              · (intro w hSw; (try dsimp only at hSw); go_simp; (try with_reducible rfl))
              (try simp only [Act.put, List.setIfInBounds_toArray, List.set_cons_zero, List.set_cons_succ])
              refine M_take (v := ?_) 7 rfl (by kernel_rfl) (by assumption) (fun _ _ _ h => h) (Or.inl ⟨by rfl, ?_⟩) ?_
              rotate_left
              · (intro w hSw; (try dsimp only at hSw); go_simp; (try with_reducible rfl))
              (try simp only [Act.put, List.setIfInBounds_toArray, List.set_cons_zero, List.set_cons_succ])
              refine M_take (v := ?_) 8 rfl (by kernel_rfl) (by assumption) (fun _ _ _ h => h) (Or.inl ⟨by rfl, ?_⟩) ?_
              rotate_left
              · (intro w hSw; (try dsimp only at hSw); go_simp; (try with_reducible rfl))
              (try simp only [Act.put, List.setIfInBounds_toArray, List.set_cons_zero, List.set_cons_succ])
              refine M_take (v := ?_) 9 rfl (by kernel_rfl) (by assumption) (fun _ _ _ h => h) (Or.inl ⟨by rfl, ?_⟩) ?_
              rotate_left
              · (intro w hSw; (try dsimp only at hSw); go_simp; (try with_reducible rfl))
              (try simp only [Act.put, List.setIfInBounds_toArray, List.set_cons_zero, List.set_cons_succ])
              refine M_take (v := ?_) 10 rfl (by kernel_rfl) (by assumption) (fun _ _ _ h => h) (Or.inl ⟨by rfl, ?_⟩) ?_
              rotate_left
              · (intro w hSw; (try dsimp only at hSw); go_simp; (try with_reducible rfl))
              (try simp only [Act.put, List.setIfInBounds_toArray, List.set_cons_zero, List.set_cons_succ])
              refine M_take (v := ?_) 11 rfl (by kernel_rfl) (by assumption) (fun _ _ _ h => h) (Or.inl ⟨by rfl, ?_⟩) ?_
              rotate_left
              · (intro w hSw; (try dsimp only at hSw); go_simp; (try with_reducible rfl))
              (try simp only [Act.put, List.setIfInBounds_toArray, List.set_cons_zero, List.set_cons_succ])
              refine M_take (v := ?_) 12 rfl (by kernel_rfl) (by assumption) (fun _ _ _ h => h) (Or.inl ⟨by rfl, ?_⟩) ?_
              rotate_left
              · (intro w hSw; (try dsimp only at hSw); go_simp; (try with_reducible rfl))
              (try simp only [Act.put, List.setIfInBounds_toArray, List.set_cons_zero, List.set_cons_succ])
              refine M_take (v := ?_) 13 rfl (by kernel_rfl) (by assumption) (fun _ _ _ h => h) (Or.inl ⟨by rfl, ?_⟩) ?_
              rotate_left
              · (intro w hSw; (try dsimp only at hSw); go_simp; (try with_reducible rfl))
              (try simp only [Act.put, List.setIfInBounds_toArray, List.set_cons_zero, List.set_cons_succ])
              refine M_take (v := ?_) 14 rfl (by kernel_rfl) (by assumption) (fun _ _ _ h => h) (Or.inl ⟨by rfl, ?_⟩) ?_
              rotate_left
              · (intro w hSw; (try dsimp only at hSw); go_simp; (try with_reducible rfl))
              (try simp only [Act.put, List.setIfInBounds_toArray, List.set_cons_zero, List.set_cons_succ])
              refine M_take (v := ?_) 15 rfl (by kernel_rfl) (by assumption) (fun _ _ _ h => h) (Or.inl ⟨by rfl, ?_⟩) ?_
              rotate_left
              · (intro w hSw; (try dsimp only at hSw); go_simp; (try with_reducible rfl))
              (try simp only [Act.put, List.setIfInBounds_toArray, List.set_cons_zero, List.set_cons_succ])
              refine M_take (v := ?_) 16 rfl (by kernel_rfl) (by assumption) (fun _ _ _ h => h) (Or.inl ⟨by rfl, ?_⟩) ?_
              rotate_left
              · (intro w hSw; (try dsimp only at hSw); go_simp; (try with_reducible rfl))
              (try simp only [Act.put, List.setIfInBounds_toArray, List.set_cons_zero, List.set_cons_succ])
              refine M_take (v := ?_) 17 rfl (by kernel_rfl) (by assumption) (fun _ _ _ h => h) (Or.inl ⟨by rfl, ?_⟩) ?_
              rotate_left
              · (intro w hSw; (try dsimp only at hSw); go_simp; (try with_reducible rfl))
              (try simp only [Act.put, List.setIfInBounds_toArray, List.set_cons_zero, List.set_cons_succ])
              refine M_take (v := ?_) 18 rfl (by kernel_rfl) (by assumption) (fun _ _ _ h => h) (Or.inl ⟨by rfl, ?_⟩) ?_
              rotate_left
              · (intro w hSw; (try dsimp only at hSw); go_simp; (try with_reducible rfl))
              (try simp only [Act.put, List.setIfInBounds_toArray, List.set_cons_zero, List.set_cons_succ])
              refine M_step 19 rfl (by kernel_rfl) (fun K hK => ?_)
              go_simp
              skip
              refine hK.out _ _ (fun e => by cases e) ?_
              clear hK K
              (try simp only [Act.put, List.setIfInBounds_toArray, List.set_cons_zero, List.set_cons_succ])
              refine M_done (by kernel_rfl) ?_ _
              have hst := (V.out.up (Below.refl w8.heap.size w8).drew).store (min lo qa) (max hi qb)
              have hfb : Below bs w6 ((w8.drew.setCell ⟨bs, 0, none⟩ (.int .i64 (min lo qa))).setCell ⟨bs, 1, none⟩ (.int .i64 (max hi qb))) := set1 (set1 ((HB7.out.trans (J.out.mono (by have := (HB7.out.size); have := HL6.out; omega))).drew) (Nat.le_refl _) _ _) (Nat.le_refl _) _ _
              have HST := Lib.hid hst
              have HFB := Lib.hid hfb
              clear hst hfb y2 y3 hT0
              go_wp2_with fail
              go_roundw
              case rel => exact ⟨t + 1, _, _, by omega, by omega, rfl, HST.out, HI2, HFB.out⟩
              case measure => simp [intOf]; omega
            · obtain ⟨k1, KX⟩ := (KR.out t ht0 hlt).2 hin
              have KX := Lib.hid KX
              have HI2 := Lib.hid (HI.out.skip k1)
              clear k1
              by_cases hf1 : f1 ≤ t
              · have d1 : decide (f1 ≤ t) = true := decide_eq_true hf1
                have d2 : decide (t ≤ f2) = false := decide_eq_false (fun h => hin ⟨hf1, h⟩)
                clear hin hf1
                go_wp2_with fail
                refine (KX.out _ D.out).mono ?_
                rintro e w8 ⟨rfl, hb⟩
                have J := Lib.hid (hb)
                have D := Lib.hid (nextB D.out J.out)
                clear c0 c1 c2 zC x0 zX l0 l1 l2 l3 zL m0 m1 m2 m3 zM v0 v1 v2 v3 zV
                have C := Lib.hid (C.out.up J.out)
                have X := Lib.hid (X.out.up J.out)
                have L := Lib.hid (L.out.up J.out)
                have M := Lib.hid (M.out.up J.out)
                have V := Lib.hid (V.out.up J.out)
                clear hb
                obtain ⟨c0, c1, c2⟩ := C.out
                have zC := C.out.lt
                have x0 : w8.cell? ⟨w.heap.size + 1, 0, none⟩ = some (.int .i64 x.A) := X.out.c 0 _ rfl
                have zX := X.out.lt
                obtain ⟨l0, l1, l2, l3⟩ := L.out
                have zL := L.out.lt
                obtain ⟨m0, m1, m2, m3⟩ := M.out
                have zM := M.out.lt
                obtain ⟨v0, v1, v2, v3⟩ := V.out
                have zV := V.out.lt
                go_wp2_with fail
                go_roundw
                case rel => exact ⟨t + 1, _, _, by omega, by omega, rfl, V.out, HI2, HB7.out.trans (J.out.mono (by have := (HB7.out.size); have := HL6.out; omega))⟩
                case measure => simp [intOf]; omega
              · have d1 : decide (f1 ≤ t) = false := decide_eq_false hf1
                clear hin hf1
                go_wp2_with fail
                refine (KX.out _ D.out).mono ?_
                rintro e w8 ⟨rfl, hb⟩
                have J := Lib.hid (hb)
                have D := Lib.hid (nextB D.out J.out)
                clear c0 c1 c2 zC x0 zX l0 l1 l2 l3 zL m0 m1 m2 m3 zM v0 v1 v2 v3 zV
                have C := Lib.hid (C.out.up J.out)
                have X := Lib.hid (X.out.up J.out)
                have L := Lib.hid (L.out.up J.out)
                have M := Lib.hid (M.out.up J.out)
                have V := Lib.hid (V.out.up J.out)
                clear hb
                obtain ⟨c0, c1, c2⟩ := C.out
                have zC := C.out.lt
                have x0 : w8.cell? ⟨w.heap.size + 1, 0, none⟩ = some (.int .i64 x.A) := X.out.c 0 _ rfl
                have zX := X.out.lt
                obtain ⟨l0, l1, l2, l3⟩ := L.out
                have zL := L.out.lt
                obtain ⟨m0, m1, m2, m3⟩ := M.out
                have zM := M.out.lt
                obtain ⟨v0, v1, v2, v3⟩ := V.out
                have zV := V.out.lt
                go_wp2_with fail
                go_roundw
                case rel => exact ⟨t + 1, _, _, by omega, by omega, rfl, V.out, HI2, HB7.out.trans (J.out.mono (by have := (HB7.out.size); have := HL6.out; omega))⟩
                case measure => simp [intOf]; omega
          · have dt : decide (t ≤ 400) = false := decide_eq_false hlt
            obtain rfl : t = 401 := by omega
            obtain ⟨rfl, rfl⟩ := HDN.out lo hi HI.out
            go_wp2_with fail
            go_ret
            exact ⟨rfl, D.out⟩
      · have hn1 : (E != 0) = true := by simpa using hz
        clear hz
        go_wp2_with fail
        go_ret
        exact ⟨rfl, (nextB D.out (box1 w5 _))⟩
    · have dm1 : decide (20 < c.m) = true := decide_eq_true (by omega)
      have dm2 : decide ((20 : Int) < (c.m : Int)) = true := decide_eq_true (by omega)
      clear hm20
      go_wp2_with fail
      go_ret
      exact ⟨rfl, D.out⟩
end Go.Proofs.Ytpikaohodieeaaa
