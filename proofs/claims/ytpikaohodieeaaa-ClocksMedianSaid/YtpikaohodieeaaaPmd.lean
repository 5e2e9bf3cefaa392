/- ClocksMedian's law. -/
import Derived.Test.YtpikaohodieeaaaMed
namespace Go.Proofs.Ytpikaohodieeaaa
open Go.RowKit
set_option linter.unusedSimpArgs false
set_option linter.unusedVariables false
set_option maxRecDepth 100000 in
set_option maxHeartbeats 4000000 in
theorem median_law (c : Clo) (x : Aks) (w : World) (hc : ClIn c w.heap.size w) (hx : AkIn x w.heap.size w) :
    Calls Try.prog 8 #[c.v, x.v] w fun e w' => e = .returned (.bool true) ∧ Below w.heap.size w w' := by
  have CC : Hid (∀ W, Below w.heap.size w W → ClIn c W.heap.size W) := Lib.hid fun W h => (hc.up h (Nat.le_refl _)).more h.size
  have AA : Hid (∀ W, Below w.heap.size w W → AkIn x W.heap.size W) := Lib.hid fun W h => (hx.up h (Nat.le_refl _)).more h.size
  obtain ⟨G, hG⟩ := few_ex c
  have HG := Lib.hid hG
  clear hc hG hx
  go_enter Try.func8, Try.ntmps8
  go_wp2_with fail
  refine (awake_any _).mono ?_
  rintro e w2 ⟨rfl, hb⟩
  have D := Lib.hid (nextB (w2b_below c x w) hb)
  have C : Hid (HasCl c w.heap.size w2) := Lib.hid ((w2b_cl c x w).up hb)
  have X : Hid (HasAk x (w.heap.size + 1) w2) := Lib.hid ((w2b_ak c x w).up hb)
  clear hb
  obtain ⟨c0, c1, c2⟩ := C.out
  have zC := C.out.lt
  have x0 : w2.cell? ⟨w.heap.size + 1, 0, none⟩ = some (.int .i64 x.A) := X.out.c 0 _ rfl
  have x1 : w2.cell? ⟨w.heap.size + 1, 1, none⟩ = some (.int .i64 x.B) := X.out.c 1 _ rfl
  have x2 : w2.cell? ⟨w.heap.size + 1, 2, none⟩ = some (.int .i64 x.t) := X.out.c 2 _ rfl
  have x3 : w2.cell? ⟨w.heap.size + 1, 3, none⟩ = some (.slice x.A1 x.n1 x.c1) := X.out.c 3 _ rfl
  have x4 : w2.cell? ⟨w.heap.size + 1, 4, none⟩ = some (.slice x.A2 x.n2 x.c2) := X.out.c 4 _ rfl
  have x5 : w2.cell? ⟨w.heap.size + 1, 5, none⟩ = some (.slice x.A3 x.n3 x.c3) := X.out.c 5 _ rfl
  have x6 : w2.cell? ⟨w.heap.size + 1, 6, none⟩ = some (.int .i64 x.f.1) := X.out.c 6 _ rfl
  have x7 : w2.cell? ⟨w.heap.size + 1, 7, none⟩ = some (.int .i64 x.f.2.1) := X.out.c 7 _ rfl
  have x8 : w2.cell? ⟨w.heap.size + 1, 8, none⟩ = some (.int .i64 x.f.2.2) := X.out.c 8 _ rfl
  have x9 : w2.cell? ⟨w.heap.size + 1, 9, none⟩ = some (.int .i64 x.s.1) := X.out.c 9 _ rfl
  have x10 : w2.cell? ⟨w.heap.size + 1, 10, none⟩ = some (.int .i64 x.s.2.1) := X.out.c 10 _ rfl
  have x11 : w2.cell? ⟨w.heap.size + 1, 11, none⟩ = some (.int .i64 x.s.2.2) := X.out.c 11 _ rfl
  have x12 : w2.cell? ⟨w.heap.size + 1, 12, none⟩ = some (.int .i64 x.p.1) := X.out.c 12 _ rfl
  have x13 : w2.cell? ⟨w.heap.size + 1, 13, none⟩ = some (.int .i64 x.p.2.1) := X.out.c 13 _ rfl
  have x14 : w2.cell? ⟨w.heap.size + 1, 14, none⟩ = some (.int .i64 x.p.2.2) := X.out.c 14 _ rfl
  have zX := X.out.lt
  go_wp2_with fail
  refine (few_any c G _ HG.out).mono ?_
  rintro e w3 ⟨rfl, hb⟩
  have J := Lib.hid (hb)
  have D := Lib.hid (nextB D.out J.out)
  clear c0 c1 c2 zC x0 x1 x2 x3 x4 x5 x6 x7 x8 x9 x10 x11 x12 x13 x14 zX
  have C := Lib.hid (C.out.up J.out)
  have X := Lib.hid (X.out.up J.out)
  clear hb
  obtain ⟨c0, c1, c2⟩ := C.out
  have zC := C.out.lt
  have x0 : w3.cell? ⟨w.heap.size + 1, 0, none⟩ = some (.int .i64 x.A) := X.out.c 0 _ rfl
  have x1 : w3.cell? ⟨w.heap.size + 1, 1, none⟩ = some (.int .i64 x.B) := X.out.c 1 _ rfl
  have x2 : w3.cell? ⟨w.heap.size + 1, 2, none⟩ = some (.int .i64 x.t) := X.out.c 2 _ rfl
  have x3 : w3.cell? ⟨w.heap.size + 1, 3, none⟩ = some (.slice x.A1 x.n1 x.c1) := X.out.c 3 _ rfl
  have x4 : w3.cell? ⟨w.heap.size + 1, 4, none⟩ = some (.slice x.A2 x.n2 x.c2) := X.out.c 4 _ rfl
  have x5 : w3.cell? ⟨w.heap.size + 1, 5, none⟩ = some (.slice x.A3 x.n3 x.c3) := X.out.c 5 _ rfl
  have x6 : w3.cell? ⟨w.heap.size + 1, 6, none⟩ = some (.int .i64 x.f.1) := X.out.c 6 _ rfl
  have x7 : w3.cell? ⟨w.heap.size + 1, 7, none⟩ = some (.int .i64 x.f.2.1) := X.out.c 7 _ rfl
  have x8 : w3.cell? ⟨w.heap.size + 1, 8, none⟩ = some (.int .i64 x.f.2.2) := X.out.c 8 _ rfl
  have x9 : w3.cell? ⟨w.heap.size + 1, 9, none⟩ = some (.int .i64 x.s.1) := X.out.c 9 _ rfl
  have x10 : w3.cell? ⟨w.heap.size + 1, 10, none⟩ = some (.int .i64 x.s.2.1) := X.out.c 10 _ rfl
  have x11 : w3.cell? ⟨w.heap.size + 1, 11, none⟩ = some (.int .i64 x.s.2.2) := X.out.c 11 _ rfl
  have x12 : w3.cell? ⟨w.heap.size + 1, 12, none⟩ = some (.int .i64 x.p.1) := X.out.c 12 _ rfl
  have x13 : w3.cell? ⟨w.heap.size + 1, 13, none⟩ = some (.int .i64 x.p.2.1) := X.out.c 13 _ rfl
  have x14 : w3.cell? ⟨w.heap.size + 1, 14, none⟩ = some (.int .i64 x.p.2.2) := X.out.c 14 _ rfl
  have zX := X.out.lt
  cases G with
  | false =>
    go_wp2_with fail
    go_ret
    exact ⟨rfl, D.out⟩
  | true =>
    clear HG
    obtain ⟨L, hL⟩ := bool_of (Light x)
    go_wp2_with fail
    refine (light_any x L _ hL).mono ?_
    rintro e w4 ⟨rfl, hb⟩
    have J := Lib.hid (hb)
    have D := Lib.hid (nextB D.out J.out)
    clear c0 c1 c2 zC x0 x1 x2 x3 x4 x5 x6 x7 x8 x9 x10 x11 x12 x13 x14 zX
    have C := Lib.hid (C.out.up J.out)
    have X := Lib.hid (X.out.up J.out)
    clear hb
    obtain ⟨c0, c1, c2⟩ := C.out
    have zC := C.out.lt
    have x3 : w4.cell? ⟨w.heap.size + 1, 3, none⟩ = some (.slice x.A1 x.n1 x.c1) := X.out.c 3 _ rfl
    have x4 : w4.cell? ⟨w.heap.size + 1, 4, none⟩ = some (.slice x.A2 x.n2 x.c2) := X.out.c 4 _ rfl
    have x5 : w4.cell? ⟨w.heap.size + 1, 5, none⟩ = some (.slice x.A3 x.n3 x.c3) := X.out.c 5 _ rfl
    have zX := X.out.lt
    clear hL
    cases L with
    | false =>
      go_wp2_with fail
      go_ret
      exact ⟨rfl, D.out⟩
    | true =>
      obtain ⟨E, hE⟩ := meR_ex c.d c.m c.F x.n1 x.n2 x.n3 x.Z1 x.Z2 x.Z3
      have K1 := Lib.hid fun W h => Median_any c.d c.MA c.m c.mc c.F x.A1 x.n1 x.c1 x.Z1 x.A2 x.n2 x.c2 x.Z2 x.A3 x.n3 x.c3 x.Z3 E W (CC.out W h).1 (CC.out W h).2 (AA.out W h).1 (AA.out W h).2.1 (AA.out W h).2.2 hE
      have KI := Lib.hid fun A n k T G W h ht hG => is_any c A n k T G W (CC.out W h) ht hG
      have hall : E = 0 ↔ IsR c x.n1 x.Z1 ∧ IsR c x.n2 x.Z2 ∧ IsR c x.n3 x.Z3 := by
        unfold IsR
        rcases hE with ⟨h, h2⟩ | ⟨h1, h2, ⟨h, h3, h4, h5⟩ | ⟨h, h3⟩⟩
        · refine ⟨fun e => by omega, fun ⟨⟨k1, k2, _⟩, _⟩ => ?_⟩
          rcases h2 with ⟨_, h2⟩ | ⟨_, _, h2⟩ | ⟨h2, _⟩
          · exact absurd k1 h2
          · exact absurd k2 h2
          · exact h2
        · exact ⟨fun _ => ⟨⟨h1, h2, h3.1, h3.2⟩, ⟨h1, h2, h4.1, h4.2⟩, ⟨h1, h2, h5.1, h5.2⟩⟩, fun _ => h⟩
        · exact ⟨fun e => by omega, fun ⟨k1, k2, k3⟩ => absurd ⟨⟨k1.2.2.1, k1.2.2.2⟩, ⟨k2.2.2.1, k2.2.2.2⟩, ⟨k3.2.2.1, k3.2.2.2⟩⟩ h3⟩
      have HALL := Lib.hid hall
      clear hE hall
      go_wp2_with fail
      refine (K1.out _ D.out).mono ?_
      rintro e w5 ⟨A1, q1, k1, rfl, hq, hq2, hi, hb⟩
      have J := Lib.hid (hb)
      have D := Lib.hid (nextB D.out J.out)
      clear c0 c1 c2 zC x3 x4 x5 zX
      have C := Lib.hid (C.out.up J.out)
      have X := Lib.hid (X.out.up J.out)
      have I1 := Lib.hid hi
      have Q1 := Lib.hid hq
      have Q2 := Lib.hid hq2
      clear hi hq hq2
      clear hb
      obtain ⟨c0, c1, c2⟩ := C.out
      have zC := C.out.lt
      have x3 : w5.cell? ⟨w.heap.size + 1, 3, none⟩ = some (.slice x.A1 x.n1 x.c1) := X.out.c 3 _ rfl
      have x4 : w5.cell? ⟨w.heap.size + 1, 4, none⟩ = some (.slice x.A2 x.n2 x.c2) := X.out.c 4 _ rfl
      have x5 : w5.cell? ⟨w.heap.size + 1, 5, none⟩ = some (.slice x.A3 x.n3 x.c3) := X.out.c 5 _ rfl
      have zX := X.out.lt
      by_cases hz : E = 0
      · subst hz
        obtain ⟨h1, h2, h3⟩ := HALL.out.1 rfl
        have H1 := Lib.hid h1
        have H2 := Lib.hid h2
        have H3 := Lib.hid h3
        have hq : q1 = x.n1 := Q1.out rfl
        subst hq
        have hn200 : x.n1 ≤ 200 := by have := h1.1.n2; have := h1.2.2.1; omega
        have HN12 : Hid (x.n2 = x.n1 ∧ x.n3 = x.n1) := Lib.hid ⟨by rw [h1.2.2.1, h2.2.2.1], by rw [h1.2.2.1, h3.2.2.1]⟩
        have HMD : Hid (IsR c x.n1 (fun i => med (x.Z1 i) (x.Z2 i) (x.Z3 i))) := Lib.hid ⟨h1.1, h1.2.1, h1.2.2.1, Rdg.med h1.2.2.2 h2.2.2.2 h3.2.2.2⟩
        have HBD : Hid (∀ i, i < x.n1 → (0 ≤ x.Z1 i ∧ x.Z1 i ≤ 400) ∧ (0 ≤ x.Z2 i ∧ x.Z2 i ≤ 400) ∧ 0 ≤ x.Z3 i ∧ x.Z3 i ≤ 400) := Lib.hid fun i hi => ⟨h1.2.2.2.tick i (by have := h1.2.2.1; omega), h2.2.2.2.tick i (by have := h1.2.2.1; omega), h3.2.2.2.tick i (by have := h1.2.2.1; omega)⟩
        clear h1 h2 h3
        go_wp2_with fail
        refine (KI.out x.A1 x.n1 x.c1 x.Z1 true _ D.out (AA.out _ D.out).1 ⟨fun _ => H1.out, fun _ => rfl⟩).mono ?_
        rintro e w6 ⟨rfl, hb⟩
        have J := Lib.hid (hb)
        have D := Lib.hid (nextB D.out J.out)
        clear c0 c1 c2 zC x3 x4 x5 zX
        have C := Lib.hid (C.out.up J.out)
        have X := Lib.hid (X.out.up J.out)
        have I1 := Lib.hid (I1.out.up J.out)
        clear hb
        obtain ⟨c0, c1, c2⟩ := C.out
        have zC := C.out.lt
        have x3 : w6.cell? ⟨w.heap.size + 1, 3, none⟩ = some (.slice x.A1 x.n1 x.c1) := X.out.c 3 _ rfl
        have x4 : w6.cell? ⟨w.heap.size + 1, 4, none⟩ = some (.slice x.A2 x.n2 x.c2) := X.out.c 4 _ rfl
        have x5 : w6.cell? ⟨w.heap.size + 1, 5, none⟩ = some (.slice x.A3 x.n3 x.c3) := X.out.c 5 _ rfl
        have zX := X.out.lt
        go_wp2_with fail
        refine (KI.out x.A2 x.n2 x.c2 x.Z2 true _ D.out (AA.out _ D.out).2.1 ⟨fun _ => H2.out, fun _ => rfl⟩).mono ?_
        rintro e w7 ⟨rfl, hb⟩
        have J := Lib.hid (hb)
        have D := Lib.hid (nextB D.out J.out)
        clear c0 c1 c2 zC x3 x4 x5 zX
        have C := Lib.hid (C.out.up J.out)
        have X := Lib.hid (X.out.up J.out)
        have I1 := Lib.hid (I1.out.up J.out)
        clear hb
        obtain ⟨c0, c1, c2⟩ := C.out
        have zC := C.out.lt
        have x3 : w7.cell? ⟨w.heap.size + 1, 3, none⟩ = some (.slice x.A1 x.n1 x.c1) := X.out.c 3 _ rfl
        have x4 : w7.cell? ⟨w.heap.size + 1, 4, none⟩ = some (.slice x.A2 x.n2 x.c2) := X.out.c 4 _ rfl
        have x5 : w7.cell? ⟨w.heap.size + 1, 5, none⟩ = some (.slice x.A3 x.n3 x.c3) := X.out.c 5 _ rfl
        have zX := X.out.lt
        go_wp2_with fail
        refine (KI.out x.A3 x.n3 x.c3 x.Z3 true _ D.out (AA.out _ D.out).2.2 ⟨fun _ => H3.out, fun _ => rfl⟩).mono ?_
        rintro e w8 ⟨rfl, hb⟩
        have J := Lib.hid (hb)
        have D := Lib.hid (nextB D.out J.out)
        clear c0 c1 c2 zC x3 x4 x5 zX
        have C := Lib.hid (C.out.up J.out)
        have X := Lib.hid (X.out.up J.out)
        have I1 := Lib.hid (I1.out.up J.out)
        clear hb
        obtain ⟨c0, c1, c2⟩ := C.out
        have zC := C.out.lt
        have x3 : w8.cell? ⟨w.heap.size + 1, 3, none⟩ = some (.slice x.A1 x.n1 x.c1) := X.out.c 3 _ rfl
        have x4 : w8.cell? ⟨w.heap.size + 1, 4, none⟩ = some (.slice x.A2 x.n2 x.c2) := X.out.c 4 _ rfl
        have x5 : w8.cell? ⟨w.heap.size + 1, 5, none⟩ = some (.slice x.A3 x.n3 x.c3) := X.out.c 5 _ rfl
        have zX := X.out.lt
        go_wp2_with fail
        refine (KI.out A1 _ k1 _ true _ D.out I1.out ⟨fun _ => HMD.out, fun _ => rfl⟩).mono ?_
        rintro e w9 ⟨rfl, hb⟩
        have J := Lib.hid (hb)
        have D := Lib.hid (nextB D.out J.out)
        clear c0 c1 c2 zC x3 x4 x5 zX
        have C := Lib.hid (C.out.up J.out)
        have X := Lib.hid (X.out.up J.out)
        have I1 := Lib.hid (I1.out.up J.out)
        clear hb
        obtain ⟨c0, c1, c2⟩ := C.out
        have zC := C.out.lt
        have x3 : w9.cell? ⟨w.heap.size + 1, 3, none⟩ = some (.slice x.A1 x.n1 x.c1) := X.out.c 3 _ rfl
        have x4 : w9.cell? ⟨w.heap.size + 1, 4, none⟩ = some (.slice x.A2 x.n2 x.c2) := X.out.c 4 _ rfl
        have x5 : w9.cell? ⟨w.heap.size + 1, 5, none⟩ = some (.slice x.A3 x.n3 x.c3) := X.out.c 5 _ rfl
        have zX := X.out.lt
        go_wp2_with fail
        go_loopw [9, 10, 11] (fun i low high wr => ∃ z : Nat, z ≤ x.n1 ∧ i = .int .i64 (z : Int) ∧ Below w9.heap.size w9 wr) (fun i _ _ _ => x.n1 - (intOf i).toNat)
        case atStart => exact ⟨0, Nat.zero_le _, rfl, Below.refl _ _⟩
        case round =>
          obtain ⟨z, hz, rfl, hb⟩ := hrel
          obtain ⟨wo, rfl⟩ : ∃ wo : World, wo = wr := ⟨_, rfl⟩
          have HBO := Lib.hid hb
          have D := Lib.hid (nextB D.out hb)
          have X := Lib.hid (X.out.up hb)
          have I1 := Lib.hid (I1.out.up hb)
          have hz0 : (0 : Int) ≤ (z : Int) := by omega
          clear hb
          clear c0 c1 c2 zC x3 x4 x5 zX
          by_cases hlt : z < x.n1
          · have hzi : (z : Int) < (x.n1 : Int) := by omega
            obtain ⟨e2, e3⟩ := HN12.out
            have hz2 : z < x.n2 := by omega
            have hz3 : z < x.n3 := by omega
            have hzi2 : (z : Int) < (x.n2 : Int) := by omega
            have hzi3 : (z : Int) < (x.n3 : Int) := by omega
            obtain ⟨a1, ea1, _, r1⟩ := (AA.out wo D.out).1.2 z hlt
            obtain ⟨a2, ea2, _, r2⟩ := (AA.out wo D.out).2.1.2 z hz2
            obtain ⟨a3, ea3, _, r3⟩ := (AA.out wo D.out).2.2.2 z hz3
            obtain ⟨al, el, _, r4⟩ := I1.out.2 z hlt
            have x3 : wo.cell? ⟨w.heap.size + 1, 3, none⟩ = some (.slice x.A1 x.n1 x.c1) := X.out.c 3 _ rfl
            have x4 : wo.cell? ⟨w.heap.size + 1, 4, none⟩ = some (.slice x.A2 x.n2 x.c2) := X.out.c 4 _ rfl
            have x5 : wo.cell? ⟨w.heap.size + 1, 5, none⟩ = some (.slice x.A3 x.n3 x.c3) := X.out.c 5 _ rfl
            have zX := X.out.lt
            rw [ea1] at x3
            rw [ea2] at x4
            rw [ea3] at x5
            have hbd := HBD.out z hlt
            have em : (fun i => med (x.Z1 i) (x.Z2 i) (x.Z3 i)) z = max (min (x.Z1 z) (x.Z2 z)) (min (max (x.Z1 z) (x.Z2 z)) (x.Z3 z)) := rfl
            rw [em] at r4
            subst el
            have wz : IntKind.i64.wrap ((z : Int) + 1) = ((z + 1 : Nat) : Int) := by rw [show ((z : Int) + 1) = ((z + 1 : Nat) : Int) by omega]; exact IntWalk.i64_in _ (by omega)
            have WZ := Lib.hid wz
            clear e2 e3 ea1 ea2 ea3 em wz
            generalize x.Z1 z = p1 at *
            generalize x.Z2 z = p2 at *
            generalize x.Z3 z = p3 at *
            obtain ⟨md, hmd⟩ : ∃ md, md = max (min p1 p2) (min (max p1 p2) p3) := ⟨_, rfl⟩
            obtain ⟨lw, hlwi⟩ : ∃ lw, lw = if p3 < if p2 < p1 then p2 else p1 then p3 else if p2 < p1 then p2 else p1 := ⟨_, rfl⟩
            have hlw : lw = min (min p1 p2) p3 := by rw [hlwi]; split <;> split <;> omega
            obtain ⟨hg, hhgi⟩ : ∃ hg, hg = if (if p1 < p2 then p2 else p1) < p3 then p3 else if p1 < p2 then p2 else p1 := ⟨_, rfl⟩
            have hhg : hg = max (max p1 p2) p3 := by rw [hhgi]; split <;> split <;> omega
            rw [← hmd] at r4
            have HLW := Lib.hid hlwi
            have HHG := Lib.hid hhgi
            have hsum : md = p1 + p2 + p3 - lw - hg := by omega
            have u1 : IntKind.i64.wrap (p1 + p2) = p1 + p2 := IntWalk.i64_in _ (by omega)
            have u2 : IntKind.i64.wrap (p1 + p2 + p3) = p1 + p2 + p3 := IntWalk.i64_in _ (by omega)
            have u3 : IntKind.i64.wrap (p1 + p2 + p3 - lw) = p1 + p2 + p3 - lw := IntWalk.i64_in _ (by omega)
            have u4 : IntKind.i64.wrap (p1 + p2 + p3 - lw - hg) = md := by rw [hsum]; exact IntWalk.i64_in _ (by omega)
            have d1 : decide (md < lw) = false := decide_eq_false (by omega)
            have d2 : decide (hg < md) = false := decide_eq_false (by omega)
            have mm : (md != md) = false := by simp
            clear hmd hlw hhg hlwi hhgi hsum hbd mm
            go_wp2_with fail
            refine wp_region_M [] (fun w' => w'.cell? ⟨w.heap.size + 1, 3, none⟩ = some (.slice (some a1) x.n1 x.c1) ∧ w'.cell? ⟨w.heap.size + 1, 4, none⟩ = some (.slice (some a2) x.n2 x.c2) ∧ w'.cell? ⟨w.heap.size + 1, 5, none⟩ = some (.slice (some a3) x.n3 x.c3) ∧ w'.cell? (a1.add z) = some (.int .i64 p1) ∧ w'.cell? (a2.add z) = some (.int .i64 p2) ∧ w'.cell? (a3.add z) = some (.int .i64 p3) ∧ w'.cell? (al.add z) = some (.int .i64 md)) (by kernel_rfl) (by kernel_rfl) (by (try dsimp only); (repeat' apply And.intro); all_goals first | assumption | (go_simp; done)) (fun hT0 => ?_)
            refine M_take (v := ?_) 0 rfl (by kernel_rfl) (by assumption) (fun _ _ _ h => h) (Or.inl ⟨by rfl, ?_⟩) ?_
            rotate_left
            · (intro w hSw; (try dsimp only at hSw); go_simp; (try with_reducible rfl))
            (try simp only [Act.put, List.setIfInBounds_toArray, List.set_cons_zero, List.set_cons_succ])
            refine M_take (v := ?_) 1 rfl (by kernel_rfl) (by assumption) (fun _ _ _ h => h) (Or.inl ⟨by rfl, ?_⟩) ?_
            rotate_left
            · (intro w hSw; (try dsimp only at hSw); go_simp; (try with_reducible rfl))
            (try simp only [Act.put, List.setIfInBounds_toArray, List.set_cons_zero, List.set_cons_succ])
            refine M_take (v := ?_) 2 rfl (by kernel_rfl) (by assumption) (fun _ _ _ h => h) (Or.inl ⟨by rfl, ?_⟩) ?_
            rotate_left
            · (intro w hSw; (try dsimp only at hSw); go_simp; (try with_reducible rfl))
            (try simp only [Act.put, List.setIfInBounds_toArray, List.set_cons_zero, List.set_cons_succ])
            refine M_take (v := ?_) 3 rfl (by kernel_rfl) (by assumption) (fun _ _ _ h => h) (Or.inl ⟨by rfl, ?_⟩) ?_
            rotate_left
            · (intro w hSw; (try dsimp only at hSw); go_simp; (try with_reducible rfl))
            (try simp only [Act.put, List.setIfInBounds_toArray, List.set_cons_zero, List.set_cons_succ])
            refine M_take (v := ?_) 4 rfl (by kernel_rfl) (by assumption) (fun _ _ _ h => h) (Or.inl ⟨by rfl, ?_⟩) ?_
            rotate_left
            · (intro w hSw; (try dsimp only at hSw); go_simp; (try with_reducible rfl))
            (try simp only [Act.put, List.setIfInBounds_toArray, List.set_cons_zero, List.set_cons_succ])
            refine M_take (v := ?_) 5 rfl (by kernel_rfl) (by assumption) (fun _ _ _ h => h) (Or.inl ⟨by rfl, ?_⟩) ?_
            rotate_left
            · (intro w hSw; (try dsimp only at hSw); go_simp; (try with_reducible rfl))
            (try simp only [Act.put, List.setIfInBounds_toArray, List.set_cons_zero, List.set_cons_succ])
            refine M_take (v := ?_) 6 rfl (by kernel_rfl) (by assumption) (fun _ _ _ h => h) (Or.inl ⟨by rfl, ?_⟩) ?_
            rotate_left
            · (intro w hSw; (try dsimp only at hSw); go_simp; (try with_reducible rfl))
            (try simp only [Act.put, List.setIfInBounds_toArray, List.set_cons_zero, List.set_cons_succ])
            refine M_take (v := ?_) 7 rfl (by kernel_rfl) (by assumption) (fun _ _ _ h => h) (Or.inl ⟨by rfl, ?_⟩) ?_
            rotate_left
            · (intro w hSw; (try dsimp only at hSw); go_simp; (try with_reducible rfl))
            (try simp only [Act.put, List.setIfInBounds_toArray, List.set_cons_zero, List.set_cons_succ])
            refine M_take (v := ?_) 8 rfl (by kernel_rfl) (by assumption) (fun _ _ _ h => h) (Or.inl ⟨by rfl, ?_⟩) ?_
            rotate_left
            · (intro w hSw; (try dsimp only at hSw); go_simp; (try with_reducible rfl))
            (try simp only [Act.put, List.setIfInBounds_toArray, List.set_cons_zero, List.set_cons_succ])
            refine M_take (v := ?_) 9 rfl (by kernel_rfl) (by assumption) (fun _ _ _ h => h) (Or.inl ⟨by rfl, ?_⟩) ?_
            rotate_left
            · (intro w hSw; (try dsimp only at hSw); go_simp; (try with_reducible rfl))
            (try simp only [Act.put, List.setIfInBounds_toArray, List.set_cons_zero, List.set_cons_succ])
            refine M_take (v := ?_) 10 rfl (by kernel_rfl) (by assumption) (fun _ _ _ h => h) (Or.inl ⟨by rfl, ?_⟩) ?_
            rotate_left
            · (intro w hSw; (try dsimp only at hSw); go_simp; (try with_reducible rfl))
            (try simp only [Act.put, List.setIfInBounds_toArray, List.set_cons_zero, List.set_cons_succ])
            refine M_take (v := ?_) 11 rfl (by kernel_rfl) (by assumption) (fun _ _ _ h => h) (Or.inl ⟨by rfl, ?_⟩) ?_
            rotate_left
            · (intro w hSw; (try dsimp only at hSw); go_simp; (try with_reducible rfl))
            (try simp only [Act.put, List.setIfInBounds_toArray, List.set_cons_zero, List.set_cons_succ])
            refine M_take (v := ?_) 12 rfl (by kernel_rfl) (by assumption) (fun _ _ _ h => h) (Or.inl ⟨by rfl, ?_⟩) ?_
            rotate_left
            · (intro w hSw; (try dsimp only at hSw); go_simp; (try with_reducible rfl))
            (try simp only [Act.put, List.setIfInBounds_toArray, List.set_cons_zero, List.set_cons_succ])
            refine M_take (v := ?_) 13 rfl (by kernel_rfl) (by assumption) (fun _ _ _ h => h) (Or.inl ⟨by rfl, ?_⟩) ?_
            rotate_left
            · (intro w hSw; (try dsimp only at hSw); go_simp; (try with_reducible rfl))
            (try simp only [Act.put, List.setIfInBounds_toArray, List.set_cons_zero, List.set_cons_succ])
            refine M_take (v := ?_) 14 rfl (by kernel_rfl) (by assumption) (fun _ _ _ h => h) (Or.inl ⟨by rfl, ?_⟩) ?_
            rotate_left
            · (intro w hSw; (try dsimp only at hSw); go_simp; (try with_reducible rfl))
            (try simp only [Act.put, List.setIfInBounds_toArray, List.set_cons_zero, List.set_cons_succ])
            refine M_take (v := ?_) 15 rfl (by kernel_rfl) (by assumption) (fun _ _ _ h => h) (Or.inl ⟨by rfl, ?_⟩) ?_
            rotate_left
            · (intro w hSw; (try dsimp only at hSw); go_simp; (try with_reducible rfl))
            (try simp only [Act.put, List.setIfInBounds_toArray, List.set_cons_zero, List.set_cons_succ])
            refine M_step 16 rfl (by kernel_rfl) (fun K hK => ?_)
            go_simp
            refine hK.out _ _ (fun _ => by assumption) ?_
            clear hK K
            (try simp only [Act.put, List.setIfInBounds_toArray, List.set_cons_zero, List.set_cons_succ])
            refine M_done (by kernel_rfl) ?_ _
            rw [← HLW.out]
            have hTA := hT0
            clear hT0
            obtain ⟨wA, hwA⟩ : ∃ W : World, W = wo.drew := ⟨_, rfl⟩
            have HBA : Hid (Below wo.heap.size wo wA) := Lib.hid (by rw [hwA]; exact (Below.refl _ _).drew)
            rw [← hwA] at hTA ⊢
            clear hwA x3 x4 x5 r1 r2 r3 r4
            obtain ⟨x3, x4, x5, r1, r2, r3, r4⟩ := hTA
            go_wp2_with fail
            refine wp_region_M [] (fun w' => w'.cell? ⟨w.heap.size + 1, 3, none⟩ = some (.slice (some a1) x.n1 x.c1) ∧ w'.cell? ⟨w.heap.size + 1, 4, none⟩ = some (.slice (some a2) x.n2 x.c2) ∧ w'.cell? ⟨w.heap.size + 1, 5, none⟩ = some (.slice (some a3) x.n3 x.c3) ∧ w'.cell? (a1.add z) = some (.int .i64 p1) ∧ w'.cell? (a2.add z) = some (.int .i64 p2) ∧ w'.cell? (a3.add z) = some (.int .i64 p3) ∧ w'.cell? (al.add z) = some (.int .i64 md)) (by kernel_rfl) (by kernel_rfl) (by (try dsimp only); (repeat' apply And.intro); all_goals first | assumption | (go_simp; done)) (fun hT0 => ?_)
            refine M_take (v := ?_) 0 rfl (by kernel_rfl) (by assumption) (fun _ _ _ h => h) (Or.inl ⟨by rfl, ?_⟩) ?_
            rotate_left
            · (intro w hSw; (try dsimp only at hSw); go_simp; (try with_reducible rfl))
            (try simp only [Act.put, List.setIfInBounds_toArray, List.set_cons_zero, List.set_cons_succ])
            refine M_take (v := ?_) 1 rfl (by kernel_rfl) (by assumption) (fun _ _ _ h => h) (Or.inl ⟨by rfl, ?_⟩) ?_
            rotate_left
            · (intro w hSw; (try dsimp only at hSw); go_simp; (try with_reducible rfl))
            (try simp only [Act.put, List.setIfInBounds_toArray, List.set_cons_zero, List.set_cons_succ])
            refine M_take (v := ?_) 2 rfl (by kernel_rfl) (by assumption) (fun _ _ _ h => h) (Or.inl ⟨by rfl, ?_⟩) ?_
            rotate_left
            · (intro w hSw; (try dsimp only at hSw); go_simp; (try with_reducible rfl))
            (try simp only [Act.put, List.setIfInBounds_toArray, List.set_cons_zero, List.set_cons_succ])
            refine M_take (v := ?_) 3 rfl (by kernel_rfl) (by assumption) (fun _ _ _ h => h) (Or.inl ⟨by rfl, ?_⟩) ?_
            rotate_left
            · (intro w hSw; (try dsimp only at hSw); go_simp; (try with_reducible rfl))
            (try simp only [Act.put, List.setIfInBounds_toArray, List.set_cons_zero, List.set_cons_succ])
            refine M_take (v := ?_) 4 rfl (by kernel_rfl) (by assumption) (fun _ _ _ h => h) (Or.inl ⟨by rfl, ?_⟩) ?_
            rotate_left
            · (intro w hSw; (try dsimp only at hSw); go_simp; (try with_reducible rfl))
            (try simp only [Act.put, List.setIfInBounds_toArray, List.set_cons_zero, List.set_cons_succ])
            refine M_take (v := ?_) 5 rfl (by kernel_rfl) (by assumption) (fun _ _ _ h => h) (Or.inl ⟨by rfl, ?_⟩) ?_
            rotate_left
            · (intro w hSw; (try dsimp only at hSw); go_simp; (try with_reducible rfl))
            (try simp only [Act.put, List.setIfInBounds_toArray, List.set_cons_zero, List.set_cons_succ])
            refine M_take (v := ?_) 6 rfl (by kernel_rfl) (by assumption) (fun _ _ _ h => h) (Or.inl ⟨by rfl, ?_⟩) ?_
            rotate_left
            · (intro w hSw; (try dsimp only at hSw); go_simp; (try with_reducible rfl))
            (try simp only [Act.put, List.setIfInBounds_toArray, List.set_cons_zero, List.set_cons_succ])
            refine M_take (v := ?_) 7 rfl (by kernel_rfl) (by assumption) (fun _ _ _ h => h) (Or.inl ⟨by rfl, ?_⟩) ?_
            rotate_left
            · (intro w hSw; (try dsimp only at hSw); go_simp; (try with_reducible rfl))
            (try simp only [Act.put, List.setIfInBounds_toArray, List.set_cons_zero, List.set_cons_succ])
            refine M_take (v := ?_) 8 rfl (by kernel_rfl) (by assumption) (fun _ _ _ h => h) (Or.inl ⟨by rfl, ?_⟩) ?_
            rotate_left
            · (intro w hSw; (try dsimp only at hSw); go_simp; (try with_reducible rfl))
            (try simp only [Act.put, List.setIfInBounds_toArray, List.set_cons_zero, List.set_cons_succ])
            refine M_take (v := ?_) 9 rfl (by kernel_rfl) (by assumption) (fun _ _ _ h => h) (Or.inl ⟨by rfl, ?_⟩) ?_
            rotate_left
            · (intro w hSw; (try dsimp only at hSw); go_simp; (try with_reducible rfl))
            (try simp only [Act.put, List.setIfInBounds_toArray, List.set_cons_zero, List.set_cons_succ])
            refine M_take (v := ?_) 10 rfl (by kernel_rfl) (by assumption) (fun _ _ _ h => h) (Or.inl ⟨by rfl, ?_⟩) ?_
            rotate_left
            · (intro w hSw; (try dsimp only at hSw); go_simp; (try with_reducible rfl))
            (try simp only [Act.put, List.setIfInBounds_toArray, List.set_cons_zero, List.set_cons_succ])
            refine M_take (v := ?_) 11 rfl (by kernel_rfl) (by assumption) (fun _ _ _ h => h) (Or.inl ⟨by rfl, ?_⟩) ?_
            rotate_left
            · (intro w hSw; (try dsimp only at hSw); go_simp; (try with_reducible rfl))
            (try simp only [Act.put, List.setIfInBounds_toArray, List.set_cons_zero, List.set_cons_succ])
            refine M_take (v := ?_) 12 rfl (by kernel_rfl) (by assumption) (fun _ _ _ h => h) (Or.inl ⟨by rfl, ?_⟩) ?_
            rotate_left
            · (intro w hSw; (try dsimp only at hSw); go_simp; (try with_reducible rfl))
            (try simp only [Act.put, List.setIfInBounds_toArray, List.set_cons_zero, List.set_cons_succ])
            refine M_take (v := ?_) 13 rfl (by kernel_rfl) (by assumption) (fun _ _ _ h => h) (Or.inl ⟨by rfl, ?_⟩) ?_
            rotate_left
            · (intro w hSw; (try dsimp only at hSw); go_simp; (try with_reducible rfl))
            (try simp only [Act.put, List.setIfInBounds_toArray, List.set_cons_zero, List.set_cons_succ])
            refine M_take (v := ?_) 14 rfl (by kernel_rfl) (by assumption) (fun _ _ _ h => h) (Or.inl ⟨by rfl, ?_⟩) ?_
            rotate_left
            · (intro w hSw; (try dsimp only at hSw); go_simp; (try with_reducible rfl))
            (try simp only [Act.put, List.setIfInBounds_toArray, List.set_cons_zero, List.set_cons_succ])
            refine M_take (v := ?_) 15 rfl (by kernel_rfl) (by assumption) (fun _ _ _ h => h) (Or.inl ⟨by rfl, ?_⟩) ?_
            rotate_left
            · (intro w hSw; (try dsimp only at hSw); go_simp; (try with_reducible rfl))
            (try simp only [Act.put, List.setIfInBounds_toArray, List.set_cons_zero, List.set_cons_succ])
            refine M_step 16 rfl (by kernel_rfl) (fun K hK => ?_)
            go_simp
            refine hK.out _ _ (fun _ => by assumption) ?_
            clear hK K
            (try simp only [Act.put, List.setIfInBounds_toArray, List.set_cons_zero, List.set_cons_succ])
            refine M_done (by kernel_rfl) ?_ _
            rw [← HHG.out]
            have hTB := hT0
            clear hT0
            obtain ⟨wB, hwB⟩ : ∃ W : World, W = wA.drew := ⟨_, rfl⟩
            have HBB : Hid (Below wo.heap.size wo wB) := Lib.hid (by rw [hwB]; exact HBA.out.drew)
            rw [← hwB] at hTB ⊢
            clear hwB x3 x4 x5 r1 r2 r3 r4
            obtain ⟨x3, x4, x5, r1, r2, r3, r4⟩ := hTB
            go_wp2_with fail
            refine wp_region_M [] (fun w' => w'.cell? ⟨w.heap.size + 1, 3, none⟩ = some (.slice (some a1) x.n1 x.c1) ∧ w'.cell? ⟨w.heap.size + 1, 4, none⟩ = some (.slice (some a2) x.n2 x.c2) ∧ w'.cell? ⟨w.heap.size + 1, 5, none⟩ = some (.slice (some a3) x.n3 x.c3) ∧ w'.cell? (a1.add z) = some (.int .i64 p1) ∧ w'.cell? (a2.add z) = some (.int .i64 p2) ∧ w'.cell? (a3.add z) = some (.int .i64 p3) ∧ w'.cell? (al.add z) = some (.int .i64 md)) (by kernel_rfl) (by kernel_rfl) (by (try dsimp only); (repeat' apply And.intro); all_goals first | assumption | (go_simp; done)) (fun hT0 => ?_)
            refine M_take (v := ?_) 0 rfl (by kernel_rfl) (by assumption) (fun _ _ _ h => h) (Or.inl ⟨by rfl, ?_⟩) ?_
            rotate_left
            · (intro w hSw; (try dsimp only at hSw); go_simp; (try with_reducible rfl))
            (try simp only [Act.put, List.setIfInBounds_toArray, List.set_cons_zero, List.set_cons_succ])
            refine M_take (v := ?_) 1 rfl (by kernel_rfl) (by assumption) (fun _ _ _ h => h) (Or.inl ⟨by rfl, ?_⟩) ?_
            rotate_left
            · (intro w hSw; (try dsimp only at hSw); go_simp; (try with_reducible rfl))
            (try simp only [Act.put, List.setIfInBounds_toArray, List.set_cons_zero, List.set_cons_succ])
            refine M_take (v := ?_) 2 rfl (by kernel_rfl) (by assumption) (fun _ _ _ h => h) (Or.inl ⟨by rfl, ?_⟩) ?_
            rotate_left
            · (intro w hSw; (try dsimp only at hSw); go_simp; (try with_reducible rfl))
            (try simp only [Act.put, List.setIfInBounds_toArray, List.set_cons_zero, List.set_cons_succ])
            refine M_take (v := ?_) 3 rfl (by kernel_rfl) (by assumption) (fun _ _ _ h => h) (Or.inl ⟨by rfl, ?_⟩) ?_
            rotate_left
            · (intro w hSw; (try dsimp only at hSw); go_simp; (try with_reducible rfl))
            (try simp only [Act.put, List.setIfInBounds_toArray, List.set_cons_zero, List.set_cons_succ])
            refine M_take (v := ?_) 4 rfl (by kernel_rfl) (by assumption) (fun _ _ _ h => h) (Or.inl ⟨by rfl, ?_⟩) ?_
            rotate_left
            · (intro w hSw; (try dsimp only at hSw); go_simp; (try with_reducible rfl))
            (try simp only [Act.put, List.setIfInBounds_toArray, List.set_cons_zero, List.set_cons_succ])
            refine M_take (v := ?_) 5 rfl (by kernel_rfl) (by assumption) (fun _ _ _ h => h) (Or.inl ⟨by rfl, ?_⟩) ?_
            rotate_left
            · (intro w hSw; (try dsimp only at hSw); go_simp; (try with_reducible rfl))
            (try simp only [Act.put, List.setIfInBounds_toArray, List.set_cons_zero, List.set_cons_succ])
            refine M_take (v := ?_) 6 rfl (by kernel_rfl) (by assumption) (fun _ _ _ h => h) (Or.inl ⟨by rfl, ?_⟩) ?_
            rotate_left
            · (intro w hSw; (try dsimp only at hSw); go_simp; (try with_reducible rfl))
            (try simp only [Act.put, List.setIfInBounds_toArray, List.set_cons_zero, List.set_cons_succ])
            refine M_take (v := ?_) 7 rfl (by kernel_rfl) (by assumption) (fun _ _ _ h => h) (Or.inl ⟨by rfl, ?_⟩) ?_
            rotate_left
            · (intro w hSw; (try dsimp only at hSw); go_simp; (try with_reducible rfl))
            (try simp only [Act.put, List.setIfInBounds_toArray, List.set_cons_zero, List.set_cons_succ])
            refine M_take (v := ?_) 8 rfl (by kernel_rfl) (by assumption) (fun _ _ _ h => h) (Or.inl ⟨by rfl, ?_⟩) ?_
            rotate_left
            · (intro w hSw; (try dsimp only at hSw); go_simp; (try with_reducible rfl))
            (try simp only [Act.put, List.setIfInBounds_toArray, List.set_cons_zero, List.set_cons_succ])
            refine M_take (v := ?_) 9 rfl (by kernel_rfl) (by assumption) (fun _ _ _ h => h) (Or.inl ⟨by rfl, ?_⟩) ?_
            rotate_left
            · (intro w hSw; (try dsimp only at hSw); go_simp; (try with_reducible rfl))
            (try simp only [Act.put, List.setIfInBounds_toArray, List.set_cons_zero, List.set_cons_succ])
            refine M_take (v := ?_) 10 rfl (by kernel_rfl) (by assumption) (fun _ _ _ h => h) (Or.inl ⟨by rfl, ?_⟩) ?_
            rotate_left
            · (intro w hSw; (try dsimp only at hSw); go_simp; (try with_reducible rfl))
            (try simp only [Act.put, List.setIfInBounds_toArray, List.set_cons_zero, List.set_cons_succ])
            refine M_take (v := ?_) 11 rfl (by kernel_rfl) (by assumption) (fun _ _ _ h => h) (Or.inl ⟨by rfl, ?_⟩) ?_
            rotate_left
            · (intro w hSw; (try dsimp only at hSw); go_simp; (try with_reducible rfl))
            (try simp only [Act.put, List.setIfInBounds_toArray, List.set_cons_zero, List.set_cons_succ])
            refine M_take (v := ?_) 12 rfl (by kernel_rfl) (by assumption) (fun _ _ _ h => h) (Or.inl ⟨by rfl, ?_⟩) ?_
            rotate_left
            · (intro w hSw; (try dsimp only at hSw); go_simp; (try with_reducible rfl))
            (try simp only [Act.put, List.setIfInBounds_toArray, List.set_cons_zero, List.set_cons_succ])
            refine M_take (v := ?_) 13 rfl (by kernel_rfl) (by assumption) (fun _ _ _ h => h) (Or.inl ⟨by rfl, ?_⟩) ?_
            rotate_left
            · (intro w hSw; (try dsimp only at hSw); go_simp; (try with_reducible rfl))
            (try simp only [Act.put, List.setIfInBounds_toArray, List.set_cons_zero, List.set_cons_succ])
            refine M_take (v := ?_) 14 rfl (by kernel_rfl) (by assumption) (fun _ _ _ h => h) (Or.inl ⟨by rfl, ?_⟩) ?_
            rotate_left
            · (intro w hSw; (try dsimp only at hSw); go_simp; (try with_reducible rfl))
            (try simp only [Act.put, List.setIfInBounds_toArray, List.set_cons_zero, List.set_cons_succ])
            refine M_take (v := ?_) 15 rfl (by kernel_rfl) (by assumption) (fun _ _ _ h => h) (Or.inl ⟨by rfl, ?_⟩) ?_
            rotate_left
            · (intro w hSw; (try dsimp only at hSw); go_simp; (try with_reducible rfl))
            (try simp only [Act.put, List.setIfInBounds_toArray, List.set_cons_zero, List.set_cons_succ])
            refine M_take (v := ?_) 16 rfl (by kernel_rfl) (by assumption) (fun _ _ _ h => h) (Or.inl ⟨by rfl, ?_⟩) ?_
            rotate_left
            · (intro w hSw; (try dsimp only at hSw); go_simp; (try with_reducible rfl))
            (try simp only [Act.put, List.setIfInBounds_toArray, List.set_cons_zero, List.set_cons_succ])
            refine M_take (v := ?_) 17 rfl (by kernel_rfl) (by assumption) (fun _ _ _ h => h) (Or.inl ⟨by rfl, ?_⟩) ?_
            rotate_left
            · (intro w hSw; (try dsimp only at hSw); go_simp; (try with_reducible rfl))
            (try simp only [Act.put, List.setIfInBounds_toArray, List.set_cons_zero, List.set_cons_succ])
            refine M_take (v := ?_) 18 rfl (by kernel_rfl) (by assumption) (fun _ _ _ h => h) (Or.inl ⟨by rfl, ?_⟩) ?_
            rotate_left
            · (intro w hSw; (try dsimp only at hSw); go_simp; (try with_reducible rfl))
            (try simp only [Act.put, List.setIfInBounds_toArray, List.set_cons_zero, List.set_cons_succ])
            refine M_take (v := ?_) 19 rfl (by kernel_rfl) (by assumption) (fun _ _ _ h => h) (Or.inl ⟨by rfl, ?_⟩) ?_
            rotate_left
            · (intro w hSw; (try dsimp only at hSw); go_simp; (try with_reducible rfl))
            (try simp only [Act.put, List.setIfInBounds_toArray, List.set_cons_zero, List.set_cons_succ])
            refine M_take (v := ?_) 20 rfl (by kernel_rfl) (by assumption) (fun _ _ _ h => h) (Or.inl ⟨by rfl, ?_⟩) ?_
            rotate_left
            · (intro w hSw; (try dsimp only at hSw); go_simp; (try with_reducible rfl))
            (try simp only [Act.put, List.setIfInBounds_toArray, List.set_cons_zero, List.set_cons_succ])
            refine M_take (v := ?_) 21 rfl (by kernel_rfl) (by assumption) (fun _ _ _ h => h) (Or.inl ⟨by rfl, ?_⟩) ?_
            rotate_left
            · (intro w hSw; (try dsimp only at hSw); go_simp; (try with_reducible rfl))
            (try simp only [Act.put, List.setIfInBounds_toArray, List.set_cons_zero, List.set_cons_succ])
            refine M_take (v := ?_) 22 rfl (by kernel_rfl) (by assumption) (fun _ _ _ h => h) (Or.inl ⟨by rfl, ?_⟩) ?_
            rotate_left
            · (intro w hSw; (try dsimp only at hSw); go_simp; (try with_reducible rfl))
            (try simp only [Act.put, List.setIfInBounds_toArray, List.set_cons_zero, List.set_cons_succ])
            refine M_take (v := ?_) 23 rfl (by kernel_rfl) (by assumption) (fun _ _ _ h => h) (Or.inl ⟨by rfl, ?_⟩) ?_
            rotate_left
            · (intro w hSw; (try dsimp only at hSw); go_simp; (try with_reducible rfl))
            (try simp only [Act.put, List.setIfInBounds_toArray, List.set_cons_zero, List.set_cons_succ])
            refine M_take (v := ?_) 24 rfl (by kernel_rfl) (by assumption) (fun _ _ _ h => h) (Or.inl ⟨by rfl, ?_⟩) ?_
            rotate_left
            · (intro w hSw; (try dsimp only at hSw); go_simp; (try with_reducible rfl))
            (try simp only [Act.put, List.setIfInBounds_toArray, List.set_cons_zero, List.set_cons_succ])
            refine M_take (v := ?_) 25 rfl (by kernel_rfl) (by assumption) (fun _ _ _ h => h) (Or.inl ⟨by rfl, ?_⟩) ?_
            rotate_left
            · (intro w hSw; (try dsimp only at hSw); go_simp; (try with_reducible rfl))
            (try simp only [Act.put, List.setIfInBounds_toArray, List.set_cons_zero, List.set_cons_succ])
            refine M_take (v := ?_) 26 rfl (by kernel_rfl) (by assumption) (fun _ _ _ h => h) (Or.inl ⟨by rfl, ?_⟩) ?_
            rotate_left
            · (intro w hSw; (try dsimp only at hSw); go_simp; (try with_reducible rfl))
            (try simp only [Act.put, List.setIfInBounds_toArray, List.set_cons_zero, List.set_cons_succ])
            refine M_take (v := ?_) 27 rfl (by kernel_rfl) (by assumption) (fun _ _ _ h => h) (Or.inl ⟨by rfl, ?_⟩) ?_
            rotate_left
            · (intro w hSw; (try dsimp only at hSw); go_simp; (try with_reducible rfl))
            (try simp only [Act.put, List.setIfInBounds_toArray, List.set_cons_zero, List.set_cons_succ])
            refine M_take (v := ?_) 28 rfl (by kernel_rfl) (by assumption) (fun _ _ _ h => h) (Or.inl ⟨by rfl, ?_⟩) ?_
            rotate_left
            · (intro w hSw; (try dsimp only at hSw); go_simp; (try with_reducible rfl))
            (try simp only [Act.put, List.setIfInBounds_toArray, List.set_cons_zero, List.set_cons_succ])
            refine M_take (v := ?_) 29 rfl (by kernel_rfl) (by assumption) (fun _ _ _ h => h) (Or.inl ⟨by rfl, ?_⟩) ?_
            rotate_left
            · (intro w hSw; (try dsimp only at hSw); go_simp; (try with_reducible rfl))
            (try simp only [Act.put, List.setIfInBounds_toArray, List.set_cons_zero, List.set_cons_succ])
            refine M_take (v := ?_) 30 rfl (by kernel_rfl) (by assumption) (fun _ _ _ h => h) (Or.inl ⟨by rfl, ?_⟩) ?_
            rotate_left
            · (intro w hSw; (try dsimp only at hSw); go_simp; (try with_reducible rfl))
            (try simp only [Act.put, List.setIfInBounds_toArray, List.set_cons_zero, List.set_cons_succ])
            refine M_take (v := ?_) 31 rfl (by kernel_rfl) (by assumption) (fun _ _ _ h => h) (Or.inl ⟨by rfl, ?_⟩) ?_
            rotate_left
            · (intro w hSw; (try dsimp only at hSw); go_simp; (try with_reducible rfl))
            (try simp only [Act.put, List.setIfInBounds_toArray, List.set_cons_zero, List.set_cons_succ])
            refine M_take (v := ?_) 32 rfl (by kernel_rfl) (by assumption) (fun _ _ _ h => h) (Or.inl ⟨by rfl, ?_⟩) ?_
            rotate_left
            · (intro w hSw; (try dsimp only at hSw); go_simp; (try with_reducible rfl))
            (try simp only [Act.put, List.setIfInBounds_toArray, List.set_cons_zero, List.set_cons_succ])
            refine M_take (v := ?_) 33 rfl (by kernel_rfl) (by assumption) (fun _ _ _ h => h) (Or.inl ⟨by rfl, ?_⟩) ?_
            rotate_left
            · (intro w hSw; (try dsimp only at hSw); go_simp; (try with_reducible rfl))
            (try simp only [Act.put, List.setIfInBounds_toArray, List.set_cons_zero, List.set_cons_succ])
            refine M_take (v := ?_) 34 rfl (by kernel_rfl) (by assumption) (fun _ _ _ h => h) (Or.inl ⟨by rfl, ?_⟩) ?_
            rotate_left
            · (intro w hSw; (try dsimp only at hSw); go_simp; (try with_reducible rfl))
            (try simp only [Act.put, List.setIfInBounds_toArray, List.set_cons_zero, List.set_cons_succ])
            refine M_take (v := ?_) 35 rfl (by kernel_rfl) (by assumption) (fun _ _ _ h => h) (Or.inl ⟨by rfl, ?_⟩) ?_
            rotate_left
            · (intro w hSw; (try dsimp only at hSw); go_simp; (try with_reducible rfl))
            (try simp only [Act.put, List.setIfInBounds_toArray, List.set_cons_zero, List.set_cons_succ])
            refine M_take (v := ?_) 36 rfl (by kernel_rfl) (by assumption) (fun _ _ _ h => h) (Or.inl ⟨by rfl, ?_⟩) ?_
            rotate_left
            · (intro w hSw; (try dsimp only at hSw); go_simp; (try with_reducible rfl))
            (try simp only [Act.put, List.setIfInBounds_toArray, List.set_cons_zero, List.set_cons_succ])
            refine M_take (v := ?_) 37 rfl (by kernel_rfl) (by assumption) (fun _ _ _ h => h) (Or.inl ⟨by rfl, ?_⟩) ?_
            rotate_left
            · (intro w hSw; (try dsimp only at hSw); go_simp; (try with_reducible rfl))
            (try simp only [Act.put, List.setIfInBounds_toArray, List.set_cons_zero, List.set_cons_succ])
            refine M_take (v := ?_) 38 rfl (by kernel_rfl) (by assumption) (fun _ _ _ h => h) (Or.inl ⟨by rfl, ?_⟩) ?_
            rotate_left
            · (intro w hSw; (try dsimp only at hSw); go_simp; (try with_reducible rfl))
            (try simp only [Act.put, List.setIfInBounds_toArray, List.set_cons_zero, List.set_cons_succ])
            refine M_take (v := ?_) 39 rfl (by kernel_rfl) (by assumption) (fun _ _ _ h => h) (Or.inl ⟨by rfl, ?_⟩) ?_
            rotate_left
            · (intro w hSw; (try dsimp only at hSw); go_simp; (try with_reducible rfl))
            (try simp only [Act.put, List.setIfInBounds_toArray, List.set_cons_zero, List.set_cons_succ])
            refine M_take (v := ?_) 40 rfl (by kernel_rfl) (by assumption) (fun _ _ _ h => h) (Or.inl ⟨by rfl, ?_⟩) ?_
            rotate_left
            · (intro w hSw; (try dsimp only at hSw); go_simp; (try with_reducible rfl))
            (try simp only [Act.put, List.setIfInBounds_toArray, List.set_cons_zero, List.set_cons_succ])
            refine M_take (v := ?_) 41 rfl (by kernel_rfl) (by assumption) (fun _ _ _ h => h) (Or.inl ⟨by rfl, ?_⟩) ?_
            rotate_left
            · (intro w hSw; (try dsimp only at hSw); go_simp; (try with_reducible rfl))
            (try simp only [Act.put, List.setIfInBounds_toArray, List.set_cons_zero, List.set_cons_succ])
            refine M_done (by kernel_rfl) ?_ _
            clear hT0 x3 x4 x5 r1 r2 r3 r4
            have wz := WZ.out
            go_wp2_with fail
            go_roundw
            case rel => exact ⟨z + 1, by omega, by go_num, nextB HBO.out (HBB.out.drew)⟩
            case measure => simp [intOf]; omega
          · obtain rfl : x.n1 = z := by omega
            have hnl : ¬ ((x.n1 : Int) < (x.n1 : Int)) := by omega
            go_wp2_with fail
            go_ret
            exact ⟨rfl, D.out⟩
      · have hn1 : (E != 0) = true := by simpa using hz
        have hq : q1 = 0 := Q2.out hz
        subst hq
        have hno : ¬ (IsR c x.n1 x.Z1 ∧ IsR c x.n2 x.Z2 ∧ IsR c x.n3 x.Z3) := fun h => hz (HALL.out.2 h)
        have HNO := Lib.hid hno
        obtain ⟨G1, hG1⟩ := bool_of (IsR c x.n1 x.Z1)
        obtain ⟨G2, hG2⟩ := bool_of (IsR c x.n2 x.Z2)
        have HG1 := Lib.hid hG1
        have HG2 := Lib.hid hG2
        clear hno hG1 hG2 hz
        go_wp2_with fail
        refine (KI.out x.A1 x.n1 x.c1 x.Z1 G1 _ D.out (AA.out _ D.out).1 HG1.out).mono ?_
        rintro e w6 ⟨rfl, hb⟩
        have J := Lib.hid (hb)
        have D := Lib.hid (nextB D.out J.out)
        clear c0 c1 c2 zC x3 x4 x5 zX
        have C := Lib.hid (C.out.up J.out)
        have X := Lib.hid (X.out.up J.out)
        have I1 := Lib.hid (I1.out.up J.out)
        clear hb
        obtain ⟨c0, c1, c2⟩ := C.out
        have zC := C.out.lt
        have x3 : w6.cell? ⟨w.heap.size + 1, 3, none⟩ = some (.slice x.A1 x.n1 x.c1) := X.out.c 3 _ rfl
        have x4 : w6.cell? ⟨w.heap.size + 1, 4, none⟩ = some (.slice x.A2 x.n2 x.c2) := X.out.c 4 _ rfl
        have x5 : w6.cell? ⟨w.heap.size + 1, 5, none⟩ = some (.slice x.A3 x.n3 x.c3) := X.out.c 5 _ rfl
        have zX := X.out.lt
        cases G1 with
        | false =>
          go_wp2_with fail
          go_ret
          exact ⟨rfl, D.out⟩
        | true =>
          have H1 := Lib.hid (HG1.out.1 rfl)
          go_wp2_with fail
          refine (KI.out x.A2 x.n2 x.c2 x.Z2 G2 _ D.out (AA.out _ D.out).2.1 HG2.out).mono ?_
          rintro e w7 ⟨rfl, hb⟩
          have J := Lib.hid (hb)
          have D := Lib.hid (nextB D.out J.out)
          clear c0 c1 c2 zC x3 x4 x5 zX
          have C := Lib.hid (C.out.up J.out)
          have X := Lib.hid (X.out.up J.out)
          have I1 := Lib.hid (I1.out.up J.out)
          clear hb
          obtain ⟨c0, c1, c2⟩ := C.out
          have zC := C.out.lt
          have x3 : w7.cell? ⟨w.heap.size + 1, 3, none⟩ = some (.slice x.A1 x.n1 x.c1) := X.out.c 3 _ rfl
          have x4 : w7.cell? ⟨w.heap.size + 1, 4, none⟩ = some (.slice x.A2 x.n2 x.c2) := X.out.c 4 _ rfl
          have x5 : w7.cell? ⟨w.heap.size + 1, 5, none⟩ = some (.slice x.A3 x.n3 x.c3) := X.out.c 5 _ rfl
          have zX := X.out.lt
          cases G2 with
          | false =>
            go_wp2_with fail
            go_ret
            exact ⟨rfl, D.out⟩
          | true =>
            have H2 := Lib.hid (HG2.out.1 rfl)
            go_wp2_with fail
            refine (KI.out x.A3 x.n3 x.c3 x.Z3 false _ D.out (AA.out _ D.out).2.2 ⟨fun h => (Bool.false_ne_true h).elim, fun h => absurd ⟨H1.out, H2.out, h⟩ HNO.out⟩).mono ?_
            rintro e w8 ⟨rfl, hb⟩
            have J := Lib.hid (hb)
            have D := Lib.hid (nextB D.out J.out)
            clear c0 c1 c2 zC x3 x4 x5 zX
            have C := Lib.hid (C.out.up J.out)
            have X := Lib.hid (X.out.up J.out)
            have I1 := Lib.hid (I1.out.up J.out)
            clear hb
            obtain ⟨c0, c1, c2⟩ := C.out
            have zC := C.out.lt
            have x3 : w8.cell? ⟨w.heap.size + 1, 3, none⟩ = some (.slice x.A1 x.n1 x.c1) := X.out.c 3 _ rfl
            have x4 : w8.cell? ⟨w.heap.size + 1, 4, none⟩ = some (.slice x.A2 x.n2 x.c2) := X.out.c 4 _ rfl
            have x5 : w8.cell? ⟨w.heap.size + 1, 5, none⟩ = some (.slice x.A3 x.n3 x.c3) := X.out.c 5 _ rfl
            have zX := X.out.lt
            go_wp2_with fail
            go_ret
            exact ⟨rfl, D.out⟩
end Go.Proofs.Ytpikaohodieeaaa
