/- ClocksLattice's law. -/
import Derived.Test.YtpikaohodieeaaaHas
namespace Go.Proofs.Ytpikaohodieeaaa
open Go.RowKit
set_option linter.unusedSimpArgs false
set_option linter.unusedVariables false
set_option maxRecDepth 100000 in
set_option maxHeartbeats 4000000 in
theorem lattice_law (c : Clo) (x : Aks) (w : World) (hc : ClIn c w.heap.size w) (hx : AkIn x w.heap.size w) :
    Calls Try.prog 7 #[c.v, x.v] w fun e w' => e = .returned (.bool true) ∧ Below w.heap.size w w' := by
  have CC : Hid (∀ W, Below w.heap.size w W → ClIn c W.heap.size W) := Lib.hid fun W h => (hc.up h (Nat.le_refl _)).more h.size
  have AA : Hid (∀ W, Below w.heap.size w W → AkIn x W.heap.size W) := Lib.hid fun W h => (hx.up h (Nat.le_refl _)).more h.size
  obtain ⟨G, hG⟩ := few_ex c
  have HG := Lib.hid hG
  clear hc hG hx
  go_enter Try.func7, Try.ntmps7
  go_wp2_with fail
  refine (awake_any _).mono ?_
  rintro e w2 ⟨rfl, hb⟩
  have D := Lib.hid (nextB (w2b_below c x w) hb)
  have C : Hid (HasCl c w.heap.size w2) := Lib.hid ((w2b_cl c x w).up hb)
  have X : Hid (HasAk x (w.heap.size + 1) w2) := Lib.hid ((w2b_ak c x w).up hb)
  clear hb
  obtain ⟨c0, c1, c2⟩ := C.out
  have zC := C.out.lt
  have x0 : w2.cell? ⟨w.heap.size + 1, 0, none⟩ = some (.int .i64 x.A) := X.out.c 0 _ rfl
  have x1 : w2.cell? ⟨w.heap.size + 1, 1, none⟩ = some (.int .i64 x.B) := X.out.c 1 _ rfl
  have x2 : w2.cell? ⟨w.heap.size + 1, 2, none⟩ = some (.int .i64 x.t) := X.out.c 2 _ rfl
  have x3 : w2.cell? ⟨w.heap.size + 1, 3, none⟩ = some (.slice x.A1 x.n1 x.c1) := X.out.c 3 _ rfl
  have x4 : w2.cell? ⟨w.heap.size + 1, 4, none⟩ = some (.slice x.A2 x.n2 x.c2) := X.out.c 4 _ rfl
  have x5 : w2.cell? ⟨w.heap.size + 1, 5, none⟩ = some (.slice x.A3 x.n3 x.c3) := X.out.c 5 _ rfl
  have x6 : w2.cell? ⟨w.heap.size + 1, 6, none⟩ = some (.int .i64 x.f.1) := X.out.c 6 _ rfl
  have x7 : w2.cell? ⟨w.heap.size + 1, 7, none⟩ = some (.int .i64 x.f.2.1) := X.out.c 7 _ rfl
  have x8 : w2.cell? ⟨w.heap.size + 1, 8, none⟩ = some (.int .i64 x.f.2.2) := X.out.c 8 _ rfl
  have x9 : w2.cell? ⟨w.heap.size + 1, 9, none⟩ = some (.int .i64 x.s.1) := X.out.c 9 _ rfl
  have x10 : w2.cell? ⟨w.heap.size + 1, 10, none⟩ = some (.int .i64 x.s.2.1) := X.out.c 10 _ rfl
  have x11 : w2.cell? ⟨w.heap.size + 1, 11, none⟩ = some (.int .i64 x.s.2.2) := X.out.c 11 _ rfl
  have x12 : w2.cell? ⟨w.heap.size + 1, 12, none⟩ = some (.int .i64 x.p.1) := X.out.c 12 _ rfl
  have x13 : w2.cell? ⟨w.heap.size + 1, 13, none⟩ = some (.int .i64 x.p.2.1) := X.out.c 13 _ rfl
  have x14 : w2.cell? ⟨w.heap.size + 1, 14, none⟩ = some (.int .i64 x.p.2.2) := X.out.c 14 _ rfl
  have zX := X.out.lt
  go_wp2_with fail
  refine (few_any c G _ HG.out).mono ?_
  rintro e w3 ⟨rfl, hb⟩
  have J := Lib.hid (hb)
  have D := Lib.hid (nextB D.out J.out)
  clear c0 c1 c2 zC x0 x1 x2 x3 x4 x5 x6 x7 x8 x9 x10 x11 x12 x13 x14 zX
  have C := Lib.hid (C.out.up J.out)
  have X := Lib.hid (X.out.up J.out)
  clear hb
  obtain ⟨c0, c1, c2⟩ := C.out
  have zC := C.out.lt
  have x0 : w3.cell? ⟨w.heap.size + 1, 0, none⟩ = some (.int .i64 x.A) := X.out.c 0 _ rfl
  have x1 : w3.cell? ⟨w.heap.size + 1, 1, none⟩ = some (.int .i64 x.B) := X.out.c 1 _ rfl
  have x2 : w3.cell? ⟨w.heap.size + 1, 2, none⟩ = some (.int .i64 x.t) := X.out.c 2 _ rfl
  have x3 : w3.cell? ⟨w.heap.size + 1, 3, none⟩ = some (.slice x.A1 x.n1 x.c1) := X.out.c 3 _ rfl
  have x4 : w3.cell? ⟨w.heap.size + 1, 4, none⟩ = some (.slice x.A2 x.n2 x.c2) := X.out.c 4 _ rfl
  have x5 : w3.cell? ⟨w.heap.size + 1, 5, none⟩ = some (.slice x.A3 x.n3 x.c3) := X.out.c 5 _ rfl
  have x6 : w3.cell? ⟨w.heap.size + 1, 6, none⟩ = some (.int .i64 x.f.1) := X.out.c 6 _ rfl
  have x7 : w3.cell? ⟨w.heap.size + 1, 7, none⟩ = some (.int .i64 x.f.2.1) := X.out.c 7 _ rfl
  have x8 : w3.cell? ⟨w.heap.size + 1, 8, none⟩ = some (.int .i64 x.f.2.2) := X.out.c 8 _ rfl
  have x9 : w3.cell? ⟨w.heap.size + 1, 9, none⟩ = some (.int .i64 x.s.1) := X.out.c 9 _ rfl
  have x10 : w3.cell? ⟨w.heap.size + 1, 10, none⟩ = some (.int .i64 x.s.2.1) := X.out.c 10 _ rfl
  have x11 : w3.cell? ⟨w.heap.size + 1, 11, none⟩ = some (.int .i64 x.s.2.2) := X.out.c 11 _ rfl
  have x12 : w3.cell? ⟨w.heap.size + 1, 12, none⟩ = some (.int .i64 x.p.1) := X.out.c 12 _ rfl
  have x13 : w3.cell? ⟨w.heap.size + 1, 13, none⟩ = some (.int .i64 x.p.2.1) := X.out.c 13 _ rfl
  have x14 : w3.cell? ⟨w.heap.size + 1, 14, none⟩ = some (.int .i64 x.p.2.2) := X.out.c 14 _ rfl
  have zX := X.out.lt
  cases G with
  | false =>
    go_wp2_with fail
    go_ret
    exact ⟨rfl, D.out⟩
  | true =>
    clear HG
    obtain ⟨L, hL⟩ := bool_of (Light x)
    go_wp2_with fail
    refine (light_any x L _ hL).mono ?_
    rintro e w4 ⟨rfl, hb⟩
    have J := Lib.hid (hb)
    have D := Lib.hid (nextB D.out J.out)
    clear c0 c1 c2 zC x0 x1 x2 x3 x4 x5 x6 x7 x8 x9 x10 x11 x12 x13 x14 zX
    have C := Lib.hid (C.out.up J.out)
    have X := Lib.hid (X.out.up J.out)
    clear hb
    obtain ⟨c0, c1, c2⟩ := C.out
    have zC := C.out.lt
    have x3 : w4.cell? ⟨w.heap.size + 1, 3, none⟩ = some (.slice x.A1 x.n1 x.c1) := X.out.c 3 _ rfl
    have x4 : w4.cell? ⟨w.heap.size + 1, 4, none⟩ = some (.slice x.A2 x.n2 x.c2) := X.out.c 4 _ rfl
    have zX := X.out.lt
    clear hL
    cases L with
    | false =>
      go_wp2_with fail
      go_ret
      exact ⟨rfl, D.out⟩
    | true =>
      obtain ⟨E1, S, hE⟩ := rdR_ex c.d c.m c.F true
      rcases feR_of hE with ⟨rfl, hF⟩ | ⟨hn, hF⟩ | ⟨hn, hF⟩
      · obtain ⟨_, hd, hk, he⟩ := rdR_0 hE
        have K1 := Lib.hid fun W h => ear_ok c.d c.MA c.m c.mc c.F S W (CC.out W h).1 (CC.out W h).2 hE
        have K2 := Lib.hid fun W h => lat_ok c.d c.MA c.m c.mc c.F S W (CC.out W h).1 (CC.out W h).2 hE
        have K3 := Lib.hid fun W h => Feasible_any c.d c.MA c.m c.mc c.F true 0 W (CC.out W h).1 (CC.out W h).2 hF
        have KI := Lib.hid fun A n k T G W h ht hG => is_any c A n k T G W (CC.out W h) ht hG
        have HR : Hid (IsR c (c.d.n + 1) (fun i => (S i).1) ∧ IsR c (c.d.n + 1) (fun i => (S i).2) ∧ (∀ n T, IsR c n T → AhR (c.d.n + 1) (fun i => (S i).1) n T ∧ AhR n T (c.d.n + 1) (fun i => (S i).2)) ∧ (∀ n T U, IsR c n T → IsR c n U → IsR c n (fun i => min (T i) (U i))) ∧ (∀ n T U, IsR c n T → IsR c n U → IsR c n (fun i => max (T i) (U i))) ∧ (∀ n m T U, IsR c n T → IsR c m U → n = m ∧ n ≤ 200)) := Lib.hid ⟨⟨hd, hk, rfl, he.lo⟩, ⟨hd, hk, rfl, he.hi⟩, fun n T h => by
            obtain ⟨_, _, rfl, h⟩ := h
            exact ⟨⟨rfl, fun i hi => (he.all T h i (by omega)).1⟩, ⟨rfl, fun i hi => (he.all T h i (by omega)).2⟩⟩, fun n T U h1 h2 => ⟨hd, hk, h1.2.2.1, Rdg.min h1.2.2.2 h2.2.2.2⟩, fun n T U h1 h2 => ⟨hd, hk, h1.2.2.1, Rdg.max h1.2.2.2 h2.2.2.2⟩, fun n m T U h1 h2 => ⟨by rw [h1.2.2.1, h2.2.2.1], by have := hd.n2; have := h1.2.2.1; omega⟩⟩
        obtain ⟨G1, hG1⟩ := bool_of (IsR c x.n1 x.Z1)
        obtain ⟨G2, hG2⟩ := bool_of (IsR c x.n2 x.Z2)
        have HG1 := Lib.hid hG1
        have HG2 := Lib.hid hG2
        clear hd hk he hE hF hG1 hG2
        go_wp2_with fail
        refine (K1.out _ D.out).mono ?_
        rintro e w5 ⟨A1, k1, rfl, hi, hb⟩
        have J := Lib.hid (hb)
        have D := Lib.hid (nextB D.out J.out)
        clear c0 c1 c2 zC x3 x4 zX
        have C := Lib.hid (C.out.up J.out)
        have X := Lib.hid (X.out.up J.out)
        have I1 := Lib.hid hi
        clear hi
        clear hb
        obtain ⟨c0, c1, c2⟩ := C.out
        have zC := C.out.lt
        have x3 : w5.cell? ⟨w.heap.size + 1, 3, none⟩ = some (.slice x.A1 x.n1 x.c1) := X.out.c 3 _ rfl
        have x4 : w5.cell? ⟨w.heap.size + 1, 4, none⟩ = some (.slice x.A2 x.n2 x.c2) := X.out.c 4 _ rfl
        have zX := X.out.lt
        go_wp2_with fail
        refine (K2.out _ D.out).mono ?_
        rintro e w6 ⟨A2, k2, rfl, hi, hb⟩
        have J := Lib.hid (hb)
        have D := Lib.hid (nextB D.out J.out)
        clear c0 c1 c2 zC x3 x4 zX
        have C := Lib.hid (C.out.up J.out)
        have X := Lib.hid (X.out.up J.out)
        have I1 := Lib.hid (I1.out.up J.out)
        have I2 := Lib.hid hi
        clear hi
        clear hb
        obtain ⟨c0, c1, c2⟩ := C.out
        have zC := C.out.lt
        have x3 : w6.cell? ⟨w.heap.size + 1, 3, none⟩ = some (.slice x.A1 x.n1 x.c1) := X.out.c 3 _ rfl
        have x4 : w6.cell? ⟨w.heap.size + 1, 4, none⟩ = some (.slice x.A2 x.n2 x.c2) := X.out.c 4 _ rfl
        have zX := X.out.lt
        go_wp2_with fail
        refine (K3.out _ D.out).mono ?_
        rintro e w7 ⟨rfl, hb⟩
        have J := Lib.hid (hb)
        have D := Lib.hid (nextB D.out J.out)
        clear c0 c1 c2 zC x3 x4 zX
        have C := Lib.hid (C.out.up J.out)
        have X := Lib.hid (X.out.up J.out)
        have I1 := Lib.hid (I1.out.up J.out)
        have I2 := Lib.hid (I2.out.up J.out)
        clear hb
        obtain ⟨c0, c1, c2⟩ := C.out
        have zC := C.out.lt
        have x3 : w7.cell? ⟨w.heap.size + 1, 3, none⟩ = some (.slice x.A1 x.n1 x.c1) := X.out.c 3 _ rfl
        have x4 : w7.cell? ⟨w.heap.size + 1, 4, none⟩ = some (.slice x.A2 x.n2 x.c2) := X.out.c 4 _ rfl
        have zX := X.out.lt
        go_wp2_with fail
        refine (KI.out A1 _ k1 _ true _ D.out I1.out ⟨fun _ => HR.out.1, fun _ => rfl⟩).mono ?_
        rintro e w8 ⟨rfl, hb⟩
        have J := Lib.hid (hb)
        have D := Lib.hid (nextB D.out J.out)
        clear c0 c1 c2 zC x3 x4 zX
        have C := Lib.hid (C.out.up J.out)
        have X := Lib.hid (X.out.up J.out)
        have I1 := Lib.hid (I1.out.up J.out)
        have I2 := Lib.hid (I2.out.up J.out)
        clear hb
        obtain ⟨c0, c1, c2⟩ := C.out
        have zC := C.out.lt
        have x3 : w8.cell? ⟨w.heap.size + 1, 3, none⟩ = some (.slice x.A1 x.n1 x.c1) := X.out.c 3 _ rfl
        have x4 : w8.cell? ⟨w.heap.size + 1, 4, none⟩ = some (.slice x.A2 x.n2 x.c2) := X.out.c 4 _ rfl
        have zX := X.out.lt
        go_wp2_with fail
        refine (KI.out A2 _ k2 _ true _ D.out I2.out ⟨fun _ => HR.out.2.1, fun _ => rfl⟩).mono ?_
        rintro e w9 ⟨rfl, hb⟩
        have J := Lib.hid (hb)
        have D := Lib.hid (nextB D.out J.out)
        clear c0 c1 c2 zC x3 x4 zX
        have C := Lib.hid (C.out.up J.out)
        have X := Lib.hid (X.out.up J.out)
        have I1 := Lib.hid (I1.out.up J.out)
        have I2 := Lib.hid (I2.out.up J.out)
        clear hb
        obtain ⟨c0, c1, c2⟩ := C.out
        have zC := C.out.lt
        have x3 : w9.cell? ⟨w.heap.size + 1, 3, none⟩ = some (.slice x.A1 x.n1 x.c1) := X.out.c 3 _ rfl
        have x4 : w9.cell? ⟨w.heap.size + 1, 4, none⟩ = some (.slice x.A2 x.n2 x.c2) := X.out.c 4 _ rfl
        have zX := X.out.lt
        go_wp2_with fail
        refine (KI.out x.A1 x.n1 x.c1 x.Z1 G1 _ D.out (AA.out _ D.out).1 HG1.out).mono ?_
        rintro e w10 ⟨rfl, hb⟩
        have J := Lib.hid (hb)
        have D := Lib.hid (nextB D.out J.out)
        clear c0 c1 c2 zC x3 x4 zX
        have C := Lib.hid (C.out.up J.out)
        have X := Lib.hid (X.out.up J.out)
        have I1 := Lib.hid (I1.out.up J.out)
        have I2 := Lib.hid (I2.out.up J.out)
        clear hb
        obtain ⟨c0, c1, c2⟩ := C.out
        have zC := C.out.lt
        have x3 : w10.cell? ⟨w.heap.size + 1, 3, none⟩ = some (.slice x.A1 x.n1 x.c1) := X.out.c 3 _ rfl
        have x4 : w10.cell? ⟨w.heap.size + 1, 4, none⟩ = some (.slice x.A2 x.n2 x.c2) := X.out.c 4 _ rfl
        have zX := X.out.lt
        cases G1 with
        | false =>
          go_wp2_with fail
          refine (KI.out x.A1 x.n1 x.c1 x.Z1 false _ D.out (AA.out _ D.out).1 HG1.out).mono ?_
          rintro e w11 ⟨rfl, hb⟩
          have J := Lib.hid (hb)
          have D := Lib.hid (nextB D.out J.out)
          clear c0 c1 c2 zC x3 x4 zX
          have C := Lib.hid (C.out.up J.out)
          have X := Lib.hid (X.out.up J.out)
          have I1 := Lib.hid (I1.out.up J.out)
          have I2 := Lib.hid (I2.out.up J.out)
          clear hb
          obtain ⟨c0, c1, c2⟩ := C.out
          have zC := C.out.lt
          have x3 : w11.cell? ⟨w.heap.size + 1, 3, none⟩ = some (.slice x.A1 x.n1 x.c1) := X.out.c 3 _ rfl
          have x4 : w11.cell? ⟨w.heap.size + 1, 4, none⟩ = some (.slice x.A2 x.n2 x.c2) := X.out.c 4 _ rfl
          have zX := X.out.lt
          go_wp2_with fail
          go_ret
          exact ⟨rfl, D.out⟩
        | true =>
          have HT1 : Hid (IsR c x.n1 x.Z1) := Lib.hid (HG1.out.1 rfl)
          go_wp2_with fail
          refine (ahead_any _ _ A1 x.A1 k1 x.c1 _ x.Z1 true _ I1.out (AA.out _ D.out).1 ⟨fun _ => (HR.out.2.2.1 _ _ HT1.out).1, fun _ => rfl⟩).mono ?_
          rintro e w11 ⟨rfl, hb⟩
          have J := Lib.hid (hb)
          have D := Lib.hid (nextB D.out J.out)
          clear c0 c1 c2 zC x3 x4 zX
          have C := Lib.hid (C.out.up J.out)
          have X := Lib.hid (X.out.up J.out)
          have I1 := Lib.hid (I1.out.up J.out)
          have I2 := Lib.hid (I2.out.up J.out)
          clear hb
          obtain ⟨c0, c1, c2⟩ := C.out
          have zC := C.out.lt
          have x3 : w11.cell? ⟨w.heap.size + 1, 3, none⟩ = some (.slice x.A1 x.n1 x.c1) := X.out.c 3 _ rfl
          have x4 : w11.cell? ⟨w.heap.size + 1, 4, none⟩ = some (.slice x.A2 x.n2 x.c2) := X.out.c 4 _ rfl
          have zX := X.out.lt
          go_wp2_with fail
          refine (ahead_any _ _ x.A1 A2 x.c1 k2 x.Z1 _ true _ (AA.out _ D.out).1 I2.out ⟨fun _ => (HR.out.2.2.1 _ _ HT1.out).2, fun _ => rfl⟩).mono ?_
          rintro e w12 ⟨rfl, hb⟩
          have J := Lib.hid (hb)
          have D := Lib.hid (nextB D.out J.out)
          clear c0 c1 c2 zC x3 x4 zX
          have C := Lib.hid (C.out.up J.out)
          have X := Lib.hid (X.out.up J.out)
          have I1 := Lib.hid (I1.out.up J.out)
          have I2 := Lib.hid (I2.out.up J.out)
          clear hb
          obtain ⟨c0, c1, c2⟩ := C.out
          have zC := C.out.lt
          have x3 : w12.cell? ⟨w.heap.size + 1, 3, none⟩ = some (.slice x.A1 x.n1 x.c1) := X.out.c 3 _ rfl
          have x4 : w12.cell? ⟨w.heap.size + 1, 4, none⟩ = some (.slice x.A2 x.n2 x.c2) := X.out.c 4 _ rfl
          have zX := X.out.lt
          go_wp2_with fail
          refine (KI.out x.A1 x.n1 x.c1 x.Z1 true _ D.out (AA.out _ D.out).1 ⟨fun _ => HT1.out, fun _ => rfl⟩).mono ?_
          rintro e w13 ⟨rfl, hb⟩
          have J := Lib.hid (hb)
          have D := Lib.hid (nextB D.out J.out)
          clear c0 c1 c2 zC x3 x4 zX
          have C := Lib.hid (C.out.up J.out)
          have X := Lib.hid (X.out.up J.out)
          have I1 := Lib.hid (I1.out.up J.out)
          have I2 := Lib.hid (I2.out.up J.out)
          clear hb
          obtain ⟨c0, c1, c2⟩ := C.out
          have zC := C.out.lt
          have x3 : w13.cell? ⟨w.heap.size + 1, 3, none⟩ = some (.slice x.A1 x.n1 x.c1) := X.out.c 3 _ rfl
          have x4 : w13.cell? ⟨w.heap.size + 1, 4, none⟩ = some (.slice x.A2 x.n2 x.c2) := X.out.c 4 _ rfl
          have zX := X.out.lt
          go_wp2_with fail
          refine (KI.out x.A2 x.n2 x.c2 x.Z2 G2 _ D.out (AA.out _ D.out).2.1 HG2.out).mono ?_
          rintro e w14 ⟨rfl, hb⟩
          have J := Lib.hid (hb)
          have D := Lib.hid (nextB D.out J.out)
          clear c0 c1 c2 zC x3 x4 zX
          have C := Lib.hid (C.out.up J.out)
          have X := Lib.hid (X.out.up J.out)
          have I1 := Lib.hid (I1.out.up J.out)
          have I2 := Lib.hid (I2.out.up J.out)
          clear hb
          obtain ⟨c0, c1, c2⟩ := C.out
          have zC := C.out.lt
          have x3 : w14.cell? ⟨w.heap.size + 1, 3, none⟩ = some (.slice x.A1 x.n1 x.c1) := X.out.c 3 _ rfl
          have x4 : w14.cell? ⟨w.heap.size + 1, 4, none⟩ = some (.slice x.A2 x.n2 x.c2) := X.out.c 4 _ rfl
          have zX := X.out.lt
          cases G2 with
          | false =>
            go_wp2_with fail
            go_ret
            exact ⟨rfl, D.out⟩
          | true =>
            have HT2 : Hid (IsR c x.n2 x.Z2) := Lib.hid (HG2.out.1 rfl)
            obtain ⟨hn12, hn200⟩ := HR.out.2.2.2.2.2 _ _ _ _ HT1.out HT2.out
            have HN12 := Lib.hid hn12
            obtain ⟨i0, hi0, hz0', hz1, hz2⟩ := info_parts Try.infoInt
            clear hn12
            go_wp2_with fail
            go_loopw [12, 13, 14] (fun v1 v2 i wr => ∃ z : Nat, z ≤ x.n1 ∧ i = .int .i64 (z : Int) ∧ Row3 w14 (upTo (fun i => min (x.Z1 i) (x.Z2 i)) z) (upTo (fun i => max (x.Z1 i) (x.Z2 i)) z) [] v1 v2 (.slice none 0 0) wr) (fun _ _ i _ => x.n1 - (intOf i).toNat)
            case atStart => exact ⟨0, Nat.zero_le _, rfl, Below.refl _ _, World.ownsRow_nil _ _ _ _, World.ownsRow_nil _ _ _ _, World.ownsRow_nil _ _ _ _, fun g hg => (by cases hg), fun g hg => (by cases hg), fun g hg => (by cases hg)⟩
            case round =>
              obtain ⟨z, hz, rfl, hR⟩ := hrel
              obtain ⟨wo, rfl⟩ : ∃ wo : World, wo = wr := ⟨_, rfl⟩
              have D6 := D
              have D := Lib.hid (nextB D6.out hR.below)
              have C4 := C
              have X4 := X
              have C := Lib.hid (C.out.up hR.below)
              have X := Lib.hid (X.out.up hR.below)
              have RR := Lib.hid hR
              have hz0 : (0 : Int) ≤ (z : Int) := by omega
              have sz0 := hR.below.size
              clear hR
              clear c0 c1 c2 zC x3 x4 zX
              have x3 : wo.cell? ⟨w.heap.size + 1, 3, none⟩ = some (.slice x.A1 x.n1 x.c1) := X.out.c 3 _ rfl
              have x4 : wo.cell? ⟨w.heap.size + 1, 4, none⟩ = some (.slice x.A2 x.n2 x.c2) := X.out.c 4 _ rfl
              obtain ⟨c0, c1, c2⟩ := C.out
              have zC := C.out.lt
              have zX := X.out.lt
              by_cases hlt3 : z < x.n1
              · have hzi : (z : Int) < (x.n1 : Int) := by omega
                have hzi2 : (z : Int) < (x.n2 : Int) := by have := HN12.out; omega
                have hz2' : z < x.n2 := by have := HN12.out; omega
                obtain ⟨a1, ea1, _, r1⟩ := (AA.out wo D.out).1.2 z hlt3
                obtain ⟨a2, ea2, _, r2⟩ := (AA.out wo D.out).2.1.2 z hz2'
                have e1 : (fun i => min (x.Z1 i) (x.Z2 i)) z = min (x.Z1 z) (x.Z2 z) := rfl
                have e2 : (fun i => max (x.Z1 i) (x.Z2 i)) z = max (x.Z1 z) (x.Z2 z) := rfl
                have EX := Lib.hid (And.intro e1 e2)
                rw [ea1] at x3
                rw [ea2] at x4
                have RX : Hid (∀ W, Below w.heap.size w W → W.cell? (a1.add z) = some (.int .i64 (x.Z1 z)) ∧ W.cell? (a2.add z) = some (.int .i64 (x.Z2 z))) := Lib.hid fun W h => by
                  obtain ⟨b1, f1, _, k1⟩ := (AA.out W h).1.2 z hlt3
                  obtain ⟨b2, f2, _, k2⟩ := (AA.out W h).2.1.2 z hz2'
                  rw [ea1] at f1; cases f1
                  rw [ea2] at f2; cases f2
                  exact ⟨k1, k2⟩
                generalize hxq : x.Z1 z = xq at *
                generalize hyq : x.Z2 z = yq at *
                have HXQ := Lib.hid hxq
                have HYQ := Lib.hid hyq
                clear e1 e2 hxq hyq
                have EA := Lib.hid (And.intro ea1 ea2)
                clear ea1 ea2
                have ho1 := RR.out.o1
                rw [upTo_len] at ho1
                have wz : IntKind.i64.wrap ((z : Int) + 1) = ((z + 1 : Nat) : Int) := by rw [show ((z : Int) + 1) = ((z + 1 : Nat) : Int) by omega]; exact IntWalk.i64_in _ (by omega)
                have WZ := Lib.hid wz
                clear wz
                go_wp2_with fail
                refine wp_region_M [13, 14] (fun w' => w'.cell? ⟨w.heap.size + 1, 3, none⟩ = some (.slice (some a1) x.n1 x.c1) ∧ w'.cell? ⟨w.heap.size + 1, 4, none⟩ = some (.slice (some a2) x.n2 x.c2) ∧ w'.cell? (a1.add z) = some (.int .i64 xq) ∧ w'.cell? (a2.add z) = some (.int .i64 yq)) (by kernel_rfl) (by kernel_rfl) (by (try dsimp only); (repeat' apply And.intro); all_goals first | assumption | (go_simp; done)) (fun hT0 => ?_)
                refine M_take (v := ?_) 0 rfl (by kernel_rfl) (by assumption) (fun _ _ _ h => h) (Or.inl ⟨by rfl, ?_⟩) ?_
                rotate_left
                · (intro w hSw; (try dsimp only at hSw); go_simp; (try with_reducible rfl))
                (try simp only [Act.put, List.setIfInBounds_toArray, List.set_cons_zero, List.set_cons_succ])
                refine M_take (v := ?_) 1 rfl (by kernel_rfl) (by assumption) (fun _ _ _ h => h) (Or.inl ⟨by rfl, ?_⟩) ?_
                rotate_left
                · (intro w hSw; (try dsimp only at hSw); go_simp; (try with_reducible rfl))
                (try simp only [Act.put, List.setIfInBounds_toArray, List.set_cons_zero, List.set_cons_succ])
                refine M_take (v := ?_) 2 rfl (by kernel_rfl) (by assumption) (fun _ _ _ h => h) (Or.inl ⟨by rfl, ?_⟩) ?_
                rotate_left
                · (intro w hSw; (try dsimp only at hSw); go_simp; (try with_reducible rfl))
                (try simp only [Act.put, List.setIfInBounds_toArray, List.set_cons_zero, List.set_cons_succ])
                refine M_take (v := ?_) 3 rfl (by kernel_rfl) (by assumption) (fun _ _ _ h => h) (Or.inl ⟨by rfl, ?_⟩) ?_
                rotate_left
                · (intro w hSw; (try dsimp only at hSw); go_simp; (try with_reducible rfl))
                (try simp only [Act.put, List.setIfInBounds_toArray, List.set_cons_zero, List.set_cons_succ])
                refine M_take (v := ?_) 4 rfl (by kernel_rfl) (by assumption) (fun _ _ _ h => h) (Or.inl ⟨by rfl, ?_⟩) ?_
                rotate_left
                · (intro w hSw; (try dsimp only at hSw); go_simp; (try with_reducible rfl))
                (try simp only [Act.put, List.setIfInBounds_toArray, List.set_cons_zero, List.set_cons_succ])
                refine M_take (v := ?_) 5 rfl (by kernel_rfl) (by assumption) (fun _ _ _ h => h) (Or.inl ⟨by rfl, ?_⟩) ?_
                rotate_left
                · (intro w hSw; (try dsimp only at hSw); go_simp; (try with_reducible rfl))
                (try simp only [Act.put, List.setIfInBounds_toArray, List.set_cons_zero, List.set_cons_succ])
                refine M_take (v := ?_) 6 rfl (by kernel_rfl) (by assumption) (fun _ _ _ h => h) (Or.inl ⟨by rfl, ?_⟩) ?_
                rotate_left
                · (intro w hSw; (try dsimp only at hSw); go_simp; (try with_reducible rfl))
                (try simp only [Act.put, List.setIfInBounds_toArray, List.set_cons_zero, List.set_cons_succ])
                refine M_take (v := ?_) 7 rfl (by kernel_rfl) (by assumption) (fun _ _ _ h => h) (Or.inl ⟨by rfl, ?_⟩) ?_
                rotate_left
                · (intro w hSw; (try dsimp only at hSw); go_simp; (try with_reducible rfl))
                (try simp only [Act.put, List.setIfInBounds_toArray, List.set_cons_zero, List.set_cons_succ])
                refine M_take (v := ?_) 8 rfl (by kernel_rfl) (by assumption) (fun _ _ _ h => h) (Or.inl ⟨by rfl, ?_⟩) ?_
                rotate_left
                · (intro w hSw; (try dsimp only at hSw); go_simp; (try with_reducible rfl))
                (try simp only [Act.put, List.setIfInBounds_toArray, List.set_cons_zero, List.set_cons_succ])
                refine M_take (v := ?_) 9 rfl (by kernel_rfl) (by assumption) (fun _ _ _ h => h) (Or.inl ⟨by rfl, ?_⟩) ?_
                rotate_left
                · (intro w hSw; (try dsimp only at hSw); go_simp; (try with_reducible rfl))
                (try simp only [Act.put, List.setIfInBounds_toArray, List.set_cons_zero, List.set_cons_succ])
                refine M_take (v := ?_) 10 rfl (by kernel_rfl) (by assumption) (fun _ _ _ h => h) (Or.inl ⟨by rfl, ?_⟩) ?_
                rotate_left
                · (intro w hSw; (try dsimp only at hSw); go_simp; (try with_reducible rfl))
                (try simp only [Act.put, List.setIfInBounds_toArray, List.set_cons_zero, List.set_cons_succ])
                refine M_take (v := ?_) 11 rfl (by kernel_rfl) (by assumption) (fun _ _ _ h => h) (Or.inl ⟨by rfl, ?_⟩) ?_
                rotate_left
                · (intro w hSw; (try dsimp only at hSw); go_simp; (try with_reducible rfl))
                (try simp only [Act.put, List.setIfInBounds_toArray, List.set_cons_zero, List.set_cons_succ])
                refine M_step 12 rfl (by kernel_rfl) (fun K hK => ?_)
                go_simp
                have D8 := Lib.hid (show Below wo.heap.size wo (wo.drew.alloc (.cells #[.int .i64 (min xq yq)] 3)) from nextB (Below.refl _ _).drew (box1 wo.drew (.cells #[.int .i64 (min xq yq)] 3)))
                have hT8 : (fun w' => w'.cell? ⟨w.heap.size + 1, 3, none⟩ = some (.slice (some a1) x.n1 x.c1) ∧ w'.cell? ⟨w.heap.size + 1, 4, none⟩ = some (.slice (some a2) x.n2 x.c2) ∧ w'.cell? (a1.add z) = some (.int .i64 xq) ∧ w'.cell? (a2.add z) = some (.int .i64 yq)) (wo.drew.alloc (.cells #[.int .i64 (min xq yq)] 3)) := ⟨(D8.out.cell (World.block_lt_of_cell? _ _ x3)).trans x3, (D8.out.cell (World.block_lt_of_cell? _ _ x4)).trans x4, (D8.out.cell (World.block_lt_of_cell? _ _ r1)).trans r1, (D8.out.cell (World.block_lt_of_cell? _ _ r2)).trans r2⟩
                refine hK.out _ _ (fun _ => hT8) ?_
                clear hK K
                (try simp only [Act.put, List.setIfInBounds_toArray, List.set_cons_zero, List.set_cons_succ])
                refine M_step 13 rfl (by kernel_rfl) (fun K hK => ?_)
                refine step_append_at rfl (.tmp 128) (.tmp 140) 29 rfl w14.heap.size 3 i0 (.int .i64 0) 1 8 Try.underlying29 hi0 hz0' hz1 hz2 rfl (by decide) _ z _ (by simp [Act.eval]) (ho1.drew.alloc _) ⟨wo.heap.size, 0, none⟩ 1 1 [.int .i64 (min xq yq)] (by simp [Act.eval]) rfl (new1 wo.drew _) (by simp [Value.oneCell']) (by unfold maxLen; omega) (by omega) (by simp only [World.size_alloc, World.size_drew]; omega) ?_
                intro v4 w44 hown hg hat
                refine hK.out _ _ (fun e => by cases e) ?_
                clear hK K
                (try simp only [Act.put, List.setIfInBounds_toArray, List.set_cons_zero, List.set_cons_succ])
                refine M_step 14 rfl (by kernel_rfl) (fun K hK => ?_)
                go_simp
                refine hK.out _ _ (fun e => by cases e) ?_
                clear hK K
                (try simp only [Act.put, List.setIfInBounds_toArray, List.set_cons_zero, List.set_cons_succ])
                refine M_done (by kernel_rfl) ?_ _
                have R4 := Lib.hid ((RR.out.up (nextB (Below.refl _ _).drew (box1 _ _))).app (z := min xq yq) hg (by rw [upTo_len]; exact hown) hat)
                clear hown hg hat hT8 D8 hT0
                have D := Lib.hid (nextB D6.out R4.out.below)
                have C := Lib.hid (C4.out.up R4.out.below)
                have X := Lib.hid (X4.out.up R4.out.below)
                have sz4 := R4.out.below.size
                clear x3 x4 c0 c1 c2 zC zX r1 r2 ho1
                have x3 : w44.cell? ⟨w.heap.size + 1, 3, none⟩ = some (.slice (some a1) x.n1 x.c1) := by have h : w44.cell? ⟨w.heap.size + 1, 3, none⟩ = some (.slice x.A1 x.n1 x.c1) := X.out.c 3 _ rfl; rw [EA.out.1] at h; exact h
                have x4 : w44.cell? ⟨w.heap.size + 1, 4, none⟩ = some (.slice (some a2) x.n2 x.c2) := by have h : w44.cell? ⟨w.heap.size + 1, 4, none⟩ = some (.slice x.A2 x.n2 x.c2) := X.out.c 4 _ rfl; rw [EA.out.2] at h; exact h
                have zX := X.out.lt
                obtain ⟨r1, r2⟩ := RX.out _ D.out
                have ho2 := R4.out.o2
                rw [upTo_len] at ho2
                go_wp2_with fail
                refine wp_region_M [13, 14] (fun w' => w'.cell? ⟨w.heap.size + 1, 3, none⟩ = some (.slice (some a1) x.n1 x.c1) ∧ w'.cell? ⟨w.heap.size + 1, 4, none⟩ = some (.slice (some a2) x.n2 x.c2) ∧ w'.cell? (a1.add z) = some (.int .i64 xq) ∧ w'.cell? (a2.add z) = some (.int .i64 yq)) (by kernel_rfl) (by kernel_rfl) (by (try dsimp only); (repeat' apply And.intro); all_goals first | assumption | (go_simp; done)) (fun hT0 => ?_)
                refine M_take (v := ?_) 0 rfl (by kernel_rfl) (by assumption) (fun _ _ _ h => h) (Or.inl ⟨by rfl, ?_⟩) ?_
                rotate_left
                · (intro w hSw; (try dsimp only at hSw); go_simp; (try with_reducible rfl))
                (try simp only [Act.put, List.setIfInBounds_toArray, List.set_cons_zero, List.set_cons_succ])
                refine M_take (v := ?_) 1 rfl (by kernel_rfl) (by assumption) (fun _ _ _ h => h) (Or.inl ⟨by rfl, ?_⟩) ?_
                rotate_left
                · (intro w hSw; (try dsimp only at hSw); go_simp; (try with_reducible rfl))
                (try simp only [Act.put, List.setIfInBounds_toArray, List.set_cons_zero, List.set_cons_succ])
                refine M_take (v := ?_) 2 rfl (by kernel_rfl) (by assumption) (fun _ _ _ h => h) (Or.inl ⟨by rfl, ?_⟩) ?_
                rotate_left
                · (intro w hSw; (try dsimp only at hSw); go_simp; (try with_reducible rfl))
                (try simp only [Act.put, List.setIfInBounds_toArray, List.set_cons_zero, List.set_cons_succ])
                refine M_take (v := ?_) 3 rfl (by kernel_rfl) (by assumption) (fun _ _ _ h => h) (Or.inl ⟨by rfl, ?_⟩) ?_
                rotate_left
                · (intro w hSw; (try dsimp only at hSw); go_simp; (try with_reducible rfl))
                (try simp only [Act.put, List.setIfInBounds_toArray, List.set_cons_zero, List.set_cons_succ])
                refine M_take (v := ?_) 4 rfl (by kernel_rfl) (by assumption) (fun _ _ _ h => h) (Or.inl ⟨by rfl, ?_⟩) ?_
                rotate_left
                · (intro w hSw; (try dsimp only at hSw); go_simp; (try with_reducible rfl))
                (try simp only [Act.put, List.setIfInBounds_toArray, List.set_cons_zero, List.set_cons_succ])
                refine M_take (v := ?_) 5 rfl (by kernel_rfl) (by assumption) (fun _ _ _ h => h) (Or.inl ⟨by rfl, ?_⟩) ?_
                rotate_left
                · (intro w hSw; (try dsimp only at hSw); go_simp; (try with_reducible rfl))
                (try simp only [Act.put, List.setIfInBounds_toArray, List.set_cons_zero, List.set_cons_succ])
                refine M_take (v := ?_) 6 rfl (by kernel_rfl) (by assumption) (fun _ _ _ h => h) (Or.inl ⟨by rfl, ?_⟩) ?_
                rotate_left
                · (intro w hSw; (try dsimp only at hSw); go_simp; (try with_reducible rfl))
                (try simp only [Act.put, List.setIfInBounds_toArray, List.set_cons_zero, List.set_cons_succ])
                refine M_take (v := ?_) 7 rfl (by kernel_rfl) (by assumption) (fun _ _ _ h => h) (Or.inl ⟨by rfl, ?_⟩) ?_
                rotate_left
                · (intro w hSw; (try dsimp only at hSw); go_simp; (try with_reducible rfl))
                (try simp only [Act.put, List.setIfInBounds_toArray, List.set_cons_zero, List.set_cons_succ])
                refine M_take (v := ?_) 8 rfl (by kernel_rfl) (by assumption) (fun _ _ _ h => h) (Or.inl ⟨by rfl, ?_⟩) ?_
                rotate_left
                · (intro w hSw; (try dsimp only at hSw); go_simp; (try with_reducible rfl))
                (try simp only [Act.put, List.setIfInBounds_toArray, List.set_cons_zero, List.set_cons_succ])
                refine M_take (v := ?_) 9 rfl (by kernel_rfl) (by assumption) (fun _ _ _ h => h) (Or.inl ⟨by rfl, ?_⟩) ?_
                rotate_left
                · (intro w hSw; (try dsimp only at hSw); go_simp; (try with_reducible rfl))
                (try simp only [Act.put, List.setIfInBounds_toArray, List.set_cons_zero, List.set_cons_succ])
                refine M_take (v := ?_) 10 rfl (by kernel_rfl) (by assumption) (fun _ _ _ h => h) (Or.inl ⟨by rfl, ?_⟩) ?_
                rotate_left
                · (intro w hSw; (try dsimp only at hSw); go_simp; (try with_reducible rfl))
                (try simp only [Act.put, List.setIfInBounds_toArray, List.set_cons_zero, List.set_cons_succ])
                refine M_take (v := ?_) 11 rfl (by kernel_rfl) (by assumption) (fun _ _ _ h => h) (Or.inl ⟨by rfl, ?_⟩) ?_
                rotate_left
                · (intro w hSw; (try dsimp only at hSw); go_simp; (try with_reducible rfl))
                (try simp only [Act.put, List.setIfInBounds_toArray, List.set_cons_zero, List.set_cons_succ])
                refine M_step 12 rfl (by kernel_rfl) (fun K hK => ?_)
                go_simp
                have D8 := Lib.hid (show Below w44.heap.size w44 (w44.drew.alloc (.cells #[.int .i64 (max xq yq)] 3)) from nextB (Below.refl _ _).drew (box1 w44.drew (.cells #[.int .i64 (max xq yq)] 3)))
                have hT8 : (fun w' => w'.cell? ⟨w.heap.size + 1, 3, none⟩ = some (.slice (some a1) x.n1 x.c1) ∧ w'.cell? ⟨w.heap.size + 1, 4, none⟩ = some (.slice (some a2) x.n2 x.c2) ∧ w'.cell? (a1.add z) = some (.int .i64 xq) ∧ w'.cell? (a2.add z) = some (.int .i64 yq)) (w44.drew.alloc (.cells #[.int .i64 (max xq yq)] 3)) := ⟨(D8.out.cell (World.block_lt_of_cell? _ _ x3)).trans x3, (D8.out.cell (World.block_lt_of_cell? _ _ x4)).trans x4, (D8.out.cell (World.block_lt_of_cell? _ _ r1)).trans r1, (D8.out.cell (World.block_lt_of_cell? _ _ r2)).trans r2⟩
                refine hK.out _ _ (fun _ => hT8) ?_
                clear hK K
                (try simp only [Act.put, List.setIfInBounds_toArray, List.set_cons_zero, List.set_cons_succ])
                refine M_step 13 rfl (by kernel_rfl) (fun K hK => ?_)
                refine step_append_at rfl (.tmp 142) (.tmp 154) 29 rfl w14.heap.size 3 i0 (.int .i64 0) 1 8 Try.underlying29 hi0 hz0' hz1 hz2 rfl (by decide) _ z _ (by simp [Act.eval]) (ho2.drew.alloc _) ⟨w44.heap.size, 0, none⟩ 1 1 [.int .i64 (max xq yq)] (by simp [Act.eval]) rfl (new1 w44.drew _) (by simp [Value.oneCell']) (by unfold maxLen; omega) (by omega) (by simp only [World.size_alloc, World.size_drew]; omega) ?_
                intro v5 w55 hown hg hat
                refine hK.out _ _ (fun e => by cases e) ?_
                clear hK K
                (try simp only [Act.put, List.setIfInBounds_toArray, List.set_cons_zero, List.set_cons_succ])
                refine M_step 14 rfl (by kernel_rfl) (fun K hK => ?_)
                go_simp
                refine hK.out _ _ (fun e => by cases e) ?_
                clear hK K
                (try simp only [Act.put, List.setIfInBounds_toArray, List.set_cons_zero, List.set_cons_succ])
                refine M_done (by kernel_rfl) ?_ _
                have R5 := Lib.hid ((R4.out.rot.up (nextB (Below.refl _ _).drew (box1 _ _))).app (z := max xq yq) hg (by rw [upTo_len]; exact hown) hat)
                clear hown hg hat hT8 D8 hT0
                have wz := WZ.out
                clear x3 x4 zX r1 r2 ho2
                go_wp2_with fail
                go_roundw
                case rel => exact ⟨z + 1, by omega, by go_num, by rw [upTo_succ, upTo_succ]; simp only [HXQ.out, HYQ.out]; exact R5.out.rot.rot⟩
                case measure => simp [intOf]; omega
              · obtain rfl : x.n1 = z := by omega
                have hnl : ¬ ((x.n1 : Int) < (x.n1 : Int)) := by omega
                obtain ⟨A5, k5, rfl, hi5⟩ := row_upTo (by have := RR.out.o1; rwa [upTo_len] at this) (by omega)
                obtain ⟨A6, k6, rfl, hi6⟩ := row_upTo (by have := RR.out.o2; rwa [upTo_len] at this) (by omega)
                have I5 : Hid (LiR A5 x.n1 (fun i => min (x.Z1 i) (x.Z2 i)) wo) := Lib.hid hi5
                have I6 : Hid (LiR A6 x.n1 (fun i => max (x.Z1 i) (x.Z2 i)) wo) := Lib.hid hi6
                have HMN := Lib.hid (HR.out.2.2.2.1 _ _ _ HT1.out (by have h := HT2.out; rw [← HN12.out] at h; exact h))
                have HMX := Lib.hid (HR.out.2.2.2.2.1 _ _ _ HT1.out (by have h := HT2.out; rw [← HN12.out] at h; exact h))
                clear hi5 hi6 hnl
                obtain ⟨w70, h70⟩ : ∃ w70 : World, w70 = wo := ⟨_, rfl⟩
                subst h70
                go_wp2_with fail
                refine (KI.out A5 _ k5 _ true _ D.out I5.out ⟨fun _ => HMN.out, fun _ => rfl⟩).mono ?_
                rintro e w71 ⟨rfl, hb⟩
                have J := Lib.hid (hb)
                have D := Lib.hid (nextB D.out J.out)
                clear x3 x4 c0 c1 c2 zC zX
                have C := Lib.hid (C.out.up J.out)
                have X := Lib.hid (X.out.up J.out)
                have I6 := Lib.hid (I6.out.up J.out)
                clear hb
                obtain ⟨c0, c1, c2⟩ := C.out
                have zC := C.out.lt
                have x3 : w71.cell? ⟨w.heap.size + 1, 3, none⟩ = some (.slice x.A1 x.n1 x.c1) := X.out.c 3 _ rfl
                have x4 : w71.cell? ⟨w.heap.size + 1, 4, none⟩ = some (.slice x.A2 x.n2 x.c2) := X.out.c 4 _ rfl
                have zX := X.out.lt
                go_wp2_with fail
                refine (KI.out A6 _ k6 _ true _ D.out I6.out ⟨fun _ => HMX.out, fun _ => rfl⟩).mono ?_
                rintro e w72 ⟨rfl, hb⟩
                have J := Lib.hid (hb)
                have D := Lib.hid (nextB D.out J.out)
                clear c0 c1 c2 zC x3 x4 zX
                have C := Lib.hid (C.out.up J.out)
                have X := Lib.hid (X.out.up J.out)
                have I6 := Lib.hid (I6.out.up J.out)
                clear hb
                obtain ⟨c0, c1, c2⟩ := C.out
                have zC := C.out.lt
                have x3 : w72.cell? ⟨w.heap.size + 1, 3, none⟩ = some (.slice x.A1 x.n1 x.c1) := X.out.c 3 _ rfl
                have x4 : w72.cell? ⟨w.heap.size + 1, 4, none⟩ = some (.slice x.A2 x.n2 x.c2) := X.out.c 4 _ rfl
                have zX := X.out.lt
                go_wp2_with fail
                go_ret
                exact ⟨rfl, D.out⟩
      · clear c0 c1 c2 zC x3 x4 zX
        have hn1 : (E1 != 0) = true := by simpa using hn
        have K1 := Lib.hid fun W h => ear_no c.d c.MA c.m c.mc c.F E1 S W (CC.out W h).1 (CC.out W h).2 hE hn
        have K2 := Lib.hid fun W h => lat_no c.d c.MA c.m c.mc c.F E1 S W (CC.out W h).1 (CC.out W h).2 hE hn
        have K3 := Lib.hid fun W h => Feasible_any c.d c.MA c.m c.mc c.F false E1 W (CC.out W h).1 (CC.out W h).2 hF
        have K4 := Lib.hid fun W h => is_any c x.A1 x.n1 x.c1 x.Z1 false W (CC.out W h) (AA.out W h).1 ⟨fun e => (Bool.false_ne_true e).elim, fun e => absurd ⟨e.1, e.2.1, _, e.2.2.2⟩ (rdR_none hE hn)⟩
        clear hE hF hn
        obtain ⟨c0, c1, c2⟩ := C.out
        have zC := C.out.lt
        have x3 : w4.cell? ⟨w.heap.size + 1, 3, none⟩ = some (.slice x.A1 x.n1 x.c1) := X.out.c 3 _ rfl
        have x4 : w4.cell? ⟨w.heap.size + 1, 4, none⟩ = some (.slice x.A2 x.n2 x.c2) := X.out.c 4 _ rfl
        have zX := X.out.lt
        go_wp2_with fail
        refine (K1.out _ D.out).mono ?_
        rintro e w5 ⟨A1, k1, rfl, hi, hb⟩
        have J := Lib.hid (hb)
        have D := Lib.hid (nextB D.out J.out)
        clear c0 c1 c2 zC x3 x4 zX
        have C := Lib.hid (C.out.up J.out)
        have X := Lib.hid (X.out.up J.out)
        clear hi
        clear hb
        obtain ⟨c0, c1, c2⟩ := C.out
        have zC := C.out.lt
        have x3 : w5.cell? ⟨w.heap.size + 1, 3, none⟩ = some (.slice x.A1 x.n1 x.c1) := X.out.c 3 _ rfl
        have x4 : w5.cell? ⟨w.heap.size + 1, 4, none⟩ = some (.slice x.A2 x.n2 x.c2) := X.out.c 4 _ rfl
        have zX := X.out.lt
        go_wp2_with fail
        refine (K2.out _ D.out).mono ?_
        rintro e w6 ⟨A2, k2, rfl, hi, hb⟩
        have J := Lib.hid (hb)
        have D := Lib.hid (nextB D.out J.out)
        clear c0 c1 c2 zC x3 x4 zX
        have C := Lib.hid (C.out.up J.out)
        have X := Lib.hid (X.out.up J.out)
        clear hi
        clear hb
        obtain ⟨c0, c1, c2⟩ := C.out
        have zC := C.out.lt
        have x3 : w6.cell? ⟨w.heap.size + 1, 3, none⟩ = some (.slice x.A1 x.n1 x.c1) := X.out.c 3 _ rfl
        have x4 : w6.cell? ⟨w.heap.size + 1, 4, none⟩ = some (.slice x.A2 x.n2 x.c2) := X.out.c 4 _ rfl
        have zX := X.out.lt
        go_wp2_with fail
        refine (K3.out _ D.out).mono ?_
        rintro e w7 ⟨rfl, hb⟩
        have J := Lib.hid (hb)
        have D := Lib.hid (nextB D.out J.out)
        clear c0 c1 c2 zC x3 x4 zX
        have C := Lib.hid (C.out.up J.out)
        have X := Lib.hid (X.out.up J.out)
        clear hb
        obtain ⟨c0, c1, c2⟩ := C.out
        have zC := C.out.lt
        have x3 : w7.cell? ⟨w.heap.size + 1, 3, none⟩ = some (.slice x.A1 x.n1 x.c1) := X.out.c 3 _ rfl
        have x4 : w7.cell? ⟨w.heap.size + 1, 4, none⟩ = some (.slice x.A2 x.n2 x.c2) := X.out.c 4 _ rfl
        have zX := X.out.lt
        go_wp2_with fail
        refine (K4.out _ D.out).mono ?_
        rintro e w8 ⟨rfl, hb⟩
        have J := Lib.hid (hb)
        have D := Lib.hid (nextB D.out J.out)
        clear c0 c1 c2 zC x3 x4 zX
        have C := Lib.hid (C.out.up J.out)
        have X := Lib.hid (X.out.up J.out)
        clear hb
        obtain ⟨c0, c1, c2⟩ := C.out
        have zC := C.out.lt
        have x3 : w8.cell? ⟨w.heap.size + 1, 3, none⟩ = some (.slice x.A1 x.n1 x.c1) := X.out.c 3 _ rfl
        have x4 : w8.cell? ⟨w.heap.size + 1, 4, none⟩ = some (.slice x.A2 x.n2 x.c2) := X.out.c 4 _ rfl
        have zX := X.out.lt
        go_wp2_with fail
        go_ret
        exact ⟨rfl, D.out⟩
      · clear c0 c1 c2 zC x3 x4 zX
        have hn1 : (E1 != 0) = true := by simpa using hn
        have K1 := Lib.hid fun W h => ear_no c.d c.MA c.m c.mc c.F E1 S W (CC.out W h).1 (CC.out W h).2 hE hn
        have K2 := Lib.hid fun W h => lat_no c.d c.MA c.m c.mc c.F E1 S W (CC.out W h).1 (CC.out W h).2 hE hn
        have K3 := Lib.hid fun W h => Feasible_any c.d c.MA c.m c.mc c.F false 0 W (CC.out W h).1 (CC.out W h).2 hF
        have K4 := Lib.hid fun W h => is_any c x.A1 x.n1 x.c1 x.Z1 false W (CC.out W h) (AA.out W h).1 ⟨fun e => (Bool.false_ne_true e).elim, fun e => absurd ⟨e.1, e.2.1, _, e.2.2.2⟩ (rdR_none hE hn)⟩
        clear hE hF hn
        obtain ⟨c0, c1, c2⟩ := C.out
        have zC := C.out.lt
        have x3 : w4.cell? ⟨w.heap.size + 1, 3, none⟩ = some (.slice x.A1 x.n1 x.c1) := X.out.c 3 _ rfl
        have x4 : w4.cell? ⟨w.heap.size + 1, 4, none⟩ = some (.slice x.A2 x.n2 x.c2) := X.out.c 4 _ rfl
        have zX := X.out.lt
        go_wp2_with fail
        refine (K1.out _ D.out).mono ?_
        rintro e w5 ⟨A1, k1, rfl, hi, hb⟩
        have J := Lib.hid (hb)
        have D := Lib.hid (nextB D.out J.out)
        clear c0 c1 c2 zC x3 x4 zX
        have C := Lib.hid (C.out.up J.out)
        have X := Lib.hid (X.out.up J.out)
        clear hi
        clear hb
        obtain ⟨c0, c1, c2⟩ := C.out
        have zC := C.out.lt
        have x3 : w5.cell? ⟨w.heap.size + 1, 3, none⟩ = some (.slice x.A1 x.n1 x.c1) := X.out.c 3 _ rfl
        have x4 : w5.cell? ⟨w.heap.size + 1, 4, none⟩ = some (.slice x.A2 x.n2 x.c2) := X.out.c 4 _ rfl
        have zX := X.out.lt
        go_wp2_with fail
        refine (K2.out _ D.out).mono ?_
        rintro e w6 ⟨A2, k2, rfl, hi, hb⟩
        have J := Lib.hid (hb)
        have D := Lib.hid (nextB D.out J.out)
        clear c0 c1 c2 zC x3 x4 zX
        have C := Lib.hid (C.out.up J.out)
        have X := Lib.hid (X.out.up J.out)
        clear hi
        clear hb
        obtain ⟨c0, c1, c2⟩ := C.out
        have zC := C.out.lt
        have x3 : w6.cell? ⟨w.heap.size + 1, 3, none⟩ = some (.slice x.A1 x.n1 x.c1) := X.out.c 3 _ rfl
        have x4 : w6.cell? ⟨w.heap.size + 1, 4, none⟩ = some (.slice x.A2 x.n2 x.c2) := X.out.c 4 _ rfl
        have zX := X.out.lt
        go_wp2_with fail
        refine (K3.out _ D.out).mono ?_
        rintro e w7 ⟨rfl, hb⟩
        have J := Lib.hid (hb)
        have D := Lib.hid (nextB D.out J.out)
        clear c0 c1 c2 zC x3 x4 zX
        have C := Lib.hid (C.out.up J.out)
        have X := Lib.hid (X.out.up J.out)
        clear hb
        obtain ⟨c0, c1, c2⟩ := C.out
        have zC := C.out.lt
        have x3 : w7.cell? ⟨w.heap.size + 1, 3, none⟩ = some (.slice x.A1 x.n1 x.c1) := X.out.c 3 _ rfl
        have x4 : w7.cell? ⟨w.heap.size + 1, 4, none⟩ = some (.slice x.A2 x.n2 x.c2) := X.out.c 4 _ rfl
        have zX := X.out.lt
        go_wp2_with fail
        refine (K4.out _ D.out).mono ?_
        rintro e w8 ⟨rfl, hb⟩
        have J := Lib.hid (hb)
        have D := Lib.hid (nextB D.out J.out)
        clear c0 c1 c2 zC x3 x4 zX
        have C := Lib.hid (C.out.up J.out)
        have X := Lib.hid (X.out.up J.out)
        clear hb
        obtain ⟨c0, c1, c2⟩ := C.out
        have zC := C.out.lt
        have x3 : w8.cell? ⟨w.heap.size + 1, 3, none⟩ = some (.slice x.A1 x.n1 x.c1) := X.out.c 3 _ rfl
        have x4 : w8.cell? ⟨w.heap.size + 1, 4, none⟩ = some (.slice x.A2 x.n2 x.c2) := X.out.c 4 _ rfl
        have zX := X.out.lt
        go_wp2_with fail
        go_ret
        exact ⟨rfl, D.out⟩
end Go.Proofs.Ytpikaohodieeaaa
