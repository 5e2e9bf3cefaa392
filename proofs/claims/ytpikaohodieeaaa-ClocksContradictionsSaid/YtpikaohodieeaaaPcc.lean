/- ClocksContradictions' law. -/
import Derived.Test.YtpikaohodieeaaaRme
import Derived.Test.YtpikaohodieeaaaRdp
namespace Go.Proofs.Ytpikaohodieeaaa
open Go.RowKit
set_option linter.unusedSimpArgs false
set_option linter.unusedVariables false
theorem ctR_ex2 (d : Drm) (m : Nat) (F : Nat → Int × Int × Int) : ∃ x E, CtR d m F x E := by
  obtain ⟨L, E, h⟩ := paR_ex d m F
  rcases h with ⟨h1, h2, h3⟩ | ⟨h1, h2, h3, h4⟩
  · exact ⟨[], E, .inl ⟨h1, rfl, h3⟩⟩
  · cases L with
    | nil => exact ⟨[], 3, .inr ⟨h1, h2, [], h3, .inl ⟨rfl, rfl, rfl⟩⟩⟩
    | cons x t => exact ⟨x, 0, .inr ⟨h1, h2, x :: t, h3, .inr ⟨rfl, rfl⟩⟩⟩
theorem conR_b {d : Drm} {m : Nat} {F : Nat → Int × Int × Int} {L : List (List Int)} (h : ConR d m F L) (hm : m ≤ 64) : (∀ x, x ∈ L → x.length ≤ 1000) ∧ L.length ≤ 100000 := by
  obtain ⟨r0, al, pr, rfl, _⟩ := h
  refine ⟨fun x hx => by have := con_two r0 al pr m x hx; omega, ?_⟩
  have h1 := con_max r0 al pr m
  have h2 : m * m ≤ 64 * 64 := Nat.mul_le_mul hm hm
  omega
theorem ctR_b {d : Drm} {m : Nat} {F : Nat → Int × Int × Int} {x : List Int} {E : Int} (h : CtR d m F x E) : x.length ≤ 1000 := by
  rcases h with ⟨_, rfl, _⟩ | ⟨_, h2, L, h3, ⟨_, rfl, _⟩ | ⟨h4, _⟩⟩
  · simp
  · simp
  · exact (conR_b h3 h2.1).1 x (List.mem_of_getElem? h4)
theorem paR_b {d : Drm} {m : Nat} {F : Nat → Int × Int × Int} {L : List (List Int)} {E : Int} (h : PaR d m F L E) : (∀ x, x ∈ L → x.length ≤ 1000) ∧ L.length ≤ 100000 := by
  rcases h with ⟨_, rfl, _⟩ | ⟨_, h2, h3, _⟩
  · exact ⟨fun x h => (by cases h), by simp⟩
  · exact conR_b h3 h2.1
theorem dpR_b {d : Drm} {m : Nat} {F : Nat → Int × Int × Int} {L : List (List Int)} {E : Int} (h : DpR d m F L E) : (∀ x, x ∈ L → x.length ≤ 1000) ∧ L.length ≤ 100000 := by
  rcases h with ⟨_, rfl, _⟩ | ⟨_, h2, ⟨_, rfl, _⟩ | ⟨_, _, rfl, _⟩ | ⟨h3, _, _, P, k, _, hk, rfl, _⟩⟩
  · exact ⟨fun x h => (by cases h), by simp⟩
  · exact ⟨fun x h => (by cases h), by simp⟩
  · exact ⟨fun x h => (by cases h), by simp⟩
  · refine ⟨fun x hx => ?_, by have := dL_len (P := P) (k := k) h3; omega⟩
    unfold dL at hx
    have := ext_len m k 0 x (List.mem_filter.1 hx).1
    omega
theorem ct_u {x : List Int} {E : Int} {w w' : World} {e : Ending} (hx : x.length ≤ 1000) (h : ∃ v, e = .returned (.tuple #[v, .int .i64 E]) ∧ RlS 0 x #[v] (fun _ => False) w' ∧ Below w.heap.size w w') : ∃ A c, e = .returned (.tuple #[.slice A x.length c, .int .i64 E]) ∧ LiIn A x w' ∧ Below w.heap.size w w' := by
  obtain ⟨v, h1, h2, h3⟩ := h
  obtain ⟨A, c, e2, _⟩ := id h2
  obtain rfl : v = .slice A x.length c := by injection e2 with e2; injection e2
  exact ⟨A, c, h1, (h2.li hx).2, h3⟩
theorem ls_u {L : List (List Int)} {E : Int} {w w' : World} {e : Ending} {B0 : Nat} (hL : (∀ x, x ∈ L → x.length ≤ 1000) ∧ L.length ≤ 100000) (h : ∃ v, e = .returned (.tuple #[v, .int .i64 E]) ∧ LsR B0 w L v w') : ∃ A c, e = .returned (.tuple #[.slice A L.length c, .int .i64 E]) ∧ LssIn A L w' ∧ Below w.heap.size w w' := by
  obtain ⟨v, h1, h2⟩ := h
  obtain ⟨A, c, rfl⟩ := h2.slice
  exact ⟨A, c, h1, h2.lss hL.1 hL.2, h2.1⟩
theorem me_u {w w' : World} {n : Nat} {Z : Nat → Int} {E : Int} {e : Ending} (h : MePost w n Z E e w') : ∃ A q k, e = .returned (.tuple #[.slice A q k, .int .i64 E]) ∧ q = (if E = 0 then n else 0) ∧ LiR A q Z w' ∧ Below w.heap.size w w' := by
  obtain ⟨A, q, k, h1, h2, h3, h4, h5⟩ := h
  refine ⟨A, q, k, h1, ?_, h4, h5⟩
  by_cases e : E = 0
  · rw [if_pos e]; exact h2 e
  · rw [if_neg e]; exact h3 e
set_option maxRecDepth 100000 in
set_option maxHeartbeats 40000000 in
theorem contradictions_law (c : Clo) (x : Aks) (w : World) (hc : ClIn c w.heap.size w) (hx : AkIn x w.heap.size w) :
    Calls Try.prog 6 #[c.v, x.v] w fun e w' => e = .returned (.bool true) ∧ Below w.heap.size w w' := by
  have CC : Hid (∀ W, Below w.heap.size w W → ClIn c W.heap.size W) := Lib.hid fun W h => (hc.up h (Nat.le_refl _)).more h.size
  have AA : Hid (∀ W, Below w.heap.size w W → AkIn x W.heap.size W) := Lib.hid fun W h => (hx.up h (Nat.le_refl _)).more h.size
  obtain ⟨G, hG⟩ := few_ex c
  have HG := Lib.hid hG
  clear hc hG hx
  go_enter Try.func6, Try.ntmps6
  go_wp2_with fail
  refine (awake_any _).mono ?_
  rintro e w2 ⟨rfl, hb⟩
  have D := Lib.hid (nextB (w2b_below c x w) hb)
  have C : Hid (HasCl c w.heap.size w2) := Lib.hid ((w2b_cl c x w).up hb)
  have X : Hid (HasAk x (w.heap.size + 1) w2) := Lib.hid ((w2b_ak c x w).up hb)
  clear hb
  obtain ⟨c0, c1, c2⟩ := C.out
  have zC := C.out.lt
  have x0 : w2.cell? ⟨w.heap.size + 1, 0, none⟩ = some (.int .i64 x.A) := X.out.c 0 _ rfl
  have x1 : w2.cell? ⟨w.heap.size + 1, 1, none⟩ = some (.int .i64 x.B) := X.out.c 1 _ rfl
  have x2 : w2.cell? ⟨w.heap.size + 1, 2, none⟩ = some (.int .i64 x.t) := X.out.c 2 _ rfl
  have x3 : w2.cell? ⟨w.heap.size + 1, 3, none⟩ = some (.slice x.A1 x.n1 x.c1) := X.out.c 3 _ rfl
  have x4 : w2.cell? ⟨w.heap.size + 1, 4, none⟩ = some (.slice x.A2 x.n2 x.c2) := X.out.c 4 _ rfl
  have x5 : w2.cell? ⟨w.heap.size + 1, 5, none⟩ = some (.slice x.A3 x.n3 x.c3) := X.out.c 5 _ rfl
  have x6 : w2.cell? ⟨w.heap.size + 1, 6, none⟩ = some (.int .i64 x.f.1) := X.out.c 6 _ rfl
  have x7 : w2.cell? ⟨w.heap.size + 1, 7, none⟩ = some (.int .i64 x.f.2.1) := X.out.c 7 _ rfl
  have x8 : w2.cell? ⟨w.heap.size + 1, 8, none⟩ = some (.int .i64 x.f.2.2) := X.out.c 8 _ rfl
  have x9 : w2.cell? ⟨w.heap.size + 1, 9, none⟩ = some (.int .i64 x.s.1) := X.out.c 9 _ rfl
  have x10 : w2.cell? ⟨w.heap.size + 1, 10, none⟩ = some (.int .i64 x.s.2.1) := X.out.c 10 _ rfl
  have x11 : w2.cell? ⟨w.heap.size + 1, 11, none⟩ = some (.int .i64 x.s.2.2) := X.out.c 11 _ rfl
  have x12 : w2.cell? ⟨w.heap.size + 1, 12, none⟩ = some (.int .i64 x.p.1) := X.out.c 12 _ rfl
  have x13 : w2.cell? ⟨w.heap.size + 1, 13, none⟩ = some (.int .i64 x.p.2.1) := X.out.c 13 _ rfl
  have x14 : w2.cell? ⟨w.heap.size + 1, 14, none⟩ = some (.int .i64 x.p.2.2) := X.out.c 14 _ rfl
  have zX := X.out.lt
  go_wp2_with fail
  refine (few_any c G _ HG.out).mono ?_
  rintro e w3 ⟨rfl, hb⟩
  have J := Lib.hid (hb)
  have D := Lib.hid (nextB D.out J.out)
  clear c0 c1 c2 zC x0 x1 x2 x3 x4 x5 x6 x7 x8 x9 x10 x11 x12 x13 x14 zX
  have C := Lib.hid (C.out.up J.out)
  have X := Lib.hid (X.out.up J.out)
  clear hb
  obtain ⟨c0, c1, c2⟩ := C.out
  have zC := C.out.lt
  have x0 : w3.cell? ⟨w.heap.size + 1, 0, none⟩ = some (.int .i64 x.A) := X.out.c 0 _ rfl
  have x1 : w3.cell? ⟨w.heap.size + 1, 1, none⟩ = some (.int .i64 x.B) := X.out.c 1 _ rfl
  have x2 : w3.cell? ⟨w.heap.size + 1, 2, none⟩ = some (.int .i64 x.t) := X.out.c 2 _ rfl
  have x3 : w3.cell? ⟨w.heap.size + 1, 3, none⟩ = some (.slice x.A1 x.n1 x.c1) := X.out.c 3 _ rfl
  have x4 : w3.cell? ⟨w.heap.size + 1, 4, none⟩ = some (.slice x.A2 x.n2 x.c2) := X.out.c 4 _ rfl
  have x5 : w3.cell? ⟨w.heap.size + 1, 5, none⟩ = some (.slice x.A3 x.n3 x.c3) := X.out.c 5 _ rfl
  have x6 : w3.cell? ⟨w.heap.size + 1, 6, none⟩ = some (.int .i64 x.f.1) := X.out.c 6 _ rfl
  have x7 : w3.cell? ⟨w.heap.size + 1, 7, none⟩ = some (.int .i64 x.f.2.1) := X.out.c 7 _ rfl
  have x8 : w3.cell? ⟨w.heap.size + 1, 8, none⟩ = some (.int .i64 x.f.2.2) := X.out.c 8 _ rfl
  have x9 : w3.cell? ⟨w.heap.size + 1, 9, none⟩ = some (.int .i64 x.s.1) := X.out.c 9 _ rfl
  have x10 : w3.cell? ⟨w.heap.size + 1, 10, none⟩ = some (.int .i64 x.s.2.1) := X.out.c 10 _ rfl
  have x11 : w3.cell? ⟨w.heap.size + 1, 11, none⟩ = some (.int .i64 x.s.2.2) := X.out.c 11 _ rfl
  have x12 : w3.cell? ⟨w.heap.size + 1, 12, none⟩ = some (.int .i64 x.p.1) := X.out.c 12 _ rfl
  have x13 : w3.cell? ⟨w.heap.size + 1, 13, none⟩ = some (.int .i64 x.p.2.1) := X.out.c 13 _ rfl
  have x14 : w3.cell? ⟨w.heap.size + 1, 14, none⟩ = some (.int .i64 x.p.2.2) := X.out.c 14 _ rfl
  have zX := X.out.lt
  cases G with
  | false =>
    go_wp2_with fail
    go_ret
    exact ⟨rfl, D.out⟩
  | true =>
    clear HG
    obtain ⟨L, hL⟩ := bool_of (Light x)
    go_wp2_with fail
    refine (light_any x L _ hL).mono ?_
    rintro e w4 ⟨rfl, hb⟩
    have J := Lib.hid (hb)
    have D := Lib.hid (nextB D.out J.out)
    clear c0 c1 c2 zC x0 x1 x2 x3 x4 x5 x6 x7 x8 x9 x10 x11 x12 x13 x14 zX
    have C := Lib.hid (C.out.up J.out)
    have X := Lib.hid (X.out.up J.out)
    clear hb
    obtain ⟨c0, c1, c2⟩ := C.out
    have zC := C.out.lt
    have x3 : w4.cell? ⟨w.heap.size + 1, 3, none⟩ = some (.slice x.A1 x.n1 x.c1) := X.out.c 3 _ rfl
    have x4 : w4.cell? ⟨w.heap.size + 1, 4, none⟩ = some (.slice x.A2 x.n2 x.c2) := X.out.c 4 _ rfl
    have x5 : w4.cell? ⟨w.heap.size + 1, 5, none⟩ = some (.slice x.A3 x.n3 x.c3) := X.out.c 5 _ rfl
    have zX := X.out.lt
    clear hL
    cases L with
    | false =>
      go_wp2_with fail
      go_ret
      exact ⟨rfl, D.out⟩
    | true =>
      obtain ⟨E1, hE1⟩ := meR_ex c.d c.m c.F x.n1 x.n2 x.n3 x.Z1 x.Z2 x.Z3
      obtain ⟨y, E2, hE2⟩ := ctR_ex2 c.d c.m c.F
      obtain ⟨LP, E3, hE3⟩ := paR_ex c.d c.m c.F
      obtain ⟨LD, E4, hE4⟩ := dpR_ex c.d c.m c.F
      have hy := ctR_b hE2
      have hP := paR_b hE3
      have hD := dpR_b hE4
      have K1 := Lib.hid fun W h => (Median_any c.d c.MA c.m c.mc c.F x.A1 x.n1 x.c1 x.Z1 x.A2 x.n2 x.c2 x.Z2 x.A3 x.n3 x.c3 x.Z3 E1 W (CC.out W h).1 (CC.out W h).2 (AA.out W h).1 (AA.out W h).2.1 (AA.out W h).2.2 hE1).mono fun _ _ h => me_u h
      have K2 := Lib.hid fun W h => (RMedian_any c.d c.MA c.m c.mc c.F x.A1 x.n1 x.c1 x.Z1 x.A2 x.n2 x.c2 x.Z2 x.A3 x.n3 x.c3 x.Z3 E1 W (CC.out W h).1 (CC.out W h).2 (AA.out W h).1 (AA.out W h).2.1 (AA.out W h).2.2 hE1).mono fun _ _ h => me_u h
      have K3 := Lib.hid fun W h => (Contradiction_any c.d c.MA c.m c.mc c.F y E2 W (CC.out W h).1 (CC.out W h).2 hE2).mono fun _ _ h => ct_u hy h
      have K4 := Lib.hid fun W h => RContradiction_any c.d c.MA c.m c.mc c.F y E2 W (CC.out W h).1 (CC.out W h).2 hE2
      have K5 := Lib.hid fun W h => (Pairs_any c.d c.MA c.m c.mc c.F LP E3 W (CC.out W h).1 (CC.out W h).2 hE3).mono fun _ _ h => ls_u hP h
      have K6 := Lib.hid fun W h => RPairs_any c.d c.MA c.m c.mc c.F LP E3 W (CC.out W h).1 (CC.out W h).2 hE3
      have K7 := Lib.hid fun W h => (Drops_any c.d c.MA c.m c.mc c.F LD E4 W (CC.out W h).1 (CC.out W h).2 hE4).mono fun _ _ h => ls_u hD h
      have K8 := Lib.hid fun W h => RDrops_any c.d c.MA c.m c.mc c.F LD E4 W (CC.out W h).1 (CC.out W h).2 hE4
      have b1 : (E1 != E1) = false := by simp
      have b2 : (E2 != E2) = false := by simp
      have b3 : (E3 == E3) = true := by simp
      have b4 : (E4 == E4) = true := by simp
      clear hE1 hE2 hE3 hE4 hy hP hD
      go_wp2_with fail
      refine (K1.out _ D.out).mono ?_
      rintro e w5 ⟨A1, q1, k1, rfl, hq, hi, hb⟩
      have J := Lib.hid (hb)
      have D := Lib.hid (nextB D.out J.out)
      clear c0 c1 c2 zC x3 x4 x5 zX
      have C := Lib.hid (C.out.up J.out)
      have X := Lib.hid (X.out.up J.out)
      have I1 : Hid (LiR A1 q1 (fun i => med (x.Z1 i) (x.Z2 i) (x.Z3 i)) w5) := Lib.hid hi
      have Q1 := Lib.hid hq
      clear hi hq
      clear hb
      obtain ⟨c0, c1, c2⟩ := C.out
      have zC := C.out.lt
      have x3 : w5.cell? ⟨w.heap.size + 1, 3, none⟩ = some (.slice x.A1 x.n1 x.c1) := X.out.c 3 _ rfl
      have x4 : w5.cell? ⟨w.heap.size + 1, 4, none⟩ = some (.slice x.A2 x.n2 x.c2) := X.out.c 4 _ rfl
      have x5 : w5.cell? ⟨w.heap.size + 1, 5, none⟩ = some (.slice x.A3 x.n3 x.c3) := X.out.c 5 _ rfl
      have zX := X.out.lt
      go_wp2_with fail
      refine (K2.out _ D.out).mono ?_
      rintro e w6 ⟨A2, q2, k2, rfl, hq, hi, hb⟩
      have J := Lib.hid (hb)
      have D := Lib.hid (nextB D.out J.out)
      clear c0 c1 c2 zC x3 x4 x5 zX
      have C := Lib.hid (C.out.up J.out)
      have X := Lib.hid (X.out.up J.out)
      have I1 := Lib.hid (I1.out.up J.out)
      have I2 : Hid (LiR A2 q2 (fun i => med (x.Z1 i) (x.Z2 i) (x.Z3 i)) w6) := Lib.hid hi
      have Q2 := Lib.hid hq
      clear hi hq
      clear hb
      obtain ⟨c0, c1, c2⟩ := C.out
      have zC := C.out.lt
      have x3 : w6.cell? ⟨w.heap.size + 1, 3, none⟩ = some (.slice x.A1 x.n1 x.c1) := X.out.c 3 _ rfl
      have x4 : w6.cell? ⟨w.heap.size + 1, 4, none⟩ = some (.slice x.A2 x.n2 x.c2) := X.out.c 4 _ rfl
      have x5 : w6.cell? ⟨w.heap.size + 1, 5, none⟩ = some (.slice x.A3 x.n3 x.c3) := X.out.c 5 _ rfl
      have zX := X.out.lt
      go_wp2_with fail
      refine (K3.out _ D.out).mono ?_
      rintro e w7 ⟨A3, k3, rfl, hi, hb⟩
      have J := Lib.hid (hb)
      have D := Lib.hid (nextB D.out J.out)
      clear c0 c1 c2 zC x3 x4 x5 zX
      have C := Lib.hid (C.out.up J.out)
      have X := Lib.hid (X.out.up J.out)
      have I1 := Lib.hid (I1.out.up J.out)
      have I2 := Lib.hid (I2.out.up J.out)
      have I3 := Lib.hid hi
      clear hi
      clear hb
      obtain ⟨c0, c1, c2⟩ := C.out
      have zC := C.out.lt
      have x3 : w7.cell? ⟨w.heap.size + 1, 3, none⟩ = some (.slice x.A1 x.n1 x.c1) := X.out.c 3 _ rfl
      have x4 : w7.cell? ⟨w.heap.size + 1, 4, none⟩ = some (.slice x.A2 x.n2 x.c2) := X.out.c 4 _ rfl
      have x5 : w7.cell? ⟨w.heap.size + 1, 5, none⟩ = some (.slice x.A3 x.n3 x.c3) := X.out.c 5 _ rfl
      have zX := X.out.lt
      go_wp2_with fail
      refine (K4.out _ D.out).mono ?_
      rintro e w8 ⟨A4, k4, rfl, hi, hb⟩
      have J := Lib.hid (hb)
      have D := Lib.hid (nextB D.out J.out)
      clear c0 c1 c2 zC x3 x4 x5 zX
      have C := Lib.hid (C.out.up J.out)
      have X := Lib.hid (X.out.up J.out)
      have I1 := Lib.hid (I1.out.up J.out)
      have I2 := Lib.hid (I2.out.up J.out)
      have I3 := Lib.hid (I3.out.up J.out)
      have I4 := Lib.hid hi
      clear hi
      clear hb
      obtain ⟨c0, c1, c2⟩ := C.out
      have zC := C.out.lt
      have x3 : w8.cell? ⟨w.heap.size + 1, 3, none⟩ = some (.slice x.A1 x.n1 x.c1) := X.out.c 3 _ rfl
      have x4 : w8.cell? ⟨w.heap.size + 1, 4, none⟩ = some (.slice x.A2 x.n2 x.c2) := X.out.c 4 _ rfl
      have x5 : w8.cell? ⟨w.heap.size + 1, 5, none⟩ = some (.slice x.A3 x.n3 x.c3) := X.out.c 5 _ rfl
      have zX := X.out.lt
      go_wp2_with fail
      refine (SameInts_any q1 q2 A1 A2 k1 k2 _ _ true _ I1.out I2.out ⟨fun _ => ⟨Q1.out.trans Q2.out.symm, fun i _ => rfl⟩, fun _ => rfl⟩).mono ?_
      rintro e w9 ⟨rfl, hb⟩
      have J := Lib.hid (hb)
      have D := Lib.hid (nextB D.out J.out)
      clear c0 c1 c2 zC x3 x4 x5 zX
      have C := Lib.hid (C.out.up J.out)
      have X := Lib.hid (X.out.up J.out)
      have I1 := Lib.hid (I1.out.up J.out)
      have I2 := Lib.hid (I2.out.up J.out)
      have I3 := Lib.hid (I3.out.up J.out)
      have I4 := Lib.hid (I4.out.up J.out)
      clear hb
      obtain ⟨c0, c1, c2⟩ := C.out
      have zC := C.out.lt
      have x3 : w9.cell? ⟨w.heap.size + 1, 3, none⟩ = some (.slice x.A1 x.n1 x.c1) := X.out.c 3 _ rfl
      have x4 : w9.cell? ⟨w.heap.size + 1, 4, none⟩ = some (.slice x.A2 x.n2 x.c2) := X.out.c 4 _ rfl
      have x5 : w9.cell? ⟨w.heap.size + 1, 5, none⟩ = some (.slice x.A3 x.n3 x.c3) := X.out.c 5 _ rfl
      have zX := X.out.lt
      go_wp2_with fail
      refine (SameInts_any _ _ A3 A4 k3 k4 _ _ true _ I3.out I4.out ⟨fun _ => ⟨rfl, fun i _ => rfl⟩, fun _ => rfl⟩).mono ?_
      rintro e w10 ⟨rfl, hb⟩
      have J := Lib.hid (hb)
      have D := Lib.hid (nextB D.out J.out)
      clear c0 c1 c2 zC x3 x4 x5 zX
      have C := Lib.hid (C.out.up J.out)
      have X := Lib.hid (X.out.up J.out)
      have I1 := Lib.hid (I1.out.up J.out)
      have I2 := Lib.hid (I2.out.up J.out)
      have I3 := Lib.hid (I3.out.up J.out)
      have I4 := Lib.hid (I4.out.up J.out)
      clear hb
      obtain ⟨c0, c1, c2⟩ := C.out
      have zC := C.out.lt
      have x3 : w10.cell? ⟨w.heap.size + 1, 3, none⟩ = some (.slice x.A1 x.n1 x.c1) := X.out.c 3 _ rfl
      have x4 : w10.cell? ⟨w.heap.size + 1, 4, none⟩ = some (.slice x.A2 x.n2 x.c2) := X.out.c 4 _ rfl
      have x5 : w10.cell? ⟨w.heap.size + 1, 5, none⟩ = some (.slice x.A3 x.n3 x.c3) := X.out.c 5 _ rfl
      have zX := X.out.lt
      clear I1
      clear I2
      clear I3
      clear I4
      clear Q1 Q2
      go_wp2_with fail
      refine (K5.out _ D.out).mono ?_
      rintro e w11 ⟨A5, k5, rfl, hi, hb⟩
      have J := Lib.hid (hb)
      have D := Lib.hid (nextB D.out J.out)
      clear c0 c1 c2 zC x3 x4 x5 zX
      have C := Lib.hid (C.out.up J.out)
      have X := Lib.hid (X.out.up J.out)
      have I5 := Lib.hid hi
      clear hi
      clear hb
      obtain ⟨c0, c1, c2⟩ := C.out
      have zC := C.out.lt
      have x3 : w11.cell? ⟨w.heap.size + 1, 3, none⟩ = some (.slice x.A1 x.n1 x.c1) := X.out.c 3 _ rfl
      have x4 : w11.cell? ⟨w.heap.size + 1, 4, none⟩ = some (.slice x.A2 x.n2 x.c2) := X.out.c 4 _ rfl
      have x5 : w11.cell? ⟨w.heap.size + 1, 5, none⟩ = some (.slice x.A3 x.n3 x.c3) := X.out.c 5 _ rfl
      have zX := X.out.lt
      go_wp2_with fail
      refine (K6.out _ D.out).mono ?_
      rintro e w12 ⟨A6, k6, rfl, hi, hb⟩
      have J := Lib.hid (hb)
      have D := Lib.hid (nextB D.out J.out)
      clear c0 c1 c2 zC x3 x4 x5 zX
      have C := Lib.hid (C.out.up J.out)
      have X := Lib.hid (X.out.up J.out)
      have I5 := Lib.hid (I5.out.up J.out)
      have I6 := Lib.hid hi
      clear hi
      clear hb
      obtain ⟨c0, c1, c2⟩ := C.out
      have zC := C.out.lt
      have x3 : w12.cell? ⟨w.heap.size + 1, 3, none⟩ = some (.slice x.A1 x.n1 x.c1) := X.out.c 3 _ rfl
      have x4 : w12.cell? ⟨w.heap.size + 1, 4, none⟩ = some (.slice x.A2 x.n2 x.c2) := X.out.c 4 _ rfl
      have x5 : w12.cell? ⟨w.heap.size + 1, 5, none⟩ = some (.slice x.A3 x.n3 x.c3) := X.out.c 5 _ rfl
      have zX := X.out.lt
      go_wp2_with fail
      refine (K7.out _ D.out).mono ?_
      rintro e w13 ⟨A7, k7, rfl, hi, hb⟩
      have J := Lib.hid (hb)
      have D := Lib.hid (nextB D.out J.out)
      clear c0 c1 c2 zC x3 x4 x5 zX
      have C := Lib.hid (C.out.up J.out)
      have X := Lib.hid (X.out.up J.out)
      have I5 := Lib.hid (I5.out.up J.out)
      have I6 := Lib.hid (I6.out.up J.out)
      have I7 := Lib.hid hi
      clear hi
      clear hb
      obtain ⟨c0, c1, c2⟩ := C.out
      have zC := C.out.lt
      have x3 : w13.cell? ⟨w.heap.size + 1, 3, none⟩ = some (.slice x.A1 x.n1 x.c1) := X.out.c 3 _ rfl
      have x4 : w13.cell? ⟨w.heap.size + 1, 4, none⟩ = some (.slice x.A2 x.n2 x.c2) := X.out.c 4 _ rfl
      have x5 : w13.cell? ⟨w.heap.size + 1, 5, none⟩ = some (.slice x.A3 x.n3 x.c3) := X.out.c 5 _ rfl
      have zX := X.out.lt
      go_wp2_with fail
      refine (K8.out _ D.out).mono ?_
      rintro e w14 ⟨A8, k8, rfl, hi, hb⟩
      have J := Lib.hid (hb)
      have D := Lib.hid (nextB D.out J.out)
      clear c0 c1 c2 zC x3 x4 x5 zX
      have C := Lib.hid (C.out.up J.out)
      have X := Lib.hid (X.out.up J.out)
      have I5 := Lib.hid (I5.out.up J.out)
      have I6 := Lib.hid (I6.out.up J.out)
      have I7 := Lib.hid (I7.out.up J.out)
      have I8 := Lib.hid hi
      clear hi
      clear hb
      obtain ⟨c0, c1, c2⟩ := C.out
      have zC := C.out.lt
      have x3 : w14.cell? ⟨w.heap.size + 1, 3, none⟩ = some (.slice x.A1 x.n1 x.c1) := X.out.c 3 _ rfl
      have x4 : w14.cell? ⟨w.heap.size + 1, 4, none⟩ = some (.slice x.A2 x.n2 x.c2) := X.out.c 4 _ rfl
      have x5 : w14.cell? ⟨w.heap.size + 1, 5, none⟩ = some (.slice x.A3 x.n3 x.c3) := X.out.c 5 _ rfl
      have zX := X.out.lt
      go_wp2_with fail
      refine (SameLists_any LP LP A5 A6 k5 k6 true _ I5.out I6.out ⟨fun _ => rfl, fun _ => rfl⟩).mono ?_
      rintro e w15 ⟨rfl, hb⟩
      have J := Lib.hid (hb)
      have D := Lib.hid (nextB D.out J.out)
      clear c0 c1 c2 zC x3 x4 x5 zX
      have C := Lib.hid (C.out.up J.out)
      have X := Lib.hid (X.out.up J.out)
      have I5 := Lib.hid (I5.out.up J.out)
      have I6 := Lib.hid (I6.out.up J.out)
      have I7 := Lib.hid (I7.out.up J.out)
      have I8 := Lib.hid (I8.out.up J.out)
      clear hb
      obtain ⟨c0, c1, c2⟩ := C.out
      have zC := C.out.lt
      have x3 : w15.cell? ⟨w.heap.size + 1, 3, none⟩ = some (.slice x.A1 x.n1 x.c1) := X.out.c 3 _ rfl
      have x4 : w15.cell? ⟨w.heap.size + 1, 4, none⟩ = some (.slice x.A2 x.n2 x.c2) := X.out.c 4 _ rfl
      have x5 : w15.cell? ⟨w.heap.size + 1, 5, none⟩ = some (.slice x.A3 x.n3 x.c3) := X.out.c 5 _ rfl
      have zX := X.out.lt
      go_wp2_with fail
      refine (SameLists_any LD LD A7 A8 k7 k8 true _ I7.out I8.out ⟨fun _ => rfl, fun _ => rfl⟩).mono ?_
      rintro e w16 ⟨rfl, hb⟩
      have J := Lib.hid (hb)
      have D := Lib.hid (nextB D.out J.out)
      clear c0 c1 c2 zC x3 x4 x5 zX
      have C := Lib.hid (C.out.up J.out)
      have X := Lib.hid (X.out.up J.out)
      have I5 := Lib.hid (I5.out.up J.out)
      have I6 := Lib.hid (I6.out.up J.out)
      have I7 := Lib.hid (I7.out.up J.out)
      have I8 := Lib.hid (I8.out.up J.out)
      clear hb
      obtain ⟨c0, c1, c2⟩ := C.out
      have zC := C.out.lt
      have x3 : w16.cell? ⟨w.heap.size + 1, 3, none⟩ = some (.slice x.A1 x.n1 x.c1) := X.out.c 3 _ rfl
      have x4 : w16.cell? ⟨w.heap.size + 1, 4, none⟩ = some (.slice x.A2 x.n2 x.c2) := X.out.c 4 _ rfl
      have x5 : w16.cell? ⟨w.heap.size + 1, 5, none⟩ = some (.slice x.A3 x.n3 x.c3) := X.out.c 5 _ rfl
      have zX := X.out.lt
      go_wp2_with fail
      go_ret
      exact ⟨rfl, D.out⟩
end Go.Proofs.Ytpikaohodieeaaa
