/- ClocksDifferences' law. -/
import Derived.Test.YtpikaohodieeaaaRdr
namespace Go.Proofs.Ytpikaohodieeaaa
open Go.RowKit
set_option linter.unusedSimpArgs false
set_option linter.unusedVariables false
/-- spans in memory -/
def SpL (A : Option Addr) (n : Nat) (S : Nat → Int × Int) (w : World) : Prop := SpsIn A n S w.heap.size w
theorem SpL.up {A : Option Addr} {n : Nat} {S : Nat → Int × Int} {w w' : World} (h : SpL A n S w) (hb : Below w.heap.size w w') : SpL A n S w' := (SpsIn.up h hb (Nat.le_refl _)).more hb.size
theorem run_sp {n : Nat} {E : Int} {S : Nat → Int × Int} {e : Ending} {w w' : World} (h : ∃ v, e = .returned (.tuple #[v, .int .i64 E]) ∧ RdV n E S v w w') (hn : E = 0 → n ≤ 200) : ∃ A q c, e = .returned (.tuple #[.slice A q c, .int .i64 E]) ∧ q = (if E = 0 then n + 1 else 0) ∧ SpL A q S w' ∧ Below w.heap.size w w' := by
  obtain ⟨v, rfl, hb, ⟨hne, rfl⟩ | ⟨rfl, t, rfl, ht, hS⟩⟩ := h
  · exact ⟨none, 0, 0, rfl, by rw [if_neg hne], sps_nil _ _ _, hb⟩
  · exact ⟨some ⟨t, 0, none⟩, n + 1, n + 1, rfl, by rw [if_pos rfl], hS.sps (by have := hn rfl; omega), hb⟩
set_option maxRecDepth 100000 in
set_option maxHeartbeats 40000000 in
theorem differences_law (c : Clo) (x : Aks) (w : World) (hc : ClIn c w.heap.size w) (hx : AkIn x w.heap.size w) :
    Calls Try.prog 5 #[c.v, x.v] w fun e w' => e = .returned (.bool true) ∧ Below w.heap.size w w' := by
  have CC : Hid (∀ W, Below w.heap.size w W → ClIn c W.heap.size W) := Lib.hid fun W h => (hc.up h (Nat.le_refl _)).more h.size
  have AA : Hid (∀ W, Below w.heap.size w W → AkIn x W.heap.size W) := Lib.hid fun W h => (hx.up h (Nat.le_refl _)).more h.size
  obtain ⟨G, hG⟩ := few_ex c
  have HG := Lib.hid hG
  clear hc hG hx
  go_enter Try.func5, Try.ntmps5
  go_wp2_with fail
  refine (awake_any _).mono ?_
  rintro e w2 ⟨rfl, hb⟩
  have D := Lib.hid (nextB (w2b_below c x w) hb)
  have C : Hid (HasCl c w.heap.size w2) := Lib.hid ((w2b_cl c x w).up hb)
  have X : Hid (HasAk x (w.heap.size + 1) w2) := Lib.hid ((w2b_ak c x w).up hb)
  clear hb
  obtain ⟨c0, c1, c2⟩ := C.out
  have zC := C.out.lt
  have x0 : w2.cell? ⟨w.heap.size + 1, 0, none⟩ = some (.int .i64 x.A) := X.out.c 0 _ rfl
  have x1 : w2.cell? ⟨w.heap.size + 1, 1, none⟩ = some (.int .i64 x.B) := X.out.c 1 _ rfl
  have x2 : w2.cell? ⟨w.heap.size + 1, 2, none⟩ = some (.int .i64 x.t) := X.out.c 2 _ rfl
  have x3 : w2.cell? ⟨w.heap.size + 1, 3, none⟩ = some (.slice x.A1 x.n1 x.c1) := X.out.c 3 _ rfl
  have x4 : w2.cell? ⟨w.heap.size + 1, 4, none⟩ = some (.slice x.A2 x.n2 x.c2) := X.out.c 4 _ rfl
  have x5 : w2.cell? ⟨w.heap.size + 1, 5, none⟩ = some (.slice x.A3 x.n3 x.c3) := X.out.c 5 _ rfl
  have x6 : w2.cell? ⟨w.heap.size + 1, 6, none⟩ = some (.int .i64 x.f.1) := X.out.c 6 _ rfl
  have x7 : w2.cell? ⟨w.heap.size + 1, 7, none⟩ = some (.int .i64 x.f.2.1) := X.out.c 7 _ rfl
  have x8 : w2.cell? ⟨w.heap.size + 1, 8, none⟩ = some (.int .i64 x.f.2.2) := X.out.c 8 _ rfl
  have x9 : w2.cell? ⟨w.heap.size + 1, 9, none⟩ = some (.int .i64 x.s.1) := X.out.c 9 _ rfl
  have x10 : w2.cell? ⟨w.heap.size + 1, 10, none⟩ = some (.int .i64 x.s.2.1) := X.out.c 10 _ rfl
  have x11 : w2.cell? ⟨w.heap.size + 1, 11, none⟩ = some (.int .i64 x.s.2.2) := X.out.c 11 _ rfl
  have x12 : w2.cell? ⟨w.heap.size + 1, 12, none⟩ = some (.int .i64 x.p.1) := X.out.c 12 _ rfl
  have x13 : w2.cell? ⟨w.heap.size + 1, 13, none⟩ = some (.int .i64 x.p.2.1) := X.out.c 13 _ rfl
  have x14 : w2.cell? ⟨w.heap.size + 1, 14, none⟩ = some (.int .i64 x.p.2.2) := X.out.c 14 _ rfl
  have zX := X.out.lt
  go_wp2_with fail
  refine (few_any c G _ HG.out).mono ?_
  rintro e w3 ⟨rfl, hb⟩
  have J := Lib.hid (hb)
  have D := Lib.hid (nextB D.out J.out)
  clear c0 c1 c2 zC x0 x1 x2 x3 x4 x5 x6 x7 x8 x9 x10 x11 x12 x13 x14 zX
  have C := Lib.hid (C.out.up J.out)
  have X := Lib.hid (X.out.up J.out)
  clear hb
  obtain ⟨c0, c1, c2⟩ := C.out
  have zC := C.out.lt
  have x0 : w3.cell? ⟨w.heap.size + 1, 0, none⟩ = some (.int .i64 x.A) := X.out.c 0 _ rfl
  have x1 : w3.cell? ⟨w.heap.size + 1, 1, none⟩ = some (.int .i64 x.B) := X.out.c 1 _ rfl
  have x2 : w3.cell? ⟨w.heap.size + 1, 2, none⟩ = some (.int .i64 x.t) := X.out.c 2 _ rfl
  have x3 : w3.cell? ⟨w.heap.size + 1, 3, none⟩ = some (.slice x.A1 x.n1 x.c1) := X.out.c 3 _ rfl
  have x4 : w3.cell? ⟨w.heap.size + 1, 4, none⟩ = some (.slice x.A2 x.n2 x.c2) := X.out.c 4 _ rfl
  have x5 : w3.cell? ⟨w.heap.size + 1, 5, none⟩ = some (.slice x.A3 x.n3 x.c3) := X.out.c 5 _ rfl
  have x6 : w3.cell? ⟨w.heap.size + 1, 6, none⟩ = some (.int .i64 x.f.1) := X.out.c 6 _ rfl
  have x7 : w3.cell? ⟨w.heap.size + 1, 7, none⟩ = some (.int .i64 x.f.2.1) := X.out.c 7 _ rfl
  have x8 : w3.cell? ⟨w.heap.size + 1, 8, none⟩ = some (.int .i64 x.f.2.2) := X.out.c 8 _ rfl
  have x9 : w3.cell? ⟨w.heap.size + 1, 9, none⟩ = some (.int .i64 x.s.1) := X.out.c 9 _ rfl
  have x10 : w3.cell? ⟨w.heap.size + 1, 10, none⟩ = some (.int .i64 x.s.2.1) := X.out.c 10 _ rfl
  have x11 : w3.cell? ⟨w.heap.size + 1, 11, none⟩ = some (.int .i64 x.s.2.2) := X.out.c 11 _ rfl
  have x12 : w3.cell? ⟨w.heap.size + 1, 12, none⟩ = some (.int .i64 x.p.1) := X.out.c 12 _ rfl
  have x13 : w3.cell? ⟨w.heap.size + 1, 13, none⟩ = some (.int .i64 x.p.2.1) := X.out.c 13 _ rfl
  have x14 : w3.cell? ⟨w.heap.size + 1, 14, none⟩ = some (.int .i64 x.p.2.2) := X.out.c 14 _ rfl
  have zX := X.out.lt
  cases G with
  | false =>
    go_wp2_with fail
    go_ret
    exact ⟨rfl, D.out⟩
  | true =>
    have hm2 : c.m ≤ 200 := by have h := HG.out.1 rfl; unfold Few at h; omega
    clear HG
    obtain ⟨v1, hv1⟩ := bool_of ((0 ≤ x.A ∧ x.A ≤ c.d.n) ∧ 0 ≤ x.B ∧ x.B ≤ c.d.n)
    obtain ⟨E1, S1, hE1⟩ := rdR_ex c.d c.m c.F v1
    obtain ⟨v2, hv2⟩ := bool_of (0 ≤ x.t ∧ x.t ≤ 400)
    obtain ⟨E2, S2, hE2⟩ := rdR_ex c.d c.m c.F v2
    obtain ⟨E3, S3, hE3⟩ := rwR_ex c.d c.m c.F 0 x.t
    obtain ⟨v4, hv4⟩ := bool_of (((0 ≤ x.A ∧ x.A ≤ c.d.n) ∧ 0 ≤ x.B ∧ x.B ≤ c.d.n) ∧ x.A < x.B)
    obtain ⟨E4, S4, hE4⟩ := rdR_ex c.d c.m c.F v4
    obtain ⟨⟨p1, q1⟩, h1⟩ : ∃ g, g = (if E1 = 0 then apS (gapF c.d) S1 x.A.toNat x.B.toNat else (0, 0)) := ⟨_, rfl⟩
    obtain ⟨⟨p2, q2⟩, h2⟩ : ∃ g, g = (if E2 = 0 then (lastP (fun i => (S2 i).2) x.t (c.d.n + 1), lastP (fun i => (S2 i).1) x.t (c.d.n + 1)) else (0, 0)) := ⟨_, rfl⟩
    obtain ⟨⟨p3, q3⟩, h3⟩ : ∃ g, g = (if E4 = 0 then ratP (apS (gapF c.d) S4 x.A.toNat x.B.toNat).1 (x.B - x.A).toNat else (0, 0)) := ⟨_, rfl⟩
    obtain ⟨⟨p4, q4⟩, h4⟩ : ∃ g, g = (if E4 = 0 then ratP (apS (gapF c.d) S4 x.A.toNat x.B.toNat).2 (x.B - x.A).toNat else (0, 0)) := ⟨_, rfl⟩
    have k1 := fun W h => Between_any c.d c.MA c.m c.mc c.F x.A x.B v1 E1 S1 W (CC.out W h).1 (CC.out W h).2 hv1 hE1
    have k2 := fun W h => RBetween_any c.d c.MA c.m c.mc c.F x.A x.B v1 E1 S1 W (CC.out W h).1 (CC.out W h).2 hv1 hE1
    have k3 := fun W h => At_any c.d c.MA c.m c.mc c.F x.t v2 E2 S2 W (CC.out W h).1 (CC.out W h).2 hv2 hE2
    have k4 := fun W h => RAt_any c.d c.MA c.m c.mc c.F x.t v2 E2 S2 W (CC.out W h).1 (CC.out W h).2 hv2 hE2
    have hn3 := rwR_n hE3
    have K5 := Lib.hid fun W h => (Run_any c.d c.MA c.m c.mc c.F x.t E3 S3 W (CC.out W h).1 (CC.out W h).2 hE3).mono fun _ _ h => run_sp h hn3
    have K6 := Lib.hid fun W h => (RRun_any c.d c.MA c.m c.mc c.F x.t E3 S3 W (CC.out W h).1 (CC.out W h).2 hm2 hE3).mono fun _ _ h => run_sp h hn3
    have k7 := fun W h => Drift_any c.d c.MA c.m c.mc c.F x.A x.B v4 E4 S4 W (CC.out W h).1 (CC.out W h).2 hv4 hE4
    have k8 := fun W h => RDrift_any c.d c.MA c.m c.mc c.F x.A x.B v4 E4 S4 W (CC.out W h).1 (CC.out W h).2 hv4 hE4
    rw [← h1] at k1 k2
    rw [← h2] at k3 k4
    rw [← h3, ← h4] at k7 k8
    have K1 := Lib.hid k1
    have K2 := Lib.hid k2
    have K3 := Lib.hid k3
    have K4 := Lib.hid k4
    have K7 := Lib.hid k7
    have K8 := Lib.hid k8
    have b1 : (E1 != E1) = false := by simp
    have b2 : (E2 != E2) = false := by simp
    have b3 : (E3 == E3) = true := by simp
    have b4 : (E4 == E4) = true := by simp
    clear hE1 hE2 hE3 hE4 hv1 hv2 hv4 h1 h2 h3 h4 k1 k2 k3 k4 k7 k8 hn3
    clear c0 c1 c2 zC x0 x1 x2 x3 x4 x5 x6 x7 x8 x9 x10 x11 x12 x13 x14 zX
    obtain ⟨c0, c1, c2⟩ := C.out
    have zC := C.out.lt
    have x0 : w3.cell? ⟨w.heap.size + 1, 0, none⟩ = some (.int .i64 x.A) := X.out.c 0 _ rfl
    have x1 : w3.cell? ⟨w.heap.size + 1, 1, none⟩ = some (.int .i64 x.B) := X.out.c 1 _ rfl
    have x2 : w3.cell? ⟨w.heap.size + 1, 2, none⟩ = some (.int .i64 x.t) := X.out.c 2 _ rfl
    have zX := X.out.lt
    go_wp2_with fail
    refine (K1.out _ D.out).mono ?_
    rintro e w4 ⟨rfl, hb⟩
    have J := Lib.hid (hb)
    have D := Lib.hid (nextB D.out J.out)
    clear c0 c1 c2 zC x0 x1 x2 zX
    have C := Lib.hid (C.out.up J.out)
    have X := Lib.hid (X.out.up J.out)
    clear hb
    obtain ⟨c0, c1, c2⟩ := C.out
    have zC := C.out.lt
    have x0 : w4.cell? ⟨w.heap.size + 1, 0, none⟩ = some (.int .i64 x.A) := X.out.c 0 _ rfl
    have x1 : w4.cell? ⟨w.heap.size + 1, 1, none⟩ = some (.int .i64 x.B) := X.out.c 1 _ rfl
    have x2 : w4.cell? ⟨w.heap.size + 1, 2, none⟩ = some (.int .i64 x.t) := X.out.c 2 _ rfl
    have zX := X.out.lt
    go_wp2_with fail
    refine (K2.out _ (nextB D.out (box1 w4 _))).mono ?_
    rintro e w5 ⟨rfl, hb⟩
    have J := Lib.hid (nextB (box1 w4 _) hb)
    have D := Lib.hid (nextB D.out J.out)
    clear c0 c1 c2 zC x0 x1 x2 zX
    have C := Lib.hid (C.out.up J.out)
    have X := Lib.hid (X.out.up J.out)
    have V1 := Lib.hid (((Bt.new w4 31 (p1) (q1))).up hb)
    clear hb
    obtain ⟨c0, c1, c2⟩ := C.out
    have zC := C.out.lt
    have x0 : w5.cell? ⟨w.heap.size + 1, 0, none⟩ = some (.int .i64 x.A) := X.out.c 0 _ rfl
    have x1 : w5.cell? ⟨w.heap.size + 1, 1, none⟩ = some (.int .i64 x.B) := X.out.c 1 _ rfl
    have x2 : w5.cell? ⟨w.heap.size + 1, 2, none⟩ = some (.int .i64 x.t) := X.out.c 2 _ rfl
    have zX := X.out.lt
    obtain ⟨v10, v11, v12, v13⟩ := V1.out
    have zV1 := V1.out.lt
    go_wp2_with fail
    refine (K3.out _ (nextB D.out (box1 w5 _))).mono ?_
    rintro e w6 ⟨rfl, hb⟩
    have J := Lib.hid (nextB (box1 w5 _) hb)
    have D := Lib.hid (nextB D.out J.out)
    clear c0 c1 c2 zC x0 x1 x2 zX v10 v11 v12 v13 zV1
    have C := Lib.hid (C.out.up J.out)
    have X := Lib.hid (X.out.up J.out)
    have V1 := Lib.hid (V1.out.up J.out)
    have U1 := Lib.hid (((Bt.new w5 31 (p1) (q1))).up hb)
    clear hb
    obtain ⟨c0, c1, c2⟩ := C.out
    have zC := C.out.lt
    have x0 : w6.cell? ⟨w.heap.size + 1, 0, none⟩ = some (.int .i64 x.A) := X.out.c 0 _ rfl
    have x1 : w6.cell? ⟨w.heap.size + 1, 1, none⟩ = some (.int .i64 x.B) := X.out.c 1 _ rfl
    have x2 : w6.cell? ⟨w.heap.size + 1, 2, none⟩ = some (.int .i64 x.t) := X.out.c 2 _ rfl
    have zX := X.out.lt
    obtain ⟨v10, v11, v12, v13⟩ := V1.out
    have zV1 := V1.out.lt
    obtain ⟨u10, u11, u12, u13⟩ := U1.out
    have zU1 := U1.out.lt
    go_wp2_with fail
    refine (K4.out _ (nextB D.out (box1 w6 _))).mono ?_
    rintro e w7 ⟨rfl, hb⟩
    have J := Lib.hid (nextB (box1 w6 _) hb)
    have D := Lib.hid (nextB D.out J.out)
    clear c0 c1 c2 zC x0 x1 x2 zX v10 v11 v12 v13 zV1 u10 u11 u12 u13 zU1
    have C := Lib.hid (C.out.up J.out)
    have X := Lib.hid (X.out.up J.out)
    have V1 := Lib.hid (V1.out.up J.out)
    have U1 := Lib.hid (U1.out.up J.out)
    have V2 := Lib.hid (((Bt.new w6 31 (p2) (q2))).up hb)
    clear hb
    obtain ⟨c0, c1, c2⟩ := C.out
    have zC := C.out.lt
    have x0 : w7.cell? ⟨w.heap.size + 1, 0, none⟩ = some (.int .i64 x.A) := X.out.c 0 _ rfl
    have x1 : w7.cell? ⟨w.heap.size + 1, 1, none⟩ = some (.int .i64 x.B) := X.out.c 1 _ rfl
    have x2 : w7.cell? ⟨w.heap.size + 1, 2, none⟩ = some (.int .i64 x.t) := X.out.c 2 _ rfl
    have zX := X.out.lt
    obtain ⟨v10, v11, v12, v13⟩ := V1.out
    have zV1 := V1.out.lt
    obtain ⟨u10, u11, u12, u13⟩ := U1.out
    have zU1 := U1.out.lt
    obtain ⟨v20, v21, v22, v23⟩ := V2.out
    have zV2 := V2.out.lt
    go_wp2_with fail
    refine (K5.out _ (nextB D.out (box1 w7 _))).mono ?_
    rintro e w8 ⟨A5, r5, k5, rfl, hq, hi, hb⟩
    have J := Lib.hid (nextB (box1 w7 _) hb)
    have D := Lib.hid (nextB D.out J.out)
    clear c0 c1 c2 zC x0 x1 x2 zX v10 v11 v12 v13 zV1 u10 u11 u12 u13 zU1 v20 v21 v22 v23 zV2
    have C := Lib.hid (C.out.up J.out)
    have X := Lib.hid (X.out.up J.out)
    have V1 := Lib.hid (V1.out.up J.out)
    have U1 := Lib.hid (U1.out.up J.out)
    have V2 := Lib.hid (V2.out.up J.out)
    have U2 := Lib.hid (((Bt.new w7 31 (p2) (q2))).up hb)
    have I5 := Lib.hid hi
    have Q5 := Lib.hid hq
    clear hi hq
    clear hb
    obtain ⟨c0, c1, c2⟩ := C.out
    have zC := C.out.lt
    have x0 : w8.cell? ⟨w.heap.size + 1, 0, none⟩ = some (.int .i64 x.A) := X.out.c 0 _ rfl
    have x1 : w8.cell? ⟨w.heap.size + 1, 1, none⟩ = some (.int .i64 x.B) := X.out.c 1 _ rfl
    have x2 : w8.cell? ⟨w.heap.size + 1, 2, none⟩ = some (.int .i64 x.t) := X.out.c 2 _ rfl
    have zX := X.out.lt
    obtain ⟨v10, v11, v12, v13⟩ := V1.out
    have zV1 := V1.out.lt
    obtain ⟨u10, u11, u12, u13⟩ := U1.out
    have zU1 := U1.out.lt
    obtain ⟨v20, v21, v22, v23⟩ := V2.out
    have zV2 := V2.out.lt
    obtain ⟨u20, u21, u22, u23⟩ := U2.out
    have zU2 := U2.out.lt
    clear c0 c1 c2 zC x0 x1 x2 zX v10 v11 v12 v13 zV1 u10 u11 u12 u13 zU1 v20 v21 v22 v23 zV2 u20 u21 u22 u23 zU2
    obtain ⟨c0, c1, c2⟩ := C.out
    have zC := C.out.lt
    have x0 : w8.cell? ⟨w.heap.size + 1, 0, none⟩ = some (.int .i64 x.A) := X.out.c 0 _ rfl
    have x1 : w8.cell? ⟨w.heap.size + 1, 1, none⟩ = some (.int .i64 x.B) := X.out.c 1 _ rfl
    have x2 : w8.cell? ⟨w.heap.size + 1, 2, none⟩ = some (.int .i64 x.t) := X.out.c 2 _ rfl
    have zX := X.out.lt
    go_wp2_with fail
    refine (K6.out _ D.out).mono ?_
    rintro e w9 ⟨A6, r6, k6, rfl, hq, hi, hb⟩
    have J := Lib.hid (hb)
    have D := Lib.hid (nextB D.out J.out)
    clear c0 c1 c2 zC x0 x1 x2 zX
    have C := Lib.hid (C.out.up J.out)
    have X := Lib.hid (X.out.up J.out)
    have I5 := Lib.hid (I5.out.up J.out)
    have I6 := Lib.hid hi
    have Q6 := Lib.hid hq
    clear hi hq
    clear hb
    obtain ⟨c0, c1, c2⟩ := C.out
    have zC := C.out.lt
    have x0 : w9.cell? ⟨w.heap.size + 1, 0, none⟩ = some (.int .i64 x.A) := X.out.c 0 _ rfl
    have x1 : w9.cell? ⟨w.heap.size + 1, 1, none⟩ = some (.int .i64 x.B) := X.out.c 1 _ rfl
    have x2 : w9.cell? ⟨w.heap.size + 1, 2, none⟩ = some (.int .i64 x.t) := X.out.c 2 _ rfl
    have zX := X.out.lt
    go_wp2_with fail
    refine (K7.out _ D.out).mono ?_
    rintro e w10 ⟨rfl, hb⟩
    have J := Lib.hid (hb)
    have D := Lib.hid (nextB D.out J.out)
    clear c0 c1 c2 zC x0 x1 x2 zX
    have C := Lib.hid (C.out.up J.out)
    have X := Lib.hid (X.out.up J.out)
    have I5 := Lib.hid (I5.out.up J.out)
    have I6 := Lib.hid (I6.out.up J.out)
    clear hb
    obtain ⟨c0, c1, c2⟩ := C.out
    have zC := C.out.lt
    have x0 : w10.cell? ⟨w.heap.size + 1, 0, none⟩ = some (.int .i64 x.A) := X.out.c 0 _ rfl
    have x1 : w10.cell? ⟨w.heap.size + 1, 1, none⟩ = some (.int .i64 x.B) := X.out.c 1 _ rfl
    have x2 : w10.cell? ⟨w.heap.size + 1, 2, none⟩ = some (.int .i64 x.t) := X.out.c 2 _ rfl
    have zX := X.out.lt
    go_wp2_with fail
    refine (K8.out _ (nextB D.out (box2 w10 _ _))).mono ?_
    rintro e w11 ⟨rfl, hb⟩
    have J := Lib.hid (nextB (box2 w10 _ _) hb)
    have D := Lib.hid (nextB D.out J.out)
    clear c0 c1 c2 zC x0 x1 x2 zX
    have C := Lib.hid (C.out.up J.out)
    have X := Lib.hid (X.out.up J.out)
    have I5 := Lib.hid (I5.out.up J.out)
    have I6 := Lib.hid (I6.out.up J.out)
    have Y1 := Lib.hid (((Bt.new w10 63 (p3) (q3)).up (box1 _ _)).up hb)
    have Y2 := Lib.hid (((Bt.new (w10.alloc (.cells #[.int .i64 (p3), .int .i64 (q3)] 63)) 63 (p4) (q4))).up hb)
    simp only [World.size_alloc] at Y2
    clear hb
    obtain ⟨c0, c1, c2⟩ := C.out
    have zC := C.out.lt
    have x0 : w11.cell? ⟨w.heap.size + 1, 0, none⟩ = some (.int .i64 x.A) := X.out.c 0 _ rfl
    have x1 : w11.cell? ⟨w.heap.size + 1, 1, none⟩ = some (.int .i64 x.B) := X.out.c 1 _ rfl
    have x2 : w11.cell? ⟨w.heap.size + 1, 2, none⟩ = some (.int .i64 x.t) := X.out.c 2 _ rfl
    have zX := X.out.lt
    obtain ⟨y10, y11, y12, y13⟩ := Y1.out
    have zY1 := Y1.out.lt
    obtain ⟨y20, y21, y22, y23⟩ := Y2.out
    have zY2 := Y2.out.lt
    obtain rfl : r5 = r6 := Q5.out.trans Q6.out.symm
    go_wp2_with fail
    refine (SameSpans_yes r5 A5 A6 k5 k6 S3 _ (I5.out.up (box2 _ _ _)) (I6.out.up (box2 _ _ _))).mono ?_
    rintro e w12 ⟨rfl, hb⟩
    have J := Lib.hid (nextB (box2 w11 _ _) hb)
    have D := Lib.hid (nextB D.out J.out)
    clear c0 c1 c2 zC x0 x1 x2 zX y10 y11 y12 y13 zY1 y20 y21 y22 y23 zY2
    have C := Lib.hid (C.out.up J.out)
    have X := Lib.hid (X.out.up J.out)
    have I5 := Lib.hid (I5.out.up J.out)
    have I6 := Lib.hid (I6.out.up J.out)
    have Y1 := Lib.hid (Y1.out.up J.out)
    have Y2 := Lib.hid (Y2.out.up J.out)
    have Z1 := Lib.hid (((Bt.new w11 63 (p3) (q3)).up (box1 _ _)).up hb)
    have Z2 := Lib.hid (((Bt.new (w11.alloc (.cells #[.int .i64 (p3), .int .i64 (q3)] 63)) 63 (p4) (q4))).up hb)
    simp only [World.size_alloc] at Z2
    clear hb
    obtain ⟨c0, c1, c2⟩ := C.out
    have zC := C.out.lt
    have x0 : w12.cell? ⟨w.heap.size + 1, 0, none⟩ = some (.int .i64 x.A) := X.out.c 0 _ rfl
    have x1 : w12.cell? ⟨w.heap.size + 1, 1, none⟩ = some (.int .i64 x.B) := X.out.c 1 _ rfl
    have x2 : w12.cell? ⟨w.heap.size + 1, 2, none⟩ = some (.int .i64 x.t) := X.out.c 2 _ rfl
    have zX := X.out.lt
    obtain ⟨y10, y11, y12, y13⟩ := Y1.out
    have zY1 := Y1.out.lt
    obtain ⟨y20, y21, y22, y23⟩ := Y2.out
    have zY2 := Y2.out.lt
    obtain ⟨z10, z11, z12, z13⟩ := Z1.out
    have zZ1 := Z1.out.lt
    obtain ⟨z20, z21, z22, z23⟩ := Z2.out
    have zZ2 := Z2.out.lt
    go_wp2_with fail
    go_ret
    exact ⟨rfl, D.out⟩
end Go.Proofs.Ytpikaohodieeaaa
