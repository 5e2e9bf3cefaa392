/- ClocksReadings' law. -/
import Derived.Test.YtpikaohodieeaaaRis
import Derived.Test.YtpikaohodieeaaaRwi
namespace Go.Proofs.Ytpikaohodieeaaa
open Go.RowKit
set_option linter.unusedSimpArgs false
set_option linter.unusedVariables false
set_option maxRecDepth 100000 in
set_option maxHeartbeats 40000000 in
theorem readings_law (c : Clo) (x : Aks) (w : World) (hc : ClIn c w.heap.size w) (hx : AkIn x w.heap.size w) :
    Calls Try.prog 4 #[c.v, x.v] w fun e w' => e = .returned (.bool true) ∧ Below w.heap.size w w' := by
  have CC : Hid (∀ W, Below w.heap.size w W → ClIn c W.heap.size W) := Lib.hid fun W h => (hc.up h (Nat.le_refl _)).more h.size
  have AA : Hid (∀ W, Below w.heap.size w W → AkIn x W.heap.size W) := Lib.hid fun W h => (hx.up h (Nat.le_refl _)).more h.size
  obtain ⟨G, hG⟩ := few_ex c
  have HG := Lib.hid hG
  clear hc hG hx
  go_enter Try.func4, Try.ntmps4
  go_wp2_with fail
  refine (awake_any _).mono ?_
  rintro e w2 ⟨rfl, hb⟩
  have D := Lib.hid (nextB (w2b_below c x w) hb)
  have C : Hid (HasCl c w.heap.size w2) := Lib.hid ((w2b_cl c x w).up hb)
  have X : Hid (HasAk x (w.heap.size + 1) w2) := Lib.hid ((w2b_ak c x w).up hb)
  clear hb
  obtain ⟨c0, c1, c2⟩ := C.out
  have zC := C.out.lt
  have x0 : w2.cell? ⟨w.heap.size + 1, 0, none⟩ = some (.int .i64 x.A) := X.out.c 0 _ rfl
  have x1 : w2.cell? ⟨w.heap.size + 1, 1, none⟩ = some (.int .i64 x.B) := X.out.c 1 _ rfl
  have x2 : w2.cell? ⟨w.heap.size + 1, 2, none⟩ = some (.int .i64 x.t) := X.out.c 2 _ rfl
  have x3 : w2.cell? ⟨w.heap.size + 1, 3, none⟩ = some (.slice x.A1 x.n1 x.c1) := X.out.c 3 _ rfl
  have x4 : w2.cell? ⟨w.heap.size + 1, 4, none⟩ = some (.slice x.A2 x.n2 x.c2) := X.out.c 4 _ rfl
  have x5 : w2.cell? ⟨w.heap.size + 1, 5, none⟩ = some (.slice x.A3 x.n3 x.c3) := X.out.c 5 _ rfl
  have x6 : w2.cell? ⟨w.heap.size + 1, 6, none⟩ = some (.int .i64 x.f.1) := X.out.c 6 _ rfl
  have x7 : w2.cell? ⟨w.heap.size + 1, 7, none⟩ = some (.int .i64 x.f.2.1) := X.out.c 7 _ rfl
  have x8 : w2.cell? ⟨w.heap.size + 1, 8, none⟩ = some (.int .i64 x.f.2.2) := X.out.c 8 _ rfl
  have x9 : w2.cell? ⟨w.heap.size + 1, 9, none⟩ = some (.int .i64 x.s.1) := X.out.c 9 _ rfl
  have x10 : w2.cell? ⟨w.heap.size + 1, 10, none⟩ = some (.int .i64 x.s.2.1) := X.out.c 10 _ rfl
  have x11 : w2.cell? ⟨w.heap.size + 1, 11, none⟩ = some (.int .i64 x.s.2.2) := X.out.c 11 _ rfl
  have x12 : w2.cell? ⟨w.heap.size + 1, 12, none⟩ = some (.int .i64 x.p.1) := X.out.c 12 _ rfl
  have x13 : w2.cell? ⟨w.heap.size + 1, 13, none⟩ = some (.int .i64 x.p.2.1) := X.out.c 13 _ rfl
  have x14 : w2.cell? ⟨w.heap.size + 1, 14, none⟩ = some (.int .i64 x.p.2.2) := X.out.c 14 _ rfl
  have zX := X.out.lt
  go_wp2_with fail
  refine (few_any c G _ HG.out).mono ?_
  rintro e w3 ⟨rfl, hb⟩
  have J := Lib.hid (hb)
  have D := Lib.hid (nextB D.out J.out)
  clear c0 c1 c2 zC x0 x1 x2 x3 x4 x5 x6 x7 x8 x9 x10 x11 x12 x13 x14 zX
  have C := Lib.hid (C.out.up J.out)
  have X := Lib.hid (X.out.up J.out)
  clear hb
  obtain ⟨c0, c1, c2⟩ := C.out
  have zC := C.out.lt
  have x0 : w3.cell? ⟨w.heap.size + 1, 0, none⟩ = some (.int .i64 x.A) := X.out.c 0 _ rfl
  have x1 : w3.cell? ⟨w.heap.size + 1, 1, none⟩ = some (.int .i64 x.B) := X.out.c 1 _ rfl
  have x2 : w3.cell? ⟨w.heap.size + 1, 2, none⟩ = some (.int .i64 x.t) := X.out.c 2 _ rfl
  have x3 : w3.cell? ⟨w.heap.size + 1, 3, none⟩ = some (.slice x.A1 x.n1 x.c1) := X.out.c 3 _ rfl
  have x4 : w3.cell? ⟨w.heap.size + 1, 4, none⟩ = some (.slice x.A2 x.n2 x.c2) := X.out.c 4 _ rfl
  have x5 : w3.cell? ⟨w.heap.size + 1, 5, none⟩ = some (.slice x.A3 x.n3 x.c3) := X.out.c 5 _ rfl
  have x6 : w3.cell? ⟨w.heap.size + 1, 6, none⟩ = some (.int .i64 x.f.1) := X.out.c 6 _ rfl
  have x7 : w3.cell? ⟨w.heap.size + 1, 7, none⟩ = some (.int .i64 x.f.2.1) := X.out.c 7 _ rfl
  have x8 : w3.cell? ⟨w.heap.size + 1, 8, none⟩ = some (.int .i64 x.f.2.2) := X.out.c 8 _ rfl
  have x9 : w3.cell? ⟨w.heap.size + 1, 9, none⟩ = some (.int .i64 x.s.1) := X.out.c 9 _ rfl
  have x10 : w3.cell? ⟨w.heap.size + 1, 10, none⟩ = some (.int .i64 x.s.2.1) := X.out.c 10 _ rfl
  have x11 : w3.cell? ⟨w.heap.size + 1, 11, none⟩ = some (.int .i64 x.s.2.2) := X.out.c 11 _ rfl
  have x12 : w3.cell? ⟨w.heap.size + 1, 12, none⟩ = some (.int .i64 x.p.1) := X.out.c 12 _ rfl
  have x13 : w3.cell? ⟨w.heap.size + 1, 13, none⟩ = some (.int .i64 x.p.2.1) := X.out.c 13 _ rfl
  have x14 : w3.cell? ⟨w.heap.size + 1, 14, none⟩ = some (.int .i64 x.p.2.2) := X.out.c 14 _ rfl
  have zX := X.out.lt
  cases G with
  | false =>
    go_wp2_with fail
    go_ret
    exact ⟨rfl, D.out⟩
  | true =>
    have hm2 : c.m ≤ 200 := by have h := HG.out.1 rfl; unfold Few at h; omega
    clear HG
    obtain ⟨L, hL⟩ := bool_of (Light x)
    go_wp2_with fail
    refine (light_any x L _ hL).mono ?_
    rintro e w4 ⟨rfl, hb⟩
    have J := Lib.hid (hb)
    have D := Lib.hid (nextB D.out J.out)
    clear c0 c1 c2 zC x0 x1 x2 x3 x4 x5 x6 x7 x8 x9 x10 x11 x12 x13 x14 zX
    have C := Lib.hid (C.out.up J.out)
    have X := Lib.hid (X.out.up J.out)
    clear hb
    obtain ⟨c0, c1, c2⟩ := C.out
    have zC := C.out.lt
    have x0 : w4.cell? ⟨w.heap.size + 1, 0, none⟩ = some (.int .i64 x.A) := X.out.c 0 _ rfl
    have x2 : w4.cell? ⟨w.heap.size + 1, 2, none⟩ = some (.int .i64 x.t) := X.out.c 2 _ rfl
    have x3 : w4.cell? ⟨w.heap.size + 1, 3, none⟩ = some (.slice x.A1 x.n1 x.c1) := X.out.c 3 _ rfl
    have x4 : w4.cell? ⟨w.heap.size + 1, 4, none⟩ = some (.slice x.A2 x.n2 x.c2) := X.out.c 4 _ rfl
    have x5 : w4.cell? ⟨w.heap.size + 1, 5, none⟩ = some (.slice x.A3 x.n3 x.c3) := X.out.c 5 _ rfl
    have zX := X.out.lt
    clear hL
    cases L with
    | false =>
      go_wp2_with fail
      go_ret
      exact ⟨rfl, D.out⟩
    | true =>
      obtain ⟨R, E1, hE1⟩ := feR_ex c.d c.m c.F
      obtain ⟨E2, hE2⟩ := keR_ex c.d c.m c.F x.n1 x.Z1
      obtain ⟨E3, S3, hE3⟩ := rdR_ex c.d c.m c.F true
      obtain ⟨vd, hvd⟩ := bool_of (0 ≤ x.A ∧ x.A ≤ c.d.n)
      obtain ⟨E4, S4, hE4⟩ := rdR_ex c.d c.m c.F vd
      obtain ⟨E5, S5, hE5⟩ := rwR_ex c.d c.m c.F x.A x.t
      obtain ⟨⟨p, q⟩, hpq⟩ : ∃ g, g = (if E4 = 0 then S4 x.A.toNat else (0, 0)) := ⟨_, rfl⟩
      have k7 := fun W h => Span_any c.d c.MA c.m c.mc c.F x.A vd E4 S4 W (CC.out W h).1 (CC.out W h).2 hvd hE4
      have k8 := fun W h => RSpan_any c.d c.MA c.m c.mc c.F x.A vd E4 S4 W (CC.out W h).1 (CC.out W h).2 hvd hE4
      rw [← hpq] at k7 k8
      have K1 := Lib.hid fun W h => Feasible_any c.d c.MA c.m c.mc c.F R E1 W (CC.out W h).1 (CC.out W h).2 hE1
      have K2 := Lib.hid fun W h => RFeasible_any c.d c.MA c.m c.mc c.F R E1 W (CC.out W h).1 (CC.out W h).2 hE1
      have KK1 := Lib.hid fun W h => Keeps_any c.d c.MA c.m c.mc c.F x.A1 x.n1 x.c1 x.Z1 E2 W (CC.out W h).1 (CC.out W h).2 (AA.out W h).1 hE2
      have KK2 := Lib.hid fun W h => RKeeps_any c.d c.MA c.m c.mc c.F x.A1 x.n1 x.c1 x.Z1 E2 W (CC.out W h).1 (CC.out W h).2 (AA.out W h).1 hE2
      have K3 := Lib.hid fun W h => Earliest_any c.d c.MA c.m c.mc c.F E3 S3 W (CC.out W h).1 (CC.out W h).2 hE3
      have K4 := Lib.hid fun W h => REarliest_any c.d c.MA c.m c.mc c.F E3 S3 W (CC.out W h).1 (CC.out W h).2 hE3
      have K5 := Lib.hid fun W h => Latest_any c.d c.MA c.m c.mc c.F E3 S3 W (CC.out W h).1 (CC.out W h).2 hE3
      have K6 := Lib.hid fun W h => RLatest_any c.d c.MA c.m c.mc c.F E3 S3 W (CC.out W h).1 (CC.out W h).2 hE3
      have K7 := Lib.hid k7
      have K8 := Lib.hid k8
      have K9 := Lib.hid fun W h => With_any c.d c.MA c.m c.mc c.F x.A x.t E5 S5 W (CC.out W h).1 (CC.out W h).2 hE5
      have K10 := Lib.hid fun W h => RWith_any c.d c.MA c.m c.mc c.F x.A x.t E5 S5 W (CC.out W h).1 (CC.out W h).2 hm2 hE5
      have b1 : (E1 != E1) = false := by simp
      have b2 : (E2 != E2) = false := by simp
      have b3 : (E3 != E3) = false := by simp
      have b4 : (E4 == E4) = true := by simp
      have b5 : (E5 == E5) = true := by simp
      have b6 : (R != R) = false := by simp
      clear hE1 hE2 hE3 hE4 hE5 hvd hpq k7 k8
      go_wp2_with fail
      refine (K1.out _ D.out).mono ?_
      rintro e w5 ⟨rfl, hb⟩
      have J := Lib.hid (hb)
      have D := Lib.hid (nextB D.out J.out)
      clear c0 c1 c2 zC x0 x2 x3 x4 x5 zX
      have C := Lib.hid (C.out.up J.out)
      have X := Lib.hid (X.out.up J.out)
      clear hb
      obtain ⟨c0, c1, c2⟩ := C.out
      have zC := C.out.lt
      have x0 : w5.cell? ⟨w.heap.size + 1, 0, none⟩ = some (.int .i64 x.A) := X.out.c 0 _ rfl
      have x2 : w5.cell? ⟨w.heap.size + 1, 2, none⟩ = some (.int .i64 x.t) := X.out.c 2 _ rfl
      have x3 : w5.cell? ⟨w.heap.size + 1, 3, none⟩ = some (.slice x.A1 x.n1 x.c1) := X.out.c 3 _ rfl
      have x4 : w5.cell? ⟨w.heap.size + 1, 4, none⟩ = some (.slice x.A2 x.n2 x.c2) := X.out.c 4 _ rfl
      have x5 : w5.cell? ⟨w.heap.size + 1, 5, none⟩ = some (.slice x.A3 x.n3 x.c3) := X.out.c 5 _ rfl
      have zX := X.out.lt
      go_wp2_with fail
      refine (K2.out _ D.out).mono ?_
      rintro e w6 ⟨rfl, hb⟩
      have J := Lib.hid (hb)
      have D := Lib.hid (nextB D.out J.out)
      clear c0 c1 c2 zC x0 x2 x3 x4 x5 zX
      have C := Lib.hid (C.out.up J.out)
      have X := Lib.hid (X.out.up J.out)
      clear hb
      obtain ⟨c0, c1, c2⟩ := C.out
      have zC := C.out.lt
      have x0 : w6.cell? ⟨w.heap.size + 1, 0, none⟩ = some (.int .i64 x.A) := X.out.c 0 _ rfl
      have x2 : w6.cell? ⟨w.heap.size + 1, 2, none⟩ = some (.int .i64 x.t) := X.out.c 2 _ rfl
      have x3 : w6.cell? ⟨w.heap.size + 1, 3, none⟩ = some (.slice x.A1 x.n1 x.c1) := X.out.c 3 _ rfl
      have x4 : w6.cell? ⟨w.heap.size + 1, 4, none⟩ = some (.slice x.A2 x.n2 x.c2) := X.out.c 4 _ rfl
      have x5 : w6.cell? ⟨w.heap.size + 1, 5, none⟩ = some (.slice x.A3 x.n3 x.c3) := X.out.c 5 _ rfl
      have zX := X.out.lt
      go_wp2_with fail
      refine wp_region_M [] (fun w' => w'.cell? ⟨w.heap.size, 0, none⟩ = some (.slice c.d.RA c.d.n c.d.rc) ∧ w'.cell? ⟨w.heap.size, 1, none⟩ = some (.slice c.d.SA c.d.m c.d.sc) ∧ w'.cell? ⟨w.heap.size, 2, none⟩ = some (.slice c.MA c.m c.mc) ∧ w'.cell? ⟨w.heap.size + 1, 3, none⟩ = some (.slice x.A1 x.n1 x.c1)) (by kernel_rfl) (by kernel_rfl) (by (try dsimp only); (repeat' apply And.intro); all_goals first | assumption | (go_simp; done)) (fun hT0 => ?_)
      refine M_take (v := ?_) 0 rfl (by kernel_rfl) (by assumption) (fun _ _ _ h => h) (Or.inl ⟨by rfl, ?_⟩) ?_
      rotate_left
      · (intro w hSw; (try dsimp only at hSw); go_simp; (try with_reducible rfl))
      (try simp only [Act.put, List.setIfInBounds_toArray, List.set_cons_zero, List.set_cons_succ])
      refine M_take (v := ?_) 1 rfl (by kernel_rfl) (by assumption) (fun _ _ _ h => h) (Or.inl ⟨by rfl, ?_⟩) ?_
      rotate_left
      · (intro w hSw; (try dsimp only at hSw); go_simp; (try with_reducible rfl))
      (try simp only [Act.put, List.setIfInBounds_toArray, List.set_cons_zero, List.set_cons_succ])
      refine M_take (v := ?_) 2 rfl (by kernel_rfl) (by assumption) (fun _ _ _ h => h) (Or.inl ⟨by rfl, ?_⟩) ?_
      rotate_left
      · (intro w hSw; (try dsimp only at hSw); go_simp; (try with_reducible rfl))
      (try simp only [Act.put, List.setIfInBounds_toArray, List.set_cons_zero, List.set_cons_succ])
      refine M_take (v := ?_) 3 rfl (by kernel_rfl) (by assumption) (fun _ _ _ h => h) (Or.inl ⟨by rfl, ?_⟩) ?_
      rotate_left
      · (intro w hSw; (try dsimp only at hSw); go_simp; (try with_reducible rfl))
      (try simp only [Act.put, List.setIfInBounds_toArray, List.set_cons_zero, List.set_cons_succ])
      refine M_take (v := ?_) 4 rfl (by kernel_rfl) (by assumption) (fun _ _ _ h => h) (Or.inl ⟨by rfl, ?_⟩) ?_
      rotate_left
      · (intro w hSw; (try dsimp only at hSw); go_simp; (try with_reducible rfl))
      (try simp only [Act.put, List.setIfInBounds_toArray, List.set_cons_zero, List.set_cons_succ])
      refine M_take (v := ?_) 5 rfl (by kernel_rfl) (by assumption) (fun _ _ _ h => h) (Or.inl ⟨by rfl, ?_⟩) ?_
      rotate_left
      · (intro w hSw; (try dsimp only at hSw); go_simp; (try with_reducible rfl))
      (try simp only [Act.put, List.setIfInBounds_toArray, List.set_cons_zero, List.set_cons_succ])
      refine M_take (v := ?_) 7 rfl (by kernel_rfl) (by assumption) (fun _ _ _ h => h) (Or.inl ⟨by rfl, ?_⟩) ?_
      rotate_left
      · (intro w hSw; (try dsimp only at hSw); go_simp; (try with_reducible rfl))
      (try simp only [Act.put, List.setIfInBounds_toArray, List.set_cons_zero, List.set_cons_succ])
      refine M_take (v := ?_) 8 rfl (by kernel_rfl) (by assumption) (fun _ _ _ h => h) (Or.inl ⟨by rfl, ?_⟩) ?_
      rotate_left
      · (intro w hSw; (try dsimp only at hSw); go_simp; (try with_reducible rfl))
      (try simp only [Act.put, List.setIfInBounds_toArray, List.set_cons_zero, List.set_cons_succ])
      refine M_take (v := ?_) 9 rfl (by kernel_rfl) (by assumption) (fun _ _ _ h => h) (Or.inl ⟨by rfl, ?_⟩) ?_
      rotate_left
      · (intro w hSw; (try dsimp only at hSw); go_simp; (try with_reducible rfl))
      (try simp only [Act.put, List.setIfInBounds_toArray, List.set_cons_zero, List.set_cons_succ])
      refine M_take (v := ?_) 10 rfl (by kernel_rfl) (by assumption) (fun _ _ _ h => h) (Or.inl ⟨by rfl, ?_⟩) ?_
      rotate_left
      · (intro w hSw; (try dsimp only at hSw); go_simp; (try with_reducible rfl))
      (try simp only [Act.put, List.setIfInBounds_toArray, List.set_cons_zero, List.set_cons_succ])
      refine M_take (v := ?_) 11 rfl (by kernel_rfl) (by assumption) (fun _ _ _ h => h) (Or.inl ⟨by rfl, ?_⟩) ?_
      rotate_left
      · (intro w hSw; (try dsimp only at hSw); go_simp; (try with_reducible rfl))
      (try simp only [Act.put, List.setIfInBounds_toArray, List.set_cons_zero, List.set_cons_succ])
      refine M_take (v := ?_) 12 rfl (by kernel_rfl) (by assumption) (fun _ _ _ h => h) (Or.inl ⟨by rfl, ?_⟩) ?_
      rotate_left
      · (intro w hSw; (try dsimp only at hSw); go_simp; (try with_reducible rfl))
      (try simp only [Act.put, List.setIfInBounds_toArray, List.set_cons_zero, List.set_cons_succ])
      refine M_step 6 rfl (by kernel_rfl) (fun K hK => ?_)
      go_simp
      go_at_call 35
      refine (KK1.out _ (nextB D.out (Below.refl _ _).drew)).mono ?_
      rintro e wA ⟨rfl, hbA⟩
      have HBA := Lib.hid (show Below w6.heap.size w6 wA from nextB (Below.refl _ _).drew hbA)
      have hTA : (fun w' => w'.cell? ⟨w.heap.size, 0, none⟩ = some (.slice c.d.RA c.d.n c.d.rc) ∧ w'.cell? ⟨w.heap.size, 1, none⟩ = some (.slice c.d.SA c.d.m c.d.sc) ∧ w'.cell? ⟨w.heap.size, 2, none⟩ = some (.slice c.MA c.m c.mc) ∧ w'.cell? ⟨w.heap.size + 1, 3, none⟩ = some (.slice x.A1 x.n1 x.c1)) wA := ⟨(HBA.out.cell (World.block_lt_of_cell? _ _ c0)).trans c0, (HBA.out.cell (World.block_lt_of_cell? _ _ c1)).trans c1, (HBA.out.cell (World.block_lt_of_cell? _ _ c2)).trans c2, (HBA.out.cell (World.block_lt_of_cell? _ _ x3)).trans x3⟩
      clear hbA
      refine hK.out _ _ (fun _ => hTA) ?_
      clear hK K
      (try simp only [Act.put, List.setIfInBounds_toArray, List.set_cons_zero, List.set_cons_succ])
      refine M_step 13 rfl (by kernel_rfl) (fun K hK => ?_)
      go_simp
      go_at_call 36
      refine (KK2.out _ (nextB D.out HBA.out)).mono ?_
      rintro e wC ⟨rfl, hbC⟩
      have HBC := Lib.hid (show Below w6.heap.size w6 wC from nextB HBA.out hbC)
      have hTC : (fun w' => w'.cell? ⟨w.heap.size, 0, none⟩ = some (.slice c.d.RA c.d.n c.d.rc) ∧ w'.cell? ⟨w.heap.size, 1, none⟩ = some (.slice c.d.SA c.d.m c.d.sc) ∧ w'.cell? ⟨w.heap.size, 2, none⟩ = some (.slice c.MA c.m c.mc) ∧ w'.cell? ⟨w.heap.size + 1, 3, none⟩ = some (.slice x.A1 x.n1 x.c1)) wC := ⟨(HBC.out.cell (World.block_lt_of_cell? _ _ c0)).trans c0, (HBC.out.cell (World.block_lt_of_cell? _ _ c1)).trans c1, (HBC.out.cell (World.block_lt_of_cell? _ _ c2)).trans c2, (HBC.out.cell (World.block_lt_of_cell? _ _ x3)).trans x3⟩
      clear hbC
      refine hK.out _ _ (fun _ => hTC) ?_
      clear hK K
      (try simp only [Act.put, List.setIfInBounds_toArray, List.set_cons_zero, List.set_cons_succ])
      refine M_take (v := ?_) 14 rfl (by kernel_rfl) (by assumption) (fun _ _ _ h => h) (Or.inl ⟨by rfl, ?_⟩) ?_
      rotate_left
      · (intro w hSw; (try dsimp only at hSw); go_simp; (try with_reducible rfl))
      (try simp only [Act.put, List.setIfInBounds_toArray, List.set_cons_zero, List.set_cons_succ])
      refine M_take (v := ?_) 15 rfl (by kernel_rfl) (by assumption) (fun _ _ _ h => h) (Or.inl ⟨by rfl, ?_⟩) ?_
      rotate_left
      · (intro w hSw; (try dsimp only at hSw); go_simp; (try with_reducible rfl))
      (try simp only [Act.put, List.setIfInBounds_toArray, List.set_cons_zero, List.set_cons_succ])
      refine M_take (v := ?_) 16 rfl (by kernel_rfl) (by assumption) (fun _ _ _ h => h) (Or.inl ⟨by rfl, ?_⟩) ?_
      rotate_left
      · (intro w hSw; (try dsimp only at hSw); go_simp; (try with_reducible rfl))
      (try simp only [Act.put, List.setIfInBounds_toArray, List.set_cons_zero, List.set_cons_succ])
      refine M_take (v := ?_) 17 rfl (by kernel_rfl) (by assumption) (fun _ _ _ h => h) (Or.inl ⟨by rfl, ?_⟩) ?_
      rotate_left
      · (intro w hSw; (try dsimp only at hSw); go_simp; (try with_reducible rfl))
      (try simp only [Act.put, List.setIfInBounds_toArray, List.set_cons_zero, List.set_cons_succ])
      refine M_take (v := ?_) 18 rfl (by kernel_rfl) (by assumption) (fun _ _ _ h => h) (Or.inl ⟨by rfl, ?_⟩) ?_
      rotate_left
      · (intro w hSw; (try dsimp only at hSw); go_simp; (try with_reducible rfl))
      (try simp only [Act.put, List.setIfInBounds_toArray, List.set_cons_zero, List.set_cons_succ])
      refine M_take (v := ?_) 19 rfl (by kernel_rfl) (by assumption) (fun _ _ _ h => h) (Or.inl ⟨by rfl, ?_⟩) ?_
      rotate_left
      · (intro w hSw; (try dsimp only at hSw); go_simp; (try with_reducible rfl))
      (try simp only [Act.put, List.setIfInBounds_toArray, List.set_cons_zero, List.set_cons_succ])
      refine M_take (v := ?_) 20 rfl (by kernel_rfl) (by assumption) (fun _ _ _ h => h) (Or.inl ⟨by rfl, ?_⟩) ?_
      rotate_left
      · (intro w hSw; (try dsimp only at hSw); go_simp; (try with_reducible rfl))
      (try simp only [Act.put, List.setIfInBounds_toArray, List.set_cons_zero, List.set_cons_succ])
      refine M_take (v := ?_) 21 rfl (by kernel_rfl) (by assumption) (fun _ _ _ h => h) (Or.inl ⟨by rfl, ?_⟩) ?_
      rotate_left
      · (intro w hSw; (try dsimp only at hSw); go_simp; (try with_reducible rfl))
      (try simp only [Act.put, List.setIfInBounds_toArray, List.set_cons_zero, List.set_cons_succ])
      refine M_take (v := ?_) 22 rfl (by kernel_rfl) (by assumption) (fun _ _ _ h => h) (Or.inl ⟨by rfl, ?_⟩) ?_
      rotate_left
      · (intro w hSw; (try dsimp only at hSw); go_simp; (try with_reducible rfl))
      (try simp only [Act.put, List.setIfInBounds_toArray, List.set_cons_zero, List.set_cons_succ])
      refine M_take (v := ?_) 23 rfl (by kernel_rfl) (by assumption) (fun _ _ _ h => h) (Or.inl ⟨by rfl, ?_⟩) ?_
      rotate_left
      · (intro w hSw; (try dsimp only at hSw); go_simp; (try with_reducible rfl))
      (try simp only [Act.put, List.setIfInBounds_toArray, List.set_cons_zero, List.set_cons_succ])
      refine M_take (v := ?_) 24 rfl (by kernel_rfl) (by assumption) (fun _ _ _ h => h) (Or.inl ⟨by rfl, ?_⟩) ?_
      rotate_left
      · (intro w hSw; (try dsimp only at hSw); go_simp; (try with_reducible rfl))
      (try simp only [Act.put, List.setIfInBounds_toArray, List.set_cons_zero, List.set_cons_succ])
      refine M_done (by kernel_rfl) ?_ _
      obtain ⟨w7, hwC⟩ : ∃ W : World, W = wC := ⟨_, rfl⟩
      rw [← hwC] at HBC hTC ⊢
      clear hwC
      have J := HBC
      have D := Lib.hid (nextB D.out J.out)
      clear hT0 hTA hTC HBA HBC
      clear c0 c1 c2 zC x0 x2 x3 x4 x5 zX
      have C := Lib.hid (C.out.up J.out)
      have X := Lib.hid (X.out.up J.out)
      obtain ⟨c0, c1, c2⟩ := C.out
      have zC := C.out.lt
      have x0 : w7.cell? ⟨w.heap.size + 1, 0, none⟩ = some (.int .i64 x.A) := X.out.c 0 _ rfl
      have x2 : w7.cell? ⟨w.heap.size + 1, 2, none⟩ = some (.int .i64 x.t) := X.out.c 2 _ rfl
      have x3 : w7.cell? ⟨w.heap.size + 1, 3, none⟩ = some (.slice x.A1 x.n1 x.c1) := X.out.c 3 _ rfl
      have x4 : w7.cell? ⟨w.heap.size + 1, 4, none⟩ = some (.slice x.A2 x.n2 x.c2) := X.out.c 4 _ rfl
      have x5 : w7.cell? ⟨w.heap.size + 1, 5, none⟩ = some (.slice x.A3 x.n3 x.c3) := X.out.c 5 _ rfl
      have zX := X.out.lt
      go_wp2_with fail
      refine (K3.out _ D.out).mono ?_
      rintro e w8 ⟨A1, q1, k1, rfl, hq, hi, hb⟩
      have J := Lib.hid (hb)
      have D := Lib.hid (nextB D.out J.out)
      clear c0 c1 c2 zC x0 x2 x3 x4 x5 zX
      have C := Lib.hid (C.out.up J.out)
      have X := Lib.hid (X.out.up J.out)
      have I1 : Hid (LiR A1 q1 (fun i => (S3 i).1) w8) := Lib.hid hi
      have Q1 := Lib.hid hq
      clear hi hq
      clear hb
      obtain ⟨c0, c1, c2⟩ := C.out
      have zC := C.out.lt
      have x0 : w8.cell? ⟨w.heap.size + 1, 0, none⟩ = some (.int .i64 x.A) := X.out.c 0 _ rfl
      have x2 : w8.cell? ⟨w.heap.size + 1, 2, none⟩ = some (.int .i64 x.t) := X.out.c 2 _ rfl
      have x3 : w8.cell? ⟨w.heap.size + 1, 3, none⟩ = some (.slice x.A1 x.n1 x.c1) := X.out.c 3 _ rfl
      have x4 : w8.cell? ⟨w.heap.size + 1, 4, none⟩ = some (.slice x.A2 x.n2 x.c2) := X.out.c 4 _ rfl
      have x5 : w8.cell? ⟨w.heap.size + 1, 5, none⟩ = some (.slice x.A3 x.n3 x.c3) := X.out.c 5 _ rfl
      have zX := X.out.lt
      go_wp2_with fail
      refine (K4.out _ D.out).mono ?_
      rintro e w9 ⟨A2, q2, k2, rfl, hq, hi, hb⟩
      have J := Lib.hid (hb)
      have D := Lib.hid (nextB D.out J.out)
      clear c0 c1 c2 zC x0 x2 x3 x4 x5 zX
      have C := Lib.hid (C.out.up J.out)
      have X := Lib.hid (X.out.up J.out)
      have I1 := Lib.hid (I1.out.up J.out)
      have I2 : Hid (LiR A2 q2 (fun i => (S3 i).1) w9) := Lib.hid hi
      have Q2 := Lib.hid hq
      clear hi hq
      clear hb
      obtain ⟨c0, c1, c2⟩ := C.out
      have zC := C.out.lt
      have x0 : w9.cell? ⟨w.heap.size + 1, 0, none⟩ = some (.int .i64 x.A) := X.out.c 0 _ rfl
      have x2 : w9.cell? ⟨w.heap.size + 1, 2, none⟩ = some (.int .i64 x.t) := X.out.c 2 _ rfl
      have x3 : w9.cell? ⟨w.heap.size + 1, 3, none⟩ = some (.slice x.A1 x.n1 x.c1) := X.out.c 3 _ rfl
      have x4 : w9.cell? ⟨w.heap.size + 1, 4, none⟩ = some (.slice x.A2 x.n2 x.c2) := X.out.c 4 _ rfl
      have x5 : w9.cell? ⟨w.heap.size + 1, 5, none⟩ = some (.slice x.A3 x.n3 x.c3) := X.out.c 5 _ rfl
      have zX := X.out.lt
      go_wp2_with fail
      refine (K5.out _ D.out).mono ?_
      rintro e w10 ⟨A3, q3, k3, rfl, hq, hi, hb⟩
      have J := Lib.hid (hb)
      have D := Lib.hid (nextB D.out J.out)
      clear c0 c1 c2 zC x0 x2 x3 x4 x5 zX
      have C := Lib.hid (C.out.up J.out)
      have X := Lib.hid (X.out.up J.out)
      have I1 := Lib.hid (I1.out.up J.out)
      have I2 := Lib.hid (I2.out.up J.out)
      have I3 : Hid (LiR A3 q3 (fun i => (S3 i).2) w10) := Lib.hid hi
      have Q3 := Lib.hid hq
      clear hi hq
      clear hb
      obtain ⟨c0, c1, c2⟩ := C.out
      have zC := C.out.lt
      have x0 : w10.cell? ⟨w.heap.size + 1, 0, none⟩ = some (.int .i64 x.A) := X.out.c 0 _ rfl
      have x2 : w10.cell? ⟨w.heap.size + 1, 2, none⟩ = some (.int .i64 x.t) := X.out.c 2 _ rfl
      have x3 : w10.cell? ⟨w.heap.size + 1, 3, none⟩ = some (.slice x.A1 x.n1 x.c1) := X.out.c 3 _ rfl
      have x4 : w10.cell? ⟨w.heap.size + 1, 4, none⟩ = some (.slice x.A2 x.n2 x.c2) := X.out.c 4 _ rfl
      have x5 : w10.cell? ⟨w.heap.size + 1, 5, none⟩ = some (.slice x.A3 x.n3 x.c3) := X.out.c 5 _ rfl
      have zX := X.out.lt
      go_wp2_with fail
      refine (K6.out _ D.out).mono ?_
      rintro e w11 ⟨A4, q4, k4, rfl, hq, hi, hb⟩
      have J := Lib.hid (hb)
      have D := Lib.hid (nextB D.out J.out)
      clear c0 c1 c2 zC x0 x2 x3 x4 x5 zX
      have C := Lib.hid (C.out.up J.out)
      have X := Lib.hid (X.out.up J.out)
      have I1 := Lib.hid (I1.out.up J.out)
      have I2 := Lib.hid (I2.out.up J.out)
      have I3 := Lib.hid (I3.out.up J.out)
      have I4 : Hid (LiR A4 q4 (fun i => (S3 i).2) w11) := Lib.hid hi
      have Q4 := Lib.hid hq
      clear hi hq
      clear hb
      obtain ⟨c0, c1, c2⟩ := C.out
      have zC := C.out.lt
      have x0 : w11.cell? ⟨w.heap.size + 1, 0, none⟩ = some (.int .i64 x.A) := X.out.c 0 _ rfl
      have x2 : w11.cell? ⟨w.heap.size + 1, 2, none⟩ = some (.int .i64 x.t) := X.out.c 2 _ rfl
      have x3 : w11.cell? ⟨w.heap.size + 1, 3, none⟩ = some (.slice x.A1 x.n1 x.c1) := X.out.c 3 _ rfl
      have x4 : w11.cell? ⟨w.heap.size + 1, 4, none⟩ = some (.slice x.A2 x.n2 x.c2) := X.out.c 4 _ rfl
      have x5 : w11.cell? ⟨w.heap.size + 1, 5, none⟩ = some (.slice x.A3 x.n3 x.c3) := X.out.c 5 _ rfl
      have zX := X.out.lt
      go_wp2_with fail
      refine (SameInts_any q1 q2 A1 A2 k1 k2 _ _ true _ I1.out I2.out ⟨fun _ => ⟨Q1.out.trans Q2.out.symm, fun i _ => rfl⟩, fun _ => rfl⟩).mono ?_
      rintro e w12 ⟨rfl, hb⟩
      have J := Lib.hid (hb)
      have D := Lib.hid (nextB D.out J.out)
      clear c0 c1 c2 zC x0 x2 x3 x4 x5 zX
      have C := Lib.hid (C.out.up J.out)
      have X := Lib.hid (X.out.up J.out)
      have I1 := Lib.hid (I1.out.up J.out)
      have I2 := Lib.hid (I2.out.up J.out)
      have I3 := Lib.hid (I3.out.up J.out)
      have I4 := Lib.hid (I4.out.up J.out)
      clear hb
      obtain ⟨c0, c1, c2⟩ := C.out
      have zC := C.out.lt
      have x0 : w12.cell? ⟨w.heap.size + 1, 0, none⟩ = some (.int .i64 x.A) := X.out.c 0 _ rfl
      have x2 : w12.cell? ⟨w.heap.size + 1, 2, none⟩ = some (.int .i64 x.t) := X.out.c 2 _ rfl
      have x3 : w12.cell? ⟨w.heap.size + 1, 3, none⟩ = some (.slice x.A1 x.n1 x.c1) := X.out.c 3 _ rfl
      have x4 : w12.cell? ⟨w.heap.size + 1, 4, none⟩ = some (.slice x.A2 x.n2 x.c2) := X.out.c 4 _ rfl
      have x5 : w12.cell? ⟨w.heap.size + 1, 5, none⟩ = some (.slice x.A3 x.n3 x.c3) := X.out.c 5 _ rfl
      have zX := X.out.lt
      go_wp2_with fail
      refine (SameInts_any q3 q4 A3 A4 k3 k4 _ _ true _ I3.out I4.out ⟨fun _ => ⟨Q3.out.trans Q4.out.symm, fun i _ => rfl⟩, fun _ => rfl⟩).mono ?_
      rintro e w13 ⟨rfl, hb⟩
      have J := Lib.hid (hb)
      have D := Lib.hid (nextB D.out J.out)
      clear c0 c1 c2 zC x0 x2 x3 x4 x5 zX
      have C := Lib.hid (C.out.up J.out)
      have X := Lib.hid (X.out.up J.out)
      have I1 := Lib.hid (I1.out.up J.out)
      have I2 := Lib.hid (I2.out.up J.out)
      have I3 := Lib.hid (I3.out.up J.out)
      have I4 := Lib.hid (I4.out.up J.out)
      clear hb
      obtain ⟨c0, c1, c2⟩ := C.out
      have zC := C.out.lt
      have x0 : w13.cell? ⟨w.heap.size + 1, 0, none⟩ = some (.int .i64 x.A) := X.out.c 0 _ rfl
      have x2 : w13.cell? ⟨w.heap.size + 1, 2, none⟩ = some (.int .i64 x.t) := X.out.c 2 _ rfl
      have x3 : w13.cell? ⟨w.heap.size + 1, 3, none⟩ = some (.slice x.A1 x.n1 x.c1) := X.out.c 3 _ rfl
      have x4 : w13.cell? ⟨w.heap.size + 1, 4, none⟩ = some (.slice x.A2 x.n2 x.c2) := X.out.c 4 _ rfl
      have x5 : w13.cell? ⟨w.heap.size + 1, 5, none⟩ = some (.slice x.A3 x.n3 x.c3) := X.out.c 5 _ rfl
      have zX := X.out.lt
      clear I1 Q1
      clear I2 Q2
      clear I3 Q3
      clear I4 Q4
      go_wp2_with fail
      refine (K7.out _ D.out).mono ?_
      rintro e w14 ⟨rfl, hb⟩
      have J := Lib.hid (hb)
      have D := Lib.hid (nextB D.out J.out)
      clear c0 c1 c2 zC x0 x2 x3 x4 x5 zX
      have C := Lib.hid (C.out.up J.out)
      have X := Lib.hid (X.out.up J.out)
      clear hb
      obtain ⟨c0, c1, c2⟩ := C.out
      have zC := C.out.lt
      have x0 : w14.cell? ⟨w.heap.size + 1, 0, none⟩ = some (.int .i64 x.A) := X.out.c 0 _ rfl
      have x2 : w14.cell? ⟨w.heap.size + 1, 2, none⟩ = some (.int .i64 x.t) := X.out.c 2 _ rfl
      have x3 : w14.cell? ⟨w.heap.size + 1, 3, none⟩ = some (.slice x.A1 x.n1 x.c1) := X.out.c 3 _ rfl
      have x4 : w14.cell? ⟨w.heap.size + 1, 4, none⟩ = some (.slice x.A2 x.n2 x.c2) := X.out.c 4 _ rfl
      have x5 : w14.cell? ⟨w.heap.size + 1, 5, none⟩ = some (.slice x.A3 x.n3 x.c3) := X.out.c 5 _ rfl
      have zX := X.out.lt
      go_wp2_with fail
      refine (K8.out _ (nextB D.out (box1 w14 _))).mono ?_
      rintro e w15 ⟨rfl, hb⟩
      have J := Lib.hid (nextB (box1 w14 _) hb)
      have D := Lib.hid (nextB D.out J.out)
      clear c0 c1 c2 zC x0 x2 x3 x4 x5 zX
      have C := Lib.hid (C.out.up J.out)
      have X := Lib.hid (X.out.up J.out)
      have V := Lib.hid (((Bt.new w14 31 (p) (q))).up hb)
      clear hb
      obtain ⟨c0, c1, c2⟩ := C.out
      have zC := C.out.lt
      have x0 : w15.cell? ⟨w.heap.size + 1, 0, none⟩ = some (.int .i64 x.A) := X.out.c 0 _ rfl
      have x2 : w15.cell? ⟨w.heap.size + 1, 2, none⟩ = some (.int .i64 x.t) := X.out.c 2 _ rfl
      have x3 : w15.cell? ⟨w.heap.size + 1, 3, none⟩ = some (.slice x.A1 x.n1 x.c1) := X.out.c 3 _ rfl
      have x4 : w15.cell? ⟨w.heap.size + 1, 4, none⟩ = some (.slice x.A2 x.n2 x.c2) := X.out.c 4 _ rfl
      have x5 : w15.cell? ⟨w.heap.size + 1, 5, none⟩ = some (.slice x.A3 x.n3 x.c3) := X.out.c 5 _ rfl
      have zX := X.out.lt
      obtain ⟨v0, v1, v2, v3⟩ := V.out
      have zV := V.out.lt
      go_wp2_with fail
      refine (K9.out _ (nextB D.out (box1 w15 _))).mono ?_
      rintro e w16 ⟨A5, q5, k5, rfl, hq, hi, hb⟩
      have J := Lib.hid (nextB (box1 w15 _) hb)
      have D := Lib.hid (nextB D.out J.out)
      clear c0 c1 c2 zC x0 x2 x3 x4 x5 zX v0 v1 v2 v3 zV
      have C := Lib.hid (C.out.up J.out)
      have X := Lib.hid (X.out.up J.out)
      have V := Lib.hid (V.out.up J.out)
      have U := Lib.hid (((Bt.new w15 31 (p) (q))).up hb)
      have I5 : Hid (LiR A5 q5 (fun i => (S5 i).1) w16) := Lib.hid hi
      have Q5 := Lib.hid hq
      clear hi hq
      clear hb
      obtain ⟨c0, c1, c2⟩ := C.out
      have zC := C.out.lt
      have x0 : w16.cell? ⟨w.heap.size + 1, 0, none⟩ = some (.int .i64 x.A) := X.out.c 0 _ rfl
      have x2 : w16.cell? ⟨w.heap.size + 1, 2, none⟩ = some (.int .i64 x.t) := X.out.c 2 _ rfl
      have x3 : w16.cell? ⟨w.heap.size + 1, 3, none⟩ = some (.slice x.A1 x.n1 x.c1) := X.out.c 3 _ rfl
      have x4 : w16.cell? ⟨w.heap.size + 1, 4, none⟩ = some (.slice x.A2 x.n2 x.c2) := X.out.c 4 _ rfl
      have x5 : w16.cell? ⟨w.heap.size + 1, 5, none⟩ = some (.slice x.A3 x.n3 x.c3) := X.out.c 5 _ rfl
      have zX := X.out.lt
      obtain ⟨v0, v1, v2, v3⟩ := V.out
      have zV := V.out.lt
      obtain ⟨u0, u1, u2, u3⟩ := U.out
      have zU := U.out.lt
      go_wp2_with fail
      refine (K10.out _ D.out).mono ?_
      rintro e w17 ⟨A6, q6, k6, rfl, hq, hi, hb⟩
      have J := Lib.hid (hb)
      have D := Lib.hid (nextB D.out J.out)
      clear c0 c1 c2 zC x0 x2 x3 x4 x5 zX v0 v1 v2 v3 zV u0 u1 u2 u3 zU
      have C := Lib.hid (C.out.up J.out)
      have X := Lib.hid (X.out.up J.out)
      have V := Lib.hid (V.out.up J.out)
      have U := Lib.hid (U.out.up J.out)
      have I5 := Lib.hid (I5.out.up J.out)
      have I6 : Hid (LiR A6 q6 (fun i => (S5 i).1) w17) := Lib.hid hi
      have Q6 := Lib.hid hq
      clear hi hq
      clear hb
      obtain ⟨c0, c1, c2⟩ := C.out
      have zC := C.out.lt
      have x0 : w17.cell? ⟨w.heap.size + 1, 0, none⟩ = some (.int .i64 x.A) := X.out.c 0 _ rfl
      have x2 : w17.cell? ⟨w.heap.size + 1, 2, none⟩ = some (.int .i64 x.t) := X.out.c 2 _ rfl
      have x3 : w17.cell? ⟨w.heap.size + 1, 3, none⟩ = some (.slice x.A1 x.n1 x.c1) := X.out.c 3 _ rfl
      have x4 : w17.cell? ⟨w.heap.size + 1, 4, none⟩ = some (.slice x.A2 x.n2 x.c2) := X.out.c 4 _ rfl
      have x5 : w17.cell? ⟨w.heap.size + 1, 5, none⟩ = some (.slice x.A3 x.n3 x.c3) := X.out.c 5 _ rfl
      have zX := X.out.lt
      obtain ⟨v0, v1, v2, v3⟩ := V.out
      have zV := V.out.lt
      obtain ⟨u0, u1, u2, u3⟩ := U.out
      have zU := U.out.lt
      go_wp2_with fail
      refine (SameInts_any q5 q6 A5 A6 k5 k6 _ _ true _ I5.out I6.out ⟨fun _ => ⟨Q5.out.trans Q6.out.symm, fun i _ => rfl⟩, fun _ => rfl⟩).mono ?_
      rintro e w18 ⟨rfl, hb⟩
      have J := Lib.hid (hb)
      have D := Lib.hid (nextB D.out J.out)
      clear c0 c1 c2 zC x0 x2 x3 x4 x5 zX v0 v1 v2 v3 zV u0 u1 u2 u3 zU
      have C := Lib.hid (C.out.up J.out)
      have X := Lib.hid (X.out.up J.out)
      have V := Lib.hid (V.out.up J.out)
      have U := Lib.hid (U.out.up J.out)
      have I5 := Lib.hid (I5.out.up J.out)
      have I6 := Lib.hid (I6.out.up J.out)
      clear hb
      obtain ⟨c0, c1, c2⟩ := C.out
      have zC := C.out.lt
      have x0 : w18.cell? ⟨w.heap.size + 1, 0, none⟩ = some (.int .i64 x.A) := X.out.c 0 _ rfl
      have x2 : w18.cell? ⟨w.heap.size + 1, 2, none⟩ = some (.int .i64 x.t) := X.out.c 2 _ rfl
      have x3 : w18.cell? ⟨w.heap.size + 1, 3, none⟩ = some (.slice x.A1 x.n1 x.c1) := X.out.c 3 _ rfl
      have x4 : w18.cell? ⟨w.heap.size + 1, 4, none⟩ = some (.slice x.A2 x.n2 x.c2) := X.out.c 4 _ rfl
      have x5 : w18.cell? ⟨w.heap.size + 1, 5, none⟩ = some (.slice x.A3 x.n3 x.c3) := X.out.c 5 _ rfl
      have zX := X.out.lt
      obtain ⟨v0, v1, v2, v3⟩ := V.out
      have zV := V.out.lt
      obtain ⟨u0, u1, u2, u3⟩ := U.out
      have zU := U.out.lt
      go_wp2_with fail
      go_ret
      exact ⟨rfl, D.out⟩
end Go.Proofs.Ytpikaohodieeaaa
