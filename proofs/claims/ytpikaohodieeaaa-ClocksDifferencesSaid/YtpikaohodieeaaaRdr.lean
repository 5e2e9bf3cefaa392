/- The specification's lowest and Drift; SameSpans. -/
import Derived.Test.YtpikaohodieeaaaRdf
namespace Go.Proofs.Ytpikaohodieeaaa
open Go.RowKit
set_option linter.unusedSimpArgs false
set_option linter.unusedVariables false
set_option maxRecDepth 100000 in
set_option maxHeartbeats 4000000 in
theorem Rlowest_any (x y : Nat) (w : World) (hx : x < 1000000000) (hy : y < 1000000000) (h1 : 0 < y) :
    Calls Try.prog 103 #[.int .i64 x, .int .i64 y] w fun e w' => e = .returned (Sp (((x / Nat.gcd x y : Nat) : Int), ((y / Nat.gcd x y : Nat) : Int))) ∧ Below w.heap.size w w' := by
  obtain ⟨w1, hw1⟩ : ∃ w1 : World, w1 = w.alloc (.cells #[.int .i64 0, .int .i64 0] 63) := ⟨_, rfl⟩
  have B1 : Below w.heap.size w w1 := by rw [hw1]; exact box1 _ _
  have R1 : Bt w.heap.size 0 0 w1 := by rw [hw1]; exact Bt.new _ _ _ _
  have D := Lib.hid B1
  have R := Lib.hid R1
  have HW := Lib.hid hw1
  have hmx : max (x : Int) (-(x : Int)) = (x : Int) := by omega
  have hmx2 : max (x : Int) (0 - (x : Int)) = (x : Int) := by omega
  have wz : IntKind.i64.wrap (-(x : Int)) = -(x : Int) := IntWalk.i64_in _ (by omega)
  have wz2 : IntKind.i64.wrap (0 - (x : Int)) = 0 - (x : Int) := IntWalk.i64_in _ (by omega)
  clear B1 R1 hw1
  go_enter Try.func103, Try.ntmps103
  go_wp2_with fail
  rw [← HW.out]
  clear hmx hmx2 wz wz2
  go_loopw [5, 6, 7] (fun v u _ wr => ∃ q r : Nat, v = .int .i64 q ∧ u = .int .i64 r ∧ (0 < q ∨ 0 < r) ∧ q < 1000000000 ∧ r < 1000000000 ∧ Nat.gcd q r = Nat.gcd x y ∧ wr = w1) (fun _ u _ _ => (intOf u).toNat)
  case atStart => exact ⟨x, y, rfl, rfl, .inr h1, hx, hy, rfl, rfl⟩
  case round =>
    obtain ⟨q, r, rfl, rfl, hq0, hq, hr, hg, hw9⟩ := hrel
    rw [hw9]
    clear hw9 wr
    by_cases h0 : 0 < r
    · have d1 : decide ((r : Int) > 0) = true := decide_eq_true (by omega)
      have d2 : decide (0 < (r : Int)) = true := decide_eq_true (by omega)
      have d3 : (0 : Int) < (r : Int) := by omega
      have n0 : ¬ (r : Int) = 0 := by omega
      have n1 : ((r : Int) == 0) = false := by simpa using n0
      have n2 : ¬ r = 0 := by omega
      have ht : (q : Int).tmod (r : Int) = ((q % r : Nat) : Int) := rfl
      have hm := Nat.mod_lt q h0
      have hg2 : Nat.gcd r (q % r) = Nat.gcd x y := ((Nat.gcd_comm _ _).trans (Nat.gcd_rec r q).symm).trans ((Nat.gcd_comm _ _).trans hg)
      have hwt : IntKind.i64.wrap ((q % r : Nat) : Int) = ((q % r : Nat) : Int) := IntWalk.i64_in _ (by omega)
      have HG2 := Lib.hid hg2
      clear hg hg2
      go_wp2_with fail
      go_roundw
      case rel => exact ⟨r, q % r, rfl, by first | rfl | rw [ht], .inl h0, hr, by omega, HG2.out, by first | trivial | rfl⟩
      case measure => (simp [intOf] <;> omega)
    · obtain rfl : r = 0 := by omega
      have hgq : q = Nat.gcd x y := by rw [← hg, Nat.gcd_zero_right]
      have hq1 : 0 < q := by omega
      have d1 : decide (((0 : Nat) : Int) > 0) = false := decide_eq_false (by omega)
      have d2 : decide ((0 : Int) < 0) = false := decide_eq_false (by omega)
      obtain ⟨X, hX⟩ : ∃ X, X = x / q := ⟨_, rfl⟩
      obtain ⟨Y, hY⟩ : ∃ Y, Y = y / q := ⟨_, rfl⟩
      have e1 : (x : Int) / (q : Int) = (X : Int) := by rw [hX]; rfl
      have e2 : (y : Int) / (q : Int) = (Y : Int) := by rw [hY]; rfl
      have e3 : (x : Int).tdiv (q : Int) = (X : Int) := by rw [hX]; rfl
      have e4 : (y : Int).tdiv (q : Int) = (Y : Int) := by rw [hY]; rfl
      have l1 : X ≤ x := by rw [hX]; exact Nat.div_le_self _ _
      have l2 : Y ≤ y := by rw [hY]; exact Nat.div_le_self _ _
      have hw5 : IntKind.i64.wrap (X : Int) = (X : Int) := IntWalk.i64_in _ (by omega)
      have hw6 : IntKind.i64.wrap (Y : Int) = (Y : Int) := IntWalk.i64_in _ (by omega)
      rw [hgq] at hX hY
      have HX := Lib.hid hX
      have HY := Lib.hid hY
      clear hX hY
      have n0 : ¬ (q : Int) = 0 := by omega
      have n1 : ((q : Int) == 0) = false := by simpa using n0
      have n2 : ¬ q = 0 := by omega
      have HGQ := Lib.hid hgq
      rw [show ((0 : Nat) : Int) = 0 from rfl] at *
      clear hg hgq
      have z2 := R.out.lt
      obtain ⟨r0, r1, r2, r3⟩ := R.out
      have HST := Lib.hid (R.out.store (X : Int) (Y : Int))
      have HBL := Lib.hid (set1 (set1 D.out (Nat.le_refl _) 0 (.int .i64 (X : Int))) (Nat.le_refl _) 1 (.int .i64 (Y : Int)))
      go_wp2_with fail
      refine wp_region_M [7] (fun w' => w'.cell? ⟨w.heap.size, 0, none⟩ = some (.int .i64 0) ∧ w'.cell? ⟨w.heap.size, 1, none⟩ = some (.int .i64 0)) (by kernel_rfl) (by kernel_rfl) (by (try dsimp only); (repeat' apply And.intro); all_goals first | assumption | (go_simp; done)) (fun hT0 => ?_)
      refine M_take (v := ?_) 0 rfl (by kernel_rfl) (by assumption) (fun _ _ _ h => h) (Or.inl ⟨by rfl, ?_⟩) ?_
      rotate_left
      · (intro w hSw; (try dsimp only at hSw); go_simp; (try with_reducible rfl))
      (try simp only [Act.put, List.setIfInBounds_toArray, List.set_cons_zero, List.set_cons_succ])
      refine M_take (v := ?_) 1 rfl (by kernel_rfl) (by assumption) (fun _ _ _ h => h) (Or.inl ⟨by rfl, ?_⟩) ?_
      rotate_left
      · (intro w hSw; (try dsimp only at hSw); go_simp; (try with_reducible rfl))
      (try simp only [Act.put, List.setIfInBounds_toArray, List.set_cons_zero, List.set_cons_succ])
      refine M_take (v := ?_) 2 rfl (by kernel_rfl) (by assumption) (fun _ _ _ h => h) (Or.inl ⟨by rfl, ?_⟩) ?_
      rotate_left
      · (intro w hSw; (try dsimp only at hSw); go_simp; (try with_reducible rfl))
      (try simp only [Act.put, List.setIfInBounds_toArray, List.set_cons_zero, List.set_cons_succ])
      refine M_take (v := ?_) 3 rfl (by kernel_rfl) (by assumption) (fun _ _ _ h => h) (Or.inl ⟨by rfl, ?_⟩) ?_
      rotate_left
      · (intro w hSw; (try dsimp only at hSw); go_simp; (try with_reducible rfl))
      (try simp only [Act.put, List.setIfInBounds_toArray, List.set_cons_zero, List.set_cons_succ])
      refine M_take (v := ?_) 4 rfl (by kernel_rfl) (by assumption) (fun _ _ _ h => h) (Or.inl ⟨by rfl, ?_⟩) ?_
      rotate_left
      · (intro w hSw; (try dsimp only at hSw); go_simp; (try with_reducible rfl))
      (try simp only [Act.put, List.setIfInBounds_toArray, List.set_cons_zero, List.set_cons_succ])
      refine M_take (v := ?_) 5 rfl (by kernel_rfl) (by assumption) (fun _ _ _ h => h) (Or.inl ⟨by rfl, ?_⟩) ?_
      rotate_left
      · (intro w hSw; (try dsimp only at hSw); go_simp; (try with_reducible rfl))
      (try simp only [Act.put, List.setIfInBounds_toArray, List.set_cons_zero, List.set_cons_succ])
      refine M_take (v := ?_) 6 rfl (by kernel_rfl) (by assumption) (fun _ _ _ h => h) (Or.inl ⟨by rfl, ?_⟩) ?_
      rotate_left
      · (intro w hSw; (try dsimp only at hSw); go_simp; (try with_reducible rfl))
      (try simp only [Act.put, List.setIfInBounds_toArray, List.set_cons_zero, List.set_cons_succ])
      refine M_step 7 rfl (by kernel_rfl) (fun K hK => ?_)
      go_simp
      skip
      refine hK.out _ _ (fun e => by cases e) ?_
      clear hK K
      (try simp only [Act.put, List.setIfInBounds_toArray, List.set_cons_zero, List.set_cons_succ])
      refine M_done (by kernel_rfl) ?_ _
      clear hT0
      go_wp2_with fail
      obtain ⟨wf, hwf⟩ : ∃ wf : World, wf = ((w1.setCell ⟨w.heap.size, 0, none⟩ (.int .i64 (X : Int))).setCell ⟨w.heap.size, 1, none⟩ (.int .i64 (Y : Int))).drew := ⟨_, rfl⟩
      have HF2 := HBL.out.drew
      have hq := HST.out.up (Below.refl _ _).drew
      rw [← hwf] at hq HF2 ⊢
      obtain ⟨q0, q1, _, _⟩ := hq
      exact bodyPost_ret (v := Sp ((X : Int), (Y : Int))) (by simp [results, Try.results103, go_sem, q0, q1]) rfl ⟨by rw [HX.out, HY.out], HF2⟩
set_option maxRecDepth 100000 in
set_option maxHeartbeats 4000000 in
theorem RDrift_any (d : Drm) (MA : Option Addr) (m mc : Nat) (F : Nat → Int × Int × Int) (a b : Int) (vd : Bool) (E : Int) (S : Nat → Int × Int) (w : World) (hin : DrIn d w.heap.size w) (hm : TrsIn MA m F w.heap.size w) (hvd : vd = true ↔ ((0 ≤ a ∧ a ≤ d.n) ∧ 0 ≤ b ∧ b ≤ d.n) ∧ a < b) (hE : RdR d m F vd E S) :
    Calls Try.prog 53 #[d.v, .slice MA m mc, .int .i64 a, .int .i64 b] w fun e w' => e = .returned (.tuple #[Sp (if E = 0 then ratP (apS (gapF d) S a.toNat b.toNat).1 (b - a).toNat else (0, 0)), Sp (if E = 0 then ratP (apS (gapF d) S a.toNat b.toNat).2 (b - a).toNat else (0, 0)), .int .i64 E]) ∧ Below w.heap.size w w' := by
  have DD : Hid (∀ W, Below w.heap.size w W → DrIn d W.heap.size W) := Lib.hid fun W h => (hin.up h (Nat.le_refl _)).more h.size
  have MM : Hid (∀ W, Below w.heap.size w W → TrsIn MA m F W.heap.size W) := Lib.hid fun W h => (hm.up h (Nat.le_refl _)).more h.size
  obtain ⟨w1, hw1⟩ : ∃ w1 : World, w1 = ((w.alloc (drO d)).alloc (.cells #[.int .i64 0, .int .i64 0] 63)).alloc (.cells #[.int .i64 0, .int .i64 0] 63) := ⟨_, rfl⟩
  have B1 : Below w.heap.size w w1 := by rw [hw1]; exact box3 _ _ _ _
  have P1 : HasDr d w.heap.size w1 := by rw [hw1]; exact ((dr_new w d).up (box1 _ _)).up (box1 _ _)
  have R1 : Bt (w.heap.size + 1) 0 0 w1 := by
    rw [hw1]
    have := (Bt.new (w.alloc (drO d)) 63 0 0).up (box1 _ (.cells #[.int .i64 0, .int .i64 0] 63))
    rw [World.size_alloc] at this
    exact this
  have Q1 : Bt (w.heap.size + 1 + 1) 0 0 w1 := by
    rw [hw1]
    have := Bt.new ((w.alloc (drO d)).alloc (.cells #[.int .i64 0, .int .i64 0] 63)) 63 0 0
    rw [World.size_alloc, World.size_alloc] at this
    exact this
  have D := Lib.hid B1
  have P := Lib.hid P1
  have R := Lib.hid R1
  have Q := Lib.hid Q1
  have HW := Lib.hid hw1
  obtain ⟨x0, x1⟩ := P.out
  obtain ⟨vc, hvc⟩ := bool_of ((0 ≤ a ∧ a ≤ d.n) ∧ 0 ≤ b ∧ b ≤ d.n)
  have K1 := Lib.hid fun E (h : CoR d m F vc E) => Rcolumns_any d MA m mc F a b vc E w1 (DD.out w1 B1) (MM.out w1 B1) hvc h
  clear hin hm B1 P1 R1 Q1 hw1
  by_cases hc : CoR d m F vc 0
  · have K2 := Lib.hid (K1.out 0 hc)
    obtain ⟨hd, hk, hvt⟩ : DrOk d ∧ MksOk d m F ∧ vc = true := by
      rcases hc with ⟨h, _⟩ | ⟨h1, h2, ⟨_, h⟩ | ⟨h, _⟩⟩
      · omega
      · omega
      · exact ⟨h1, h2, h⟩
    have hx := hvc.1 hvt
    by_cases hab : a < b
    · obtain rfl : vd = true := hvd.2 ⟨hx, hab⟩
      have dab : decide (a ≥ b) = false := decide_eq_false (by omega)
      have dab2 : decide (b ≤ a) = false := dab
      have KT := Lib.hid fun W h => Rtold_any d MA m mc F E S W (DD.out W h) (MM.out W h) hE
      have hEN : E = 0 → Ends d.n (Rdg d.n (gapF d) m F) S := fun h0 => by
        rcases hE with ⟨h, _⟩ | ⟨_, _, ⟨h, _⟩ | ⟨_, h, _⟩ | ⟨_, _, h⟩⟩
        · omega
        · cases h
        · omega
        · exact h
      have HEN := Lib.hid hEN
      have HDK := Lib.hid (And.intro hd hk)
      have HXA := Lib.hid (And.intro hx hab)
      clear hE hvd hvc hc hd hk hx hEN hvt
      go_enter Try.func53, Try.ntmps53
      go_wp2_with fail
      rw [← HW.out]
      refine K2.out.mono ?_
      rintro e w2 ⟨rfl, hb2⟩
      have D := Lib.hid (nextB D.out hb2)
      have P := Lib.hid (P.out.up hb2)
      have R := Lib.hid (R.out.up hb2)
      have Q := Lib.hid (Q.out.up hb2)
      clear hb2 x0 x1
      obtain ⟨x0, x1⟩ := P.out
      go_wp2_with fail
      refine (KT.out _ D.out).mono ?_
      rintro e w3 ⟨v, rfl, hb3, hv⟩
      have D := Lib.hid (nextB D.out hb3)
      have P := Lib.hid (P.out.up hb3)
      have R := Lib.hid (R.out.up hb3)
      have Q := Lib.hid (Q.out.up hb3)
      clear hb3 x0 x1
      obtain ⟨x0, x1⟩ := P.out
      rcases hv with ⟨hne, rfl⟩ | ⟨rfl, t, rfl, ht, hS⟩
      · have hn2 : (E != 0) = true := by simpa using hne
        have HNE := Lib.hid hne
        clear hne
        go_wp2_with fail
        have zR := R.out.lt
        have zQ := Q.out.lt
        obtain ⟨wf, hwf⟩ : ∃ wf : World, wf = ((((w3.setCell ⟨w.heap.size + 1, 0, none⟩ (.int .i64 (0))).setCell ⟨w.heap.size + 1, 1, none⟩ (.int .i64 (0))).setCell ⟨w.heap.size + 1 + 1, 0, none⟩ (.int .i64 (0))).setCell ⟨w.heap.size + 1 + 1, 1, none⟩ (.int .i64 (0))).drew := ⟨_, rfl⟩
        have hbf : Below w.heap.size w wf := by rw [hwf]; exact (set1 (set1 (set1 (set1 D.out (by omega) _ _) (by omega) _ _) (by omega) _ _) (by omega) _ _).drew
        have hq : Bt (w.heap.size + 1) (0) (0) wf := by rw [hwf]; exact (Bt.other (Bt.other (R.out.store (0) (0)) (by omega)) (by omega)).up (Below.refl _ _).drew
        have hr : Bt (w.heap.size + 1 + 1) (0) (0) wf := by rw [hwf]; exact (Bt.store (Bt.other (Bt.other Q.out (by omega)) (by omega)) (0) (0)).up (Below.refl _ _).drew
        have HF := Lib.hid hbf
        have HQ9 := Lib.hid hq
        have HR9 := Lib.hid hr
        have HWF := Lib.hid hwf
        clear hbf hq hr hwf
        obtain ⟨r0, r1, r2, r3⟩ := R.out
        obtain ⟨s0, s1, s2, s3⟩ := Q.out
        refine wp_region_M [] (fun w' => w'.cell? ⟨w.heap.size + 1, 0, none⟩ = some (.int .i64 0) ∧ w'.cell? ⟨w.heap.size + 1, 1, none⟩ = some (.int .i64 0) ∧ w'.cell? ⟨w.heap.size + 1 + 1, 0, none⟩ = some (.int .i64 0) ∧ w'.cell? ⟨w.heap.size + 1 + 1, 1, none⟩ = some (.int .i64 0)) (by kernel_rfl) (by kernel_rfl) (by (try dsimp only); (repeat' apply And.intro); all_goals first | assumption | (go_simp; done)) (fun hT0 => ?_)
        refine M_take (v := ?_) 0 rfl (by kernel_rfl) (by assumption) (fun _ _ _ h => h) (Or.inl ⟨by rfl, ?_⟩) ?_
        rotate_left
        · (intro w hSw; (try dsimp only at hSw); go_simp; (try with_reducible rfl))
        (try simp only [Act.put, List.setIfInBounds_toArray, List.set_cons_zero, List.set_cons_succ])
        refine M_take (v := ?_) 1 rfl (by kernel_rfl) (by assumption) (fun _ _ _ h => h) (Or.inl ⟨by rfl, ?_⟩) ?_
        rotate_left
        · (intro w hSw; (try dsimp only at hSw); go_simp; (try with_reducible rfl))
        (try simp only [Act.put, List.setIfInBounds_toArray, List.set_cons_zero, List.set_cons_succ])
        refine M_take (v := ?_) 2 rfl (by kernel_rfl) (by assumption) (fun _ _ _ h => h) (Or.inl ⟨by rfl, ?_⟩) ?_
        rotate_left
        · (intro w hSw; (try dsimp only at hSw); go_simp; (try with_reducible rfl))
        (try simp only [Act.put, List.setIfInBounds_toArray, List.set_cons_zero, List.set_cons_succ])
        refine M_step 3 rfl (by kernel_rfl) (fun K hK => ?_)
        go_simp
        have Ra : Bt (w.heap.size + 1) 0 0 ((w3.setCell ⟨w.heap.size + 1, 0, none⟩ (.int .i64 0)).setCell ⟨w.heap.size + 1, 1, none⟩ (.int .i64 0)) := R.out.store 0 0
        have Qa : Bt (w.heap.size + 1 + 1) 0 0 ((w3.setCell ⟨w.heap.size + 1, 0, none⟩ (.int .i64 0)).setCell ⟨w.heap.size + 1, 1, none⟩ (.int .i64 0)) := Bt.other (Bt.other Q.out (by omega)) (by omega)
        have hTa : (fun w' => w'.cell? ⟨w.heap.size + 1, 0, none⟩ = some (.int .i64 0) ∧ w'.cell? ⟨w.heap.size + 1, 1, none⟩ = some (.int .i64 0) ∧ w'.cell? ⟨w.heap.size + 1 + 1, 0, none⟩ = some (.int .i64 0) ∧ w'.cell? ⟨w.heap.size + 1 + 1, 1, none⟩ = some (.int .i64 0)) (((w3.setCell ⟨w.heap.size + 1, 0, none⟩ (.int .i64 0)).setCell ⟨w.heap.size + 1, 1, none⟩ (.int .i64 0))).drew := ⟨(Ra.up (Below.refl _ _).drew).c0, (Ra.up (Below.refl _ _).drew).c1, (Qa.up (Below.refl _ _).drew).c0, (Qa.up (Below.refl _ _).drew).c1⟩
        refine hK.out _ _ (fun _ => hTa) ?_
        clear hK K
        (try simp only [Act.put, List.setIfInBounds_toArray, List.set_cons_zero, List.set_cons_succ])
        refine M_step 4 rfl (by kernel_rfl) (fun K hK => ?_)
        go_simp
        have Qb : Bt (w.heap.size + 1 + 1) 0 0 ((((w3.setCell ⟨w.heap.size + 1, 0, none⟩ (.int .i64 0)).setCell ⟨w.heap.size + 1, 1, none⟩ (.int .i64 0)).setCell ⟨w.heap.size + 1 + 1, 0, none⟩ (.int .i64 0)).setCell ⟨w.heap.size + 1 + 1, 1, none⟩ (.int .i64 0)) := Qa.store 0 0
        have Rb : Bt (w.heap.size + 1) 0 0 ((((w3.setCell ⟨w.heap.size + 1, 0, none⟩ (.int .i64 0)).setCell ⟨w.heap.size + 1, 1, none⟩ (.int .i64 0)).setCell ⟨w.heap.size + 1 + 1, 0, none⟩ (.int .i64 0)).setCell ⟨w.heap.size + 1 + 1, 1, none⟩ (.int .i64 0)) := Bt.other (Bt.other Ra (by omega)) (by omega)
        have hTb : (fun w' => w'.cell? ⟨w.heap.size + 1, 0, none⟩ = some (.int .i64 0) ∧ w'.cell? ⟨w.heap.size + 1, 1, none⟩ = some (.int .i64 0) ∧ w'.cell? ⟨w.heap.size + 1 + 1, 0, none⟩ = some (.int .i64 0) ∧ w'.cell? ⟨w.heap.size + 1 + 1, 1, none⟩ = some (.int .i64 0)) (((((w3.setCell ⟨w.heap.size + 1, 0, none⟩ (.int .i64 0)).setCell ⟨w.heap.size + 1, 1, none⟩ (.int .i64 0)).setCell ⟨w.heap.size + 1 + 1, 0, none⟩ (.int .i64 0)).setCell ⟨w.heap.size + 1 + 1, 1, none⟩ (.int .i64 0))).drew := ⟨(Rb.up (Below.refl _ _).drew).c0, (Rb.up (Below.refl _ _).drew).c1, (Qb.up (Below.refl _ _).drew).c0, (Qb.up (Below.refl _ _).drew).c1⟩
        refine hK.out _ _ (fun _ => hTb) ?_
        clear hK K
        (try simp only [Act.put, List.setIfInBounds_toArray, List.set_cons_zero, List.set_cons_succ])
        refine M_step 5 rfl (by kernel_rfl) (fun K hK => ?_)
        go_simp
        refine hK.out _ _ (fun _ => hTb) ?_
        clear hK K
        (try simp only [Act.put, List.setIfInBounds_toArray, List.set_cons_zero, List.set_cons_succ])
        refine M_done (by kernel_rfl) ?_ _
        clear hT0
        go_wp2_with fail
        rw [← HWF.out]
        obtain ⟨q0, q1, _, _⟩ := HQ9.out
        obtain ⟨p5, p6, _, _⟩ := HR9.out
        exact bodyPost_ret (v := .tuple #[Sp (0, 0), Sp (0, 0), .int .i64 (E)]) (by simp [results, Try.results53, go_sem, q0, q1, p5, p6]) rfl ⟨(by first | rfl | rw [if_neg HNE.out, if_neg HNE.out]), HF.out⟩
      · clear hS ht
        obtain ⟨⟨⟨ha0, ha1⟩, hb0, hb1⟩, hlt⟩ := HXA.out
        obtain ⟨qa, rfl⟩ : ∃ q : Nat, a = (q : Int) := ⟨a.toNat, by omega⟩
        obtain ⟨qb, rfl⟩ : ∃ q : Nat, b = (q : Int) := ⟨b.toNat, by omega⟩
        have hEn := HEN.out rfl
        have hpos := apS_pos HDK.out.1 hEn (a := qa) (b := qb) (by omega) (by omega)
        have hn200 := HDK.out.1.n2
        have kb := Rbetween_any d MA m mc F qa qb S w3 (DD.out w3 D.out) (MM.out w3 D.out) HDK.out.1 HDK.out.2 (by omega) (by omega) hEn
        obtain ⟨Y, hY⟩ : ∃ Y : Nat, (qb : Int) - (qa : Int) = (Y : Int) := ⟨qb - qa, by omega⟩
        have hY1 : 0 < Y := by omega
        have hY2 : Y < 1000 := by omega
        have hwY : IntKind.i64.wrap ((qb : Int) - (qa : Int)) = (Y : Int) := by rw [hY]; exact IntWalk.i64_in _ (by omega)
        obtain ⟨sx, sy, hs9⟩ : ∃ x y, apS (gapF d) S qa qb = (x, y) := ⟨_, _, rfl⟩
        rw [hs9] at hpos kb
        obtain ⟨X1, rfl⟩ : ∃ X : Nat, sx = (X : Int) := ⟨sx.toNat, by have := hpos.1.1; simp only at this; omega⟩
        obtain ⟨X2, rfl⟩ : ∃ X : Nat, sy = (X : Int) := ⟨sy.toNat, by have := hpos.2.1; simp only at this; omega⟩
        simp only at hpos
        have KB := Lib.hid kb
        have kt1 := fun W => Rlowest_any X1 Y W (by omega) (by omega) hY1
        have kt2 := fun W => Rlowest_any X2 Y W (by omega) (by omega) hY1
        obtain ⟨p1, hp1⟩ : ∃ p, p = X1 / Nat.gcd X1 Y := ⟨_, rfl⟩
        obtain ⟨p2, hp2⟩ : ∃ p, p = Y / Nat.gcd X1 Y := ⟨_, rfl⟩
        obtain ⟨p3, hp3⟩ : ∃ p, p = X2 / Nat.gcd X2 Y := ⟨_, rfl⟩
        obtain ⟨p4, hp4⟩ : ∃ p, p = Y / Nat.gcd X2 Y := ⟨_, rfl⟩
        rw [← hp1, ← hp2] at kt1
        rw [← hp3, ← hp4] at kt2
        have KT1 := Lib.hid kt1
        have KT2 := Lib.hid kt2
        have HP1 := Lib.hid hp1
        have HP2 := Lib.hid hp2
        have HP3 := Lib.hid hp3
        have HP4 := Lib.hid hp4
        have H9 := Lib.hid hs9
        have HYY := Lib.hid hY
        clear kt1 kt2 hp1 hp2 hp3 hp4 hEn hs9 hpos hY kb
        go_wp2_with fail
        refine KB.out.mono ?_
        rintro e w4 ⟨rfl, hb4⟩
        have D := Lib.hid (nextB D.out hb4)
        have P := Lib.hid (P.out.up hb4)
        have R := Lib.hid (R.out.up hb4)
        have Q := Lib.hid (Q.out.up hb4)
        clear hb4 x0 x1
        obtain ⟨x0, x1⟩ := P.out
        go_wp2_with fail
        obtain ⟨w8, hw8⟩ : ∃ w8 : World, w8 = w4.alloc (.cells #[.int .i64 (X1 : Int), .int .i64 (X2 : Int)] 31) := ⟨_, rfl⟩
        rw [← hw8]
        have hb8 : Below w4.heap.size w4 w8 := by rw [hw8]; exact box1 _ _
        have t8 : Bt w4.heap.size (X1 : Int) (X2 : Int) w8 := by rw [hw8]; exact Bt.new _ _ _ _
        have D := Lib.hid (nextB D.out hb8)
        have R := Lib.hid (R.out.up hb8)
        have Q := Lib.hid (Q.out.up hb8)
        obtain ⟨t0, t1, _, _⟩ := t8
        clear hw8 hb8 x0 x1
        refine wp_region_M [12, 13, 14] (fun w' => w'.cell? ⟨w4.heap.size, 0, none⟩ = some (.int .i64 (X1 : Int)) ∧ w'.cell? ⟨w4.heap.size, 1, none⟩ = some (.int .i64 (X2 : Int))) (by kernel_rfl) (by kernel_rfl) (by (try dsimp only); (repeat' apply And.intro); all_goals first | assumption | (go_simp; done)) (fun hT0 => ?_)
        refine M_take (v := ?_) 0 rfl (by kernel_rfl) (by assumption) (fun _ _ _ h => h) (Or.inl ⟨by rfl, ?_⟩) ?_
        rotate_left
        · (intro w hSw; (try dsimp only at hSw); go_simp; (try with_reducible rfl))
        (try simp only [Act.put, List.setIfInBounds_toArray, List.set_cons_zero, List.set_cons_succ])
        refine M_take (v := ?_) 1 rfl (by kernel_rfl) (by assumption) (fun _ _ _ h => h) (Or.inl ⟨by rfl, ?_⟩) ?_
        rotate_left
        · (intro w hSw; (try dsimp only at hSw); go_simp; (try with_reducible rfl))
        (try simp only [Act.put, List.setIfInBounds_toArray, List.set_cons_zero, List.set_cons_succ])
        refine M_take (v := ?_) 2 rfl (by kernel_rfl) (by assumption) (fun _ _ _ h => h) (Or.inl ⟨by rfl, ?_⟩) ?_
        rotate_left
        · (intro w hSw; (try dsimp only at hSw); go_simp; (try with_reducible rfl))
        (try simp only [Act.put, List.setIfInBounds_toArray, List.set_cons_zero, List.set_cons_succ])
        refine M_take (v := ?_) 3 rfl (by kernel_rfl) (by assumption) (fun _ _ _ h => h) (Or.inl ⟨by rfl, ?_⟩) ?_
        rotate_left
        · (intro w hSw; (try dsimp only at hSw); go_simp; (try with_reducible rfl))
        (try simp only [Act.put, List.setIfInBounds_toArray, List.set_cons_zero, List.set_cons_succ])
        refine M_take (v := ?_) 4 rfl (by kernel_rfl) (by assumption) (fun _ _ _ h => h) (Or.inl ⟨by rfl, ?_⟩) ?_
        rotate_left
        · (intro w hSw; (try dsimp only at hSw); go_simp; (try with_reducible rfl))
        (try simp only [Act.put, List.setIfInBounds_toArray, List.set_cons_zero, List.set_cons_succ])
        refine M_take (v := ?_) 6 rfl (by kernel_rfl) (by assumption) (fun _ _ _ h => h) (Or.inl ⟨by rfl, ?_⟩) ?_
        rotate_left
        · (intro w hSw; (try dsimp only at hSw); go_simp; (try with_reducible rfl))
        (try simp only [Act.put, List.setIfInBounds_toArray, List.set_cons_zero, List.set_cons_succ])
        refine M_take (v := ?_) 7 rfl (by kernel_rfl) (by assumption) (fun _ _ _ h => h) (Or.inl ⟨by rfl, ?_⟩) ?_
        rotate_left
        · (intro w hSw; (try dsimp only at hSw); go_simp; (try with_reducible rfl))
        (try simp only [Act.put, List.setIfInBounds_toArray, List.set_cons_zero, List.set_cons_succ])
        refine M_take (v := ?_) 8 rfl (by kernel_rfl) (by assumption) (fun _ _ _ h => h) (Or.inl ⟨by rfl, ?_⟩) ?_
        rotate_left
        · (intro w hSw; (try dsimp only at hSw); go_simp; (try with_reducible rfl))
        (try simp only [Act.put, List.setIfInBounds_toArray, List.set_cons_zero, List.set_cons_succ])
        refine M_take (v := ?_) 9 rfl (by kernel_rfl) (by assumption) (fun _ _ _ h => h) (Or.inl ⟨by rfl, ?_⟩) ?_
        rotate_left
        · (intro w hSw; (try dsimp only at hSw); go_simp; (try with_reducible rfl))
        (try simp only [Act.put, List.setIfInBounds_toArray, List.set_cons_zero, List.set_cons_succ])
        refine M_take (v := ?_) 10 rfl (by kernel_rfl) (by assumption) (fun _ _ _ h => h) (Or.inl ⟨by rfl, ?_⟩) ?_
        rotate_left
        · (intro w hSw; (try dsimp only at hSw); go_simp; (try with_reducible rfl))
        (try simp only [Act.put, List.setIfInBounds_toArray, List.set_cons_zero, List.set_cons_succ])
        refine M_step 5 rfl (by kernel_rfl) (fun K hK => ?_)
        go_simp
        go_at_call 103
        refine (KT1.out _).mono ?_
        rintro e w9 ⟨rfl, hb9'⟩
        have hb9 : Below w8.heap.size w8 w9 := nextB (Below.refl _ _).drew hb9'
        have hT9 : (fun w' => w'.cell? ⟨w4.heap.size, 0, none⟩ = some (.int .i64 (X1 : Int)) ∧ w'.cell? ⟨w4.heap.size, 1, none⟩ = some (.int .i64 (X2 : Int))) w9 := ⟨cell_of hb9 t0, cell_of hb9 t1⟩
        clear hb9'
        refine hK.out _ _ (fun _ => hT9) ?_
        clear hK K
        (try simp only [Act.put, List.setIfInBounds_toArray, List.set_cons_zero, List.set_cons_succ])
        refine M_step 11 rfl (by kernel_rfl) (fun K hK => ?_)
        go_simp
        go_at_call 103
        refine (KT2.out _).mono ?_
        rintro e wa ⟨rfl, hba'⟩
        have hba : Below w8.heap.size w8 wa := nextB hb9 hba'
        have hTa : (fun w' => w'.cell? ⟨w4.heap.size, 0, none⟩ = some (.int .i64 (X1 : Int)) ∧ w'.cell? ⟨w4.heap.size, 1, none⟩ = some (.int .i64 (X2 : Int))) wa := ⟨cell_of hba t0, cell_of hba t1⟩
        have D := Lib.hid (nextB D.out hba)
        have R := Lib.hid (R.out.up hba)
        have Q := Lib.hid (Q.out.up hba)
        have zR := R.out.lt
        have zQ := Q.out.lt
        obtain ⟨r0, r1, r2, r3⟩ := R.out
        obtain ⟨s0, s1, s2, s3⟩ := Q.out
        clear hba'
        refine hK.out _ _ (fun _ => hTa) ?_
        clear hK K
        (try simp only [Act.put, List.setIfInBounds_toArray, List.set_cons_zero, List.set_cons_succ])
        refine M_step 12 rfl (by kernel_rfl) (fun K hK => ?_)
        go_simp
        skip
        refine hK.out _ _ (fun e => by cases e) ?_
        clear hK K
        (try simp only [Act.put, List.setIfInBounds_toArray, List.set_cons_zero, List.set_cons_succ])
        refine M_step 13 rfl (by kernel_rfl) (fun K hK => ?_)
        go_simp
        skip
        refine hK.out _ _ (fun e => by cases e) ?_
        clear hK K
        (try simp only [Act.put, List.setIfInBounds_toArray, List.set_cons_zero, List.set_cons_succ])
        refine M_step 14 rfl (by kernel_rfl) (fun K hK => ?_)
        go_simp
        skip
        refine hK.out _ _ (fun e => by cases e) ?_
        clear hK K
        (try simp only [Act.put, List.setIfInBounds_toArray, List.set_cons_zero, List.set_cons_succ])
        refine M_done (by kernel_rfl) ?_ _
        obtain ⟨wf, hwf⟩ : ∃ wf : World, wf = (((wa.setCell ⟨w.heap.size + 1, 0, none⟩ (.int .i64 (p1 : Int))).setCell ⟨w.heap.size + 1, 1, none⟩ (.int .i64 (p2 : Int))).setCell ⟨w.heap.size + 1 + 1, 0, none⟩ (.int .i64 (p3 : Int))).setCell ⟨w.heap.size + 1 + 1, 1, none⟩ (.int .i64 (p4 : Int)) := ⟨_, rfl⟩
        have hbf : Below w.heap.size w wf := by rw [hwf]; exact set1 (set1 (set1 (set1 D.out (by omega) _ _) (by omega) _ _) (by omega) _ _) (by omega) _ _
        have hq : Bt (w.heap.size + 1) (p1 : Int) (p2 : Int) wf := by rw [hwf]; exact Bt.other (Bt.other (R.out.store (p1 : Int) (p2 : Int)) (by omega)) (by omega)
        have hr : Bt (w.heap.size + 1 + 1) (p3 : Int) (p4 : Int) wf := by rw [hwf]; exact Bt.store (Bt.other (Bt.other Q.out (by omega)) (by omega)) (p3 : Int) (p4 : Int)
        have HF := Lib.hid hbf
        have HQ9 := Lib.hid hq
        have HR9 := Lib.hid hr
        clear hbf hq hr hT0 hT9 hTa t0 t1
        go_wp2_with fail
        rw [← hwf]
        obtain ⟨q0, q1, _, _⟩ := HQ9.out
        obtain ⟨p5, p6, _, _⟩ := HR9.out
        exact bodyPost_ret (v := .tuple #[Sp ((p1 : Int), (p2 : Int)), Sp ((p3 : Int), (p4 : Int)), .int .i64 0]) (by simp [results, Try.results53, go_sem, q0, q1, p5, p6]) rfl ⟨by
          have e1 : ((qb : Int) - (qa : Int)).toNat = Y := by rw [HYY.out]; omega
          have e2 : qb - qa = Y := by have := HYY.out; omega
          first | rw [e2, H9.out] | rw [e1, H9.out] | (rw [if_pos rfl, if_pos rfl, Int.toNat_natCast, Int.toNat_natCast, e1, H9.out])
          unfold ratP
          simp only [Int.toNat_natCast]
          rw [← HP1.out, ← HP2.out, ← HP3.out, ← HP4.out], HF.out⟩
    · obtain rfl : vd = false := by
        cases hv : vd with
        | false => rfl
        | true => exact absurd (hvd.1 hv).2 hab
      obtain rfl : E = 1 := by
        rcases hE with ⟨h, hC⟩ | ⟨_, _, ⟨_, h⟩ | ⟨h, _⟩ | ⟨h, _⟩⟩
        · rcases hC with ⟨_, h2⟩ | ⟨_, _, h2⟩ | ⟨h2, _⟩
          · exact absurd hd h2
          · exact absurd hk h2
          · omega
        · exact h
        · cases h
        · cases h
      have dab : decide (a ≥ b) = true := decide_eq_true (by omega)
      have dab2 : decide (b ≤ a) = true := dab
      clear hE hvd hvc hc hd hk hx hab hvt
      go_enter Try.func53, Try.ntmps53
      go_wp2_with fail
      rw [← HW.out]
      refine K2.out.mono ?_
      rintro e w2 ⟨rfl, hb2⟩
      have D := Lib.hid (nextB D.out hb2)
      have P := Lib.hid (P.out.up hb2)
      have R := Lib.hid (R.out.up hb2)
      have Q := Lib.hid (Q.out.up hb2)
      clear hb2 x0 x1
      obtain ⟨x0, x1⟩ := P.out
      go_wp2_with fail
      have zR := R.out.lt
      have zQ := Q.out.lt
      obtain ⟨wf, hwf⟩ : ∃ wf : World, wf = ((((w2.setCell ⟨w.heap.size + 1, 0, none⟩ (.int .i64 (0))).setCell ⟨w.heap.size + 1, 1, none⟩ (.int .i64 (0))).setCell ⟨w.heap.size + 1 + 1, 0, none⟩ (.int .i64 (0))).setCell ⟨w.heap.size + 1 + 1, 1, none⟩ (.int .i64 (0))).drew := ⟨_, rfl⟩
      have hbf : Below w.heap.size w wf := by rw [hwf]; exact (set1 (set1 (set1 (set1 D.out (by omega) _ _) (by omega) _ _) (by omega) _ _) (by omega) _ _).drew
      have hq : Bt (w.heap.size + 1) (0) (0) wf := by rw [hwf]; exact (Bt.other (Bt.other (R.out.store (0) (0)) (by omega)) (by omega)).up (Below.refl _ _).drew
      have hr : Bt (w.heap.size + 1 + 1) (0) (0) wf := by rw [hwf]; exact (Bt.store (Bt.other (Bt.other Q.out (by omega)) (by omega)) (0) (0)).up (Below.refl _ _).drew
      have HF := Lib.hid hbf
      have HQ9 := Lib.hid hq
      have HR9 := Lib.hid hr
      have HWF := Lib.hid hwf
      clear hbf hq hr hwf
      obtain ⟨r0, r1, r2, r3⟩ := R.out
      obtain ⟨s0, s1, s2, s3⟩ := Q.out
      refine wp_region_M [] (fun w' => w'.cell? ⟨w.heap.size + 1, 0, none⟩ = some (.int .i64 0) ∧ w'.cell? ⟨w.heap.size + 1, 1, none⟩ = some (.int .i64 0) ∧ w'.cell? ⟨w.heap.size + 1 + 1, 0, none⟩ = some (.int .i64 0) ∧ w'.cell? ⟨w.heap.size + 1 + 1, 1, none⟩ = some (.int .i64 0)) (by kernel_rfl) (by kernel_rfl) (by (try dsimp only); (repeat' apply And.intro); all_goals first | assumption | (go_simp; done)) (fun hT0 => ?_)
      refine M_take (v := ?_) 0 rfl (by kernel_rfl) (by assumption) (fun _ _ _ h => h) (Or.inl ⟨by rfl, ?_⟩) ?_
      rotate_left
      · (intro w hSw; (try dsimp only at hSw); go_simp; (try with_reducible rfl))
      (try simp only [Act.put, List.setIfInBounds_toArray, List.set_cons_zero, List.set_cons_succ])
      refine M_take (v := ?_) 1 rfl (by kernel_rfl) (by assumption) (fun _ _ _ h => h) (Or.inl ⟨by rfl, ?_⟩) ?_
      rotate_left
      · (intro w hSw; (try dsimp only at hSw); go_simp; (try with_reducible rfl))
      (try simp only [Act.put, List.setIfInBounds_toArray, List.set_cons_zero, List.set_cons_succ])
      refine M_take (v := ?_) 2 rfl (by kernel_rfl) (by assumption) (fun _ _ _ h => h) (Or.inl ⟨by rfl, ?_⟩) ?_
      rotate_left
      · (intro w hSw; (try dsimp only at hSw); go_simp; (try with_reducible rfl))
      (try simp only [Act.put, List.setIfInBounds_toArray, List.set_cons_zero, List.set_cons_succ])
      refine M_step 3 rfl (by kernel_rfl) (fun K hK => ?_)
      go_simp
      have Ra : Bt (w.heap.size + 1) 0 0 ((w2.setCell ⟨w.heap.size + 1, 0, none⟩ (.int .i64 0)).setCell ⟨w.heap.size + 1, 1, none⟩ (.int .i64 0)) := R.out.store 0 0
      have Qa : Bt (w.heap.size + 1 + 1) 0 0 ((w2.setCell ⟨w.heap.size + 1, 0, none⟩ (.int .i64 0)).setCell ⟨w.heap.size + 1, 1, none⟩ (.int .i64 0)) := Bt.other (Bt.other Q.out (by omega)) (by omega)
      have hTa : (fun w' => w'.cell? ⟨w.heap.size + 1, 0, none⟩ = some (.int .i64 0) ∧ w'.cell? ⟨w.heap.size + 1, 1, none⟩ = some (.int .i64 0) ∧ w'.cell? ⟨w.heap.size + 1 + 1, 0, none⟩ = some (.int .i64 0) ∧ w'.cell? ⟨w.heap.size + 1 + 1, 1, none⟩ = some (.int .i64 0)) (((w2.setCell ⟨w.heap.size + 1, 0, none⟩ (.int .i64 0)).setCell ⟨w.heap.size + 1, 1, none⟩ (.int .i64 0))).drew := ⟨(Ra.up (Below.refl _ _).drew).c0, (Ra.up (Below.refl _ _).drew).c1, (Qa.up (Below.refl _ _).drew).c0, (Qa.up (Below.refl _ _).drew).c1⟩
      refine hK.out _ _ (fun _ => hTa) ?_
      clear hK K
      (try simp only [Act.put, List.setIfInBounds_toArray, List.set_cons_zero, List.set_cons_succ])
      refine M_step 4 rfl (by kernel_rfl) (fun K hK => ?_)
      go_simp
      have Qb : Bt (w.heap.size + 1 + 1) 0 0 ((((w2.setCell ⟨w.heap.size + 1, 0, none⟩ (.int .i64 0)).setCell ⟨w.heap.size + 1, 1, none⟩ (.int .i64 0)).setCell ⟨w.heap.size + 1 + 1, 0, none⟩ (.int .i64 0)).setCell ⟨w.heap.size + 1 + 1, 1, none⟩ (.int .i64 0)) := Qa.store 0 0
      have Rb : Bt (w.heap.size + 1) 0 0 ((((w2.setCell ⟨w.heap.size + 1, 0, none⟩ (.int .i64 0)).setCell ⟨w.heap.size + 1, 1, none⟩ (.int .i64 0)).setCell ⟨w.heap.size + 1 + 1, 0, none⟩ (.int .i64 0)).setCell ⟨w.heap.size + 1 + 1, 1, none⟩ (.int .i64 0)) := Bt.other (Bt.other Ra (by omega)) (by omega)
      have hTb : (fun w' => w'.cell? ⟨w.heap.size + 1, 0, none⟩ = some (.int .i64 0) ∧ w'.cell? ⟨w.heap.size + 1, 1, none⟩ = some (.int .i64 0) ∧ w'.cell? ⟨w.heap.size + 1 + 1, 0, none⟩ = some (.int .i64 0) ∧ w'.cell? ⟨w.heap.size + 1 + 1, 1, none⟩ = some (.int .i64 0)) (((((w2.setCell ⟨w.heap.size + 1, 0, none⟩ (.int .i64 0)).setCell ⟨w.heap.size + 1, 1, none⟩ (.int .i64 0)).setCell ⟨w.heap.size + 1 + 1, 0, none⟩ (.int .i64 0)).setCell ⟨w.heap.size + 1 + 1, 1, none⟩ (.int .i64 0))).drew := ⟨(Rb.up (Below.refl _ _).drew).c0, (Rb.up (Below.refl _ _).drew).c1, (Qb.up (Below.refl _ _).drew).c0, (Qb.up (Below.refl _ _).drew).c1⟩
      refine hK.out _ _ (fun _ => hTb) ?_
      clear hK K
      (try simp only [Act.put, List.setIfInBounds_toArray, List.set_cons_zero, List.set_cons_succ])
      refine M_step 5 rfl (by kernel_rfl) (fun K hK => ?_)
      go_simp
      refine hK.out _ _ (fun _ => hTb) ?_
      clear hK K
      (try simp only [Act.put, List.setIfInBounds_toArray, List.set_cons_zero, List.set_cons_succ])
      refine M_done (by kernel_rfl) ?_ _
      clear hT0
      go_wp2_with fail
      rw [← HWF.out]
      obtain ⟨q0, q1, _, _⟩ := HQ9.out
      obtain ⟨p5, p6, _, _⟩ := HR9.out
      exact bodyPost_ret (v := .tuple #[Sp (0, 0), Sp (0, 0), .int .i64 (1)]) (by simp [results, Try.results53, go_sem, q0, q1, p5, p6]) rfl ⟨(by first | rfl | simp), HF.out⟩
  · obtain ⟨hne, hc1⟩ : ¬ E = 0 ∧ CoR d m F vc E := by
      rcases hE with h | ⟨h1, h2, h3⟩
      · exact ⟨by omega, .inl h⟩
      · have hvf : vc = false := by
          cases hv : vc with
          | false => rfl
          | true => exact absurd (.inr ⟨h1, h2, .inr ⟨hv, rfl⟩⟩) hc
        have hvd2 : vd = false := by
          cases hv : vd with
          | false => rfl
          | true => rw [hvc.2 (hvd.1 hv).1] at hvf; cases hvf
        rcases h3 with ⟨_, h4⟩ | ⟨h4, _⟩ | ⟨h4, _⟩
        · exact ⟨by omega, .inr ⟨h1, h2, .inl ⟨hvf, h4⟩⟩⟩
        · rw [hvd2] at h4; cases h4
        · rw [hvd2] at h4; cases h4
    have K2 := Lib.hid (K1.out E hc1)
    have hn1 : (E == 0) = false := by simpa using hne
    have hn2 : (E != 0) = true := by simpa using hne
    have HNE := Lib.hid hne
    clear hE hvd hvc hc hc1 hne
    go_enter Try.func53, Try.ntmps53
    go_wp2_with fail
    rw [← HW.out]
    refine K2.out.mono ?_
    rintro e w2 ⟨rfl, hb2⟩
    have D := Lib.hid (nextB D.out hb2)
    have P := Lib.hid (P.out.up hb2)
    have R := Lib.hid (R.out.up hb2)
    have Q := Lib.hid (Q.out.up hb2)
    clear hb2 x0 x1
    obtain ⟨x0, x1⟩ := P.out
    go_wp2_with fail
    have zR := R.out.lt
    have zQ := Q.out.lt
    obtain ⟨wf, hwf⟩ : ∃ wf : World, wf = ((((w2.setCell ⟨w.heap.size + 1, 0, none⟩ (.int .i64 (0))).setCell ⟨w.heap.size + 1, 1, none⟩ (.int .i64 (0))).setCell ⟨w.heap.size + 1 + 1, 0, none⟩ (.int .i64 (0))).setCell ⟨w.heap.size + 1 + 1, 1, none⟩ (.int .i64 (0))).drew := ⟨_, rfl⟩
    have hbf : Below w.heap.size w wf := by rw [hwf]; exact (set1 (set1 (set1 (set1 D.out (by omega) _ _) (by omega) _ _) (by omega) _ _) (by omega) _ _).drew
    have hq : Bt (w.heap.size + 1) (0) (0) wf := by rw [hwf]; exact (Bt.other (Bt.other (R.out.store (0) (0)) (by omega)) (by omega)).up (Below.refl _ _).drew
    have hr : Bt (w.heap.size + 1 + 1) (0) (0) wf := by rw [hwf]; exact (Bt.store (Bt.other (Bt.other Q.out (by omega)) (by omega)) (0) (0)).up (Below.refl _ _).drew
    have HF := Lib.hid hbf
    have HQ9 := Lib.hid hq
    have HR9 := Lib.hid hr
    have HWF := Lib.hid hwf
    clear hbf hq hr hwf
    obtain ⟨r0, r1, r2, r3⟩ := R.out
    obtain ⟨s0, s1, s2, s3⟩ := Q.out
    refine wp_region_M [] (fun w' => w'.cell? ⟨w.heap.size + 1, 0, none⟩ = some (.int .i64 0) ∧ w'.cell? ⟨w.heap.size + 1, 1, none⟩ = some (.int .i64 0) ∧ w'.cell? ⟨w.heap.size + 1 + 1, 0, none⟩ = some (.int .i64 0) ∧ w'.cell? ⟨w.heap.size + 1 + 1, 1, none⟩ = some (.int .i64 0)) (by kernel_rfl) (by kernel_rfl) (by (try dsimp only); (repeat' apply And.intro); all_goals first | assumption | (go_simp; done)) (fun hT0 => ?_)
    refine M_take (v := ?_) 0 rfl (by kernel_rfl) (by assumption) (fun _ _ _ h => h) (Or.inl ⟨by rfl, ?_⟩) ?_
    rotate_left
    · (intro w hSw; (try dsimp only at hSw); go_simp; (try with_reducible rfl))
    (try simp only [Act.put, List.setIfInBounds_toArray, List.set_cons_zero, List.set_cons_succ])
    refine M_take (v := ?_) 1 rfl (by kernel_rfl) (by assumption) (fun _ _ _ h => h) (Or.inl ⟨by rfl, ?_⟩) ?_
    rotate_left
    · (intro w hSw; (try dsimp only at hSw); go_simp; (try with_reducible rfl))
    (try simp only [Act.put, List.setIfInBounds_toArray, List.set_cons_zero, List.set_cons_succ])
    refine M_take (v := ?_) 2 rfl (by kernel_rfl) (by assumption) (fun _ _ _ h => h) (Or.inl ⟨by rfl, ?_⟩) ?_
    rotate_left
    · (intro w hSw; (try dsimp only at hSw); go_simp; (try with_reducible rfl))
    (try simp only [Act.put, List.setIfInBounds_toArray, List.set_cons_zero, List.set_cons_succ])
    refine M_step 3 rfl (by kernel_rfl) (fun K hK => ?_)
    go_simp
    have Ra : Bt (w.heap.size + 1) 0 0 ((w2.setCell ⟨w.heap.size + 1, 0, none⟩ (.int .i64 0)).setCell ⟨w.heap.size + 1, 1, none⟩ (.int .i64 0)) := R.out.store 0 0
    have Qa : Bt (w.heap.size + 1 + 1) 0 0 ((w2.setCell ⟨w.heap.size + 1, 0, none⟩ (.int .i64 0)).setCell ⟨w.heap.size + 1, 1, none⟩ (.int .i64 0)) := Bt.other (Bt.other Q.out (by omega)) (by omega)
    have hTa : (fun w' => w'.cell? ⟨w.heap.size + 1, 0, none⟩ = some (.int .i64 0) ∧ w'.cell? ⟨w.heap.size + 1, 1, none⟩ = some (.int .i64 0) ∧ w'.cell? ⟨w.heap.size + 1 + 1, 0, none⟩ = some (.int .i64 0) ∧ w'.cell? ⟨w.heap.size + 1 + 1, 1, none⟩ = some (.int .i64 0)) (((w2.setCell ⟨w.heap.size + 1, 0, none⟩ (.int .i64 0)).setCell ⟨w.heap.size + 1, 1, none⟩ (.int .i64 0))).drew := ⟨(Ra.up (Below.refl _ _).drew).c0, (Ra.up (Below.refl _ _).drew).c1, (Qa.up (Below.refl _ _).drew).c0, (Qa.up (Below.refl _ _).drew).c1⟩
    refine hK.out _ _ (fun _ => hTa) ?_
    clear hK K
    (try simp only [Act.put, List.setIfInBounds_toArray, List.set_cons_zero, List.set_cons_succ])
    refine M_step 4 rfl (by kernel_rfl) (fun K hK => ?_)
    go_simp
    have Qb : Bt (w.heap.size + 1 + 1) 0 0 ((((w2.setCell ⟨w.heap.size + 1, 0, none⟩ (.int .i64 0)).setCell ⟨w.heap.size + 1, 1, none⟩ (.int .i64 0)).setCell ⟨w.heap.size + 1 + 1, 0, none⟩ (.int .i64 0)).setCell ⟨w.heap.size + 1 + 1, 1, none⟩ (.int .i64 0)) := Qa.store 0 0
    have Rb : Bt (w.heap.size + 1) 0 0 ((((w2.setCell ⟨w.heap.size + 1, 0, none⟩ (.int .i64 0)).setCell ⟨w.heap.size + 1, 1, none⟩ (.int .i64 0)).setCell ⟨w.heap.size + 1 + 1, 0, none⟩ (.int .i64 0)).setCell ⟨w.heap.size + 1 + 1, 1, none⟩ (.int .i64 0)) := Bt.other (Bt.other Ra (by omega)) (by omega)
    have hTb : (fun w' => w'.cell? ⟨w.heap.size + 1, 0, none⟩ = some (.int .i64 0) ∧ w'.cell? ⟨w.heap.size + 1, 1, none⟩ = some (.int .i64 0) ∧ w'.cell? ⟨w.heap.size + 1 + 1, 0, none⟩ = some (.int .i64 0) ∧ w'.cell? ⟨w.heap.size + 1 + 1, 1, none⟩ = some (.int .i64 0)) (((((w2.setCell ⟨w.heap.size + 1, 0, none⟩ (.int .i64 0)).setCell ⟨w.heap.size + 1, 1, none⟩ (.int .i64 0)).setCell ⟨w.heap.size + 1 + 1, 0, none⟩ (.int .i64 0)).setCell ⟨w.heap.size + 1 + 1, 1, none⟩ (.int .i64 0))).drew := ⟨(Rb.up (Below.refl _ _).drew).c0, (Rb.up (Below.refl _ _).drew).c1, (Qb.up (Below.refl _ _).drew).c0, (Qb.up (Below.refl _ _).drew).c1⟩
    refine hK.out _ _ (fun _ => hTb) ?_
    clear hK K
    (try simp only [Act.put, List.setIfInBounds_toArray, List.set_cons_zero, List.set_cons_succ])
    refine M_step 5 rfl (by kernel_rfl) (fun K hK => ?_)
    go_simp
    refine hK.out _ _ (fun _ => hTb) ?_
    clear hK K
    (try simp only [Act.put, List.setIfInBounds_toArray, List.set_cons_zero, List.set_cons_succ])
    refine M_done (by kernel_rfl) ?_ _
    clear hT0
    go_wp2_with fail
    rw [← HWF.out]
    obtain ⟨q0, q1, _, _⟩ := HQ9.out
    obtain ⟨p5, p6, _, _⟩ := HR9.out
    exact bodyPost_ret (v := .tuple #[Sp (0, 0), Sp (0, 0), .int .i64 (E)]) (by simp [results, Try.results53, go_sem, q0, q1, p5, p6]) rfl ⟨(by first | rfl | rw [if_neg HNE.out, if_neg HNE.out]), HF.out⟩
set_option maxRecDepth 100000 in
set_option maxHeartbeats 4000000 in
theorem SameSpans_yes (n : Nat) (A B : Option Addr) (c d : Nat) (S : Nat → Int × Int) (w : World) (h1 : SpsIn A n S w.heap.size w) (h2 : SpsIn B n S w.heap.size w) :
    Calls Try.prog 54 #[.slice A n c, .slice B n d] w fun e w' => e = .returned (.bool true) ∧ Below w.heap.size w w' := by
  have H1 : Hid (∀ W, Below w.heap.size w W → SpsIn A n S W.heap.size W) := Lib.hid fun W h => (h1.up h (Nat.le_refl _)).more h.size
  have H2 : Hid (∀ W, Below w.heap.size w W → SpsIn B n S W.heap.size W) := Lib.hid fun W h => (h2.up h (Nat.le_refl _)).more h.size
  have hn := h1.1
  have b1 : ((n : Int) != (n : Int)) = false := by simp
  clear h1 h2
  go_enter Try.func54, Try.ntmps54
  go_wp2_with fail
  go_loopw [5] (fun v wr => ∃ k : Nat, k ≤ n ∧ v = .int .i64 k ∧ Below w.heap.size w wr) (fun v _ => n - (intOf v).toNat)
  case atStart => exact ⟨0, Nat.zero_le _, rfl, Below.refl _ _⟩
  case round =>
    obtain ⟨k, hk, rfl, hb⟩ := hrel
    obtain ⟨wo, rfl⟩ : ∃ wo : World, wo = wr := ⟨_, rfl⟩
    have D := Lib.hid hb
    clear hb
    have hk0 : (0 : Int) ≤ (k : Int) := by omega
    by_cases hlt : k < n
    · have hki : (k : Int) < (n : Int) := by omega
      obtain ⟨a, ea, _, s0, s1⟩ := (H1.out wo D.out).2 k hlt
      obtain ⟨a2, ea2, _, t0, t1⟩ := (H2.out wo D.out).2 k hlt
      obtain ⟨⟨p, q⟩, hpq⟩ : ∃ g, g = S k := ⟨_, rfl⟩
      rw [← hpq] at s0 s1 t0 t1
      simp only at s0 s1 t0 t1
      have wk : IntKind.i64.wrap ((k : Int) + 1) = ((k + 1 : Nat) : Int) := by rw [show ((k : Int) + 1) = ((k + 1 : Nat) : Int) by omega]; exact IntWalk.i64_in _ (by omega)
      have WK := Lib.hid wk
      clear wk hpq
      subst ea ea2
      go_wp2_with fail
      refine wp_region_M [] (fun w' => w'.cell? (a.add (k * 2)) = some (.int .i64 p) ∧ w'.cell? ⟨(a.add (k * 2)).block, (a.add (k * 2)).off + 1, none⟩ = some (.int .i64 q) ∧ w'.cell? (a2.add (k * 2)) = some (.int .i64 p) ∧ w'.cell? ⟨(a2.add (k * 2)).block, (a2.add (k * 2)).off + 1, none⟩ = some (.int .i64 q)) (by kernel_rfl) (by kernel_rfl) (by (try dsimp only); (repeat' apply And.intro); all_goals first | assumption | (go_simp; done)) (fun hT0 => ?_)
      refine M_take (v := ?_) 0 rfl (by kernel_rfl) (by assumption) (fun _ _ _ h => h) (Or.inl ⟨by rfl, ?_⟩) ?_
      rotate_left
      · (intro w hSw; (try dsimp only at hSw); go_simp; (try with_reducible rfl))
      (try simp only [Act.put, List.setIfInBounds_toArray, List.set_cons_zero, List.set_cons_succ])
      refine M_take (v := ?_) 1 rfl (by kernel_rfl) (by assumption) (fun _ _ _ h => h) (Or.inl ⟨by rfl, ?_⟩) ?_
      rotate_left
      · (intro w hSw; (try dsimp only at hSw); go_simp; (try with_reducible rfl))
      (try simp only [Act.put, List.setIfInBounds_toArray, List.set_cons_zero, List.set_cons_succ])
      refine M_take (v := ?_) 2 rfl (by kernel_rfl) (by assumption) (fun _ _ _ h => h) (Or.inl ⟨by rfl, ?_⟩) ?_
      rotate_left
      · (intro w hSw; (try dsimp only at hSw); go_simp; (try with_reducible rfl))
      (try simp only [Act.put, List.setIfInBounds_toArray, List.set_cons_zero, List.set_cons_succ])
      refine M_take (v := ?_) 3 rfl (by kernel_rfl) (by assumption) (fun _ _ _ h => h) (Or.inl ⟨by rfl, ?_⟩) ?_
      rotate_left
      · (intro w hSw; (try dsimp only at hSw); go_simp; (try with_reducible rfl))
      (try simp only [Act.put, List.setIfInBounds_toArray, List.set_cons_zero, List.set_cons_succ])
      refine M_take (v := ?_) 4 rfl (by kernel_rfl) (by assumption) (fun _ _ _ h => h) (Or.inl ⟨by rfl, ?_⟩) ?_
      rotate_left
      · (intro w hSw; (try dsimp only at hSw); go_simp; (try with_reducible rfl))
      (try simp only [Act.put, List.setIfInBounds_toArray, List.set_cons_zero, List.set_cons_succ])
      refine M_take (v := ?_) 5 rfl (by kernel_rfl) (by assumption) (fun _ _ _ h => h) (Or.inl ⟨by rfl, ?_⟩) ?_
      rotate_left
      · (intro w hSw; (try dsimp only at hSw); go_simp; (try with_reducible rfl))
      (try simp only [Act.put, List.setIfInBounds_toArray, List.set_cons_zero, List.set_cons_succ])
      refine M_take (v := ?_) 6 rfl (by kernel_rfl) (by assumption) (fun _ _ _ h => h) (Or.inl ⟨by rfl, ?_⟩) ?_
      rotate_left
      · (intro w hSw; (try dsimp only at hSw); go_simp; (try with_reducible rfl))
      (try simp only [Act.put, List.setIfInBounds_toArray, List.set_cons_zero, List.set_cons_succ])
      refine M_take (v := ?_) 7 rfl (by kernel_rfl) (by assumption) (fun _ _ _ h => h) (Or.inl ⟨by rfl, ?_⟩) ?_
      rotate_left
      · (intro w hSw; (try dsimp only at hSw); go_simp; (try with_reducible rfl))
      (try simp only [Act.put, List.setIfInBounds_toArray, List.set_cons_zero, List.set_cons_succ])
      refine M_take (v := ?_) 8 rfl (by kernel_rfl) (by assumption) (fun _ _ _ h => h) (Or.inl ⟨by rfl, ?_⟩) ?_
      rotate_left
      · (intro w hSw; (try dsimp only at hSw); go_simp; (try with_reducible rfl))
      (try simp only [Act.put, List.setIfInBounds_toArray, List.set_cons_zero, List.set_cons_succ])
      refine M_done (by kernel_rfl) ?_ _
      clear hT0 s0 s1 t0 t1
      have wk := WK.out
      go_wp2_with fail
      go_roundw
      case rel => exact ⟨k + 1, by omega, by first | rfl | go_num, D.out.drew⟩
      case measure => (simp [intOf] <;> omega)
    · obtain rfl : k = n := by omega
      have hki : ¬ ((k : Int) < (k : Int)) := by omega
      go_wp2_with fail
      go_ret
      exact ⟨rfl, D.out⟩
end Go.Proofs.Ytpikaohodieeaaa
