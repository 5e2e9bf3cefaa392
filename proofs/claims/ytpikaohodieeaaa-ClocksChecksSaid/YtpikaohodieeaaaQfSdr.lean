/- The specification's Agree; SameDrum. -/
import Derived.Test.YtpikaohodieeaaaQfRdr
import Derived.Test.YtpikaohodieeaaaQfWin
namespace Go.Proofs.Ytpikaohodieeaaa
open Go.RowKit
set_option linter.unusedSimpArgs false
set_option linter.unusedVariables false
attribute [local go_sem] Oper.semAt_some
set_option maxRecDepth 100000 in
set_option maxHeartbeats 4000000 in
theorem RAgree_any (d : Drm) (x y : Int × Int × Int) (R : Bool) (E : Int) (w : World) (hin : DrIn d w.heap.size w) (hE : FeR d 2 (pair3 x y) R E) :
    Calls Try.prog 28 #[d.v, Mk x, Mk y] w fun e w' => e = .returned (.tuple #[.bool R, .int .i64 E]) ∧ Below w.heap.size w w' := by
  obtain ⟨x0, x1, x2⟩ := x
  obtain ⟨y0, y1, y2⟩ := y
  obtain ⟨w1, hw1⟩ : ∃ w1 : World, w1 = ((w.alloc (drO d)).alloc (.cells #[.int .i64 x0, .int .i64 x1, .int .i64 x2] 33)).alloc (.cells #[.int .i64 y0, .int .i64 y1, .int .i64 y2] 33) := ⟨_, rfl⟩
  have B1 : Below w.heap.size w w1 := by rw [hw1]; exact (((Below.refl _ _).alloc (Nat.le_refl _) _).alloc (by simp only [World.size_alloc]; omega) _).alloc (by simp only [World.size_alloc]; omega) _
  have P1 : HasDr d w.heap.size w1 := by rw [hw1]; exact ((dr_new w d).up (box1 _ _)).up (box1 _ _)
  have HB := Lib.hid B1
  have HIN := Lib.hid hin
  have u0 : w1.cell? ⟨w.heap.size + 1, 0, none⟩ = some (.int .i64 x0) := by rw [hw1]; go_simp
  have u1 : w1.cell? ⟨w.heap.size + 1, 1, none⟩ = some (.int .i64 x1) := by rw [hw1]; go_simp
  have u2 : w1.cell? ⟨w.heap.size + 1, 2, none⟩ = some (.int .i64 x2) := by rw [hw1]; go_simp
  have u3 : w1.cell? ⟨w.heap.size + 1 + 1, 0, none⟩ = some (.int .i64 y0) := by rw [hw1]; go_simp
  have u4 : w1.cell? ⟨w.heap.size + 1 + 1, 1, none⟩ = some (.int .i64 y1) := by rw [hw1]; go_simp
  have u5 : w1.cell? ⟨w.heap.size + 1 + 1, 2, none⟩ = some (.int .i64 y2) := by rw [hw1]; go_simp
  obtain ⟨v0, v1⟩ := P1
  have HW1 := Lib.hid hw1
  clear hw1
  obtain ⟨w2, hw2⟩ : ∃ w2 : World, w2 = w1.alloc (.cells #[.int .i64 x0, .int .i64 x1, .int .i64 x2, .int .i64 y0, .int .i64 y1, .int .i64 y2] 33) := ⟨_, rfl⟩
  have B2 : Below w.heap.size w w2 := nextB B1 (by rw [hw2]; exact box1 _ _)
  have z0 : w2.cell? ⟨w1.heap.size, 0, none⟩ = some (.int .i64 x0) := by rw [hw2]; go_simp
  have z1 : w2.cell? ⟨w1.heap.size, 1, none⟩ = some (.int .i64 x1) := by rw [hw2]; go_simp
  have z2 : w2.cell? ⟨w1.heap.size, 2, none⟩ = some (.int .i64 x2) := by rw [hw2]; go_simp
  have z3 : w2.cell? ⟨w1.heap.size, 3, none⟩ = some (.int .i64 y0) := by rw [hw2]; go_simp
  have z4 : w2.cell? ⟨w1.heap.size, 4, none⟩ = some (.int .i64 y1) := by rw [hw2]; go_simp
  have z5 : w2.cell? ⟨w1.heap.size, 5, none⟩ = some (.int .i64 y2) := by rw [hw2]; go_simp
  have zl : w1.heap.size < w2.heap.size := World.block_lt_of_cell? _ _ z0
  have htr : TrsIn (some ⟨w1.heap.size, 0, none⟩) 2 (pair3 (x0, x1, x2) (y0, y1, y2)) w2.heap.size w2 := ⟨by omega, fun k hk => by
    by_cases hk0 : k = 0
    · subst hk0
      exact ⟨⟨w1.heap.size, 0, none⟩, rfl, zl, z0, z1, z2⟩
    · obtain rfl : k = 1 := by omega
      exact ⟨⟨w1.heap.size, 0, none⟩, rfl, zl, z3, z4, z5⟩⟩
  have K := Lib.hid (RFeasible_any d (some ⟨w1.heap.size, 0, none⟩) 2 2 (pair3 (x0, x1, x2) (y0, y1, y2)) R E w2 ((hin.up B2 (Nat.le_refl _)).more B2.size) htr hE)
  have HB2 := Lib.hid B2
  have HW2 := Lib.hid hw2
  clear hw2 hin B1 B2 z0 z1 z2 z3 z4 z5 zl htr
  go_enter Try.func28, Try.ntmps28
  go_upto_region 1 with fail
  rw [← HW1.out]
  go_wp2_with fail
  simp only [← HW2.out]
  refine K.out.mono ?_
  rintro e w3 ⟨rfl, hb3⟩
  have D3 := Lib.hid (nextB HB2.out hb3)
  clear hb3
  go_wp2_with fail
  go_ret2
  exact ⟨rfl, D3.out⟩
set_option maxRecDepth 100000 in
set_option maxHeartbeats 4000000 in
theorem SameDrum_yes (n m : Nat) (A1 A2 S1 S2 : Option Addr) (rc rc2 sc sc2 : Nat) (G : Nat → Int × Int) (F : Nat → Int × Int × Int) (w : World) (h1 : SpsIn A1 n G w.heap.size w) (h2 : SpsIn A2 n G w.heap.size w) (g1 : TrsIn S1 m F w.heap.size w) (g2 : TrsIn S2 m F w.heap.size w) :
    Calls Try.prog 31 #[.agg #[.slice A1 n rc, .slice S1 m sc], .agg #[.slice A2 n rc2, .slice S2 m sc2]] w fun e w' => e = .returned (.bool true) ∧ Below w.heap.size w w' := by
  have H1 : Hid (∀ W, Below w.heap.size w W → SpsIn A1 n G W.heap.size W) := Lib.hid fun W h => (h1.up h (Nat.le_refl _)).more h.size
  have H2 : Hid (∀ W, Below w.heap.size w W → SpsIn A2 n G W.heap.size W) := Lib.hid fun W h => (h2.up h (Nat.le_refl _)).more h.size
  have H3 : Hid (∀ W, Below w.heap.size w W → TrsIn S1 m F W.heap.size W) := Lib.hid fun W h => (g1.up h (Nat.le_refl _)).more h.size
  have H4 : Hid (∀ W, Below w.heap.size w W → TrsIn S2 m F W.heap.size W) := Lib.hid fun W h => (g2.up h (Nat.le_refl _)).more h.size
  have hm := g1.1
  have b1 : ((m : Int) != (m : Int)) = false := by simp
  obtain ⟨w1, hw1⟩ : ∃ w1 : World, w1 = (w.alloc (.cells #[.slice A1 n rc, .slice S1 m sc] 25)).alloc (.cells #[.slice A2 n rc2, .slice S2 m sc2] 25) := ⟨_, rfl⟩
  have D1 : Below w.heap.size w w1 := by rw [hw1]; exact box2 _ _ _
  have U1 : Bv w.heap.size (.slice A1 n rc) (.slice S1 m sc) w1 := by rw [hw1]; exact (Bv.new _ _ _ _).up (box1 _ _)
  have V1 : Bv (w.heap.size + 1) (.slice A2 n rc2) (.slice S2 m sc2) w1 := by
    rw [hw1]
    have h := Bv.new (w.alloc (.cells #[.slice A1 n rc, .slice S1 m sc] 25)) 25 (.slice A2 n rc2) (.slice S2 m sc2)
    rw [World.size_alloc] at h
    exact h
  have D := Lib.hid D1
  have U := Lib.hid U1
  have V := Lib.hid V1
  have HW := Lib.hid hw1
  clear h1 h2 g1 g2 D1 U1 V1 hw1
  obtain ⟨u0, u1, _, _⟩ := U.out
  obtain ⟨v0, v1, _, _⟩ := V.out
  go_enter Try.func31, Try.ntmps31
  go_wp2_with fail
  rw [← HW.out]
  refine (SameSpans_yes n A1 A2 rc rc2 G w1 (H1.out _ D.out) (H2.out _ D.out)).mono ?_
  rintro e w2 ⟨rfl, hb2⟩
  have D := Lib.hid (nextB D.out hb2)
  have U := Lib.hid (U.out.up hb2)
  have V := Lib.hid (V.out.up hb2)
  clear hb2 u0 u1 v0 v1
  obtain ⟨u0, u1, _, _⟩ := U.out
  obtain ⟨v0, v1, _, _⟩ := V.out
  go_wp2_with fail
  clear u0 u1 v0 v1
  go_loopw [5] (fun v wr => ∃ k : Nat, k ≤ m ∧ v = .int .i64 k ∧ Below w2.heap.size w2 wr) (fun v _ => m - (intOf v).toNat)
  case atStart => exact ⟨0, Nat.zero_le _, rfl, Below.refl _ _⟩
  case round =>
    obtain ⟨k, hk, rfl, hb⟩ := hrel
    obtain ⟨wo, rfl⟩ : ∃ wo : World, wo = wr := ⟨_, rfl⟩
    have B := Lib.hid hb
    have D := Lib.hid (nextB D.out hb)
    obtain ⟨_, u1, _, _⟩ := U.out.up hb
    obtain ⟨_, v1, _, _⟩ := V.out.up hb
    clear hb
    have hk0 : (0 : Int) ≤ (k : Int) := by omega
    by_cases hlt : k < m
    · have hki : (k : Int) < (m : Int) := by omega
      obtain ⟨a, ea, _, s0, s1, s2⟩ := (H3.out wo D.out).2 k hlt
      obtain ⟨a2, ea2, _, t0, t1, t2⟩ := (H4.out wo D.out).2 k hlt
      obtain ⟨⟨p0, p1, p2⟩, hpq⟩ : ∃ g, g = F k := ⟨_, rfl⟩
      rw [← hpq] at s0 s1 s2 t0 t1 t2
      simp only at s0 s1 s2 t0 t1 t2
      have wk : IntKind.i64.wrap ((k : Int) + 1) = ((k + 1 : Nat) : Int) := by rw [show ((k : Int) + 1) = ((k + 1 : Nat) : Int) by omega]; exact IntWalk.i64_in _ (by omega)
      have WK := Lib.hid wk
      clear wk hpq
      subst ea ea2
      go_wp2_with fail
      refine wp_region_M [] (fun w' => w'.cell? ⟨w.heap.size, 1, none⟩ = some (.slice (some a) m sc) ∧ w'.cell? ⟨w.heap.size + 1, 1, none⟩ = some (.slice (some a2) m sc2) ∧ w'.cell? (a.add (k * 3)) = some (.int .i64 p0) ∧ w'.cell? ⟨(a.add (k * 3)).block, (a.add (k * 3)).off + 1, none⟩ = some (.int .i64 p1) ∧ w'.cell? ⟨(a.add (k * 3)).block, (a.add (k * 3)).off + 2, none⟩ = some (.int .i64 p2) ∧ w'.cell? (a2.add (k * 3)) = some (.int .i64 p0) ∧ w'.cell? ⟨(a2.add (k * 3)).block, (a2.add (k * 3)).off + 1, none⟩ = some (.int .i64 p1) ∧ w'.cell? ⟨(a2.add (k * 3)).block, (a2.add (k * 3)).off + 2, none⟩ = some (.int .i64 p2)) (by kernel_rfl) (by kernel_rfl) (by (try dsimp only); (repeat' apply And.intro); all_goals first | assumption | (go_simp; done)) (fun hT0 => ?_)
      refine M_take (v := ?_) 0 rfl (by kernel_rfl) (by assumption) (fun _ _ _ h => h) (Or.inl ⟨by rfl, ?_⟩) ?_
      rotate_left
      · (intro w hSw; (try dsimp only at hSw); go_simp; (try with_reducible rfl))
      (try simp only [Act.put, List.setIfInBounds_toArray, List.set_cons_zero, List.set_cons_succ])
      refine M_take (v := ?_) 1 rfl (by kernel_rfl) (by assumption) (fun _ _ _ h => h) (Or.inl ⟨by rfl, ?_⟩) ?_
      rotate_left
      · (intro w hSw; (try dsimp only at hSw); go_simp; (try with_reducible rfl))
      (try simp only [Act.put, List.setIfInBounds_toArray, List.set_cons_zero, List.set_cons_succ])
      refine M_take (v := ?_) 2 rfl (by kernel_rfl) (by assumption) (fun _ _ _ h => h) (Or.inl ⟨by rfl, ?_⟩) ?_
      rotate_left
      · (intro w hSw; (try dsimp only at hSw); go_simp; (try with_reducible rfl))
      (try simp only [Act.put, List.setIfInBounds_toArray, List.set_cons_zero, List.set_cons_succ])
      refine M_take (v := ?_) 3 rfl (by kernel_rfl) (by assumption) (fun _ _ _ h => h) (Or.inl ⟨by rfl, ?_⟩) ?_
      rotate_left
      · (intro w hSw; (try dsimp only at hSw); go_simp; (try with_reducible rfl))
      (try simp only [Act.put, List.setIfInBounds_toArray, List.set_cons_zero, List.set_cons_succ])
      refine M_take (v := ?_) 4 rfl (by kernel_rfl) (by assumption) (fun _ _ _ h => h) (Or.inl ⟨by rfl, ?_⟩) ?_
      rotate_left
      · (intro w hSw; (try dsimp only at hSw); go_simp; (try with_reducible rfl))
      (try simp only [Act.put, List.setIfInBounds_toArray, List.set_cons_zero, List.set_cons_succ])
      refine M_take (v := ?_) 5 rfl (by kernel_rfl) (by assumption) (fun _ _ _ h => h) (Or.inl ⟨by rfl, ?_⟩) ?_
      rotate_left
      · (intro w hSw; (try dsimp only at hSw); go_simp; (try with_reducible rfl))
      (try simp only [Act.put, List.setIfInBounds_toArray, List.set_cons_zero, List.set_cons_succ])
      refine M_take (v := ?_) 6 rfl (by kernel_rfl) (by assumption) (fun _ _ _ h => h) (Or.inl ⟨by rfl, ?_⟩) ?_
      rotate_left
      · (intro w hSw; (try dsimp only at hSw); go_simp; (try with_reducible rfl))
      (try simp only [Act.put, List.setIfInBounds_toArray, List.set_cons_zero, List.set_cons_succ])
      refine M_take (v := ?_) 7 rfl (by kernel_rfl) (by assumption) (fun _ _ _ h => h) (Or.inl ⟨by rfl, ?_⟩) ?_
      rotate_left
      · (intro w hSw; (try dsimp only at hSw); go_simp; (try with_reducible rfl))
      (try simp only [Act.put, List.setIfInBounds_toArray, List.set_cons_zero, List.set_cons_succ])
      refine M_take (v := ?_) 8 rfl (by kernel_rfl) (by assumption) (fun _ _ _ h => h) (Or.inl ⟨by rfl, ?_⟩) ?_
      rotate_left
      · (intro w hSw; (try dsimp only at hSw); go_simp; (try with_reducible rfl))
      (try simp only [Act.put, List.setIfInBounds_toArray, List.set_cons_zero, List.set_cons_succ])
      refine M_take (v := ?_) 9 rfl (by kernel_rfl) (by assumption) (fun _ _ _ h => h) (Or.inl ⟨by rfl, ?_⟩) ?_
      rotate_left
      · (intro w hSw; (try dsimp only at hSw); go_simp; (try with_reducible rfl))
      (try simp only [Act.put, List.setIfInBounds_toArray, List.set_cons_zero, List.set_cons_succ])
      refine M_take (v := ?_) 10 rfl (by kernel_rfl) (by assumption) (fun _ _ _ h => h) (Or.inl ⟨by rfl, ?_⟩) ?_
      rotate_left
      · (intro w hSw; (try dsimp only at hSw); go_simp; (try with_reducible rfl))
      (try simp only [Act.put, List.setIfInBounds_toArray, List.set_cons_zero, List.set_cons_succ])
      refine M_done (by kernel_rfl) ?_ _
      clear hT0 s0 s1 s2 t0 t1 t2 u1 v1
      have wk := WK.out
      go_wp2_with fail
      go_roundw
      case rel => exact ⟨k + 1, by omega, by first | rfl | go_num, B.out.drew⟩
      case measure => (simp [intOf] <;> omega)
    · obtain rfl : k = m := by omega
      have hki : ¬ ((k : Int) < (k : Int)) := by omega
      go_wp2_with fail
      go_ret
      exact ⟨rfl, D.out⟩
end Go.Proofs.Ytpikaohodieeaaa
