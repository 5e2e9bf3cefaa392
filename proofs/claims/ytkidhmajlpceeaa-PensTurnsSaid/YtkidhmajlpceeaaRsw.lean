/- The specification's swing. -/
import Derived.Test.YtkidhmajlpceeaaRf2
namespace Go.Proofs.Ytkidhmajlpceeaa
open Go.RowKit
theorem Bt.other {b g : Nat} {x y : Int} {w : World} (h : Bt b x y w) (hne : b ≠ g) (u v : Value) : Bt b x y ((w.setCell ⟨g, 0, none⟩ u).setCell ⟨g, 1, none⟩ v) := by
  have hb := Below.refl (b + 1) w
  obtain ⟨h0, h1, h2, h3⟩ := h
  have n1 : ¬ b = g := hne
  have n2 : ¬ g = b := fun e => hne e.symm
  exact ⟨by go_simp, by go_simp, by go_simp, by go_simp⟩
theorem sw_last (Z : Nat → Int) (k : Nat) : swL Z k = min (swL Z (k - 1)) (Z k) ∧ swH Z k = max (swH Z (k - 1)) (Z k) := by
  cases k with
  | zero => exact ⟨(Int.min_self _).symm, (Int.max_self _).symm⟩
  | succ k => exact ⟨rfl, rfl⟩
set_option maxRecDepth 100000 in
set_option maxHeartbeats 2000000 in
theorem Rswing_any (A : Option Addr) (n c : Nat) (Z : Nat → Int) (w : World) (hin : IntsIn A n Z w.heap.size w) (h0 : 0 < n) :
    Calls Try.prog 90 #[.slice A n c] w fun e w' => e = .returned (.agg #[.int .i64 (swL Z (n - 1)), .int .i64 (swH Z (n - 1))]) ∧ Below w.heap.size w w' := by
  have HIN := Lib.hid hin
  have hn := hin.1
  have hb0 := box1 w (.cells #[.int .i64 0, .int .i64 0] 23)
  have B0 := Bt.new w 23 0 0
  obtain ⟨a, rfl, ab, c0⟩ := hin.2 0 h0
  have d0 : (w.alloc (.cells #[.int .i64 0, .int .i64 0] 23)).cell? a = some (.int .i64 (Z 0)) := by
    have h1 := (hb0.cell (p := a.add 0) ab).trans c0
    simpa [Addr.add] using h1
  have nn1 : 0 < n := h0
  have nn2 : (0 : Int) < (n : Int) := by omega
  clear hin c0 ab
  obtain ⟨w1, hw1⟩ : ∃ w1, w1 = w.alloc (.cells #[.int .i64 0, .int .i64 0] 23) := ⟨_, rfl⟩
  have hs1 : w1.heap.size = w.heap.size + 1 := by rw [hw1]; simp
  rw [← hw1] at hb0 B0 d0
  have HB0 := Lib.hid hb0
  have P0 := Lib.hid B0
  have HS1 := Lib.hid hs1
  have HW1 := Lib.hid hw1
  have d1 : (w1.alloc (.cells #[.int .i64 0, .int .i64 0] 23)).cell? a = some (.int .i64 (Z 0)) := ((box1 w1 _).cell (p := a) (World.block_lt_of_cell? _ _ d0)).trans d0
  have az := World.block_lt_of_cell? _ _ d0
  clear hb0 B0 hs1 hw1
  go_enter Try.func90, Try.ntmps90
  go_wp2_with fail
  rw [← HW1.out]
  go_region
  obtain ⟨w2, hw2⟩ : ∃ w2, w2 = (w1.alloc (.cells #[.int .i64 (Z 0), .int .i64 (Z 0)] 23)).drew := ⟨_, rfl⟩
  have hb2 : Below w1.heap.size w1 w2 := by rw [hw2]; exact (box1 _ _).drew
  have hP2 : Bt w1.heap.size (Z 0) (Z 0) w2 := by rw [hw2]; exact (Bt.new w1 _ _ _).up (Below.refl _ _).drew
  rw [← hw2]
  have HB2 := Lib.hid hb2
  have P2 := Lib.hid hP2
  have R2 := Lib.hid (P0.out.up hb2)
  have C2 := Lib.hid (nextB HB0.out hb2)
  clear hw2 hb2 hP2 d0 d1
  go_wp2_with fail
  go_loopw [4] (fun i wr => ∃ k : Nat, k ≤ n ∧ i = .int .i64 (k : Int) ∧ Bt w1.heap.size (swL Z (k - 1)) (swH Z (k - 1)) wr ∧ Bt w.heap.size 0 0 wr ∧ Below w.heap.size w wr) (fun i _ => n - (intOf i).toNat)
  case atStart => exact ⟨0, Nat.zero_le _, rfl, P2.out, R2.out, C2.out⟩
  case round =>
    obtain ⟨k, hk, rfl, hP, hR, hb⟩ := hrel
    obtain ⟨wo, rfl⟩ : ∃ wo : World, wo = wr := ⟨_, rfl⟩
    have P3 := Lib.hid hP
    have R3 := Lib.hid hR
    have C3 := Lib.hid hb
    have hk0 : (0 : Int) ≤ (k : Int) := by omega
    have zp := hP.lt
    have zr := hR.lt
    have hs1 : w.heap.size < w1.heap.size := by have := HS1.out; omega
    clear hP hR hb
    obtain ⟨x0, x1, x2, x3⟩ := P3.out
    by_cases hlt : k < n
    · have hki : (k : Int) < (n : Int) := by omega
      obtain ⟨a', e1, _, c1⟩ := (HIN.out.up C3.out (Nat.le_refl _)).2 k hlt
      cases e1
      have az1 := World.block_lt_of_cell? _ _ c1
      have hw4 : IntKind.i64.wrap ((k : Int) + 1) = ((k + 1 : Nat) : Int) := by rw [show (k : Int) + 1 = ((k + 1 : Nat) : Int) by omega]; exact IntWalk.i64_in _ (by omega)
      have HS := Lib.hid (sw_last Z k)
      generalize swL Z (k - 1) = L at *
      generalize swH Z (k - 1) = H at *
      generalize Z k = zk at *
      go_wp2_with fail
      refine wp_quiet_tail 15 (by kernel_rfl) (by kernel_rfl) ?_
      simp only [List.take_succ_cons, List.take_zero, List.drop_succ_cons, List.drop_zero]
      repeat (go_big_quiet_step (fail))
      refine wpQuiet_nil ?_
      go_wp2_with fail
      have hP4 : Bt w1.heap.size (min L zk) (max H zk) ((wo.setCell ⟨w1.heap.size, 0, none⟩ (.int .i64 (min L zk))).setCell ⟨w1.heap.size, 1, none⟩ (.int .i64 (max H zk))).drew := (P3.out.store _ _).up (Below.refl _ _).drew
      have hR4 : Bt w.heap.size 0 0 ((wo.setCell ⟨w1.heap.size, 0, none⟩ (.int .i64 (min L zk))).setCell ⟨w1.heap.size, 1, none⟩ (.int .i64 (max H zk))).drew := (R3.out.other (by omega) _ _).up (Below.refl _ _).drew
      refine ⟨⟨k + 1, by omega, by go_num, by rw [Nat.add_sub_cancel, HS.out.1, HS.out.2]; exact hP4, hR4, (set1 (set1 C3.out (by omega) _ _) (by omega) _ _).drew⟩, ?_⟩
      simp [intOf]; omega
    · have hki : (n : Int) ≤ (k : Int) := by omega
      obtain rfl : k = n := by omega
      obtain ⟨y0, y1, y2, y3⟩ := R3.out
      go_wp2_with fail
      exact bodyPost_ret (v := .agg #[.int .i64 (swL Z (k - 1)), .int .i64 (swH Z (k - 1))]) (by simp [results, Try.results90, go_sem, y0, y1]) rfl ⟨rfl, set1 (set1 C3.out (by omega) _ _) (by omega) _ _⟩
end Go.Proofs.Ytkidhmajlpceeaa
