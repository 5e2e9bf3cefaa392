/- The specification's checks of marks, its gaps. -/
import Derived.Test.YtpikaohodieeaaaRck
import Derived.Test.YtpikaohodieeaaaRmt
namespace Go.Proofs.Ytpikaohodieeaaa
open Go.RowKit
set_option linter.unusedSimpArgs false
set_option linter.unusedVariables false
set_option maxRecDepth 100000 in
set_option maxHeartbeats 2000000 in
theorem Rright_any (d : Drm) (y0 y1 y2 : Int) (G : Bool) (w : World) (hn : (d.n : Int) ≤ 9223372036854775807) (hG : G = true ↔ (0 ≤ y0 ∧ y0 ≤ d.n) ∧ isS (y1, y2) 0 400) :
    Calls Try.prog 77 #[d.v, .agg #[.int .i64 y0, .int .i64 y1, .int .i64 y2]] w fun e w' => e = .returned (.bool G) ∧ Below w.heap.size w w' := by
  have HG := Lib.hid hG
  clear hG
  by_cases q1 : (0 : Int) ≤ y0 ∧ y0 ≤ (d.n : Int)
  · have HQ1 := Lib.hid q1
    by_cases q2 : (0 : Int) ≤ y1 ∧ y1 ≤ y2
    · have HQ2 := Lib.hid q2
      have hg : G = decide (y2 ≤ 400) := Bool.eq_iff_iff.2 (HG.out.trans ⟨fun h => decide_eq_true h.2.2.2, fun h => ⟨q1, q2.1, q2.2, of_decide_eq_true h⟩⟩)
      have HE := Lib.hid hg
      clear q1 q2 hg
      go_enter Try.func77, Try.ntmps77
      go_wp2_with fail
      refine (Rwithin_any (y0) (0) (d.n : Int) true _ (rw_yes (by exact HQ1.out))).mono ?_
      rintro e w2 ⟨rfl, hw2⟩
      subst hw2
      go_wp2_with fail
      refine (Rwithin_any (y1) (0) (y2) true _ (rw_yes (by exact HQ2.out))).mono ?_
      rintro e w2 ⟨rfl, hw2⟩
      subst hw2
      go_wp2_with fail
      go_ret
      exact ⟨by rw [HE.out]; rfl, box2 _ _ _⟩
    · have HQ2 := Lib.hid q2
      have hg : G = false := by cases G with | false => rfl | true => exact absurd ⟨(HG.out.1 rfl).2.1, (HG.out.1 rfl).2.2.1⟩ q2
      subst hg
      clear q1 q2
      go_enter Try.func77, Try.ntmps77
      go_wp2_with fail
      refine (Rwithin_any (y0) (0) (d.n : Int) true _ (rw_yes (by exact HQ1.out))).mono ?_
      rintro e w2 ⟨rfl, hw2⟩
      subst hw2
      go_wp2_with fail
      refine (Rwithin_any (y1) (0) (y2) false _ (rw_no (by exact HQ2.out))).mono ?_
      rintro e w2 ⟨rfl, hw2⟩
      subst hw2
      go_wp2_with fail
      go_ret
      exact ⟨rfl, box2 _ _ _⟩
  · have HQ1 := Lib.hid q1
    have hg : G = false := by cases G with | false => rfl | true => exact absurd (HG.out.1 rfl).1 q1
    subst hg
    clear q1
    go_enter Try.func77, Try.ntmps77
    go_wp2_with fail
    refine (Rwithin_any (y0) (0) (d.n : Int) false _ (rw_no (by exact HQ1.out))).mono ?_
    rintro e w2 ⟨rfl, hw2⟩
    subst hw2
    go_wp2_with fail
    go_ret
    exact ⟨rfl, box2 _ _ _⟩
set_option maxRecDepth 100000 in
set_option maxHeartbeats 4000000 in
theorem RCheckMarks_any (d : Drm) (A : Option Addr) (n c : Nat) (F : Nat → Int × Int × Int) (E x : Int) (w : World) (hin : DrIn d w.heap.size w) (hm : TrsIn A n F w.heap.size w) (hE : CmR d n F E x) :
    Calls Try.prog 22 #[d.v, .slice A n c] w fun e w' => e = .returned (.tuple #[.int .i64 E, .int .i64 x]) ∧ Below w.heap.size w w' := by
  have DD : Hid (∀ W, Below w.heap.size w W → DrIn d W.heap.size W) := Lib.hid fun W h => (hin.up h (Nat.le_refl _)).more h.size
  have MM : Hid (∀ W, Below w.heap.size w W → TrsIn A n F W.heap.size W) := Lib.hid fun W h => (hm.up h (Nat.le_refl _)).more h.size
  have hdn := hin.1.1
  have hn0 := hm.1
  obtain ⟨w1, hw1⟩ : ∃ w1 : World, w1 = w.alloc (drO d) := ⟨_, rfl⟩
  have B1 : Below w.heap.size w w1 := by rw [hw1]; exact box1 _ _
  have P1 : HasDr d w.heap.size w1 := by rw [hw1]; exact dr_new w d
  have D := Lib.hid B1
  have P := Lib.hid P1
  have HW1 := Lib.hid hw1
  obtain ⟨E1, hE1⟩ : ∃ E1 : Int, (E1 = 0 ∧ DrOk d) ∨ (E1 = 20 ∧ ¬ DrOk d) := by
    by_cases h : DrOk d
    · exact ⟨0, .inl ⟨rfl, h⟩⟩
    · exact ⟨20, .inr ⟨rfl, h⟩⟩
  have K1 := Lib.hid (RCheck_any d E1 w1 (DD.out w1 B1) hE1)
  clear hin hm B1 P1 hw1
  obtain ⟨x0, x1⟩ := P.out
  rcases hE with ⟨rfl, rfl, h⟩ | ⟨rfl, rfl, h, hn⟩ | h
  · obtain rfl := drE_bad hE1 h
    clear hE1 h
    go_enter Try.func22, Try.ntmps22
    go_wp2_with fail
    rw [← HW1.out]
    refine K1.out.mono ?_
    rintro e w2 ⟨rfl, hb2⟩
    have D := Lib.hid (nextB D.out hb2)
    clear hb2 x0 x1
    go_wp2_with fail
    go_ret2
    exact ⟨by simp, D.out⟩
  · obtain rfl := drE_ok hE1 h
    have g1 : (64 : Int) < (n : Int) := by omega
    clear hE1 h
    go_enter Try.func22, Try.ntmps22
    go_wp2_with fail
    rw [← HW1.out]
    refine K1.out.mono ?_
    rintro e w2 ⟨rfl, hb2⟩
    have D := Lib.hid (nextB D.out hb2)
    clear hb2 x0 x1
    go_wp2_with fail
    go_ret2
    exact ⟨by simp, D.out⟩
  · obtain ⟨h, hn, j, j1, j2, j3⟩ : DrOk d ∧ n ≤ 64 ∧ ∃ j, j ≤ n ∧ (∀ i, i < j → mkOk d F i) ∧ ((j < n ∧ ¬ mkOk d F j ∧ E = 21 ∧ x = j) ∨ (j = n ∧ E = 0 ∧ x = 0)) := by
      rcases h with ⟨rfl, h, hn, j, hj, rfl, j2, j3⟩ | ⟨rfl, rfl, h, hn, j2⟩
      · exact ⟨h, hn, j, by omega, j2, .inl ⟨hj, j3, rfl, rfl⟩⟩
      · exact ⟨h, hn, n, Nat.le_refl _, j2, .inr ⟨rfl, rfl, rfl⟩⟩
    obtain rfl := drE_ok hE1 h
    have g1 : ¬ ((64 : Int) < (n : Int)) := by omega
    have J2 := Lib.hid j2
    have J3 := Lib.hid j3
    clear hE1 h j2 j3
    go_enter Try.func22, Try.ntmps22
    go_wp2_with fail
    rw [← HW1.out]
    refine K1.out.mono ?_
    rintro e w2 ⟨rfl, hb2⟩
    have D := Lib.hid (nextB D.out hb2)
    have P := Lib.hid (P.out.up hb2)
    clear hb2 x0 x1
    go_wp2_with fail
    go_loopw [6] (fun v wr => ∃ k : Nat, k ≤ j ∧ v = .int .i64 k ∧ Below w2.heap.size w2 wr) (fun v _ => n - (intOf v).toNat)
    case atStart => exact ⟨0, Nat.zero_le _, rfl, Below.refl _ _⟩
    case round =>
      obtain ⟨k, hk, rfl, hb⟩ := hrel
      obtain ⟨wo, rfl⟩ : ∃ wo : World, wo = wr := ⟨_, rfl⟩
      have B := Lib.hid hb
      have D2 := Lib.hid (nextB D.out hb)
      have P2 := Lib.hid (P.out.up hb)
      clear hb
      obtain ⟨x0, x1⟩ := P2.out
      have hk0 : (0 : Int) ≤ (k : Int) := by omega
      by_cases hlt : k < n
      · have hki : (k : Int) < (n : Int) := by omega
        have wk : IntKind.i64.wrap ((k : Int) + 1) = ((k + 1 : Nat) : Int) := by rw [show ((k : Int) + 1) = ((k + 1 : Nat) : Int) by omega]; exact IntWalk.i64_in _ (by omega)
        have WK := Lib.hid wk
        clear wk
        obtain ⟨a, ea, ab, s0, s1, s2⟩ := (MM.out wo D2.out).2 k hlt
        obtain ⟨⟨y0, y1, y2⟩, hg⟩ : ∃ g, g = F k := ⟨_, rfl⟩
        rw [← hg] at s0 s1 s2
        simp only at s0 s1 s2
        have HF := Lib.hid hg
        clear hg
        by_cases hkj : k < j
        · have KR : Hid (∀ W, Calls Try.prog 77 #[d.v, .agg #[.int .i64 y0, .int .i64 y1, .int .i64 y2]] W fun e w' => e = .returned (.bool true) ∧ Below W.heap.size W w') := Lib.hid fun W => Rright_any d y0 y1 y2 true W hdn ⟨fun _ => by have h := J2.out k hkj; unfold mkOk at h; rw [← HF.out] at h; exact h, fun _ => rfl⟩
          rw [ea]
          go_wp2_with fail
          refine wp_region_M [] (fun w' => w'.cell? ⟨w.heap.size, 0, none⟩ = some (.slice d.RA d.n d.rc) ∧ w'.cell? ⟨w.heap.size, 1, none⟩ = some (.slice d.SA d.m d.sc) ∧ w'.cell? (a.add (k * 3)) = some (.int .i64 y0) ∧ w'.cell? ⟨(a.add (k * 3)).block, (a.add (k * 3)).off + 1, none⟩ = some (.int .i64 y1) ∧ w'.cell? ⟨(a.add (k * 3)).block, (a.add (k * 3)).off + 2, none⟩ = some (.int .i64 y2)) (by kernel_rfl) (by kernel_rfl) (by (try dsimp only); (repeat' apply And.intro); all_goals first | assumption | (go_simp; done)) (fun hT0 => ?_)
          refine M_take (v := ?_) 0 rfl (by kernel_rfl) (by assumption) (fun _ _ _ h => h) (Or.inl ⟨by rfl, ?_⟩) ?_
          rotate_left
          · (intro w hSw; (try dsimp only at hSw); go_simp; (try with_reducible rfl))
          (try simp only [Act.put, List.setIfInBounds_toArray, List.set_cons_zero, List.set_cons_succ])
          refine M_take (v := ?_) 1 rfl (by kernel_rfl) (by assumption) (fun _ _ _ h => h) (Or.inl ⟨by rfl, ?_⟩) ?_
          rotate_left
          · (intro w hSw; (try dsimp only at hSw); go_simp; (try with_reducible rfl))
          (try simp only [Act.put, List.setIfInBounds_toArray, List.set_cons_zero, List.set_cons_succ])
          refine M_take (v := ?_) 2 rfl (by kernel_rfl) (by assumption) (fun _ _ _ h => h) (Or.inl ⟨by rfl, ?_⟩) ?_
          rotate_left
          · (intro w hSw; (try dsimp only at hSw); go_simp; (try with_reducible rfl))
          (try simp only [Act.put, List.setIfInBounds_toArray, List.set_cons_zero, List.set_cons_succ])
          refine M_take (v := ?_) 3 rfl (by kernel_rfl) (by assumption) (fun _ _ _ h => h) (Or.inl ⟨by rfl, ?_⟩) ?_
          rotate_left
          · (intro w hSw; (try dsimp only at hSw); go_simp; (try with_reducible rfl))
          (try simp only [Act.put, List.setIfInBounds_toArray, List.set_cons_zero, List.set_cons_succ])
          refine M_take (v := ?_) 4 rfl (by kernel_rfl) (by assumption) (fun _ _ _ h => h) (Or.inl ⟨by rfl, ?_⟩) ?_
          rotate_left
          · (intro w hSw; (try dsimp only at hSw); go_simp; (try with_reducible rfl))
          (try simp only [Act.put, List.setIfInBounds_toArray, List.set_cons_zero, List.set_cons_succ])
          refine M_step 5 rfl (by kernel_rfl) (fun K hK => ?_)
          go_simp
          go_at_call 77
          refine (KR.out _).mono ?_
          rintro e w3 ⟨rfl, hb3⟩
          have B3 := Lib.hid (show Below wo.heap.size wo w3 from nextB (Below.refl _ _).drew hb3)
          have hT3 : (fun w' => w'.cell? ⟨w.heap.size, 0, none⟩ = some (.slice d.RA d.n d.rc) ∧ w'.cell? ⟨w.heap.size, 1, none⟩ = some (.slice d.SA d.m d.sc) ∧ w'.cell? (a.add (k * 3)) = some (.int .i64 y0) ∧ w'.cell? ⟨(a.add (k * 3)).block, (a.add (k * 3)).off + 1, none⟩ = some (.int .i64 y1) ∧ w'.cell? ⟨(a.add (k * 3)).block, (a.add (k * 3)).off + 2, none⟩ = some (.int .i64 y2)) w3 := ⟨cell_up B3.out P2.out.lt x0, cell_up B3.out P2.out.lt x1, cellA_of B3.out s0, (B3.out.cell (World.block_lt_of_cell? _ _ s1)).trans s1, (B3.out.cell (World.block_lt_of_cell? _ _ s2)).trans s2⟩
          clear hb3
          refine hK.out _ _ (fun _ => hT3) ?_
          clear hK K
          (try simp only [Act.put, List.setIfInBounds_toArray, List.set_cons_zero, List.set_cons_succ])
          refine M_take (v := ?_) 6 rfl (by kernel_rfl) (by assumption) (fun _ _ _ h => h) (Or.inl ⟨by rfl, ?_⟩) ?_
          rotate_left
          · (intro w hSw; (try dsimp only at hSw); go_simp; (try with_reducible rfl))
          (try simp only [Act.put, List.setIfInBounds_toArray, List.set_cons_zero, List.set_cons_succ])
          refine M_done (by kernel_rfl) ?_ _
          clear hT0 hT3 x0 x1 s0 s1 s2
          have wk := WK.out
          go_wp2_with fail
          go_roundw
          case rel => exact ⟨k + 1, by omega, by first | rfl | go_num, nextB B.out B3.out⟩
          case measure => (simp [intOf] <;> omega)
        · obtain ⟨hbad, rfl, rfl⟩ : ¬ mkOk d F j ∧ E = 21 ∧ x = j := by
            rcases J3.out with ⟨_, h1, h2, h3⟩ | ⟨h1, _⟩
            · exact ⟨h1, h2, h3⟩
            · omega
          have hkj2 : k = j := by omega
          subst hkj2
          have KR : Hid (∀ W, Calls Try.prog 77 #[d.v, .agg #[.int .i64 y0, .int .i64 y1, .int .i64 y2]] W fun e w' => e = .returned (.bool false) ∧ Below W.heap.size W w') := Lib.hid fun W => Rright_any d y0 y1 y2 false W hdn ⟨fun e => (by cases e), fun h => absurd (by unfold mkOk; rw [← HF.out]; exact h) hbad⟩
          clear hbad
          rw [ea]
          go_wp2_with fail
          refine wp_region_M [] (fun w' => w'.cell? ⟨w.heap.size, 0, none⟩ = some (.slice d.RA d.n d.rc) ∧ w'.cell? ⟨w.heap.size, 1, none⟩ = some (.slice d.SA d.m d.sc) ∧ w'.cell? (a.add (k * 3)) = some (.int .i64 y0) ∧ w'.cell? ⟨(a.add (k * 3)).block, (a.add (k * 3)).off + 1, none⟩ = some (.int .i64 y1) ∧ w'.cell? ⟨(a.add (k * 3)).block, (a.add (k * 3)).off + 2, none⟩ = some (.int .i64 y2)) (by kernel_rfl) (by kernel_rfl) (by (try dsimp only); (repeat' apply And.intro); all_goals first | assumption | (go_simp; done)) (fun hT0 => ?_)
          refine M_take (v := ?_) 0 rfl (by kernel_rfl) (by assumption) (fun _ _ _ h => h) (Or.inl ⟨by rfl, ?_⟩) ?_
          rotate_left
          · (intro w hSw; (try dsimp only at hSw); go_simp; (try with_reducible rfl))
          (try simp only [Act.put, List.setIfInBounds_toArray, List.set_cons_zero, List.set_cons_succ])
          refine M_take (v := ?_) 1 rfl (by kernel_rfl) (by assumption) (fun _ _ _ h => h) (Or.inl ⟨by rfl, ?_⟩) ?_
          rotate_left
          · (intro w hSw; (try dsimp only at hSw); go_simp; (try with_reducible rfl))
          (try simp only [Act.put, List.setIfInBounds_toArray, List.set_cons_zero, List.set_cons_succ])
          refine M_take (v := ?_) 2 rfl (by kernel_rfl) (by assumption) (fun _ _ _ h => h) (Or.inl ⟨by rfl, ?_⟩) ?_
          rotate_left
          · (intro w hSw; (try dsimp only at hSw); go_simp; (try with_reducible rfl))
          (try simp only [Act.put, List.setIfInBounds_toArray, List.set_cons_zero, List.set_cons_succ])
          refine M_take (v := ?_) 3 rfl (by kernel_rfl) (by assumption) (fun _ _ _ h => h) (Or.inl ⟨by rfl, ?_⟩) ?_
          rotate_left
          · (intro w hSw; (try dsimp only at hSw); go_simp; (try with_reducible rfl))
          (try simp only [Act.put, List.setIfInBounds_toArray, List.set_cons_zero, List.set_cons_succ])
          refine M_take (v := ?_) 4 rfl (by kernel_rfl) (by assumption) (fun _ _ _ h => h) (Or.inl ⟨by rfl, ?_⟩) ?_
          rotate_left
          · (intro w hSw; (try dsimp only at hSw); go_simp; (try with_reducible rfl))
          (try simp only [Act.put, List.setIfInBounds_toArray, List.set_cons_zero, List.set_cons_succ])
          refine M_step 5 rfl (by kernel_rfl) (fun K hK => ?_)
          go_simp
          go_at_call 77
          refine (KR.out _).mono ?_
          rintro e w3 ⟨rfl, hb3⟩
          have B3 := Lib.hid (show Below wo.heap.size wo w3 from nextB (Below.refl _ _).drew hb3)
          have hT3 : (fun w' => w'.cell? ⟨w.heap.size, 0, none⟩ = some (.slice d.RA d.n d.rc) ∧ w'.cell? ⟨w.heap.size, 1, none⟩ = some (.slice d.SA d.m d.sc) ∧ w'.cell? (a.add (k * 3)) = some (.int .i64 y0) ∧ w'.cell? ⟨(a.add (k * 3)).block, (a.add (k * 3)).off + 1, none⟩ = some (.int .i64 y1) ∧ w'.cell? ⟨(a.add (k * 3)).block, (a.add (k * 3)).off + 2, none⟩ = some (.int .i64 y2)) w3 := ⟨cell_up B3.out P2.out.lt x0, cell_up B3.out P2.out.lt x1, cellA_of B3.out s0, (B3.out.cell (World.block_lt_of_cell? _ _ s1)).trans s1, (B3.out.cell (World.block_lt_of_cell? _ _ s2)).trans s2⟩
          clear hb3
          refine hK.out _ _ (fun _ => hT3) ?_
          clear hK K
          (try simp only [Act.put, List.setIfInBounds_toArray, List.set_cons_zero, List.set_cons_succ])
          refine M_take (v := ?_) 6 rfl (by kernel_rfl) (by assumption) (fun _ _ _ h => h) (Or.inl ⟨by rfl, ?_⟩) ?_
          rotate_left
          · (intro w hSw; (try dsimp only at hSw); go_simp; (try with_reducible rfl))
          (try simp only [Act.put, List.setIfInBounds_toArray, List.set_cons_zero, List.set_cons_succ])
          refine M_done (by kernel_rfl) ?_ _
          clear hT0 hT3 x0 x1 s0 s1 s2
          go_wp2_with fail
          go_ret2
          exact ⟨by simp, nextB D2.out B3.out⟩
      · obtain ⟨rfl, rfl, rfl⟩ : j = n ∧ E = 0 ∧ x = 0 := by
          rcases J3.out with ⟨h1, _⟩ | h1
          · omega
          · exact h1
        obtain rfl : k = j := by omega
        have hki : ¬ ((k : Int) < (k : Int)) := by omega
        go_wp2_with fail
        go_ret2
        exact ⟨by simp, D2.out⟩
set_option maxRecDepth 100000 in
set_option maxHeartbeats 2000000 in
theorem Rasked_any (d : Drm) (A : Option Addr) (n c : Nat) (F : Nat → Int × Int × Int) (E : Int) (w : World) (hin : DrIn d w.heap.size w) (hm : TrsIn A n F w.heap.size w) (hE : ChR d n F E) :
    Calls Try.prog 85 #[d.v, .slice A n c] w fun e w' => e = .returned (.int .i64 E) ∧ Below w.heap.size w w' := by
  obtain ⟨E1, x, hC, hE1⟩ := chR_of hE
  have hE4 : E1 = 20 ∨ E1 = 2 ∨ E1 = 21 ∨ E1 = 0 := by
    rcases hC with ⟨h, _⟩ | ⟨h, _⟩ | ⟨h, _⟩ | ⟨h, _⟩ <;> omega
  obtain ⟨w1, hw1⟩ : ∃ w1 : World, w1 = w.alloc (drO d) := ⟨_, rfl⟩
  have B1 : Below w.heap.size w w1 := by rw [hw1]; exact box1 _ _
  have P1 : HasDr d w.heap.size w1 := by rw [hw1]; exact dr_new w d
  have D := Lib.hid B1
  have HW1 := Lib.hid hw1
  have K1 := Lib.hid (RCheckMarks_any d A n c F E1 x w1 ((hin.up B1 (Nat.le_refl _)).more B1.size) ((hm.up B1 (Nat.le_refl _)).more B1.size) hC)
  obtain ⟨x0, x1⟩ := P1
  clear hin hm B1 hw1 hE hC
  rcases hE4 with rfl | rfl | rfl | rfl
  · obtain rfl : E = 20 := by omega
    clear hE1
    go_enter Try.func85, Try.ntmps85
    go_wp2_with fail
    rw [← HW1.out]
    refine K1.out.mono ?_
    rintro e w2 ⟨rfl, hb2⟩
    have D := Lib.hid (nextB D.out hb2)
    clear hb2 x0 x1
    go_wp2_with fail
    go_ret
    exact ⟨rfl, D.out⟩
  · obtain rfl : E = 21 := by omega
    clear hE1
    go_enter Try.func85, Try.ntmps85
    go_wp2_with fail
    rw [← HW1.out]
    refine K1.out.mono ?_
    rintro e w2 ⟨rfl, hb2⟩
    have D := Lib.hid (nextB D.out hb2)
    clear hb2 x0 x1
    go_wp2_with fail
    go_ret
    exact ⟨rfl, D.out⟩
  · obtain rfl : E = 21 := by omega
    clear hE1
    go_enter Try.func85, Try.ntmps85
    go_wp2_with fail
    rw [← HW1.out]
    refine K1.out.mono ?_
    rintro e w2 ⟨rfl, hb2⟩
    have D := Lib.hid (nextB D.out hb2)
    clear hb2 x0 x1
    go_wp2_with fail
    go_ret
    exact ⟨rfl, D.out⟩
  · obtain rfl : E = 0 := by omega
    clear hE1
    go_enter Try.func85, Try.ntmps85
    go_wp2_with fail
    rw [← HW1.out]
    refine K1.out.mono ?_
    rintro e w2 ⟨rfl, hb2⟩
    have D := Lib.hid (nextB D.out hb2)
    clear hb2 x0 x1
    go_wp2_with fail
    go_ret
    exact ⟨rfl, D.out⟩
set_option maxRecDepth 100000 in
set_option maxHeartbeats 4000000 in
theorem Rgap_any (d : Drm) (q : Nat) (w : World) (hin : DrIn d w.heap.size w) (hok : DrOk d) (hq : q < d.n) :
    Calls Try.prog 80 #[d.v, .int .i64 (q : Int)] w fun e w' => e = .returned (Sp (gapF d q)) ∧ Below w.heap.size w w' := by
  have DD : Hid (∀ W, Below w.heap.size w W → DrIn d W.heap.size W) := Lib.hid fun W h => (hin.up h (Nat.le_refl _)).more h.size
  have HOK := Lib.hid hok
  have hm16 := hok.m
  obtain ⟨wa, hwa⟩ : ∃ wa : World, wa = (w.alloc (drO d)).alloc (.cells #[.int .i64 0, .int .i64 0] 31) := ⟨_, rfl⟩
  have sa : wa.heap.size = w.heap.size + 1 + 1 := by rw [hwa]; simp
  have Ba : Below w.heap.size w wa := by rw [hwa]; exact box2 _ _ _
  have Pa : HasDr d w.heap.size wa := by rw [hwa]; exact (dr_new w d).up (box1 _ _)
  have Ra : Bt (w.heap.size + 1) 0 0 wa := by
    rw [hwa]
    have h := Bt.new (w.alloc (drO d)) 31 0 0
    rw [World.size_alloc] at h
    exact h
  obtain ⟨a, ea, ab, s0, s1⟩ := (DD.out wa Ba).1.2 q hq
  obtain ⟨⟨g1, g2⟩, hg⟩ : ∃ g, g = d.G q := ⟨_, rfl⟩
  rw [← hg] at s0 s1
  simp only at s0 s1
  obtain ⟨w1, hw1⟩ : ∃ w1 : World, w1 = wa.alloc (.cells #[.int .i64 g1, .int .i64 g2] 31) := ⟨_, rfl⟩
  have B1 : Below w.heap.size w w1 := by rw [hw1]; exact nextB Ba (box1 _ _)
  have P1 : HasDr d w.heap.size w1 := by rw [hw1]; exact Pa.up (box1 _ _)
  have R1 : Bt (w.heap.size + 1) 0 0 w1 := by rw [hw1]; exact Ra.up (box1 _ _)
  have U1 : Bt (w.heap.size + 1 + 1) g1 g2 w1 := by
    rw [hw1, ← sa]
    exact Bt.new _ _ _ _
  have D := Lib.hid B1
  have P := Lib.hid P1
  have R := Lib.hid R1
  have U := Lib.hid (show Bt (w.heap.size + 1 + 1) (gapK d 0 q).1 (gapK d 0 q).2 w1 from (by show Bt _ (d.G q).1 (d.G q).2 w1; rw [← hg]; exact U1))
  rw [hwa] at hw1 s0 s1
  simp only [drO] at hw1 s0 s1
  rw [ea] at hw1 s0 s1
  have HW := Lib.hid hw1
  have hqi : (q : Int) < (d.n : Int) := by omega
  have hq0 : (0 : Int) ≤ (q : Int) := by omega
  have EA := Lib.hid ea
  clear hin hok B1 P1 R1 U1 hw1 hwa hg sa ab Ba Pa Ra
  go_enter Try.func80, Try.ntmps80
  go_wp2_with fail
  rw [← HW.out]
  clear s0 s1 ea
  go_loopw [6] (fun v wr => ∃ k : Nat, k ≤ d.m ∧ v = .int .i64 k ∧ Below w.heap.size w wr ∧ HasDr d w.heap.size wr ∧ Bt (w.heap.size + 1) 0 0 wr ∧ Bt (w.heap.size + 1 + 1) (gapK d k q).1 (gapK d k q).2 wr) (fun v _ => d.m - (intOf v).toNat)
  case atStart => exact ⟨0, Nat.zero_le _, rfl, D.out, P.out, R.out, U.out⟩
  case round =>
    obtain ⟨k, hk, rfl, hb, hp, hr, hu⟩ := hrel
    obtain ⟨wo, rfl⟩ : ∃ wo : World, wo = wr := ⟨_, rfl⟩
    have D := Lib.hid hb
    have P := Lib.hid hp
    have R := Lib.hid hr
    have U := Lib.hid hu
    clear hb hp hr hu
    obtain ⟨x0, x1⟩ := P.out
    have zP := P.out.lt
    have zU := U.out.lt
    have hk0 : (0 : Int) ≤ (k : Int) := by omega
    by_cases hlt : k < d.m
    · have hki : (k : Int) < (d.m : Int) := by omega
      have wk : IntKind.i64.wrap ((k : Int) + 1) = ((k + 1 : Nat) : Int) := by rw [show ((k : Int) + 1) = ((k + 1 : Nat) : Int) by omega]; exact IntWalk.i64_in _ (by omega)
      have WK := Lib.hid wk
      clear wk
      obtain ⟨as', es, bs, s0, s1, s2⟩ := (DD.out wo D.out).2.2 k hlt
      have hbd := gapK_bd HOK.out k (by omega) q hq
      have HGK : Hid (gapK d (k + 1) q = if (d.S k).1 = q then addS (gapK d k q) (d.S k).2 else gapK d k q) := Lib.hid rfl
      obtain ⟨⟨y0, y1, y2⟩, hg⟩ : ∃ g, g = d.S k := ⟨_, rfl⟩
      have hst : (0 ≤ y0 ∧ y0 < d.n) ∧ isS (y1, y2) 0 400 := by
        have h := HOK.out.stops k hlt
        unfold stopOk at h
        rw [← hg] at h
        exact h
      rw [← hg] at s0 s1 s2 HGK
      have HSk := Lib.hid hg
      simp only at s0 s1 s2
      obtain ⟨⟨u, v⟩, hgk⟩ : ∃ g, g = gapK d k q := ⟨_, rfl⟩
      rw [← hgk] at U hbd HGK
      rw [es] at x1
      simp only at hbd
      clear hg hgk
      unfold isS at hst
      simp only at hst
      obtain ⟨u0, u1, u2, u3⟩ := U.out
      by_cases hyq : y0 = (q : Int)
      · subst hyq
        have d1 : ((q : Int) == (q : Int)) = true := by simp
        have hn := HGK.out
        rw [if_pos rfl] at hn
        have HN := Lib.hid hn
        have ES := Lib.hid es
        have wu : IntKind.i64.wrap (u + y1) = u + y1 := IntWalk.i64_in _ (by omega)
        have wv : IntKind.i64.wrap (v + y2) = v + y2 := IntWalk.i64_in _ (by omega)
        have WV := Lib.hid wv
        have HBD := Lib.hid (And.intro hbd hst)
        clear hn hst hbd wv
        go_wp2_with fail
        refine wp_region_M [11] (fun w' => w'.cell? ⟨w.heap.size, 1, none⟩ = some (.slice (some as') d.m d.sc) ∧ w'.cell? ⟨w.heap.size + 1 + 1, 0, none⟩ = some (.int .i64 u) ∧ w'.cell? ⟨(as'.add (k * 3)).block, (as'.add (k * 3)).off + 1, none⟩ = some (.int .i64 y1)) (by kernel_rfl) (by kernel_rfl) (by (try dsimp only); (repeat' apply And.intro); all_goals first | assumption | (go_simp; done)) (fun hT0 => ?_)
        refine M_take (v := ?_) 0 rfl (by kernel_rfl) (by assumption) (fun _ _ _ h => h) (Or.inl ⟨by rfl, ?_⟩) ?_
        rotate_left
        · (intro w hSw; (try dsimp only at hSw); go_simp; (try with_reducible rfl))
        (try simp only [Act.put, List.setIfInBounds_toArray, List.set_cons_zero, List.set_cons_succ])
        refine M_take (v := ?_) 1 rfl (by kernel_rfl) (by assumption) (fun _ _ _ h => h) (Or.inl ⟨by rfl, ?_⟩) ?_
        rotate_left
        · (intro w hSw; (try dsimp only at hSw); go_simp; (try with_reducible rfl))
        (try simp only [Act.put, List.setIfInBounds_toArray, List.set_cons_zero, List.set_cons_succ])
        refine M_take (v := ?_) 2 rfl (by kernel_rfl) (by assumption) (fun _ _ _ h => h) (Or.inl ⟨by rfl, ?_⟩) ?_
        rotate_left
        · (intro w hSw; (try dsimp only at hSw); go_simp; (try with_reducible rfl))
        (try simp only [Act.put, List.setIfInBounds_toArray, List.set_cons_zero, List.set_cons_succ])
        refine M_take (v := ?_) 3 rfl (by kernel_rfl) (by assumption) (fun _ _ _ h => h) (Or.inl ⟨by rfl, ?_⟩) ?_
        rotate_left
        · (intro w hSw; (try dsimp only at hSw); go_simp; (try with_reducible rfl))
        (try simp only [Act.put, List.setIfInBounds_toArray, List.set_cons_zero, List.set_cons_succ])
        refine M_take (v := ?_) 4 rfl (by kernel_rfl) (by assumption) (fun _ _ _ h => h) (Or.inl ⟨by rfl, ?_⟩) ?_
        rotate_left
        · (intro w hSw; (try dsimp only at hSw); go_simp; (try with_reducible rfl))
        (try simp only [Act.put, List.setIfInBounds_toArray, List.set_cons_zero, List.set_cons_succ])
        refine M_take (v := ?_) 5 rfl (by kernel_rfl) (by assumption) (fun _ _ _ h => h) (Or.inl ⟨by rfl, ?_⟩) ?_
        rotate_left
        · (intro w hSw; (try dsimp only at hSw); go_simp; (try with_reducible rfl))
        (try simp only [Act.put, List.setIfInBounds_toArray, List.set_cons_zero, List.set_cons_succ])
        refine M_take (v := ?_) 6 rfl (by kernel_rfl) (by assumption) (fun _ _ _ h => h) (Or.inl ⟨by rfl, ?_⟩) ?_
        rotate_left
        · (intro w hSw; (try dsimp only at hSw); go_simp; (try with_reducible rfl))
        (try simp only [Act.put, List.setIfInBounds_toArray, List.set_cons_zero, List.set_cons_succ])
        refine M_take (v := ?_) 7 rfl (by kernel_rfl) (by assumption) (fun _ _ _ h => h) (Or.inl ⟨by rfl, ?_⟩) ?_
        rotate_left
        · (intro w hSw; (try dsimp only at hSw); go_simp; (try with_reducible rfl))
        (try simp only [Act.put, List.setIfInBounds_toArray, List.set_cons_zero, List.set_cons_succ])
        refine M_take (v := ?_) 8 rfl (by kernel_rfl) (by assumption) (fun _ _ _ h => h) (Or.inl ⟨by rfl, ?_⟩) ?_
        rotate_left
        · (intro w hSw; (try dsimp only at hSw); go_simp; (try with_reducible rfl))
        (try simp only [Act.put, List.setIfInBounds_toArray, List.set_cons_zero, List.set_cons_succ])
        refine M_take (v := ?_) 9 rfl (by kernel_rfl) (by assumption) (fun _ _ _ h => h) (Or.inl ⟨by rfl, ?_⟩) ?_
        rotate_left
        · (intro w hSw; (try dsimp only at hSw); go_simp; (try with_reducible rfl))
        (try simp only [Act.put, List.setIfInBounds_toArray, List.set_cons_zero, List.set_cons_succ])
        refine M_take (v := ?_) 10 rfl (by kernel_rfl) (by assumption) (fun _ _ _ h => h) (Or.inl ⟨by rfl, ?_⟩) ?_
        rotate_left
        · (intro w hSw; (try dsimp only at hSw); go_simp; (try with_reducible rfl))
        (try simp only [Act.put, List.setIfInBounds_toArray, List.set_cons_zero, List.set_cons_succ])
        refine M_step 11 rfl (by kernel_rfl) (fun K hK => ?_)
        go_simp
        skip
        refine hK.out _ _ (fun e => by cases e) ?_
        clear hK K
        (try simp only [Act.put, List.setIfInBounds_toArray, List.set_cons_zero, List.set_cons_succ])
        refine M_done (by kernel_rfl) ?_ _
        clear hT0 x0 x1 u0 u1 u2 u3 s0 s1 s2 wu
        generalize hw6 : (wo.setCell ⟨w.heap.size + 1 + 1, 0, none⟩ (.int .i64 (u + y1))).drew = w6
        have U6 := Lib.hid (show Bt (w.heap.size + 1 + 1) (u + y1) v w6 from by rw [← hw6]; exact (U.out.set0 _).up (Below.refl _ _).drew)
        have D6 := Lib.hid (show Below w.heap.size w w6 from by rw [← hw6]; exact (set1 D.out (by omega) _ _).drew)
        have P6 := Lib.hid (show HasDr d w.heap.size w6 from by rw [← hw6]; exact (P.out.other (by omega)).up (Below.refl _ _).drew)
        have R6 := Lib.hid (show Bt (w.heap.size + 1) 0 0 w6 from by rw [← hw6]; exact (R.out.other (by omega)).up (Below.refl _ _).drew)
        clear hw6
        obtain ⟨x0, x1⟩ := P6.out
        obtain ⟨u0, u1, u2, u3⟩ := U6.out
        have zU6 := U6.out.lt
        obtain ⟨as2, es2, bs2, s0, s1, s2⟩ := (DD.out w6 D6.out).2.2 k hlt
        rw [ES.out] at es2 x1
        cases es2
        rw [← HSk.out] at s0 s1 s2
        simp only at s0 s1 s2
        have wv := WV.out
        go_wp2_with fail
        refine wp_region_M [11] (fun w' => w'.cell? ⟨w.heap.size, 1, none⟩ = some (.slice (some as') d.m d.sc) ∧ w'.cell? ⟨w.heap.size + 1 + 1, 1, none⟩ = some (.int .i64 v) ∧ w'.cell? ⟨(as'.add (k * 3)).block, (as'.add (k * 3)).off + 2, none⟩ = some (.int .i64 y2)) (by kernel_rfl) (by kernel_rfl) (by (try dsimp only); (repeat' apply And.intro); all_goals first | assumption | (go_simp; done)) (fun hT0 => ?_)
        refine M_take (v := ?_) 0 rfl (by kernel_rfl) (by assumption) (fun _ _ _ h => h) (Or.inl ⟨by rfl, ?_⟩) ?_
        rotate_left
        · (intro w hSw; (try dsimp only at hSw); go_simp; (try with_reducible rfl))
        (try simp only [Act.put, List.setIfInBounds_toArray, List.set_cons_zero, List.set_cons_succ])
        refine M_take (v := ?_) 1 rfl (by kernel_rfl) (by assumption) (fun _ _ _ h => h) (Or.inl ⟨by rfl, ?_⟩) ?_
        rotate_left
        · (intro w hSw; (try dsimp only at hSw); go_simp; (try with_reducible rfl))
        (try simp only [Act.put, List.setIfInBounds_toArray, List.set_cons_zero, List.set_cons_succ])
        refine M_take (v := ?_) 2 rfl (by kernel_rfl) (by assumption) (fun _ _ _ h => h) (Or.inl ⟨by rfl, ?_⟩) ?_
        rotate_left
        · (intro w hSw; (try dsimp only at hSw); go_simp; (try with_reducible rfl))
        (try simp only [Act.put, List.setIfInBounds_toArray, List.set_cons_zero, List.set_cons_succ])
        refine M_take (v := ?_) 3 rfl (by kernel_rfl) (by assumption) (fun _ _ _ h => h) (Or.inl ⟨by rfl, ?_⟩) ?_
        rotate_left
        · (intro w hSw; (try dsimp only at hSw); go_simp; (try with_reducible rfl))
        (try simp only [Act.put, List.setIfInBounds_toArray, List.set_cons_zero, List.set_cons_succ])
        refine M_take (v := ?_) 4 rfl (by kernel_rfl) (by assumption) (fun _ _ _ h => h) (Or.inl ⟨by rfl, ?_⟩) ?_
        rotate_left
        · (intro w hSw; (try dsimp only at hSw); go_simp; (try with_reducible rfl))
        (try simp only [Act.put, List.setIfInBounds_toArray, List.set_cons_zero, List.set_cons_succ])
        refine M_take (v := ?_) 5 rfl (by kernel_rfl) (by assumption) (fun _ _ _ h => h) (Or.inl ⟨by rfl, ?_⟩) ?_
        rotate_left
        · (intro w hSw; (try dsimp only at hSw); go_simp; (try with_reducible rfl))
        (try simp only [Act.put, List.setIfInBounds_toArray, List.set_cons_zero, List.set_cons_succ])
        refine M_take (v := ?_) 6 rfl (by kernel_rfl) (by assumption) (fun _ _ _ h => h) (Or.inl ⟨by rfl, ?_⟩) ?_
        rotate_left
        · (intro w hSw; (try dsimp only at hSw); go_simp; (try with_reducible rfl))
        (try simp only [Act.put, List.setIfInBounds_toArray, List.set_cons_zero, List.set_cons_succ])
        refine M_take (v := ?_) 7 rfl (by kernel_rfl) (by assumption) (fun _ _ _ h => h) (Or.inl ⟨by rfl, ?_⟩) ?_
        rotate_left
        · (intro w hSw; (try dsimp only at hSw); go_simp; (try with_reducible rfl))
        (try simp only [Act.put, List.setIfInBounds_toArray, List.set_cons_zero, List.set_cons_succ])
        refine M_take (v := ?_) 8 rfl (by kernel_rfl) (by assumption) (fun _ _ _ h => h) (Or.inl ⟨by rfl, ?_⟩) ?_
        rotate_left
        · (intro w hSw; (try dsimp only at hSw); go_simp; (try with_reducible rfl))
        (try simp only [Act.put, List.setIfInBounds_toArray, List.set_cons_zero, List.set_cons_succ])
        refine M_take (v := ?_) 9 rfl (by kernel_rfl) (by assumption) (fun _ _ _ h => h) (Or.inl ⟨by rfl, ?_⟩) ?_
        rotate_left
        · (intro w hSw; (try dsimp only at hSw); go_simp; (try with_reducible rfl))
        (try simp only [Act.put, List.setIfInBounds_toArray, List.set_cons_zero, List.set_cons_succ])
        refine M_take (v := ?_) 10 rfl (by kernel_rfl) (by assumption) (fun _ _ _ h => h) (Or.inl ⟨by rfl, ?_⟩) ?_
        rotate_left
        · (intro w hSw; (try dsimp only at hSw); go_simp; (try with_reducible rfl))
        (try simp only [Act.put, List.setIfInBounds_toArray, List.set_cons_zero, List.set_cons_succ])
        refine M_step 11 rfl (by kernel_rfl) (fun K hK => ?_)
        go_simp
        skip
        refine hK.out _ _ (fun e => by cases e) ?_
        clear hK K
        (try simp only [Act.put, List.setIfInBounds_toArray, List.set_cons_zero, List.set_cons_succ])
        refine M_done (by kernel_rfl) ?_ _
        clear hT0 x0 x1 u0 u1 u2 u3 s0 s1 s2 wv
        generalize hw7 : (w6.setCell ⟨w.heap.size + 1 + 1, 1, none⟩ (.int .i64 (v + y2))).drew = w7
        have U7 := Lib.hid (show Bt (w.heap.size + 1 + 1) (u + y1) (v + y2) w7 from by rw [← hw7]; exact (U6.out.set1 _).up (Below.refl _ _).drew)
        have D7 := Lib.hid (show Below w.heap.size w w7 from by rw [← hw7]; exact (set1 D6.out (by omega) _ _).drew)
        have P7 := Lib.hid (show HasDr d w.heap.size w7 from by rw [← hw7]; exact (P6.out.other (by omega)).up (Below.refl _ _).drew)
        have R7 := Lib.hid (show Bt (w.heap.size + 1) 0 0 w7 from by rw [← hw7]; exact (R6.out.other (by omega)).up (Below.refl _ _).drew)
        clear hw7
        have wk := WK.out
        go_wp2_with fail
        go_roundw
        case rel => exact ⟨k + 1, by omega, by first | rfl | go_num, D7.out, P7.out, R7.out, by rw [HN.out]; exact U7.out⟩
        case measure => (simp [intOf] <;> omega)
      · have d1 : ((y0 : Int) == (q : Int)) = false := by simpa using hyq
        have hn := HGK.out
        rw [if_neg hyq] at hn
        have HN := Lib.hid hn
        have ES := Lib.hid es
        clear hn hst hbd
        go_wp2_with fail
        have wk := WK.out
        go_wp2_with fail
        go_roundw
        case rel => exact ⟨k + 1, by omega, by first | rfl | go_num, D.out, P.out, R.out, by rw [HN.out]; exact U.out⟩
        case measure => (simp [intOf] <;> omega)
    · obtain rfl : k = d.m := by omega
      have hki : ¬ ((d.m : Int) < (d.m : Int)) := by omega
      obtain ⟨⟨u, v⟩, hgk⟩ : ∃ g, g = gapK d d.m q := ⟨_, rfl⟩
      rw [← hgk] at U
      obtain ⟨u0, u1, u2, u3⟩ := U.out
      obtain ⟨r0, r1, r2, r3⟩ := R.out
      have hst := R.out.store u v
      have HGK := Lib.hid hgk
      have HSTO := Lib.hid hst
      have HBL := Lib.hid (set1 (set1 D.out (show w.heap.size ≤ w.heap.size + 1 by omega) 0 (.int .i64 u)) (show w.heap.size ≤ w.heap.size + 1 by omega) 1 (.int .i64 v))
      clear hgk hst
      go_wp2_with fail
      obtain ⟨wf, hwf⟩ : ∃ wf : World, wf = (wo.setCell ⟨w.heap.size + 1, 0, none⟩ (.int .i64 u)).setCell ⟨w.heap.size + 1, 1, none⟩ (.int .i64 v) := ⟨_, rfl⟩
      have HF2 := HBL.out
      have hq := HSTO.out
      rw [← hwf] at hq HF2 ⊢
      obtain ⟨q0, q1, _, _⟩ := hq
      exact bodyPost_ret (v := Sp (u, v)) (by simp [results, Try.results80, go_sem, q0, q1]) rfl ⟨by rw [show gapF d q = (u, v) from HGK.out.symm], HF2⟩
end Go.Proofs.Ytpikaohodieeaaa
