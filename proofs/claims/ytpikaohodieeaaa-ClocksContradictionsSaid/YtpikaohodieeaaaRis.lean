/- The specification's is and Keeps. -/
import Derived.Test.YtpikaohodieeaaaRrd
namespace Go.Proofs.Ytpikaohodieeaaa
open Go.RowKit
set_option linter.unusedSimpArgs false
set_option linter.unusedVariables false
set_option maxRecDepth 100000 in
set_option maxHeartbeats 4000000 in
theorem Ris_any (d : Drm) (MA : Option Addr) (m mc : Nat) (F : Nat → Int × Int × Int) (TA : Option Addr) (n tc : Nat) (T : Nat → Int) (R : Bool) (w : World)
    (hin : DrIn d w.heap.size w) (hm : TrsIn MA m F w.heap.size w) (ht : IntsIn TA n T w.heap.size w) (hd : DrOk d) (hk : MksOk d m F) (hR : R = true ↔ n = d.n + 1 ∧ Rdg d.n (gapF d) m F T) :
    Calls Try.prog 88 #[d.v, .slice MA m mc, .slice TA n tc] w fun e w' => e = .returned (.bool R) ∧ Below w.heap.size w w' := by
  have DD : Hid (∀ W, Below w.heap.size w W → DrIn d W.heap.size W) := Lib.hid fun W h => (hin.up h (Nat.le_refl _)).more h.size
  have MM : Hid (∀ W, Below w.heap.size w W → TrsIn MA m F W.heap.size W) := Lib.hid fun W h => (hm.up h (Nat.le_refl _)).more h.size
  have TT : Hid (∀ W, Below w.heap.size w W → IntsIn TA n T W.heap.size W) := Lib.hid fun W h => (ht.up h (Nat.le_refl _)).more h.size
  have hn0 := ht.1
  have hn1 := hd.n1
  have hn2 := hd.n2
  have hm64 := hk.1
  have HDo := Lib.hid hd
  have HK := Lib.hid hk
  have HR := Lib.hid hR
  obtain ⟨w1, hw1⟩ : ∃ w1 : World, w1 = w.alloc (drO d) := ⟨_, rfl⟩
  have B1 : Below w.heap.size w w1 := by rw [hw1]; exact box1 _ _
  have P1 : HasDr d w.heap.size w1 := by rw [hw1]; exact dr_new w d
  have D := Lib.hid B1
  have P := Lib.hid P1
  have HW := Lib.hid hw1
  clear hin hm ht hd hk hR B1 P1 hw1
  obtain ⟨x0, x1⟩ := P.out
  obtain ⟨N, hN⟩ : ∃ N, N = d.n + 1 := ⟨_, rfl⟩
  have wN : IntKind.i64.wrap ((d.n : Int) + 1) = (N : Int) := by rw [show ((d.n : Int) + 1) = (N : Int) by omega]; exact IntWalk.i64_in _ (by omega)
  by_cases hnN : n = N
  · have HN := Lib.hid hN
    have hi1 : ((n : Int) == (N : Int)) = true := by rw [hnN]; simp
    have hi2 : ((n : Int) != (N : Int)) = false := by simp [hnN]
    have hnd : n = d.n + 1 := by omega
    have HND := Lib.hid hnd
    have hi3 : (n == N) = true := by simpa using hnN
    obtain ⟨j, j1, j2, j3⟩ := first_bad (fun i => (0 ≤ T i ∧ T i ≤ 400) ∧ (i = 0 ∨ hasP (gapF d (i - 1)) (T i - T (i - 1)))) n
    obtain ⟨q, q1, q2, q3⟩ := first_bad (fun i => hasP (F i).2 (T (F i).1.toNat)) m
    have J2 := Lib.hid j2
    have J3 := Lib.hid j3
    have Q2 := Lib.hid q2
    have Q3 := Lib.hid q3
    have HBJ : Hid (j < n → R = false) := Lib.hid fun h => by
      cases hr : R with
      | false => rfl
      | true =>
        obtain ⟨_, hT⟩ := HR.out.1 hr
        refine absurd ⟨hT.tick j (by omega), ?_⟩ (j3 h)
        by_cases e : j = 0
        · exact .inl e
        · have := hT.gap (j - 1) (by omega)
          rw [show j - 1 + 1 = j by omega] at this
          exact .inr this
    have HBQ : Hid (q < m → R = false) := Lib.hid fun h => by
      cases hr : R with
      | false => rfl
      | true =>
        obtain ⟨_, hT⟩ := HR.out.1 hr
        exact absurd (hT.mark q h) (q3 h)
    have HGD : Hid (j = n → q = m → R = true) := Lib.hid fun h1 h2 => HR.out.2 ⟨hnd, fun i hi => (j2 i (by omega)).1, fun i hi => by
      have := (j2 (i + 1) (by omega)).2
      rw [Nat.add_sub_cancel] at this
      exact this.resolve_left (by omega), fun i hi => q2 i (by omega)⟩
    have hn5 : n ≤ 200 := by omega
    clear j2 j3 q2 q3 hN hnN hnd
    go_enter Try.func88, Try.ntmps88
    go_wp2_with fail
    rw [← HW.out]
    clear x0 x1 hi1 hi2 hi3 wN
    go_loopw [7, 8] (fun v _ wr => ∃ i : Nat, i ≤ j ∧ v = .int .i64 i ∧ Below w1.heap.size w1 wr) (fun v _ _ => n - (intOf v).toNat)
    case atStart => exact ⟨0, Nat.zero_le _, rfl, Below.refl _ _⟩
    case round =>
      obtain ⟨i, hi, rfl, hb⟩ := hrel
      obtain ⟨w2, rfl⟩ : ∃ w2 : World, w2 = wr := ⟨_, rfl⟩
      have B := Lib.hid hb
      have D2 := Lib.hid (nextB D.out hb)
      have P2 := Lib.hid (P.out.up hb)
      clear hb
      have hi0 : (0 : Int) ≤ (i : Int) := by omega
      by_cases hin : i < n
      · have hii : (i : Int) < (n : Int) := by omega
        have wi : IntKind.i64.wrap ((i : Int) + 1) = ((i + 1 : Nat) : Int) := by rw [show ((i : Int) + 1) = ((i + 1 : Nat) : Int) by omega]; exact IntWalk.i64_in _ (by omega)
        have WI := Lib.hid wi
        clear wi
        obtain ⟨ta, et, lt, s0⟩ := (TT.out w2 D2.out).2 i hin
        obtain ⟨z, hz⟩ : ∃ z, z = T i := ⟨_, rfl⟩
        rw [← hz] at s0
        have HZ := Lib.hid hz
        clear hz
        by_cases hij : i < j
        · have hg := J2.out i hij
          rw [← HZ.out] at hg
          have HG := Lib.hid hg
          by_cases h0 : i = 0
          · have d3 : decide ((i : Int) > 0) = false := decide_eq_false (by omega)
            have d3n : decide (0 < i) = false := decide_eq_false (by omega)
            clear hg h0
            rw [et]
            go_wp2_with fail
            refine (Rwithin_any z 0 400 true w2 (rw_yes HG.out.1)).mono ?_
            rintro e w9 ⟨rfl, hw9⟩
            rw [hw9]
            clear hw9 w9
            have wi := WI.out
            go_wp2_with fail
            go_roundw
            case rel => exact ⟨i + 1, by omega, by first | rfl | go_num, B.out⟩
            case measure => (simp [intOf] <;> omega)
          · have hgap := hg.2.resolve_left h0
            obtain ⟨b, hb1⟩ : ∃ b : Nat, b + 1 = i := ⟨i - 1, by omega⟩
            have hbn : b < n := by omega
            have hbd : b < d.n := by have := HND.out; omega
            have hb0 : (0 : Int) ≤ (b : Int) := by omega
            have hbi : (b : Int) < (n : Int) := by omega
            have wb : IntKind.i64.wrap ((i : Int) - 1) = (b : Int) := by rw [show ((i : Int) - 1) = (b : Int) by omega]; exact IntWalk.i64_in _ (by omega)
            have hz2 := (J2.out b (by omega)).1
            rw [show i - 1 = b by omega] at hgap
            obtain ⟨ta', et', lt', s1⟩ := (TT.out w2 D2.out).2 b hbn
            rw [et] at et'
            cases et'
            obtain ⟨z2, hzz⟩ : ∃ z, z = T b := ⟨_, rfl⟩
            rw [← hzz] at s1 hz2 hgap
            have wz : IntKind.i64.wrap (z - z2) = z - z2 := IntWalk.i64_in _ (by have := hg.1; omega)
            have KG := Lib.hid (Rgap_any d b w2 (DD.out w2 D2.out) HDo.out hbd)
            obtain ⟨⟨u, v⟩, huv⟩ : ∃ g, g = gapF d b := ⟨_, rfl⟩
            rw [← huv] at KG hgap
            unfold hasP at hgap
            simp only at hgap
            have HGP := Lib.hid hgap
            have TC : Hid (∀ W, Below w2.heap.size w2 W → W.cell? (ta.add i) = some (.int .i64 z) ∧ W.cell? (ta.add b) = some (.int .i64 z2)) := Lib.hid fun W h => ⟨cellA_of h s0, cellA_of h s1⟩
            have HB1 := Lib.hid hb1
            have d3 : decide ((i : Int) > 0) = true := decide_eq_true (by omega)
            have d3n : decide (0 < i) = true := decide_eq_true (by omega)
            clear hg h0 hgap huv hzz hz2 hb1
            obtain ⟨x0, x1⟩ := P2.out
            rw [et]
            go_wp2_with fail
            refine (Rwithin_any z 0 400 true w2 (rw_yes HG.out.1)).mono ?_
            rintro e w9 ⟨rfl, hw9⟩
            rw [hw9]
            clear hw9 w9
            go_wp2_with fail
            refine KG.out.mono ?_
            rintro e w4 ⟨rfl, hb4⟩
            have B4 := Lib.hid hb4
            clear hb4 x0 x1 s0 s1
            go_wp2_with fail
            obtain ⟨w5, hw5⟩ : ∃ w5 : World, w5 = w4.alloc (.cells #[.int .i64 u, .int .i64 v] 31) := ⟨_, rfl⟩
            rw [← hw5]
            have B5 := Lib.hid (show Below w2.heap.size w2 w5 from by rw [hw5]; exact nextB B4.out (box1 _ _))
            have U5 := Lib.hid (show Bt w4.heap.size u v w5 from by rw [hw5]; exact Bt.new _ _ _ _)
            clear hw5
            obtain ⟨u0, u1, _, _⟩ := U5.out
            obtain ⟨s0, s1⟩ := TC.out w5 B5.out
            refine wp_region_M [] (fun w' => w'.cell? (ta.add i) = some (.int .i64 z) ∧ w'.cell? (ta.add b) = some (.int .i64 z2) ∧ w'.cell? ⟨w4.heap.size, 0, none⟩ = some (.int .i64 u) ∧ w'.cell? ⟨w4.heap.size, 1, none⟩ = some (.int .i64 v)) (by kernel_rfl) (by kernel_rfl) (by (try dsimp only); (repeat' apply And.intro); all_goals first | assumption | (go_simp; done)) (fun hT0 => ?_)
            refine M_take (v := ?_) 0 rfl (by kernel_rfl) (by assumption) (fun _ _ _ h => h) (Or.inl ⟨by rfl, ?_⟩) ?_
            rotate_left
            · (intro w hSw; (try dsimp only at hSw); go_simp; (try with_reducible rfl))
            (try simp only [Act.put, List.setIfInBounds_toArray, List.set_cons_zero, List.set_cons_succ])
            refine M_take (v := ?_) 1 rfl (by kernel_rfl) (by assumption) (fun _ _ _ h => h) (Or.inl ⟨by rfl, ?_⟩) ?_
            rotate_left
            · (intro w hSw; (try dsimp only at hSw); go_simp; (try with_reducible rfl))
            (try simp only [Act.put, List.setIfInBounds_toArray, List.set_cons_zero, List.set_cons_succ])
            refine M_take (v := ?_) 2 rfl (by kernel_rfl) (by assumption) (fun _ _ _ h => h) (Or.inl ⟨by rfl, ?_⟩) ?_
            rotate_left
            · (intro w hSw; (try dsimp only at hSw); go_simp; (try with_reducible rfl))
            (try simp only [Act.put, List.setIfInBounds_toArray, List.set_cons_zero, List.set_cons_succ])
            refine M_take (v := ?_) 3 rfl (by kernel_rfl) (by assumption) (fun _ _ _ h => h) (Or.inl ⟨by rfl, ?_⟩) ?_
            rotate_left
            · (intro w hSw; (try dsimp only at hSw); go_simp; (try with_reducible rfl))
            (try simp only [Act.put, List.setIfInBounds_toArray, List.set_cons_zero, List.set_cons_succ])
            refine M_take (v := ?_) 4 rfl (by kernel_rfl) (by assumption) (fun _ _ _ h => h) (Or.inl ⟨by rfl, ?_⟩) ?_
            rotate_left
            · (intro w hSw; (try dsimp only at hSw); go_simp; (try with_reducible rfl))
            (try simp only [Act.put, List.setIfInBounds_toArray, List.set_cons_zero, List.set_cons_succ])
            refine M_take (v := ?_) 5 rfl (by kernel_rfl) (by assumption) (fun _ _ _ h => h) (Or.inl ⟨by rfl, ?_⟩) ?_
            rotate_left
            · (intro w hSw; (try dsimp only at hSw); go_simp; (try with_reducible rfl))
            (try simp only [Act.put, List.setIfInBounds_toArray, List.set_cons_zero, List.set_cons_succ])
            refine M_take (v := ?_) 6 rfl (by kernel_rfl) (by assumption) (fun _ _ _ h => h) (Or.inl ⟨by rfl, ?_⟩) ?_
            rotate_left
            · (intro w hSw; (try dsimp only at hSw); go_simp; (try with_reducible rfl))
            (try simp only [Act.put, List.setIfInBounds_toArray, List.set_cons_zero, List.set_cons_succ])
            refine M_take (v := ?_) 7 rfl (by kernel_rfl) (by assumption) (fun _ _ _ h => h) (Or.inl ⟨by rfl, ?_⟩) ?_
            rotate_left
            · (intro w hSw; (try dsimp only at hSw); go_simp; (try with_reducible rfl))
            (try simp only [Act.put, List.setIfInBounds_toArray, List.set_cons_zero, List.set_cons_succ])
            refine M_take (v := ?_) 8 rfl (by kernel_rfl) (by assumption) (fun _ _ _ h => h) (Or.inl ⟨by rfl, ?_⟩) ?_
            rotate_left
            · (intro w hSw; (try dsimp only at hSw); go_simp; (try with_reducible rfl))
            (try simp only [Act.put, List.setIfInBounds_toArray, List.set_cons_zero, List.set_cons_succ])
            refine M_take (v := ?_) 9 rfl (by kernel_rfl) (by assumption) (fun _ _ _ h => h) (Or.inl ⟨by rfl, ?_⟩) ?_
            rotate_left
            · (intro w hSw; (try dsimp only at hSw); go_simp; (try with_reducible rfl))
            (try simp only [Act.put, List.setIfInBounds_toArray, List.set_cons_zero, List.set_cons_succ])
            refine M_take (v := ?_) 10 rfl (by kernel_rfl) (by assumption) (fun _ _ _ h => h) (Or.inl ⟨by rfl, ?_⟩) ?_
            rotate_left
            · (intro w hSw; (try dsimp only at hSw); go_simp; (try with_reducible rfl))
            (try simp only [Act.put, List.setIfInBounds_toArray, List.set_cons_zero, List.set_cons_succ])
            refine M_take (v := ?_) 11 rfl (by kernel_rfl) (by assumption) (fun _ _ _ h => h) (Or.inl ⟨by rfl, ?_⟩) ?_
            rotate_left
            · (intro w hSw; (try dsimp only at hSw); go_simp; (try with_reducible rfl))
            (try simp only [Act.put, List.setIfInBounds_toArray, List.set_cons_zero, List.set_cons_succ])
            refine M_take (v := ?_) 12 rfl (by kernel_rfl) (by assumption) (fun _ _ _ h => h) (Or.inl ⟨by rfl, ?_⟩) ?_
            rotate_left
            · (intro w hSw; (try dsimp only at hSw); go_simp; (try with_reducible rfl))
            (try simp only [Act.put, List.setIfInBounds_toArray, List.set_cons_zero, List.set_cons_succ])
            refine M_take (v := ?_) 13 rfl (by kernel_rfl) (by assumption) (fun _ _ _ h => h) (Or.inl ⟨by rfl, ?_⟩) ?_
            rotate_left
            · (intro w hSw; (try dsimp only at hSw); go_simp; (try with_reducible rfl))
            (try simp only [Act.put, List.setIfInBounds_toArray, List.set_cons_zero, List.set_cons_succ])
            refine M_step 14 rfl (by kernel_rfl) (fun K hK => ?_)
            go_simp
            go_at_call 79
            refine (Rwithin_any (z - z2) u v true _ (rw_yes HGP.out)).mono ?_
            rintro e w9 ⟨rfl, hw9⟩
            subst hw9
            refine hK.out _ _ (fun _ => hT0) ?_
            clear hK K
            (try simp only [Act.put, List.setIfInBounds_toArray, List.set_cons_zero, List.set_cons_succ])
            refine M_take (v := ?_) 15 rfl (by kernel_rfl) (by assumption) (fun _ _ _ h => h) (Or.inl ⟨by rfl, ?_⟩) ?_
            rotate_left
            · (intro w hSw; (try dsimp only at hSw); go_simp; (try with_reducible rfl))
            (try simp only [Act.put, List.setIfInBounds_toArray, List.set_cons_zero, List.set_cons_succ])
            refine M_done (by kernel_rfl) ?_ _
            clear hT0 s0 s1 u0 u1 wz wb
            have wi := WI.out
            go_wp2_with fail
            go_roundw
            case rel => exact ⟨i + 1, by omega, by first | rfl | go_num, nextB B.out B5.out.drew⟩
            case measure => (simp [intOf] <;> omega)
        · obtain rfl : R = false := HBJ.out (by omega)
          have hij2 : i = j := by omega
          have hbad := J3.out (by omega)
          rw [← hij2, ← HZ.out] at hbad
          clear hij2
          by_cases hz4 : 0 ≤ z ∧ z ≤ 400
          · have h0 : ¬ i = 0 := fun h => hbad ⟨hz4, .inl h⟩
            have hgap : ¬ hasP (gapF d (i - 1)) (z - T (i - 1)) := fun h => hbad ⟨hz4, .inr h⟩
            have HG := Lib.hid (And.intro hz4 True.intro)
            have hg := HG.out
            clear hbad hz4
            obtain ⟨b, hb1⟩ : ∃ b : Nat, b + 1 = i := ⟨i - 1, by omega⟩
            have hbn : b < n := by omega
            have hbd : b < d.n := by have := HND.out; omega
            have hb0 : (0 : Int) ≤ (b : Int) := by omega
            have hbi : (b : Int) < (n : Int) := by omega
            have wb : IntKind.i64.wrap ((i : Int) - 1) = (b : Int) := by rw [show ((i : Int) - 1) = (b : Int) by omega]; exact IntWalk.i64_in _ (by omega)
            have hz2 := (J2.out b (by omega)).1
            rw [show i - 1 = b by omega] at hgap
            obtain ⟨ta', et', lt', s1⟩ := (TT.out w2 D2.out).2 b hbn
            rw [et] at et'
            cases et'
            obtain ⟨z2, hzz⟩ : ∃ z, z = T b := ⟨_, rfl⟩
            rw [← hzz] at s1 hz2 hgap
            have wz : IntKind.i64.wrap (z - z2) = z - z2 := IntWalk.i64_in _ (by have := hg.1; omega)
            have KG := Lib.hid (Rgap_any d b w2 (DD.out w2 D2.out) HDo.out hbd)
            obtain ⟨⟨u, v⟩, huv⟩ : ∃ g, g = gapF d b := ⟨_, rfl⟩
            rw [← huv] at KG hgap
            unfold hasP at hgap
            simp only at hgap
            have HGP := Lib.hid hgap
            have TC : Hid (∀ W, Below w2.heap.size w2 W → W.cell? (ta.add i) = some (.int .i64 z) ∧ W.cell? (ta.add b) = some (.int .i64 z2)) := Lib.hid fun W h => ⟨cellA_of h s0, cellA_of h s1⟩
            have HB1 := Lib.hid hb1
            have d3 : decide ((i : Int) > 0) = true := decide_eq_true (by omega)
            have d3n : decide (0 < i) = true := decide_eq_true (by omega)
            clear hg h0 hgap huv hzz hz2 hb1
            obtain ⟨x0, x1⟩ := P2.out
            rw [et]
            go_wp2_with fail
            refine (Rwithin_any z 0 400 true w2 (rw_yes HG.out.1)).mono ?_
            rintro e w9 ⟨rfl, hw9⟩
            rw [hw9]
            clear hw9 w9
            go_wp2_with fail
            refine KG.out.mono ?_
            rintro e w4 ⟨rfl, hb4⟩
            have B4 := Lib.hid hb4
            clear hb4 x0 x1 s0 s1
            go_wp2_with fail
            obtain ⟨w5, hw5⟩ : ∃ w5 : World, w5 = w4.alloc (.cells #[.int .i64 u, .int .i64 v] 31) := ⟨_, rfl⟩
            rw [← hw5]
            have B5 := Lib.hid (show Below w2.heap.size w2 w5 from by rw [hw5]; exact nextB B4.out (box1 _ _))
            have U5 := Lib.hid (show Bt w4.heap.size u v w5 from by rw [hw5]; exact Bt.new _ _ _ _)
            clear hw5
            obtain ⟨u0, u1, _, _⟩ := U5.out
            obtain ⟨s0, s1⟩ := TC.out w5 B5.out
            refine wp_region_M [] (fun w' => w'.cell? (ta.add i) = some (.int .i64 z) ∧ w'.cell? (ta.add b) = some (.int .i64 z2) ∧ w'.cell? ⟨w4.heap.size, 0, none⟩ = some (.int .i64 u) ∧ w'.cell? ⟨w4.heap.size, 1, none⟩ = some (.int .i64 v)) (by kernel_rfl) (by kernel_rfl) (by (try dsimp only); (repeat' apply And.intro); all_goals first | assumption | (go_simp; done)) (fun hT0 => ?_)
            refine M_take (v := ?_) 0 rfl (by kernel_rfl) (by assumption) (fun _ _ _ h => h) (Or.inl ⟨by rfl, ?_⟩) ?_
            rotate_left
            · (intro w hSw; (try dsimp only at hSw); go_simp; (try with_reducible rfl))
            (try simp only [Act.put, List.setIfInBounds_toArray, List.set_cons_zero, List.set_cons_succ])
            refine M_take (v := ?_) 1 rfl (by kernel_rfl) (by assumption) (fun _ _ _ h => h) (Or.inl ⟨by rfl, ?_⟩) ?_
            rotate_left
            · (intro w hSw; (try dsimp only at hSw); go_simp; (try with_reducible rfl))
            (try simp only [Act.put, List.setIfInBounds_toArray, List.set_cons_zero, List.set_cons_succ])
            refine M_take (v := ?_) 2 rfl (by kernel_rfl) (by assumption) (fun _ _ _ h => h) (Or.inl ⟨by rfl, ?_⟩) ?_
            rotate_left
            · (intro w hSw; (try dsimp only at hSw); go_simp; (try with_reducible rfl))
            (try simp only [Act.put, List.setIfInBounds_toArray, List.set_cons_zero, List.set_cons_succ])
            refine M_take (v := ?_) 3 rfl (by kernel_rfl) (by assumption) (fun _ _ _ h => h) (Or.inl ⟨by rfl, ?_⟩) ?_
            rotate_left
            · (intro w hSw; (try dsimp only at hSw); go_simp; (try with_reducible rfl))
            (try simp only [Act.put, List.setIfInBounds_toArray, List.set_cons_zero, List.set_cons_succ])
            refine M_take (v := ?_) 4 rfl (by kernel_rfl) (by assumption) (fun _ _ _ h => h) (Or.inl ⟨by rfl, ?_⟩) ?_
            rotate_left
            · (intro w hSw; (try dsimp only at hSw); go_simp; (try with_reducible rfl))
            (try simp only [Act.put, List.setIfInBounds_toArray, List.set_cons_zero, List.set_cons_succ])
            refine M_take (v := ?_) 5 rfl (by kernel_rfl) (by assumption) (fun _ _ _ h => h) (Or.inl ⟨by rfl, ?_⟩) ?_
            rotate_left
            · (intro w hSw; (try dsimp only at hSw); go_simp; (try with_reducible rfl))
            (try simp only [Act.put, List.setIfInBounds_toArray, List.set_cons_zero, List.set_cons_succ])
            refine M_take (v := ?_) 6 rfl (by kernel_rfl) (by assumption) (fun _ _ _ h => h) (Or.inl ⟨by rfl, ?_⟩) ?_
            rotate_left
            · (intro w hSw; (try dsimp only at hSw); go_simp; (try with_reducible rfl))
            (try simp only [Act.put, List.setIfInBounds_toArray, List.set_cons_zero, List.set_cons_succ])
            refine M_take (v := ?_) 7 rfl (by kernel_rfl) (by assumption) (fun _ _ _ h => h) (Or.inl ⟨by rfl, ?_⟩) ?_
            rotate_left
            · (intro w hSw; (try dsimp only at hSw); go_simp; (try with_reducible rfl))
            (try simp only [Act.put, List.setIfInBounds_toArray, List.set_cons_zero, List.set_cons_succ])
            refine M_take (v := ?_) 8 rfl (by kernel_rfl) (by assumption) (fun _ _ _ h => h) (Or.inl ⟨by rfl, ?_⟩) ?_
            rotate_left
            · (intro w hSw; (try dsimp only at hSw); go_simp; (try with_reducible rfl))
            (try simp only [Act.put, List.setIfInBounds_toArray, List.set_cons_zero, List.set_cons_succ])
            refine M_take (v := ?_) 9 rfl (by kernel_rfl) (by assumption) (fun _ _ _ h => h) (Or.inl ⟨by rfl, ?_⟩) ?_
            rotate_left
            · (intro w hSw; (try dsimp only at hSw); go_simp; (try with_reducible rfl))
            (try simp only [Act.put, List.setIfInBounds_toArray, List.set_cons_zero, List.set_cons_succ])
            refine M_take (v := ?_) 10 rfl (by kernel_rfl) (by assumption) (fun _ _ _ h => h) (Or.inl ⟨by rfl, ?_⟩) ?_
            rotate_left
            · (intro w hSw; (try dsimp only at hSw); go_simp; (try with_reducible rfl))
            (try simp only [Act.put, List.setIfInBounds_toArray, List.set_cons_zero, List.set_cons_succ])
            refine M_take (v := ?_) 11 rfl (by kernel_rfl) (by assumption) (fun _ _ _ h => h) (Or.inl ⟨by rfl, ?_⟩) ?_
            rotate_left
            · (intro w hSw; (try dsimp only at hSw); go_simp; (try with_reducible rfl))
            (try simp only [Act.put, List.setIfInBounds_toArray, List.set_cons_zero, List.set_cons_succ])
            refine M_take (v := ?_) 12 rfl (by kernel_rfl) (by assumption) (fun _ _ _ h => h) (Or.inl ⟨by rfl, ?_⟩) ?_
            rotate_left
            · (intro w hSw; (try dsimp only at hSw); go_simp; (try with_reducible rfl))
            (try simp only [Act.put, List.setIfInBounds_toArray, List.set_cons_zero, List.set_cons_succ])
            refine M_take (v := ?_) 13 rfl (by kernel_rfl) (by assumption) (fun _ _ _ h => h) (Or.inl ⟨by rfl, ?_⟩) ?_
            rotate_left
            · (intro w hSw; (try dsimp only at hSw); go_simp; (try with_reducible rfl))
            (try simp only [Act.put, List.setIfInBounds_toArray, List.set_cons_zero, List.set_cons_succ])
            refine M_step 14 rfl (by kernel_rfl) (fun K hK => ?_)
            go_simp
            go_at_call 79
            refine (Rwithin_any (z - z2) u v false _ (rw_no HGP.out)).mono ?_
            rintro e w9 ⟨rfl, hw9⟩
            subst hw9
            refine hK.out _ _ (fun _ => hT0) ?_
            clear hK K
            (try simp only [Act.put, List.setIfInBounds_toArray, List.set_cons_zero, List.set_cons_succ])
            refine M_take (v := ?_) 15 rfl (by kernel_rfl) (by assumption) (fun _ _ _ h => h) (Or.inl ⟨by rfl, ?_⟩) ?_
            rotate_left
            · (intro w hSw; (try dsimp only at hSw); go_simp; (try with_reducible rfl))
            (try simp only [Act.put, List.setIfInBounds_toArray, List.set_cons_zero, List.set_cons_succ])
            refine M_done (by kernel_rfl) ?_ _
            clear hT0 s0 s1 u0 u1 wz wb
            go_wp2_with fail
            go_ret
            exact ⟨rfl, nextB D2.out B5.out.drew⟩
          · have HG := Lib.hid hz4
            clear hbad hz4
            rw [et]
            go_wp2_with fail
            refine (Rwithin_any z 0 400 false w2 (rw_no HG.out)).mono ?_
            rintro e w9 ⟨rfl, hw9⟩
            rw [hw9]
            clear hw9 w9
            go_wp2_with fail
            go_ret
            exact ⟨rfl, D2.out⟩
      · obtain rfl : i = n := by omega
        have hjn : j = i := by omega
        have HJN := Lib.hid hjn
        have hii : ¬ ((i : Int) < (i : Int)) := by omega
        clear hjn
        go_wp2_with fail
        go_loopw [9] (fun v wr => ∃ k : Nat, k ≤ q ∧ v = .int .i64 k ∧ Below w2.heap.size w2 wr) (fun v _ => m - (intOf v).toNat)
        case atStart => exact ⟨0, Nat.zero_le _, rfl, Below.refl _ _⟩
        case round =>
          obtain ⟨k, hk, rfl, hb⟩ := hrel
          obtain ⟨w3, rfl⟩ : ∃ w3 : World, w3 = wr := ⟨_, rfl⟩
          have B3 := Lib.hid hb
          have D3 := Lib.hid (nextB D2.out hb)
          clear hb
          have hk0 : (0 : Int) ≤ (k : Int) := by omega
          by_cases hkm : k < m
          · have hki : (k : Int) < (m : Int) := by omega
            have wk : IntKind.i64.wrap ((k : Int) + 1) = ((k + 1 : Nat) : Int) := by rw [show ((k : Int) + 1) = ((k + 1 : Nat) : Int) by omega]; exact IntWalk.i64_in _ (by omega)
            have WK := Lib.hid wk
            clear wk
            obtain ⟨a, ea, ab, s0, s1, s2⟩ := (MM.out w3 D3.out).2 k hkm
            have hok := HK.out.2 k hkm
            unfold mkOk at hok
            have HP : Hid (hasP (F k).2 (T (F k).1.toNat) ↔ hasP (F k).2 (T (F k).1.toNat)) := Lib.hid Iff.rfl
            have hq2 := Q2.out k
            have hq3 := fun h : k = q => Q3.out (h ▸ hkm)
            obtain ⟨⟨y0, y1, y2⟩, hg⟩ : ∃ g, g = F k := ⟨_, rfl⟩
            rw [← hg] at s0 s1 s2 hok hq2
            have hq4 : k = q → ¬ hasP (y1, y2) (T y0.toNat) := fun h hh => by
              have := hq3 h
              rw [← h, ← hg] at this
              exact this hh
            simp only at s0 s1 s2 hok hq2
            clear hg hq3 HP
            obtain ⟨cc, rfl⟩ : ∃ cc : Nat, y0 = (cc : Int) := ⟨y0.toNat, by omega⟩
            rw [Int.toNat_natCast] at hq2 hq4
            have hcn : cc < i := by have := HND.out; omega
            have hci : (cc : Int) < (i : Int) := by omega
            have hc0 : (0 : Int) ≤ (cc : Int) := by omega
            obtain ⟨ta, et, lt, u0⟩ := (TT.out w3 D3.out).2 cc hcn
            obtain ⟨z, hz⟩ : ∃ z, z = T cc := ⟨_, rfl⟩
            rw [← hz] at u0 hq2 hq4
            clear hz hok
            by_cases hkq : k < q
            · have HP := Lib.hid (hq2 hkq)
              clear hq2 hq4
              rw [ea, et]
              go_wp2_with fail
              refine wp_region_M [] (fun w' => w'.cell? (a.add (k * 3)) = some (.int .i64 (cc : Int)) ∧ w'.cell? ⟨(a.add (k * 3)).block, (a.add (k * 3)).off + 1, none⟩ = some (.int .i64 y1) ∧ w'.cell? ⟨(a.add (k * 3)).block, (a.add (k * 3)).off + 2, none⟩ = some (.int .i64 y2) ∧ w'.cell? (ta.add cc) = some (.int .i64 z)) (by kernel_rfl) (by kernel_rfl) (by (try dsimp only); (repeat' apply And.intro); all_goals first | assumption | (go_simp; done)) (fun hT0 => ?_)
              refine M_take (v := ?_) 0 rfl (by kernel_rfl) (by assumption) (fun _ _ _ h => h) (Or.inl ⟨by rfl, ?_⟩) ?_
              rotate_left
              · (intro w hSw; (try dsimp only at hSw); go_simp; (try with_reducible rfl))
              (try simp only [Act.put, List.setIfInBounds_toArray, List.set_cons_zero, List.set_cons_succ])
              refine M_take (v := ?_) 1 rfl (by kernel_rfl) (by assumption) (fun _ _ _ h => h) (Or.inl ⟨by rfl, ?_⟩) ?_
              rotate_left
              · (intro w hSw; (try dsimp only at hSw); go_simp; (try with_reducible rfl))
              (try simp only [Act.put, List.setIfInBounds_toArray, List.set_cons_zero, List.set_cons_succ])
              refine M_take (v := ?_) 2 rfl (by kernel_rfl) (by assumption) (fun _ _ _ h => h) (Or.inl ⟨by rfl, ?_⟩) ?_
              rotate_left
              · (intro w hSw; (try dsimp only at hSw); go_simp; (try with_reducible rfl))
              (try simp only [Act.put, List.setIfInBounds_toArray, List.set_cons_zero, List.set_cons_succ])
              refine M_take (v := ?_) 3 rfl (by kernel_rfl) (by assumption) (fun _ _ _ h => h) (Or.inl ⟨by rfl, ?_⟩) ?_
              rotate_left
              · (intro w hSw; (try dsimp only at hSw); go_simp; (try with_reducible rfl))
              (try simp only [Act.put, List.setIfInBounds_toArray, List.set_cons_zero, List.set_cons_succ])
              refine M_take (v := ?_) 4 rfl (by kernel_rfl) (by assumption) (fun _ _ _ h => h) (Or.inl ⟨by rfl, ?_⟩) ?_
              rotate_left
              · (intro w hSw; (try dsimp only at hSw); go_simp; (try with_reducible rfl))
              (try simp only [Act.put, List.setIfInBounds_toArray, List.set_cons_zero, List.set_cons_succ])
              refine M_take (v := ?_) 5 rfl (by kernel_rfl) (by assumption) (fun _ _ _ h => h) (Or.inl ⟨by rfl, ?_⟩) ?_
              rotate_left
              · (intro w hSw; (try dsimp only at hSw); go_simp; (try with_reducible rfl))
              (try simp only [Act.put, List.setIfInBounds_toArray, List.set_cons_zero, List.set_cons_succ])
              refine M_take (v := ?_) 6 rfl (by kernel_rfl) (by assumption) (fun _ _ _ h => h) (Or.inl ⟨by rfl, ?_⟩) ?_
              rotate_left
              · (intro w hSw; (try dsimp only at hSw); go_simp; (try with_reducible rfl))
              (try simp only [Act.put, List.setIfInBounds_toArray, List.set_cons_zero, List.set_cons_succ])
              refine M_take (v := ?_) 7 rfl (by kernel_rfl) (by assumption) (fun _ _ _ h => h) (Or.inl ⟨by rfl, ?_⟩) ?_
              rotate_left
              · (intro w hSw; (try dsimp only at hSw); go_simp; (try with_reducible rfl))
              (try simp only [Act.put, List.setIfInBounds_toArray, List.set_cons_zero, List.set_cons_succ])
              refine M_take (v := ?_) 8 rfl (by kernel_rfl) (by assumption) (fun _ _ _ h => h) (Or.inl ⟨by rfl, ?_⟩) ?_
              rotate_left
              · (intro w hSw; (try dsimp only at hSw); go_simp; (try with_reducible rfl))
              (try simp only [Act.put, List.setIfInBounds_toArray, List.set_cons_zero, List.set_cons_succ])
              refine M_take (v := ?_) 9 rfl (by kernel_rfl) (by assumption) (fun _ _ _ h => h) (Or.inl ⟨by rfl, ?_⟩) ?_
              rotate_left
              · (intro w hSw; (try dsimp only at hSw); go_simp; (try with_reducible rfl))
              (try simp only [Act.put, List.setIfInBounds_toArray, List.set_cons_zero, List.set_cons_succ])
              refine M_take (v := ?_) 10 rfl (by kernel_rfl) (by assumption) (fun _ _ _ h => h) (Or.inl ⟨by rfl, ?_⟩) ?_
              rotate_left
              · (intro w hSw; (try dsimp only at hSw); go_simp; (try with_reducible rfl))
              (try simp only [Act.put, List.setIfInBounds_toArray, List.set_cons_zero, List.set_cons_succ])
              refine M_take (v := ?_) 11 rfl (by kernel_rfl) (by assumption) (fun _ _ _ h => h) (Or.inl ⟨by rfl, ?_⟩) ?_
              rotate_left
              · (intro w hSw; (try dsimp only at hSw); go_simp; (try with_reducible rfl))
              (try simp only [Act.put, List.setIfInBounds_toArray, List.set_cons_zero, List.set_cons_succ])
              refine M_take (v := ?_) 12 rfl (by kernel_rfl) (by assumption) (fun _ _ _ h => h) (Or.inl ⟨by rfl, ?_⟩) ?_
              rotate_left
              · (intro w hSw; (try dsimp only at hSw); go_simp; (try with_reducible rfl))
              (try simp only [Act.put, List.setIfInBounds_toArray, List.set_cons_zero, List.set_cons_succ])
              refine M_take (v := ?_) 13 rfl (by kernel_rfl) (by assumption) (fun _ _ _ h => h) (Or.inl ⟨by rfl, ?_⟩) ?_
              rotate_left
              · (intro w hSw; (try dsimp only at hSw); go_simp; (try with_reducible rfl))
              (try simp only [Act.put, List.setIfInBounds_toArray, List.set_cons_zero, List.set_cons_succ])
              refine M_take (v := ?_) 14 rfl (by kernel_rfl) (by assumption) (fun _ _ _ h => h) (Or.inl ⟨by rfl, ?_⟩) ?_
              rotate_left
              · (intro w hSw; (try dsimp only at hSw); go_simp; (try with_reducible rfl))
              (try simp only [Act.put, List.setIfInBounds_toArray, List.set_cons_zero, List.set_cons_succ])
              refine M_take (v := ?_) 15 rfl (by kernel_rfl) (by assumption) (fun _ _ _ h => h) (Or.inl ⟨by rfl, ?_⟩) ?_
              rotate_left
              · (intro w hSw; (try dsimp only at hSw); go_simp; (try with_reducible rfl))
              (try simp only [Act.put, List.setIfInBounds_toArray, List.set_cons_zero, List.set_cons_succ])
              refine M_take (v := ?_) 16 rfl (by kernel_rfl) (by assumption) (fun _ _ _ h => h) (Or.inl ⟨by rfl, ?_⟩) ?_
              rotate_left
              · (intro w hSw; (try dsimp only at hSw); go_simp; (try with_reducible rfl))
              (try simp only [Act.put, List.setIfInBounds_toArray, List.set_cons_zero, List.set_cons_succ])
              refine M_take (v := ?_) 17 rfl (by kernel_rfl) (by assumption) (fun _ _ _ h => h) (Or.inl ⟨by rfl, ?_⟩) ?_
              rotate_left
              · (intro w hSw; (try dsimp only at hSw); go_simp; (try with_reducible rfl))
              (try simp only [Act.put, List.setIfInBounds_toArray, List.set_cons_zero, List.set_cons_succ])
              refine M_take (v := ?_) 18 rfl (by kernel_rfl) (by assumption) (fun _ _ _ h => h) (Or.inl ⟨by rfl, ?_⟩) ?_
              rotate_left
              · (intro w hSw; (try dsimp only at hSw); go_simp; (try with_reducible rfl))
              (try simp only [Act.put, List.setIfInBounds_toArray, List.set_cons_zero, List.set_cons_succ])
              refine M_take (v := ?_) 19 rfl (by kernel_rfl) (by assumption) (fun _ _ _ h => h) (Or.inl ⟨by rfl, ?_⟩) ?_
              rotate_left
              · (intro w hSw; (try dsimp only at hSw); go_simp; (try with_reducible rfl))
              (try simp only [Act.put, List.setIfInBounds_toArray, List.set_cons_zero, List.set_cons_succ])
              refine M_step 20 rfl (by kernel_rfl) (fun K hK => ?_)
              go_simp
              go_at_call 79
              refine (Rwithin_any z y1 y2 true _ (rw_yes HP.out)).mono ?_
              rintro e w9 ⟨rfl, hw9⟩
              subst hw9
              refine hK.out _ _ (fun _ => hT0) ?_
              clear hK K
              (try simp only [Act.put, List.setIfInBounds_toArray, List.set_cons_zero, List.set_cons_succ])
              refine M_take (v := ?_) 21 rfl (by kernel_rfl) (by assumption) (fun _ _ _ h => h) (Or.inl ⟨by rfl, ?_⟩) ?_
              rotate_left
              · (intro w hSw; (try dsimp only at hSw); go_simp; (try with_reducible rfl))
              (try simp only [Act.put, List.setIfInBounds_toArray, List.set_cons_zero, List.set_cons_succ])
              refine M_done (by kernel_rfl) ?_ _
              clear hT0 s0 s1 s2 u0
              have wk := WK.out
              go_wp2_with fail
              go_roundw
              case rel => exact ⟨k + 1, by omega, by first | rfl | go_num, B3.out.drew⟩
              case measure => (simp [intOf] <;> omega)
            · obtain rfl : R = false := HBQ.out (by omega)
              have HP := Lib.hid (hq4 (by omega))
              clear hq2 hq4
              rw [ea, et]
              go_wp2_with fail
              refine wp_region_M [] (fun w' => w'.cell? (a.add (k * 3)) = some (.int .i64 (cc : Int)) ∧ w'.cell? ⟨(a.add (k * 3)).block, (a.add (k * 3)).off + 1, none⟩ = some (.int .i64 y1) ∧ w'.cell? ⟨(a.add (k * 3)).block, (a.add (k * 3)).off + 2, none⟩ = some (.int .i64 y2) ∧ w'.cell? (ta.add cc) = some (.int .i64 z)) (by kernel_rfl) (by kernel_rfl) (by (try dsimp only); (repeat' apply And.intro); all_goals first | assumption | (go_simp; done)) (fun hT0 => ?_)
              refine M_take (v := ?_) 0 rfl (by kernel_rfl) (by assumption) (fun _ _ _ h => h) (Or.inl ⟨by rfl, ?_⟩) ?_
              rotate_left
              · (intro w hSw; (try dsimp only at hSw); go_simp; (try with_reducible rfl))
              (try simp only [Act.put, List.setIfInBounds_toArray, List.set_cons_zero, List.set_cons_succ])
              refine M_take (v := ?_) 1 rfl (by kernel_rfl) (by assumption) (fun _ _ _ h => h) (Or.inl ⟨by rfl, ?_⟩) ?_
              rotate_left
              · (intro w hSw; (try dsimp only at hSw); go_simp; (try with_reducible rfl))
              (try simp only [Act.put, List.setIfInBounds_toArray, List.set_cons_zero, List.set_cons_succ])
              refine M_take (v := ?_) 2 rfl (by kernel_rfl) (by assumption) (fun _ _ _ h => h) (Or.inl ⟨by rfl, ?_⟩) ?_
              rotate_left
              · (intro w hSw; (try dsimp only at hSw); go_simp; (try with_reducible rfl))
              (try simp only [Act.put, List.setIfInBounds_toArray, List.set_cons_zero, List.set_cons_succ])
              refine M_take (v := ?_) 3 rfl (by kernel_rfl) (by assumption) (fun _ _ _ h => h) (Or.inl ⟨by rfl, ?_⟩) ?_
              rotate_left
              · (intro w hSw; (try dsimp only at hSw); go_simp; (try with_reducible rfl))
              (try simp only [Act.put, List.setIfInBounds_toArray, List.set_cons_zero, List.set_cons_succ])
              refine M_take (v := ?_) 4 rfl (by kernel_rfl) (by assumption) (fun _ _ _ h => h) (Or.inl ⟨by rfl, ?_⟩) ?_
              rotate_left
              · (intro w hSw; (try dsimp only at hSw); go_simp; (try with_reducible rfl))
              (try simp only [Act.put, List.setIfInBounds_toArray, List.set_cons_zero, List.set_cons_succ])
              refine M_take (v := ?_) 5 rfl (by kernel_rfl) (by assumption) (fun _ _ _ h => h) (Or.inl ⟨by rfl, ?_⟩) ?_
              rotate_left
              · (intro w hSw; (try dsimp only at hSw); go_simp; (try with_reducible rfl))
              (try simp only [Act.put, List.setIfInBounds_toArray, List.set_cons_zero, List.set_cons_succ])
              refine M_take (v := ?_) 6 rfl (by kernel_rfl) (by assumption) (fun _ _ _ h => h) (Or.inl ⟨by rfl, ?_⟩) ?_
              rotate_left
              · (intro w hSw; (try dsimp only at hSw); go_simp; (try with_reducible rfl))
              (try simp only [Act.put, List.setIfInBounds_toArray, List.set_cons_zero, List.set_cons_succ])
              refine M_take (v := ?_) 7 rfl (by kernel_rfl) (by assumption) (fun _ _ _ h => h) (Or.inl ⟨by rfl, ?_⟩) ?_
              rotate_left
              · (intro w hSw; (try dsimp only at hSw); go_simp; (try with_reducible rfl))
              (try simp only [Act.put, List.setIfInBounds_toArray, List.set_cons_zero, List.set_cons_succ])
              refine M_take (v := ?_) 8 rfl (by kernel_rfl) (by assumption) (fun _ _ _ h => h) (Or.inl ⟨by rfl, ?_⟩) ?_
              rotate_left
              · (intro w hSw; (try dsimp only at hSw); go_simp; (try with_reducible rfl))
              (try simp only [Act.put, List.setIfInBounds_toArray, List.set_cons_zero, List.set_cons_succ])
              refine M_take (v := ?_) 9 rfl (by kernel_rfl) (by assumption) (fun _ _ _ h => h) (Or.inl ⟨by rfl, ?_⟩) ?_
              rotate_left
              · (intro w hSw; (try dsimp only at hSw); go_simp; (try with_reducible rfl))
              (try simp only [Act.put, List.setIfInBounds_toArray, List.set_cons_zero, List.set_cons_succ])
              refine M_take (v := ?_) 10 rfl (by kernel_rfl) (by assumption) (fun _ _ _ h => h) (Or.inl ⟨by rfl, ?_⟩) ?_
              rotate_left
              · (intro w hSw; (try dsimp only at hSw); go_simp; (try with_reducible rfl))
              (try simp only [Act.put, List.setIfInBounds_toArray, List.set_cons_zero, List.set_cons_succ])
              refine M_take (v := ?_) 11 rfl (by kernel_rfl) (by assumption) (fun _ _ _ h => h) (Or.inl ⟨by rfl, ?_⟩) ?_
              rotate_left
              · (intro w hSw; (try dsimp only at hSw); go_simp; (try with_reducible rfl))
              (try simp only [Act.put, List.setIfInBounds_toArray, List.set_cons_zero, List.set_cons_succ])
              refine M_take (v := ?_) 12 rfl (by kernel_rfl) (by assumption) (fun _ _ _ h => h) (Or.inl ⟨by rfl, ?_⟩) ?_
              rotate_left
              · (intro w hSw; (try dsimp only at hSw); go_simp; (try with_reducible rfl))
              (try simp only [Act.put, List.setIfInBounds_toArray, List.set_cons_zero, List.set_cons_succ])
              refine M_take (v := ?_) 13 rfl (by kernel_rfl) (by assumption) (fun _ _ _ h => h) (Or.inl ⟨by rfl, ?_⟩) ?_
              rotate_left
              · (intro w hSw; (try dsimp only at hSw); go_simp; (try with_reducible rfl))
              (try simp only [Act.put, List.setIfInBounds_toArray, List.set_cons_zero, List.set_cons_succ])
              refine M_take (v := ?_) 14 rfl (by kernel_rfl) (by assumption) (fun _ _ _ h => h) (Or.inl ⟨by rfl, ?_⟩) ?_
              rotate_left
              · (intro w hSw; (try dsimp only at hSw); go_simp; (try with_reducible rfl))
              (try simp only [Act.put, List.setIfInBounds_toArray, List.set_cons_zero, List.set_cons_succ])
              refine M_take (v := ?_) 15 rfl (by kernel_rfl) (by assumption) (fun _ _ _ h => h) (Or.inl ⟨by rfl, ?_⟩) ?_
              rotate_left
              · (intro w hSw; (try dsimp only at hSw); go_simp; (try with_reducible rfl))
              (try simp only [Act.put, List.setIfInBounds_toArray, List.set_cons_zero, List.set_cons_succ])
              refine M_take (v := ?_) 16 rfl (by kernel_rfl) (by assumption) (fun _ _ _ h => h) (Or.inl ⟨by rfl, ?_⟩) ?_
              rotate_left
              · (intro w hSw; (try dsimp only at hSw); go_simp; (try with_reducible rfl))
              (try simp only [Act.put, List.setIfInBounds_toArray, List.set_cons_zero, List.set_cons_succ])
              refine M_take (v := ?_) 17 rfl (by kernel_rfl) (by assumption) (fun _ _ _ h => h) (Or.inl ⟨by rfl, ?_⟩) ?_
              rotate_left
              · (intro w hSw; (try dsimp only at hSw); go_simp; (try with_reducible rfl))
              (try simp only [Act.put, List.setIfInBounds_toArray, List.set_cons_zero, List.set_cons_succ])
              refine M_take (v := ?_) 18 rfl (by kernel_rfl) (by assumption) (fun _ _ _ h => h) (Or.inl ⟨by rfl, ?_⟩) ?_
              rotate_left
              · (intro w hSw; (try dsimp only at hSw); go_simp; (try with_reducible rfl))
              (try simp only [Act.put, List.setIfInBounds_toArray, List.set_cons_zero, List.set_cons_succ])
              refine M_take (v := ?_) 19 rfl (by kernel_rfl) (by assumption) (fun _ _ _ h => h) (Or.inl ⟨by rfl, ?_⟩) ?_
              rotate_left
              · (intro w hSw; (try dsimp only at hSw); go_simp; (try with_reducible rfl))
              (try simp only [Act.put, List.setIfInBounds_toArray, List.set_cons_zero, List.set_cons_succ])
              refine M_step 20 rfl (by kernel_rfl) (fun K hK => ?_)
              go_simp
              go_at_call 79
              refine (Rwithin_any z y1 y2 false _ (rw_no HP.out)).mono ?_
              rintro e w9 ⟨rfl, hw9⟩
              subst hw9
              refine hK.out _ _ (fun _ => hT0) ?_
              clear hK K
              (try simp only [Act.put, List.setIfInBounds_toArray, List.set_cons_zero, List.set_cons_succ])
              refine M_take (v := ?_) 21 rfl (by kernel_rfl) (by assumption) (fun _ _ _ h => h) (Or.inl ⟨by rfl, ?_⟩) ?_
              rotate_left
              · (intro w hSw; (try dsimp only at hSw); go_simp; (try with_reducible rfl))
              (try simp only [Act.put, List.setIfInBounds_toArray, List.set_cons_zero, List.set_cons_succ])
              refine M_done (by kernel_rfl) ?_ _
              clear hT0 s0 s1 s2 u0
              go_wp2_with fail
              go_ret
              exact ⟨rfl, D3.out.drew⟩
          · obtain rfl : R = true := HGD.out HJN.out (by omega)
            have hki : ¬ ((k : Int) < (m : Int)) := by omega
            have hkm2 : k = m := by omega
            clear hkm2
            go_wp2_with fail
            go_ret
            exact ⟨rfl, D3.out⟩
  · obtain rfl : R = false := by
      cases hr : R with
      | false => rfl
      | true => exact absurd (HR.out.1 hr).1 (by omega)
    have hi1 : ((n : Int) == (N : Int)) = false := by simpa using (by omega : ¬ (n : Int) = (N : Int))
    have hi3 : (n == N) = false := by simpa using hnN
    clear hN
    go_enter Try.func88, Try.ntmps88
    go_wp2_with fail
    go_ret
    exact ⟨rfl, by have := D.out; rw [HW.out] at this; exact this⟩
set_option maxRecDepth 100000 in
set_option maxHeartbeats 4000000 in
theorem RKeeps_any (d : Drm) (MA : Option Addr) (m mc : Nat) (F : Nat → Int × Int × Int) (TA : Option Addr) (n tc : Nat) (T : Nat → Int) (E : Int) (w : World)
    (hin : DrIn d w.heap.size w) (hm : TrsIn MA m F w.heap.size w) (ht : IntsIn TA n T w.heap.size w) (hE : KeR d m F n T E) :
    Calls Try.prog 36 #[d.v, .slice MA m mc, .slice TA n tc] w fun e w' => e = .returned (.int .i64 E) ∧ Below w.heap.size w w' := by
  have DD : Hid (∀ W, Below w.heap.size w W → DrIn d W.heap.size W) := Lib.hid fun W h => (hin.up h (Nat.le_refl _)).more h.size
  have MM : Hid (∀ W, Below w.heap.size w W → TrsIn MA m F W.heap.size W) := Lib.hid fun W h => (hm.up h (Nat.le_refl _)).more h.size
  have TT : Hid (∀ W, Below w.heap.size w W → IntsIn TA n T W.heap.size W) := Lib.hid fun W h => (ht.up h (Nat.le_refl _)).more h.size
  obtain ⟨w1, hw1⟩ : ∃ w1 : World, w1 = w.alloc (drO d) := ⟨_, rfl⟩
  have B1 : Below w.heap.size w w1 := by rw [hw1]; exact box1 _ _
  have P1 : HasDr d w.heap.size w1 := by rw [hw1]; exact dr_new w d
  have D := Lib.hid B1
  have P := Lib.hid P1
  have HW := Lib.hid hw1
  have K1 := Lib.hid fun E (h : ChR d m F E) => Rasked_any d MA m mc F E w1 (DD.out w1 B1) (MM.out w1 B1) h
  clear hin hm ht B1 P1 hw1
  obtain ⟨x0, x1⟩ := P.out
  rcases hE with ⟨hE, hC⟩ | ⟨hd, hk, hE⟩
  · have hne : ¬ E = 0 := by omega
    have hn1 : (E == 0) = false := by simpa using hne
    have K2 := Lib.hid (K1.out E hC)
    clear hE hne hC
    go_enter Try.func36, Try.ntmps36
    go_wp2_with fail
    rw [← HW.out]
    refine K2.out.mono ?_
    rintro e w2 ⟨rfl, hb2⟩
    have D := Lib.hid (nextB D.out hb2)
    have P := Lib.hid (P.out.up hb2)
    clear hb2 x0 x1
    obtain ⟨x0, x1⟩ := P.out
    go_wp2_with fail
    go_ret
    exact ⟨rfl, D.out⟩
  · have K2 := Lib.hid (K1.out 0 (.inr (.inr ⟨rfl, hd, hk⟩)))
    obtain ⟨R, hR, hRE⟩ : ∃ R : Bool, (R = true ↔ n = d.n + 1 ∧ Rdg d.n (gapF d) m F T) ∧ ((R = true ∧ E = 0) ∨ (R = false ∧ E = 22)) := by
      rcases hE with ⟨h, h2⟩ | ⟨h, h2⟩
      · exact ⟨false, ⟨fun e => (by cases e), fun k => absurd k h2⟩, .inr ⟨rfl, h⟩⟩
      · exact ⟨true, ⟨fun _ => h2, fun _ => rfl⟩, .inl ⟨rfl, h⟩⟩
    have KI := Lib.hid fun W h => Ris_any d MA m mc F TA n tc T R W (DD.out W h) (MM.out W h) (TT.out W h) hd hk hR
    clear hE hd hk hR
    rcases hRE with ⟨rfl, rfl⟩ | ⟨rfl, rfl⟩
    · go_enter Try.func36, Try.ntmps36
      go_wp2_with fail
      rw [← HW.out]
      refine K2.out.mono ?_
      rintro e w2 ⟨rfl, hb2⟩
      have D := Lib.hid (nextB D.out hb2)
      have P := Lib.hid (P.out.up hb2)
      clear hb2 x0 x1
      obtain ⟨x0, x1⟩ := P.out
      go_wp2_with fail
      refine (KI.out _ D.out).mono ?_
      rintro e w3 ⟨rfl, hb3⟩
      have D := Lib.hid (nextB D.out hb3)
      clear hb3 x0 x1
      go_wp2_with fail
      go_ret
      exact ⟨rfl, D.out⟩
    · go_enter Try.func36, Try.ntmps36
      go_wp2_with fail
      rw [← HW.out]
      refine K2.out.mono ?_
      rintro e w2 ⟨rfl, hb2⟩
      have D := Lib.hid (nextB D.out hb2)
      have P := Lib.hid (P.out.up hb2)
      clear hb2 x0 x1
      obtain ⟨x0, x1⟩ := P.out
      go_wp2_with fail
      refine (KI.out _ D.out).mono ?_
      rintro e w3 ⟨rfl, hb3⟩
      have D := Lib.hid (nextB D.out hb3)
      clear hb3 x0 x1
      go_wp2_with fail
      go_ret
      exact ⟨rfl, D.out⟩
end Go.Proofs.Ytpikaohodieeaaa
