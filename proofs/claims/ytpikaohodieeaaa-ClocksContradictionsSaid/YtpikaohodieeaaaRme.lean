/- The specification's Median. -/
import Derived.Test.YtpikaohodieeaaaMed
import Derived.Test.YtpikaohodieeaaaRis
namespace Go.Proofs.Ytpikaohodieeaaa
open Go.RowKit
set_option linter.unusedSimpArgs false
set_option linter.unusedVariables false
theorem med_alt (a b c : Int) : (if (if min a b < min b c then min b c else min a b) < min a c then min a c else if min a b < min b c then min b c else min a b) = med a b c := by unfold med; split <;> split at * <;> omega
set_option maxRecDepth 100000 in
set_option maxHeartbeats 4000000 in
theorem RMedian_any (d : Drm) (MA : Option Addr) (m mc : Nat) (F : Nat → Int × Int × Int) (A1 : Option Addr) (n1 c1 : Nat) (Z1 : Nat → Int) (A2 : Option Addr) (n2 c2 : Nat) (Z2 : Nat → Int) (A3 : Option Addr) (n3 c3 : Nat) (Z3 : Nat → Int) (E : Int) (w : World)
    (hin : DrIn d w.heap.size w) (hm : TrsIn MA m F w.heap.size w) (i1 : IntsIn A1 n1 Z1 w.heap.size w) (i2 : IntsIn A2 n2 Z2 w.heap.size w) (i3 : IntsIn A3 n3 Z3 w.heap.size w) (hE : MeR d m F n1 n2 n3 Z1 Z2 Z3 E) :
    Calls Try.prog 56 #[d.v, .slice MA m mc, .slice A1 n1 c1, .slice A2 n2 c2, .slice A3 n3 c3] w (MePost w n1 (fun i => med (Z1 i) (Z2 i) (Z3 i)) E) := by
  have DD : Hid (∀ W, Below w.heap.size w W → DrIn d W.heap.size W) := Lib.hid fun W h => (hin.up h (Nat.le_refl _)).more h.size
  have MM : Hid (∀ W, Below w.heap.size w W → TrsIn MA m F W.heap.size W) := Lib.hid fun W h => (hm.up h (Nat.le_refl _)).more h.size
  have I1 : Hid (∀ W, Below w.heap.size w W → IntsIn A1 n1 Z1 W.heap.size W) := Lib.hid fun W h => (i1.up h (Nat.le_refl _)).more h.size
  have I2 : Hid (∀ W, Below w.heap.size w W → IntsIn A2 n2 Z2 W.heap.size W) := Lib.hid fun W h => (i2.up h (Nat.le_refl _)).more h.size
  have I3 : Hid (∀ W, Below w.heap.size w W → IntsIn A3 n3 Z3 W.heap.size W) := Lib.hid fun W h => (i3.up h (Nat.le_refl _)).more h.size
  obtain ⟨w1, hw1⟩ : ∃ w1 : World, w1 = w.alloc (drO d) := ⟨_, rfl⟩
  have B1 : Below w.heap.size w w1 := by rw [hw1]; exact box1 _ _
  have P1 : HasDr d w.heap.size w1 := by rw [hw1]; exact dr_new w d
  have D := Lib.hid B1
  have P := Lib.hid P1
  have HW := Lib.hid hw1
  have K1 := Lib.hid fun E (h : ChR d m F E) => Rasked_any d MA m mc F E w1 (DD.out w1 B1) (MM.out w1 B1) h
  clear hin hm i1 i2 i3 B1 P1 hw1
  obtain ⟨x0, x1⟩ := P.out
  rcases hE with ⟨hE, hC⟩ | ⟨hd, hk, hE⟩
  · have hne : ¬ E = 0 := by omega
    have hn1 : (E == 0) = false := by simpa using hne
    have hn2 : (E != 0) = true := by simpa using hne
    have K2 := Lib.hid (K1.out E hC)
    have HNE := Lib.hid hne
    clear hE hne hC
    go_enter Try.func56, Try.ntmps56
    go_wp2_with fail
    rw [← HW.out]
    refine K2.out.mono ?_
    rintro e w2 ⟨rfl, hb2⟩
    have D := Lib.hid (nextB D.out hb2)
    have P := Lib.hid (P.out.up hb2)
    clear hb2 x0 x1
    obtain ⟨x0, x1⟩ := P.out
    go_wp2_with fail
    go_ret2
    exact me_nil HNE.out D.out
  · have K2 := Lib.hid (K1.out 0 (.inr (.inr ⟨rfl, hd, hk⟩)))
    obtain ⟨G1, hG1⟩ := bool_of (RdL d m F n1 Z1)
    obtain ⟨G2, hG2⟩ := bool_of (RdL d m F n2 Z2)
    obtain ⟨G3, hG3⟩ := bool_of (RdL d m F n3 Z3)
    have J1 := Lib.hid fun W h => Ris_any d MA m mc F A1 n1 c1 Z1 G1 W (DD.out W h) (MM.out W h) (I1.out W h) hd hk hG1
    have J2 := Lib.hid fun W h => Ris_any d MA m mc F A2 n2 c2 Z2 G2 W (DD.out W h) (MM.out W h) (I2.out W h) hd hk hG2
    have J3 := Lib.hid fun W h => Ris_any d MA m mc F A3 n3 c3 Z3 G3 W (DD.out W h) (MM.out W h) (I3.out W h) hd hk hG3
    have hcase : (G1 = false ∧ E = 22) ∨ (G1 = true ∧ G2 = false ∧ E = 22) ∨ (G1 = true ∧ G2 = true ∧ G3 = false ∧ E = 22) ∨ (G1 = true ∧ G2 = true ∧ G3 = true ∧ E = 0 ∧ n1 ≤ 200 ∧ n2 = n1 ∧ n3 = n1) := by
      have hb : ∀ {G : Bool} {P : Prop}, (G = true ↔ P) → ¬ P → G = false := fun {G P} h hn => by cases G with | false => rfl | true => exact absurd (h.1 rfl) hn
      rcases hE with ⟨h, r1, r2, r3⟩ | ⟨h, hn⟩
      · exact .inr (.inr (.inr ⟨hG1.2 r1, hG2.2 r2, hG3.2 r3, h, by have := r1.1; have := hd.n2; omega, by rw [r1.1, r2.1], by rw [r1.1, r3.1]⟩))
      · by_cases r1 : RdL d m F n1 Z1
        · by_cases r2 : RdL d m F n2 Z2
          · exact .inr (.inr (.inl ⟨hG1.2 r1, hG2.2 r2, hb hG3 fun r3 => hn ⟨r1, r2, r3⟩, h⟩))
          · exact .inr (.inl ⟨hG1.2 r1, hb hG2 r2, h⟩)
        · exact .inl ⟨hb hG1 r1, h⟩
    clear hd hk hE hG1 hG2 hG3
    rcases hcase with ⟨rfl, rfl⟩ | ⟨rfl, rfl, rfl⟩ | ⟨rfl, rfl, rfl, rfl⟩ | ⟨rfl, rfl, rfl, rfl, hn5, e2, e3⟩
    · go_enter Try.func56, Try.ntmps56
      go_wp2_with fail
      rw [← HW.out]
      refine K2.out.mono ?_
      rintro e w2 ⟨rfl, hb2⟩
      have D := Lib.hid (nextB D.out hb2)
      have P := Lib.hid (P.out.up hb2)
      clear hb2 x0 x1
      obtain ⟨x0, x1⟩ := P.out
      go_wp2_with fail
      refine (J1.out _ D.out).mono ?_
      rintro e w3 ⟨rfl, hb2⟩
      have D := Lib.hid (nextB D.out hb2)
      have P := Lib.hid (P.out.up hb2)
      clear hb2 x0 x1
      obtain ⟨x0, x1⟩ := P.out
      go_wp2_with fail
      go_ret2
      exact me_nil (by decide) D.out
    · go_enter Try.func56, Try.ntmps56
      go_wp2_with fail
      rw [← HW.out]
      refine K2.out.mono ?_
      rintro e w2 ⟨rfl, hb2⟩
      have D := Lib.hid (nextB D.out hb2)
      have P := Lib.hid (P.out.up hb2)
      clear hb2 x0 x1
      obtain ⟨x0, x1⟩ := P.out
      go_wp2_with fail
      refine (J1.out _ D.out).mono ?_
      rintro e w3 ⟨rfl, hb2⟩
      have D := Lib.hid (nextB D.out hb2)
      have P := Lib.hid (P.out.up hb2)
      clear hb2 x0 x1
      obtain ⟨x0, x1⟩ := P.out
      go_wp2_with fail
      refine (J2.out _ D.out).mono ?_
      rintro e w4 ⟨rfl, hb2⟩
      have D := Lib.hid (nextB D.out hb2)
      have P := Lib.hid (P.out.up hb2)
      clear hb2 x0 x1
      obtain ⟨x0, x1⟩ := P.out
      go_wp2_with fail
      go_ret2
      exact me_nil (by decide) D.out
    · go_enter Try.func56, Try.ntmps56
      go_wp2_with fail
      rw [← HW.out]
      refine K2.out.mono ?_
      rintro e w2 ⟨rfl, hb2⟩
      have D := Lib.hid (nextB D.out hb2)
      have P := Lib.hid (P.out.up hb2)
      clear hb2 x0 x1
      obtain ⟨x0, x1⟩ := P.out
      go_wp2_with fail
      refine (J1.out _ D.out).mono ?_
      rintro e w3 ⟨rfl, hb2⟩
      have D := Lib.hid (nextB D.out hb2)
      have P := Lib.hid (P.out.up hb2)
      clear hb2 x0 x1
      obtain ⟨x0, x1⟩ := P.out
      go_wp2_with fail
      refine (J2.out _ D.out).mono ?_
      rintro e w4 ⟨rfl, hb2⟩
      have D := Lib.hid (nextB D.out hb2)
      have P := Lib.hid (P.out.up hb2)
      clear hb2 x0 x1
      obtain ⟨x0, x1⟩ := P.out
      go_wp2_with fail
      refine (J3.out _ D.out).mono ?_
      rintro e w5 ⟨rfl, hb2⟩
      have D := Lib.hid (nextB D.out hb2)
      have P := Lib.hid (P.out.up hb2)
      clear hb2 x0 x1
      obtain ⟨x0, x1⟩ := P.out
      go_wp2_with fail
      go_ret2
      exact me_nil (by decide) D.out
    · have HE2 := Lib.hid (And.intro e2 e3)
      have HN5 := Lib.hid hn5
      have hni : (n1 : Int) ≤ 200 := by omega
      clear e2 e3
      go_enter Try.func56, Try.ntmps56
      go_wp2_with fail
      rw [← HW.out]
      refine K2.out.mono ?_
      rintro e w2 ⟨rfl, hb2⟩
      have D := Lib.hid (nextB D.out hb2)
      have P := Lib.hid (P.out.up hb2)
      clear hb2 x0 x1
      obtain ⟨x0, x1⟩ := P.out
      go_wp2_with fail
      refine (J1.out _ D.out).mono ?_
      rintro e w3 ⟨rfl, hb2⟩
      have D := Lib.hid (nextB D.out hb2)
      have P := Lib.hid (P.out.up hb2)
      clear hb2 x0 x1
      obtain ⟨x0, x1⟩ := P.out
      go_wp2_with fail
      refine (J2.out _ D.out).mono ?_
      rintro e w4 ⟨rfl, hb2⟩
      have D := Lib.hid (nextB D.out hb2)
      have P := Lib.hid (P.out.up hb2)
      clear hb2 x0 x1
      obtain ⟨x0, x1⟩ := P.out
      go_wp2_with fail
      refine (J3.out _ D.out).mono ?_
      rintro e w5 ⟨rfl, hb2⟩
      have D := Lib.hid (nextB D.out hb2)
      have P := Lib.hid (P.out.up hb2)
      clear hb2 x0 x1
      obtain ⟨x0, x1⟩ := P.out
      obtain ⟨i0, hi0, hz0, hz1, hz2⟩ := info_parts Try.infoInt
      have DW5 := Lib.hid D.out
      go_wp2_with fail
      clear x0 x1
      go_loopw [13, 14] (fun v i wr => ∃ k : Nat, k ≤ n1 ∧ i = .int .i64 k ∧ Below w.heap.size w wr ∧ RowZ w5 (upTo (fun i => med (Z1 i) (Z2 i) (Z3 i)) k) v wr) (fun _ i _ => n1 - (intOf i).toNat)
      case atStart => exact ⟨0, Nat.zero_le _, rfl, D.out, Below.refl _ _, World.ownsRow_nil _ _ _ _⟩
      case round =>
        obtain ⟨k, hk, rfl, hb, hR⟩ := hrel
        obtain ⟨wo, rfl⟩ : ∃ wo : World, wo = wr := ⟨_, rfl⟩
        have D := Lib.hid hb
        have HR := Lib.hid hR
        have hs := HR.out.below.size
        clear hb hR
        have hk0 : (0 : Int) ≤ (k : Int) := by omega
        by_cases hlt : k < n1
        · have hki : (k : Int) < (n1 : Int) := by omega
          have hk2 : k < n2 := by have := HE2.out; omega
          have hk3 : k < n3 := by have := HE2.out; omega
          have hki2 : (k : Int) < (n2 : Int) := by omega
          have hki3 : (k : Int) < (n3 : Int) := by omega
          have wk : IntKind.i64.wrap ((k : Int) + 1) = ((k + 1 : Nat) : Int) := by rw [show ((k : Int) + 1) = ((k + 1 : Nat) : Int) by omega]; exact IntWalk.i64_in _ (by omega)
          have WK := Lib.hid wk
          clear wk
          obtain ⟨a1, e1, _, s1⟩ := (I1.out wo D.out).2 k hlt
          obtain ⟨a2, e2, _, s2⟩ := (I2.out wo D.out).2 k hk2
          obtain ⟨a3, e3, _, s3⟩ := (I3.out wo D.out).2 k hk3
          have HMD : Hid (upTo (fun i => med (Z1 i) (Z2 i) (Z3 i)) (k + 1) = upTo (fun i => med (Z1 i) (Z2 i) (Z3 i)) k ++ [med (Z1 k) (Z2 k) (Z3 k)]) := Lib.hid (upTo_succ _ _)
          obtain ⟨p1, hp1⟩ : ∃ p, p = Z1 k := ⟨_, rfl⟩
          obtain ⟨p2, hp2⟩ : ∃ p, p = Z2 k := ⟨_, rfl⟩
          obtain ⟨p3, hp3⟩ : ∃ p, p = Z3 k := ⟨_, rfl⟩
          rw [← hp1] at s1
          rw [← hp2] at s2
          rw [← hp3] at s3
          rw [← hp1, ← hp2, ← hp3] at HMD
          have TC : Hid (∀ W, Below wo.heap.size wo W → W.cell? (a1.add k) = some (.int .i64 p1) ∧ W.cell? (a2.add k) = some (.int .i64 p2) ∧ W.cell? (a3.add k) = some (.int .i64 p3)) := Lib.hid fun W h => ⟨cellA_of h s1, cellA_of h s2, cellA_of h s3⟩
          have hown := HR.out.own
          rw [upTo_len] at hown
          have HOWN := Lib.hid hown
          clear hp1 hp2 hp3 hown
          subst e1 e2 e3
          go_wp2_with fail
          refine wp_region_M [30, 31] (fun w' => w'.cell? (a1.add k) = some (.int .i64 p1) ∧ w'.cell? (a2.add k) = some (.int .i64 p2) ∧ w'.cell? (a3.add k) = some (.int .i64 p3)) (by kernel_rfl) (by kernel_rfl) (by (try dsimp only); (repeat' apply And.intro); all_goals first | assumption | (go_simp; done)) (fun hT0 => ?_)
          refine M_take (v := ?_) 0 rfl (by kernel_rfl) (by assumption) (fun _ _ _ h => h) (Or.inl ⟨by rfl, ?_⟩) ?_
          rotate_left
          · (intro w hSw; (try dsimp only at hSw); go_simp; (try with_reducible rfl))
          (try simp only [Act.put, List.setIfInBounds_toArray, List.set_cons_zero, List.set_cons_succ])
          refine M_take (v := ?_) 1 rfl (by kernel_rfl) (by assumption) (fun _ _ _ h => h) (Or.inl ⟨by rfl, ?_⟩) ?_
          rotate_left
          · (intro w hSw; (try dsimp only at hSw); go_simp; (try with_reducible rfl))
          (try simp only [Act.put, List.setIfInBounds_toArray, List.set_cons_zero, List.set_cons_succ])
          refine M_take (v := ?_) 2 rfl (by kernel_rfl) (by assumption) (fun _ _ _ h => h) (Or.inl ⟨by rfl, ?_⟩) ?_
          rotate_left
          · (intro w hSw; (try dsimp only at hSw); go_simp; (try with_reducible rfl))
          (try simp only [Act.put, List.setIfInBounds_toArray, List.set_cons_zero, List.set_cons_succ])
          refine M_take (v := ?_) 3 rfl (by kernel_rfl) (by assumption) (fun _ _ _ h => h) (Or.inl ⟨by rfl, ?_⟩) ?_
          rotate_left
          · (intro w hSw; (try dsimp only at hSw); go_simp; (try with_reducible rfl))
          (try simp only [Act.put, List.setIfInBounds_toArray, List.set_cons_zero, List.set_cons_succ])
          refine M_take (v := ?_) 4 rfl (by kernel_rfl) (by assumption) (fun _ _ _ h => h) (Or.inl ⟨by rfl, ?_⟩) ?_
          rotate_left
          · (intro w hSw; (try dsimp only at hSw); go_simp; (try with_reducible rfl))
          (try simp only [Act.put, List.setIfInBounds_toArray, List.set_cons_zero, List.set_cons_succ])
          refine M_take (v := ?_) 5 rfl (by kernel_rfl) (by assumption) (fun _ _ _ h => h) (Or.inl ⟨by rfl, ?_⟩) ?_
          rotate_left
          · (intro w hSw; (try dsimp only at hSw); go_simp; (try with_reducible rfl))
          (try simp only [Act.put, List.setIfInBounds_toArray, List.set_cons_zero, List.set_cons_succ])
          refine M_take (v := ?_) 6 rfl (by kernel_rfl) (by assumption) (fun _ _ _ h => h) (Or.inl ⟨by rfl, ?_⟩) ?_
          rotate_left
          · (intro w hSw; (try dsimp only at hSw); go_simp; (try with_reducible rfl))
          (try simp only [Act.put, List.setIfInBounds_toArray, List.set_cons_zero, List.set_cons_succ])
          refine M_take (v := ?_) 7 rfl (by kernel_rfl) (by assumption) (fun _ _ _ h => h) (Or.inl ⟨by rfl, ?_⟩) ?_
          rotate_left
          · (intro w hSw; (try dsimp only at hSw); go_simp; (try with_reducible rfl))
          (try simp only [Act.put, List.setIfInBounds_toArray, List.set_cons_zero, List.set_cons_succ])
          refine M_take (v := ?_) 8 rfl (by kernel_rfl) (by assumption) (fun _ _ _ h => h) (Or.inl ⟨by rfl, ?_⟩) ?_
          rotate_left
          · (intro w hSw; (try dsimp only at hSw); go_simp; (try with_reducible rfl))
          (try simp only [Act.put, List.setIfInBounds_toArray, List.set_cons_zero, List.set_cons_succ])
          refine M_take (v := ?_) 9 rfl (by kernel_rfl) (by assumption) (fun _ _ _ h => h) (Or.inl ⟨by rfl, ?_⟩) ?_
          rotate_left
          · (intro w hSw; (try dsimp only at hSw); go_simp; (try with_reducible rfl))
          (try simp only [Act.put, List.setIfInBounds_toArray, List.set_cons_zero, List.set_cons_succ])
          refine M_take (v := ?_) 10 rfl (by kernel_rfl) (by assumption) (fun _ _ _ h => h) (Or.inl ⟨by rfl, ?_⟩) ?_
          rotate_left
          · (intro w hSw; (try dsimp only at hSw); go_simp; (try with_reducible rfl))
          (try simp only [Act.put, List.setIfInBounds_toArray, List.set_cons_zero, List.set_cons_succ])
          refine M_take (v := ?_) 11 rfl (by kernel_rfl) (by assumption) (fun _ _ _ h => h) (Or.inl ⟨by rfl, ?_⟩) ?_
          rotate_left
          · (intro w hSw; (try dsimp only at hSw); go_simp; (try with_reducible rfl))
          (try simp only [Act.put, List.setIfInBounds_toArray, List.set_cons_zero, List.set_cons_succ])
          refine M_take (v := ?_) 12 rfl (by kernel_rfl) (by assumption) (fun _ _ _ h => h) (Or.inl ⟨by rfl, ?_⟩) ?_
          rotate_left
          · (intro w hSw; (try dsimp only at hSw); go_simp; (try with_reducible rfl))
          (try simp only [Act.put, List.setIfInBounds_toArray, List.set_cons_zero, List.set_cons_succ])
          refine M_take (v := ?_) 13 rfl (by kernel_rfl) (by assumption) (fun _ _ _ h => h) (Or.inl ⟨by rfl, ?_⟩) ?_
          rotate_left
          · (intro w hSw; (try dsimp only at hSw); go_simp; (try with_reducible rfl))
          (try simp only [Act.put, List.setIfInBounds_toArray, List.set_cons_zero, List.set_cons_succ])
          refine M_take (v := ?_) 14 rfl (by kernel_rfl) (by assumption) (fun _ _ _ h => h) (Or.inl ⟨by rfl, ?_⟩) ?_
          rotate_left
          · (intro w hSw; (try dsimp only at hSw); go_simp; (try with_reducible rfl))
          (try simp only [Act.put, List.setIfInBounds_toArray, List.set_cons_zero, List.set_cons_succ])
          refine M_take (v := ?_) 15 rfl (by kernel_rfl) (by assumption) (fun _ _ _ h => h) (Or.inl ⟨by rfl, ?_⟩) ?_
          rotate_left
          · (intro w hSw; (try dsimp only at hSw); go_simp; (try with_reducible rfl))
          (try simp only [Act.put, List.setIfInBounds_toArray, List.set_cons_zero, List.set_cons_succ])
          refine M_take (v := ?_) 16 rfl (by kernel_rfl) (by assumption) (fun _ _ _ h => h) (Or.inl ⟨by rfl, ?_⟩) ?_
          rotate_left
          · (intro w hSw; (try dsimp only at hSw); go_simp; (try with_reducible rfl))
          (try simp only [Act.put, List.setIfInBounds_toArray, List.set_cons_zero, List.set_cons_succ])
          refine M_take (v := ?_) 17 rfl (by kernel_rfl) (by assumption) (fun _ _ _ h => h) (Or.inl ⟨by rfl, ?_⟩) ?_
          rotate_left
          · (intro w hSw; (try dsimp only at hSw); go_simp; (try with_reducible rfl))
          (try simp only [Act.put, List.setIfInBounds_toArray, List.set_cons_zero, List.set_cons_succ])
          refine M_take (v := ?_) 18 rfl (by kernel_rfl) (by assumption) (fun _ _ _ h => h) (Or.inl ⟨by rfl, ?_⟩) ?_
          rotate_left
          · (intro w hSw; (try dsimp only at hSw); go_simp; (try with_reducible rfl))
          (try simp only [Act.put, List.setIfInBounds_toArray, List.set_cons_zero, List.set_cons_succ])
          refine M_take (v := ?_) 19 rfl (by kernel_rfl) (by assumption) (fun _ _ _ h => h) (Or.inl ⟨by rfl, ?_⟩) ?_
          rotate_left
          · (intro w hSw; (try dsimp only at hSw); go_simp; (try with_reducible rfl))
          (try simp only [Act.put, List.setIfInBounds_toArray, List.set_cons_zero, List.set_cons_succ])
          refine M_take (v := ?_) 20 rfl (by kernel_rfl) (by assumption) (fun _ _ _ h => h) (Or.inl ⟨by rfl, ?_⟩) ?_
          rotate_left
          · (intro w hSw; (try dsimp only at hSw); go_simp; (try with_reducible rfl))
          (try simp only [Act.put, List.setIfInBounds_toArray, List.set_cons_zero, List.set_cons_succ])
          refine M_take (v := ?_) 21 rfl (by kernel_rfl) (by assumption) (fun _ _ _ h => h) (Or.inl ⟨by rfl, ?_⟩) ?_
          rotate_left
          · (intro w hSw; (try dsimp only at hSw); go_simp; (try with_reducible rfl))
          (try simp only [Act.put, List.setIfInBounds_toArray, List.set_cons_zero, List.set_cons_succ])
          refine M_take (v := ?_) 22 rfl (by kernel_rfl) (by assumption) (fun _ _ _ h => h) (Or.inl ⟨by rfl, ?_⟩) ?_
          rotate_left
          · (intro w hSw; (try dsimp only at hSw); go_simp; (try with_reducible rfl))
          (try simp only [Act.put, List.setIfInBounds_toArray, List.set_cons_zero, List.set_cons_succ])
          refine M_take (v := ?_) 23 rfl (by kernel_rfl) (by assumption) (fun _ _ _ h => h) (Or.inl ⟨by rfl, ?_⟩) ?_
          rotate_left
          · (intro w hSw; (try dsimp only at hSw); go_simp; (try with_reducible rfl))
          (try simp only [Act.put, List.setIfInBounds_toArray, List.set_cons_zero, List.set_cons_succ])
          refine M_take (v := ?_) 24 rfl (by kernel_rfl) (by assumption) (fun _ _ _ h => h) (Or.inl ⟨by rfl, ?_⟩) ?_
          rotate_left
          · (intro w hSw; (try dsimp only at hSw); go_simp; (try with_reducible rfl))
          (try simp only [Act.put, List.setIfInBounds_toArray, List.set_cons_zero, List.set_cons_succ])
          refine M_take (v := ?_) 25 rfl (by kernel_rfl) (by assumption) (fun _ _ _ h => h) (Or.inl ⟨by rfl, ?_⟩) ?_
          rotate_left
          · (intro w hSw; (try dsimp only at hSw); go_simp; (try with_reducible rfl))
          (try simp only [Act.put, List.setIfInBounds_toArray, List.set_cons_zero, List.set_cons_succ])
          refine M_take (v := ?_) 26 rfl (by kernel_rfl) (by assumption) (fun _ _ _ h => h) (Or.inl ⟨by rfl, ?_⟩) ?_
          rotate_left
          · (intro w hSw; (try dsimp only at hSw); go_simp; (try with_reducible rfl))
          (try simp only [Act.put, List.setIfInBounds_toArray, List.set_cons_zero, List.set_cons_succ])
          refine M_take (v := ?_) 27 rfl (by kernel_rfl) (by assumption) (fun _ _ _ h => h) (Or.inl ⟨by rfl, ?_⟩) ?_
          rotate_left
          · (intro w hSw; (try dsimp only at hSw); go_simp; (try with_reducible rfl))
          (try simp only [Act.put, List.setIfInBounds_toArray, List.set_cons_zero, List.set_cons_succ])
          refine M_take (v := ?_) 28 rfl (by kernel_rfl) (by assumption) (fun _ _ _ h => h) (Or.inl ⟨by rfl, ?_⟩) ?_
          rotate_left
          · (intro w hSw; (try dsimp only at hSw); go_simp; (try with_reducible rfl))
          (try simp only [Act.put, List.setIfInBounds_toArray, List.set_cons_zero, List.set_cons_succ])
          refine M_step 29 rfl (by kernel_rfl) (fun K hK => ?_)
          go_simp
          have DB := Lib.hid (show Below wo.heap.size wo (wo.drew.alloc (.cells #[.int .i64 (if (if min p1 p2 < min p2 p3 then min p2 p3 else min p1 p2) < min p1 p3 then min p1 p3 else if min p1 p2 < min p2 p3 then min p2 p3 else min p1 p2)] 3)) from nextB (Below.refl _ _).drew (box1 wo.drew _))
          have hTb : (fun w' => w'.cell? (a1.add k) = some (.int .i64 p1) ∧ w'.cell? (a2.add k) = some (.int .i64 p2) ∧ w'.cell? (a3.add k) = some (.int .i64 p3)) (wo.drew.alloc (.cells #[.int .i64 (if (if min p1 p2 < min p2 p3 then min p2 p3 else min p1 p2) < min p1 p3 then min p1 p3 else if min p1 p2 < min p2 p3 then min p2 p3 else min p1 p2)] 3)) := TC.out _ DB.out
          refine hK.out _ _ (fun _ => hTb) ?_
          clear hK K
          (try simp only [Act.put, List.setIfInBounds_toArray, List.set_cons_zero, List.set_cons_succ])
          refine M_step 30 rfl (by kernel_rfl) (fun K hK => ?_)
          refine step_append_own rfl (.tmp 50) (.tmp 79) 29 rfl w5.heap.size 3 i0 (.int .i64 0) 1 8 Try.underlying29 hi0 hz0 hz1 hz2 rfl (by decide) _ _ _ (by simp [Act.eval]; first | done | rfl) (HOWN.out.drew.alloc (.cells #[.int .i64 (if (if min p1 p2 < min p2 p3 then min p2 p3 else min p1 p2) < min p1 p3 then min p1 p3 else if min p1 p2 < min p2 p3 then min p2 p3 else min p1 p2)] 3)) ⟨wo.heap.size, 0, none⟩ 1 1 [.int .i64 (if (if min p1 p2 < min p2 p3 then min p2 p3 else min p1 p2) < min p1 p3 then min p1 p3 else if min p1 p2 < min p2 p3 then min p2 p3 else min p1 p2)] (by simp [Act.eval]; first | done | rfl) rfl (new1 wo.drew _) (by simp [Value.oneCell']) (by unfold maxLen; omega) (by omega) (by simp only [World.size_alloc, World.size_drew]; omega) ?_
          intro v8 w8 hown8 hg8
          have HNR := Lib.hid (show RowZ w5 (upTo (fun i => med (Z1 i) (Z2 i) (Z3 i)) k ++ [(if (if min p1 p2 < min p2 p3 then min p2 p3 else min p1 p2) < min p1 p3 then min p1 p3 else if min p1 p2 < min p2 p3 then min p2 p3 else min p1 p2)]) v8 w8 from RowZ.app (RowZ.mk (nextB HR.out.below (Below.refl _ _).drew) (HR.out.own.drew)) hg8 (by rw [upTo_len]; exact hown8))
          have DC := Lib.hid (show Below w5.heap.size w5 w8 from HNR.out.below)
          have HDN := Lib.hid (nextB DW5.out DC.out)
          refine hK.out _ _ (fun e => by cases e) ?_
          clear hK K hown8 hg8
          (try simp only [Act.put, List.setIfInBounds_toArray, List.set_cons_zero, List.set_cons_succ])
          refine M_step 31 rfl (by kernel_rfl) (fun K hK => ?_)
          go_simp
          refine hK.out _ _ (fun e => by cases e) ?_
          clear hK K
          (try simp only [Act.put, List.setIfInBounds_toArray, List.set_cons_zero, List.set_cons_succ])
          refine M_done (by kernel_rfl) ?_ _
          clear hT0 hTb s1 s2 s3
          have wk := WK.out
          go_wp2_with fail
          go_roundw
          case rel => exact ⟨k + 1, by omega, by first | rfl | go_num, HDN.out, by rw [HMD.out, ← med_alt]; exact HNR.out⟩
          case measure => (simp [intOf] <;> omega)
        · obtain rfl : k = n1 := by omega
          have hki : ¬ ((k : Int) < (k : Int)) := by omega
          have ho := HR.out.own
          rw [upTo_len] at ho
          obtain ⟨B, q, rfl, hi⟩ := row_upTo ho (by omega)
          have HI := Lib.hid hi
          clear hi ho
          go_wp2_with fail
          go_ret2
          exact ⟨B, k, q, by simp, fun _ => rfl, fun h => absurd rfl h, HI.out, D.out⟩
end Go.Proofs.Ytpikaohodieeaaa
