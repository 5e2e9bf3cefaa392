/- The specification's Lowest, Highest, Real. -/
import Derived.Test.YtkidhmajlpceeaaRrl
namespace Go.Proofs.Ytkidhmajlpceeaa
open Go.RowKit
set_option linter.unusedSimpArgs false
set_option linter.unusedVariables false
set_option maxRecDepth 100000 in
set_option maxHeartbeats 4000000 in
theorem RLowest_any (p : Pn) (A : Option Addr) (n c : Nat) (Z : Nat → Int) (E : Int) (w : World) (hin : IntsIn A n Z w.heap.size w) (hE : reaR p n Z E) :
    Calls Try.prog 38 #[p.v, .slice A n c] w fun e w' => LPost w (upTo (Cz (fun x y z => x) (Rls p Z n) Z) n) E e w' := by
  have HIN := Lib.hid hin
  have hn := hin.1
  clear hin
  have KR : Hid (∀ W, Below w.heap.size w W → Calls Try.prog 36 #[p.v, .slice A n c] W fun e w' => MPost W n (Rls p Z n) E e w') :=
    Lib.hid fun W hW => RReals_any p A n c Z E W ((HIN.out.up hW (Nat.le_refl _)).more hW.size) hE
  by_cases h0 : E = 0
  · subst h0
    obtain ⟨hp, hl, hf⟩ := reaR_zero hE
    have hn1 := hl.1
    have hn2 := hl.2.1
    have HFu := Lib.hid hf
    obtain ⟨a, ha, _, _⟩ := HIN.out.2 0 (by omega)
    subst ha
    obtain ⟨i0, hi0, hz0, hz1, hz2⟩ := info_parts Try.infoInt
    clear hE hp hl hf
    go_enter Try.func38, Try.ntmps38
    go_wp2_with fail
    refine (KR.out _ (box1 _ _)).mono ?_
    rintro e w1 ⟨hq, -⟩
    obtain ⟨v, rfl, hR⟩ := hq rfl
    have C1 := Lib.hid (nextB (box1 w _) hR.below)
    obtain ⟨g, cap, rfl, hg, hS⟩ := hR.spr hn1
    have HS := Lib.hid hS
    clear hq hR hS KR
    go_wp2_with fail
    go_loopw [8, 9] (fun v i wr => ∃ k : Nat, k ≤ n ∧ i = .int .i64 (k : Int) ∧ RowZ w1 (upTo (Cz (fun x y z => x) (Rls p Z n) Z) k) v wr) (fun _ i _ => n - (intOf i).toNat)
    case atStart => exact ⟨0, Nat.zero_le _, rfl, Below.refl _ _, World.ownsRow_nil _ _ _ _⟩
    case round =>
      obtain ⟨k, hk, rfl, hR⟩ := hrel
      obtain ⟨wo, rfl⟩ : ∃ wo : World, wo = wr := ⟨_, rfl⟩
      have HR := Lib.hid hR
      have C3 := Lib.hid (nextB C1.out hR.below)
      have hk0 : (0 : Int) ≤ (k : Int) := by omega
      have hsz := hR.below.size
      have hown := hR.own
      rw [upTo_len] at hown
      by_cases hlt : k < n
      · obtain ⟨a', e1, _, c1⟩ := (HIN.out.up C3.out (Nat.le_refl _)).2 k hlt
        cases e1
        have hS3 := HS.out.up hR.below
        have g0 := hS3.c0 k hlt
        have g1 := hS3.c1 k hlt
        have gl := hS3.lt
        have az := World.block_lt_of_cell? _ _ c1
        have hki : (k : Int) < (n : Int) := by omega
        obtain ⟨y, hy⟩ : ∃ y, y = Cz (fun x y z => x) (Rls p Z n) Z k := ⟨_, rfl⟩
        have HY := Lib.hid hy
        have hy2 : y = (Rls p Z n k).1 := hy
        clear hR hy hS3
        generalize Rls p Z n k = rg at *
        obtain ⟨r0, r1⟩ := rg
        generalize Z k = zk at *
        simp only at hy2
        have HY2 := Lib.hid hy2
        clear hy2
        go_wp2_with (at_builtin; refine wpList_append_own _ rfl _ _ 28 rfl w1.heap.size 3 i0 (.int .i64 0) 1 8 Try.underlying28 hi0 hz0 hz1 hz2 rfl (by decide) _ _ _ rfl (hown.alloc _) ⟨wo.heap.size, 0, none⟩ 1 1 [.int .i64 r0] rfl rfl (new1 _ _) (by simp [Value.oneCell']) (by unfold maxLen; omega) (by omega) (by rw [World.size_alloc]; omega) ?_; intro v8 w8 hown8 hg8 _; have NN := Lib.hid (HR.out.app (z := y) hg8 (by rw [upTo_len, HY2.out]; exact hown8)); clear hown hown8 hg8)
        go_roundw
        case rel => exact ⟨k + 1, by omega, by go_num, by rw [upTo_succ, ← HY.out]; exact NN.out⟩
        case measure => simp [intOf]; omega
      · have hki : (n : Int) ≤ (k : Int) := by omega
        obtain rfl : k = n := by omega
        go_wp2_with fail
        go_ret2
        exact ⟨fun _ => ⟨_, rfl, HR.out.from_ C1.out⟩, fun e => absurd rfl e⟩
  · have H0 := Lib.hid h0
    clear hE h0
    go_enter Try.func38, Try.ntmps38
    go_wp2_with fail
    refine (KR.out _ (box1 _ _)).mono ?_
    rintro e w1 ⟨-, hq⟩
    obtain ⟨rfl, hb⟩ := hq H0.out
    have C1 := Lib.hid (nextB (box1 w _) hb)
    clear hq hb KR
    go_wp2_with fail
    go_loopw [8, 9] (fun v i wr => v = .slice none 0 0 ∧ i = .int .i64 0 ∧ wr = w1) (fun _ _ _ => 0)
    case atStart => exact ⟨rfl, rfl, rfl⟩
    case round =>
      obtain ⟨rfl, rfl, rfl⟩ := hrel
      go_wp2_with fail
      go_ret2
      exact ⟨fun e => absurd e H0.out, fun _ => ⟨rfl, C1.out⟩⟩
set_option maxRecDepth 100000 in
set_option maxHeartbeats 4000000 in
theorem RHighest_any (p : Pn) (A : Option Addr) (n c : Nat) (Z : Nat → Int) (E : Int) (w : World) (hin : IntsIn A n Z w.heap.size w) (hE : reaR p n Z E) :
    Calls Try.prog 40 #[p.v, .slice A n c] w fun e w' => LPost w (upTo (Cz (fun x y z => y) (Rls p Z n) Z) n) E e w' := by
  have HIN := Lib.hid hin
  have hn := hin.1
  clear hin
  have KR : Hid (∀ W, Below w.heap.size w W → Calls Try.prog 36 #[p.v, .slice A n c] W fun e w' => MPost W n (Rls p Z n) E e w') :=
    Lib.hid fun W hW => RReals_any p A n c Z E W ((HIN.out.up hW (Nat.le_refl _)).more hW.size) hE
  by_cases h0 : E = 0
  · subst h0
    obtain ⟨hp, hl, hf⟩ := reaR_zero hE
    have hn1 := hl.1
    have hn2 := hl.2.1
    have HFu := Lib.hid hf
    obtain ⟨a, ha, _, _⟩ := HIN.out.2 0 (by omega)
    subst ha
    obtain ⟨i0, hi0, hz0, hz1, hz2⟩ := info_parts Try.infoInt
    clear hE hp hl hf
    go_enter Try.func40, Try.ntmps40
    go_wp2_with fail
    refine (KR.out _ (box1 _ _)).mono ?_
    rintro e w1 ⟨hq, -⟩
    obtain ⟨v, rfl, hR⟩ := hq rfl
    have C1 := Lib.hid (nextB (box1 w _) hR.below)
    obtain ⟨g, cap, rfl, hg, hS⟩ := hR.spr hn1
    have HS := Lib.hid hS
    clear hq hR hS KR
    go_wp2_with fail
    go_loopw [8, 9] (fun v i wr => ∃ k : Nat, k ≤ n ∧ i = .int .i64 (k : Int) ∧ RowZ w1 (upTo (Cz (fun x y z => y) (Rls p Z n) Z) k) v wr) (fun _ i _ => n - (intOf i).toNat)
    case atStart => exact ⟨0, Nat.zero_le _, rfl, Below.refl _ _, World.ownsRow_nil _ _ _ _⟩
    case round =>
      obtain ⟨k, hk, rfl, hR⟩ := hrel
      obtain ⟨wo, rfl⟩ : ∃ wo : World, wo = wr := ⟨_, rfl⟩
      have HR := Lib.hid hR
      have C3 := Lib.hid (nextB C1.out hR.below)
      have hk0 : (0 : Int) ≤ (k : Int) := by omega
      have hsz := hR.below.size
      have hown := hR.own
      rw [upTo_len] at hown
      by_cases hlt : k < n
      · obtain ⟨a', e1, _, c1⟩ := (HIN.out.up C3.out (Nat.le_refl _)).2 k hlt
        cases e1
        have hS3 := HS.out.up hR.below
        have g0 := hS3.c0 k hlt
        have g1 := hS3.c1 k hlt
        have gl := hS3.lt
        have az := World.block_lt_of_cell? _ _ c1
        have hki : (k : Int) < (n : Int) := by omega
        obtain ⟨y, hy⟩ : ∃ y, y = Cz (fun x y z => y) (Rls p Z n) Z k := ⟨_, rfl⟩
        have HY := Lib.hid hy
        have hy2 : y = (Rls p Z n k).2 := hy
        clear hR hy hS3
        generalize Rls p Z n k = rg at *
        obtain ⟨r0, r1⟩ := rg
        generalize Z k = zk at *
        simp only at hy2
        have HY2 := Lib.hid hy2
        clear hy2
        go_wp2_with (at_builtin; refine wpList_append_own _ rfl _ _ 28 rfl w1.heap.size 3 i0 (.int .i64 0) 1 8 Try.underlying28 hi0 hz0 hz1 hz2 rfl (by decide) _ _ _ rfl (hown.alloc _) ⟨wo.heap.size, 0, none⟩ 1 1 [.int .i64 r1] rfl rfl (new1 _ _) (by simp [Value.oneCell']) (by unfold maxLen; omega) (by omega) (by rw [World.size_alloc]; omega) ?_; intro v8 w8 hown8 hg8 _; have NN := Lib.hid (HR.out.app (z := y) hg8 (by rw [upTo_len, HY2.out]; exact hown8)); clear hown hown8 hg8)
        go_roundw
        case rel => exact ⟨k + 1, by omega, by go_num, by rw [upTo_succ, ← HY.out]; exact NN.out⟩
        case measure => simp [intOf]; omega
      · have hki : (n : Int) ≤ (k : Int) := by omega
        obtain rfl : k = n := by omega
        go_wp2_with fail
        go_ret2
        exact ⟨fun _ => ⟨_, rfl, HR.out.from_ C1.out⟩, fun e => absurd rfl e⟩
  · have H0 := Lib.hid h0
    clear hE h0
    go_enter Try.func40, Try.ntmps40
    go_wp2_with fail
    refine (KR.out _ (box1 _ _)).mono ?_
    rintro e w1 ⟨-, hq⟩
    obtain ⟨rfl, hb⟩ := hq H0.out
    have C1 := Lib.hid (nextB (box1 w _) hb)
    clear hq hb KR
    go_wp2_with fail
    go_loopw [8, 9] (fun v i wr => v = .slice none 0 0 ∧ i = .int .i64 0 ∧ wr = w1) (fun _ _ _ => 0)
    case atStart => exact ⟨rfl, rfl, rfl⟩
    case round =>
      obtain ⟨rfl, rfl, rfl⟩ := hrel
      go_wp2_with fail
      go_ret2
      exact ⟨fun e => absurd e H0.out, fun _ => ⟨rfl, C1.out⟩⟩
set_option maxRecDepth 100000 in
set_option maxHeartbeats 4000000 in
theorem RReal_any (p : Pn) (A : Option Addr) (n c : Nat) (Z : Nat → Int) (E : Int) (w : World) (hin : IntsIn A n Z w.heap.size w) (hE : reaR p n Z E) :
    Calls Try.prog 42 #[p.v, .slice A n c] w fun e w' => LPost w (upTo (Cz (fun x y z => max x (min y z)) (Rls p Z n) Z) n) E e w' := by
  have HIN := Lib.hid hin
  have hn := hin.1
  clear hin
  have KR : Hid (∀ W, Below w.heap.size w W → Calls Try.prog 36 #[p.v, .slice A n c] W fun e w' => MPost W n (Rls p Z n) E e w') :=
    Lib.hid fun W hW => RReals_any p A n c Z E W ((HIN.out.up hW (Nat.le_refl _)).more hW.size) hE
  by_cases h0 : E = 0
  · subst h0
    obtain ⟨hp, hl, hf⟩ := reaR_zero hE
    have hn1 := hl.1
    have hn2 := hl.2.1
    have HFu := Lib.hid hf
    obtain ⟨a, ha, _, _⟩ := HIN.out.2 0 (by omega)
    subst ha
    obtain ⟨i0, hi0, hz0, hz1, hz2⟩ := info_parts Try.infoInt
    clear hE hp hl hf
    go_enter Try.func42, Try.ntmps42
    go_wp2_with fail
    refine (KR.out _ (box1 _ _)).mono ?_
    rintro e w1 ⟨hq, -⟩
    obtain ⟨v, rfl, hR⟩ := hq rfl
    have C1 := Lib.hid (nextB (box1 w _) hR.below)
    obtain ⟨g, cap, rfl, hg, hS⟩ := hR.spr hn1
    have HS := Lib.hid hS
    clear hq hR hS KR
    go_wp2_with fail
    go_loopw [8, 9] (fun v i wr => ∃ k : Nat, k ≤ n ∧ i = .int .i64 (k : Int) ∧ RowZ w1 (upTo (Cz (fun x y z => max x (min y z)) (Rls p Z n) Z) k) v wr) (fun _ i _ => n - (intOf i).toNat)
    case atStart => exact ⟨0, Nat.zero_le _, rfl, Below.refl _ _, World.ownsRow_nil _ _ _ _⟩
    case round =>
      obtain ⟨k, hk, rfl, hR⟩ := hrel
      obtain ⟨wo, rfl⟩ : ∃ wo : World, wo = wr := ⟨_, rfl⟩
      have HR := Lib.hid hR
      have C3 := Lib.hid (nextB C1.out hR.below)
      have hk0 : (0 : Int) ≤ (k : Int) := by omega
      have hsz := hR.below.size
      have hown := hR.own
      rw [upTo_len] at hown
      by_cases hlt : k < n
      · obtain ⟨a', e1, _, c1⟩ := (HIN.out.up C3.out (Nat.le_refl _)).2 k hlt
        cases e1
        have hS3 := HS.out.up hR.below
        have g0 := hS3.c0 k hlt
        have g1 := hS3.c1 k hlt
        have gl := hS3.lt
        have az := World.block_lt_of_cell? _ _ c1
        have hki : (k : Int) < (n : Int) := by omega
        obtain ⟨y, hy⟩ : ∃ y, y = Cz (fun x y z => max x (min y z)) (Rls p Z n) Z k := ⟨_, rfl⟩
        have HY := Lib.hid hy
        have hy2 : y = max (Rls p Z n k).1 (min (Rls p Z n k).2 (Z k)) := hy
        clear hR hy hS3
        generalize Rls p Z n k = rg at *
        obtain ⟨r0, r1⟩ := rg
        generalize Z k = zk at *
        simp only at hy2
        have HY2 := Lib.hid hy2
        clear hy2
        go_wp2_with fail
        refine wp_region_M [18, 19] (fun w' => w'.cell? ⟨g, k * 2, none⟩ = some (.int .i64 r0) ∧ w'.cell? ⟨g, k * 2 + 1, none⟩ = some (.int .i64 r1) ∧ w'.cell? (a.add k) = some (.int .i64 zk)) (by kernel_rfl) (by (try dsimp only); (repeat' apply And.intro); all_goals first | assumption | (go_simp; done)) (fun hT0 => ?_)
        refine M_take (v := ?_) 0 rfl (by kernel_rfl) (by assumption) (fun _ _ _ h => h) (Or.inl ⟨by rfl, ?_⟩) ?_
        rotate_left
        · (intro w hSw; (try dsimp only at hSw); go_simp; (try with_reducible rfl))
        (try simp only [Act.put, List.setIfInBounds_toArray, List.set_cons_zero, List.set_cons_succ])
        refine M_take (v := ?_) 1 rfl (by kernel_rfl) (by assumption) (fun _ _ _ h => h) (Or.inl ⟨by rfl, ?_⟩) ?_
        rotate_left
        · (intro w hSw; (try dsimp only at hSw); go_simp; (try with_reducible rfl))
        (try simp only [Act.put, List.setIfInBounds_toArray, List.set_cons_zero, List.set_cons_succ])
        refine M_take (v := ?_) 2 rfl (by kernel_rfl) (by assumption) (fun _ _ _ h => h) (Or.inl ⟨by rfl, ?_⟩) ?_
        rotate_left
        · (intro w hSw; (try dsimp only at hSw); go_simp; (try with_reducible rfl))
        (try simp only [Act.put, List.setIfInBounds_toArray, List.set_cons_zero, List.set_cons_succ])
        refine M_take (v := ?_) 3 rfl (by kernel_rfl) (by assumption) (fun _ _ _ h => h) (Or.inl ⟨by rfl, ?_⟩) ?_
        rotate_left
        · (intro w hSw; (try dsimp only at hSw); go_simp; (try with_reducible rfl))
        (try simp only [Act.put, List.setIfInBounds_toArray, List.set_cons_zero, List.set_cons_succ])
        refine M_take (v := ?_) 4 rfl (by kernel_rfl) (by assumption) (fun _ _ _ h => h) (Or.inl ⟨by rfl, ?_⟩) ?_
        rotate_left
        · (intro w hSw; (try dsimp only at hSw); go_simp; (try with_reducible rfl))
        (try simp only [Act.put, List.setIfInBounds_toArray, List.set_cons_zero, List.set_cons_succ])
        refine M_take (v := ?_) 5 rfl (by kernel_rfl) (by assumption) (fun _ _ _ h => h) (Or.inl ⟨by rfl, ?_⟩) ?_
        rotate_left
        · (intro w hSw; (try dsimp only at hSw); go_simp; (try with_reducible rfl))
        (try simp only [Act.put, List.setIfInBounds_toArray, List.set_cons_zero, List.set_cons_succ])
        refine M_take (v := ?_) 6 rfl (by kernel_rfl) (by assumption) (fun _ _ _ h => h) (Or.inl ⟨by rfl, ?_⟩) ?_
        rotate_left
        · (intro w hSw; (try dsimp only at hSw); go_simp; (try with_reducible rfl))
        (try simp only [Act.put, List.setIfInBounds_toArray, List.set_cons_zero, List.set_cons_succ])
        refine M_take (v := ?_) 7 rfl (by kernel_rfl) (by assumption) (fun _ _ _ h => h) (Or.inl ⟨by rfl, ?_⟩) ?_
        rotate_left
        · (intro w hSw; (try dsimp only at hSw); go_simp; (try with_reducible rfl))
        (try simp only [Act.put, List.setIfInBounds_toArray, List.set_cons_zero, List.set_cons_succ])
        refine M_take (v := ?_) 8 rfl (by kernel_rfl) (by assumption) (fun _ _ _ h => h) (Or.inl ⟨by rfl, ?_⟩) ?_
        rotate_left
        · (intro w hSw; (try dsimp only at hSw); go_simp; (try with_reducible rfl))
        (try simp only [Act.put, List.setIfInBounds_toArray, List.set_cons_zero, List.set_cons_succ])
        refine M_take (v := ?_) 9 rfl (by kernel_rfl) (by assumption) (fun _ _ _ h => h) (Or.inl ⟨by rfl, ?_⟩) ?_
        rotate_left
        · (intro w hSw; (try dsimp only at hSw); go_simp; (try with_reducible rfl))
        (try simp only [Act.put, List.setIfInBounds_toArray, List.set_cons_zero, List.set_cons_succ])
        refine M_take (v := ?_) 10 rfl (by kernel_rfl) (by assumption) (fun _ _ _ h => h) (Or.inl ⟨by rfl, ?_⟩) ?_
        rotate_left
        · (intro w hSw; (try dsimp only at hSw); go_simp; (try with_reducible rfl))
        (try simp only [Act.put, List.setIfInBounds_toArray, List.set_cons_zero, List.set_cons_succ])
        refine M_take (v := ?_) 11 rfl (by kernel_rfl) (by assumption) (fun _ _ _ h => h) (Or.inl ⟨by rfl, ?_⟩) ?_
        rotate_left
        · (intro w hSw; (try dsimp only at hSw); go_simp; (try with_reducible rfl))
        (try simp only [Act.put, List.setIfInBounds_toArray, List.set_cons_zero, List.set_cons_succ])
        refine M_take (v := ?_) 12 rfl (by kernel_rfl) (by assumption) (fun _ _ _ h => h) (Or.inl ⟨by rfl, ?_⟩) ?_
        rotate_left
        · (intro w hSw; (try dsimp only at hSw); go_simp; (try with_reducible rfl))
        (try simp only [Act.put, List.setIfInBounds_toArray, List.set_cons_zero, List.set_cons_succ])
        refine M_take (v := ?_) 13 rfl (by kernel_rfl) (by assumption) (fun _ _ _ h => h) (Or.inl ⟨by rfl, ?_⟩) ?_
        rotate_left
        · (intro w hSw; (try dsimp only at hSw); go_simp; (try with_reducible rfl))
        (try simp only [Act.put, List.setIfInBounds_toArray, List.set_cons_zero, List.set_cons_succ])
        refine M_take (v := ?_) 14 rfl (by kernel_rfl) (by assumption) (fun _ _ _ h => h) (Or.inl ⟨by rfl, ?_⟩) ?_
        rotate_left
        · (intro w hSw; (try dsimp only at hSw); go_simp; (try with_reducible rfl))
        (try simp only [Act.put, List.setIfInBounds_toArray, List.set_cons_zero, List.set_cons_succ])
        refine M_take (v := ?_) 15 rfl (by kernel_rfl) (by assumption) (fun _ _ _ h => h) (Or.inl ⟨by rfl, ?_⟩) ?_
        rotate_left
        · (intro w hSw; (try dsimp only at hSw); go_simp; (try with_reducible rfl))
        (try simp only [Act.put, List.setIfInBounds_toArray, List.set_cons_zero, List.set_cons_succ])
        refine M_take (v := ?_) 16 rfl (by kernel_rfl) (by assumption) (fun _ _ _ h => h) (Or.inl ⟨by rfl, ?_⟩) ?_
        rotate_left
        · (intro w hSw; (try dsimp only at hSw); go_simp; (try with_reducible rfl))
        (try simp only [Act.put, List.setIfInBounds_toArray, List.set_cons_zero, List.set_cons_succ])
        refine M_step 17 rfl (by kernel_rfl) (fun K hK => ?_)
        go_simp
        have D8 := Lib.hid (show Below wo.heap.size wo (wo.drew.alloc (.cells #[.int .i64 (max r0 (min r1 zk))] 3)) from nextB (Below.refl _ _).drew (box1 wo.drew (.cells #[.int .i64 (max r0 (min r1 zk))] 3)))
        have hT8 : (fun w' => w'.cell? ⟨g, k * 2, none⟩ = some (.int .i64 r0) ∧ w'.cell? ⟨g, k * 2 + 1, none⟩ = some (.int .i64 r1) ∧ w'.cell? (a.add k) = some (.int .i64 zk)) (wo.drew.alloc (.cells #[.int .i64 (max r0 (min r1 zk))] 3)) := ⟨cell_up D8.out gl g0, cell_up D8.out gl g1, (D8.out.cell az).trans c1⟩
        refine hK.out _ _ (fun _ => hT8) ?_
        clear hK K
        (try simp only [Act.put, List.setIfInBounds_toArray, List.set_cons_zero, List.set_cons_succ])
        refine M_step 18 rfl (by kernel_rfl) (fun K hK => ?_)
        refine step_append_own rfl (.tmp 22) (.tmp 39) 28 rfl w1.heap.size 3 i0 (.int .i64 0) 1 8 Try.underlying28 hi0 hz0 hz1 hz2 rfl (by decide) _ k _ (by simp [Act.eval]) (hown.drew.alloc _) ⟨wo.heap.size, 0, none⟩ 1 1 [.int .i64 (max r0 (min r1 zk))] (by simp [Act.eval]) rfl (new1 wo.drew _) (by simp [Value.oneCell']) (by unfold maxLen; omega) (by omega) (by simp only [World.size_alloc, World.size_drew]; omega) ?_
        intro v2 w5 hown2 hg2
        refine hK.out _ _ (fun e => by cases e) ?_
        clear hK K
        (try simp only [Act.put, List.setIfInBounds_toArray, List.set_cons_zero, List.set_cons_succ])
        refine M_step 19 rfl (by kernel_rfl) (fun K hK => ?_)
        go_simp
        refine hK.out _ _ (fun e => by cases e) ?_
        clear hK K
        (try simp only [Act.put, List.setIfInBounds_toArray, List.set_cons_zero, List.set_cons_succ])
        refine M_done (by kernel_rfl) ?_ _
        have hRd : RowZ w1 (upTo (Cz (fun x y z => max x (min y z)) (Rls p Z n) Z) k) _ wo.drew := ⟨HR.out.below.drew, HR.out.own.drew⟩
        have NN := Lib.hid (hRd.app (z := y) hg2 (by rw [upTo_len, HY2.out]; exact hown2))
        clear hg2 hown2 hown hRd hT8
        go_wp2_with fail
        go_roundw
        case rel => exact ⟨k + 1, by omega, by go_num, by rw [upTo_succ, ← HY.out]; exact NN.out⟩
        case measure => simp [intOf]; omega
      · have hki : (n : Int) ≤ (k : Int) := by omega
        obtain rfl : k = n := by omega
        go_wp2_with fail
        go_ret2
        exact ⟨fun _ => ⟨_, rfl, HR.out.from_ C1.out⟩, fun e => absurd rfl e⟩
  · have H0 := Lib.hid h0
    clear hE h0
    go_enter Try.func42, Try.ntmps42
    go_wp2_with fail
    refine (KR.out _ (box1 _ _)).mono ?_
    rintro e w1 ⟨-, hq⟩
    obtain ⟨rfl, hb⟩ := hq H0.out
    have C1 := Lib.hid (nextB (box1 w _) hb)
    clear hq hb KR
    go_wp2_with fail
    go_loopw [8, 9] (fun v i wr => v = .slice none 0 0 ∧ i = .int .i64 0 ∧ wr = w1) (fun _ _ _ => 0)
    case atStart => exact ⟨rfl, rfl, rfl⟩
    case round =>
      obtain ⟨rfl, rfl, rfl⟩ := hrel
      go_wp2_with fail
      go_ret2
      exact ⟨fun e => absurd e H0.out, fun _ => ⟨rfl, C1.out⟩⟩
end Go.Proofs.Ytkidhmajlpceeaa
