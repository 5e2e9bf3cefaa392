import Derived.Test.YtmeljcbefnojfaaSel
namespace Go.Proofs.Ytmeljcbefnojfaa
open Go.RowKit
set_option maxHeartbeats 400000 in
theorem gfn_any (m : Nat) (b : Bool) (w : World) (h : ((m : Int) == 0) = b) :
    Calls Try.prog 72 #[.int .i64 (m : Int)] w fun e w' => e = .returned (.bool b) ∧ w = w' := by
  go_enter Try.func72, Try.ntmps72
  go_wp2
  go_ret
  exact ⟨rfl, rfl⟩
set_option maxHeartbeats 400000 in
theorem cfn_any (m : Nat) (b : Bool) (w : World) (h : decide ((1 : Int) < (m : Int)) = b) :
    Calls Try.prog 74 #[.int .i64 (m : Int)] w fun e w' => e = .returned (.bool b) ∧ w = w' := by
  go_enter Try.func74, Try.ntmps74
  go_wp2
  go_ret
  exact ⟨rfl, rfl⟩
set_option maxRecDepth 100000 in
set_option maxHeartbeats 2000000 in
theorem cwG_yes (A : Option Addr) (n c : Nat) (x : Cls) (w : World) (hin : ClsIn A n x w.heap.size w) (hG : InkOk x n) :
    Calls Try.prog 71 #[.agg #[.slice A n c], .func (.func 72) #[] #[]] w (IPost w (selL (fun i => decide (x.L i = 0)) n) 0) := by
  obtain ⟨i0, hi0, hz0, hz1, hz2⟩ := info_parts Try.infoInt
  have HIN := Lib.hid hin
  obtain ⟨hn, _⟩ := hin
  have HG := Lib.hid hG
  obtain ⟨hn1, hn2, _⟩ := hG
  have KC : Hid (∀ w, ClsIn A n x w.heap.size w → Calls Try.prog 29 #[.agg #[.slice A n c]] w fun e w' => e = .returned (.int .i64 0) ∧ Below w.heap.size w w') := Lib.hid fun w h => CheckInked_any A n c x true w h ⟨fun _ => HG.out, fun _ => rfl⟩
  go_enter Try.func71, Try.ntmps71
  go_wp2_with fail
  refine (KC.out _ ((HIN.out.up (box1 w _) (Nat.le_refl _)).more (box1 w _).size)).mono ?_
  rintro e w1 ⟨rfl, hb⟩
  have hc1 := low_cell (b := w.heap.size) (o := 0) (v := .slice A n c) hb (by simp only [World.size_alloc]; omega) (by go_simp)
  have hB1 : Below w.heap.size w w1 := (box1 w _).trans (hb.mono (by simp only [World.size_alloc]; omega))
  have hz1' : w.heap.size < w1.heap.size := World.block_lt_of_cell? _ _ hc1
  clear hb
  go_wp2_with fail
  go_loopw [7, 8, 9, 18] (fun v _ _ i wr => ∃ k : Nat, k ≤ n ∧ i = .int .i64 k ∧ SelI w (fun i => decide (x.L i = 0)) k v wr) (fun _ _ _ i _ => n - (intOf i).toNat)
  case atStart => exact ⟨0, Nat.zero_le _, rfl, hB1, World.ownsRow_nil _ _ _ 1, hz1'⟩
  case round =>
    obtain ⟨k, hk, rfl, hS⟩ := hrel
    obtain ⟨wo, rfl⟩ : ∃ wo : World, wo = wr := ⟨_, rfl⟩
    clear hc1 hz1' hB1
    have hk0 : (0 : Int) ≤ (k : Int) := by omega
    have hle := selL_le (fun i => decide (x.L i = 0)) k
    have HS := Lib.hid hS
    obtain ⟨hB, hown, hbox⟩ := hS
    by_cases hlt : k < n
    · obtain ⟨a, rfl, ab, c0, hs⟩ := (HIN.out.up hB (Nat.le_refl _)).2 k hlt
      have hL8 := (HG.out.2.2 k hlt).1
      clear hs
      have hki : (k : Int) < (n : Int) := by omega
      by_cases t : x.L k = 0
      · have hy : (fun i => decide (x.L i = 0)) k = true := by simpa using t
        have HY := Lib.hid hy
        have d1 : ((x.L k : Int) == 0) = true := by (first | simpa using t | (simp; omega))
        clear hy t
        go_wp2_with (first | (go_at_call 72; refine (gfn_any _ true _ (by assumption)).mono ?_; rintro e w' ⟨rfl, rfl⟩) | (at_builtin; refine wpList_append_own _ rfl _ _ 36 rfl (w.heap.size + 1) 3 i0 (.int .i64 0) 1 8 Try.underlying36 hi0 hz0 hz1 hz2 rfl (by decide) _ (selL (fun i => decide (x.L i = 0)) k).length _ rfl (hown.alloc _) ⟨wo.heap.size, 0, none⟩ 1 1 [.int .i64 (k : Int)] rfl rfl (new1 wo k) (by simp [Value.oneCell']) (by skip; unfold maxLen; omega) (by skip; omega) (by simp only [World.size_alloc]; omega) ?_; intro v1 w1 hown1 hg1 _) | fail)
        have hJ := HS.out.app HY.out hg1 hown1
        clear hown1 hg1 hown
        go_wp2_with fail
        go_roundw
        case rel => exact ⟨k + 1, by omega, by go_num, hJ⟩
        case measure => simp [intOf]; omega
      · have hy : (fun i => decide (x.L i = 0)) k = false := by simpa using t
        have HY := Lib.hid hy
        have d1 : ((x.L k : Int) == 0) = false := by (first | simpa using t | (simp; omega))
        clear hy t
        go_wp2_with ((go_at_call 72; refine (gfn_any _ false _ (by assumption)).mono ?_; rintro e w' ⟨rfl, rfl⟩))
        go_roundw
        case rel => exact ⟨k + 1, by omega, by go_num, HS.out.skip HY.out⟩
        case measure => simp [intOf]; omega
    · have hki : (n : Int) ≤ (k : Int) := by omega
      obtain rfl : k = n := by omega
      go_wp2_with fail
      go_ret2
      exact ⟨_, rfl, hB, own_mono hown (by omega)⟩
theorem cwG_no (A : Option Addr) (n c : Nat) (x : Cls) (w : World) (hin : ClsIn A n x w.heap.size w) (hG : ¬ InkOk x n) :
    Calls Try.prog 71 #[.agg #[.slice A n c], .func (.func 72) #[] #[]] w (IPost w [] 12) := by
  have KC : Hid (∀ w, ClsIn A n x w.heap.size w → Calls Try.prog 29 #[.agg #[.slice A n c]] w fun e w' => e = .returned (.int .i64 12) ∧ Below w.heap.size w w') := Lib.hid fun w h => CheckInked_any A n c x false w h ⟨(fun h => by cases h), fun h => absurd h hG⟩
  have HIN := Lib.hid hin
  clear hin hG
  go_enter Try.func71, Try.ntmps71
  go_wp2_with fail
  refine (KC.out _ ((HIN.out.up (box1 w _) (Nat.le_refl _)).more (box1 w _).size)).mono ?_
  rintro e w1 ⟨rfl, hb⟩
  have hB1 : Below w.heap.size w w1 := (box1 w _).trans (hb.mono (by simp only [World.size_alloc]; omega))
  clear hb
  go_wp2_with fail
  go_ret2
  exact ⟨_, rfl, hB1, World.ownsRow_nil _ _ _ 1⟩
set_option maxRecDepth 100000 in
set_option maxHeartbeats 2000000 in
theorem cwC_yes (A : Option Addr) (n c : Nat) (x : Cls) (w : World) (hin : ClsIn A n x w.heap.size w) (hG : InkOk x n) :
    Calls Try.prog 71 #[.agg #[.slice A n c], .func (.func 74) #[] #[]] w (IPost w (selL (fun i => decide (1 < x.L i)) n) 0) := by
  obtain ⟨i0, hi0, hz0, hz1, hz2⟩ := info_parts Try.infoInt
  have HIN := Lib.hid hin
  obtain ⟨hn, _⟩ := hin
  have HG := Lib.hid hG
  obtain ⟨hn1, hn2, _⟩ := hG
  have KC : Hid (∀ w, ClsIn A n x w.heap.size w → Calls Try.prog 29 #[.agg #[.slice A n c]] w fun e w' => e = .returned (.int .i64 0) ∧ Below w.heap.size w w') := Lib.hid fun w h => CheckInked_any A n c x true w h ⟨fun _ => HG.out, fun _ => rfl⟩
  go_enter Try.func71, Try.ntmps71
  go_wp2_with fail
  refine (KC.out _ ((HIN.out.up (box1 w _) (Nat.le_refl _)).more (box1 w _).size)).mono ?_
  rintro e w1 ⟨rfl, hb⟩
  have hc1 := low_cell (b := w.heap.size) (o := 0) (v := .slice A n c) hb (by simp only [World.size_alloc]; omega) (by go_simp)
  have hB1 : Below w.heap.size w w1 := (box1 w _).trans (hb.mono (by simp only [World.size_alloc]; omega))
  have hz1' : w.heap.size < w1.heap.size := World.block_lt_of_cell? _ _ hc1
  clear hb
  go_wp2_with fail
  go_loopw [7, 8, 9, 18] (fun v _ _ i wr => ∃ k : Nat, k ≤ n ∧ i = .int .i64 k ∧ SelI w (fun i => decide (1 < x.L i)) k v wr) (fun _ _ _ i _ => n - (intOf i).toNat)
  case atStart => exact ⟨0, Nat.zero_le _, rfl, hB1, World.ownsRow_nil _ _ _ 1, hz1'⟩
  case round =>
    obtain ⟨k, hk, rfl, hS⟩ := hrel
    obtain ⟨wo, rfl⟩ : ∃ wo : World, wo = wr := ⟨_, rfl⟩
    clear hc1 hz1' hB1
    have hk0 : (0 : Int) ≤ (k : Int) := by omega
    have hle := selL_le (fun i => decide (1 < x.L i)) k
    have HS := Lib.hid hS
    obtain ⟨hB, hown, hbox⟩ := hS
    by_cases hlt : k < n
    · obtain ⟨a, rfl, ab, c0, hs⟩ := (HIN.out.up hB (Nat.le_refl _)).2 k hlt
      have hL8 := (HG.out.2.2 k hlt).1
      clear hs
      have hki : (k : Int) < (n : Int) := by omega
      by_cases t : 1 < x.L k
      · have hy : (fun i => decide (1 < x.L i)) k = true := by simpa using t
        have HY := Lib.hid hy
        have d1 : decide ((1 : Int) < (x.L k : Int)) = true := by (first | simpa using t | (simp; omega))
        clear hy t
        go_wp2_with (first | (go_at_call 74; refine (cfn_any _ true _ (by assumption)).mono ?_; rintro e w' ⟨rfl, rfl⟩) | (at_builtin; refine wpList_append_own _ rfl _ _ 36 rfl (w.heap.size + 1) 3 i0 (.int .i64 0) 1 8 Try.underlying36 hi0 hz0 hz1 hz2 rfl (by decide) _ (selL (fun i => decide (1 < x.L i)) k).length _ rfl (hown.alloc _) ⟨wo.heap.size, 0, none⟩ 1 1 [.int .i64 (k : Int)] rfl rfl (new1 wo k) (by simp [Value.oneCell']) (by skip; unfold maxLen; omega) (by skip; omega) (by simp only [World.size_alloc]; omega) ?_; intro v1 w1 hown1 hg1 _) | fail)
        have hJ := HS.out.app HY.out hg1 hown1
        clear hown1 hg1 hown
        go_wp2_with fail
        go_roundw
        case rel => exact ⟨k + 1, by omega, by go_num, hJ⟩
        case measure => simp [intOf]; omega
      · have hy : (fun i => decide (1 < x.L i)) k = false := by simpa using t
        have HY := Lib.hid hy
        have d1 : decide ((1 : Int) < (x.L k : Int)) = false := by (first | simpa using t | (simp; omega))
        clear hy t
        go_wp2_with ((go_at_call 74; refine (cfn_any _ false _ (by assumption)).mono ?_; rintro e w' ⟨rfl, rfl⟩))
        go_roundw
        case rel => exact ⟨k + 1, by omega, by go_num, HS.out.skip HY.out⟩
        case measure => simp [intOf]; omega
    · have hki : (n : Int) ≤ (k : Int) := by omega
      obtain rfl : k = n := by omega
      go_wp2_with fail
      go_ret2
      exact ⟨_, rfl, hB, own_mono hown (by omega)⟩
theorem cwC_no (A : Option Addr) (n c : Nat) (x : Cls) (w : World) (hin : ClsIn A n x w.heap.size w) (hG : ¬ InkOk x n) :
    Calls Try.prog 71 #[.agg #[.slice A n c], .func (.func 74) #[] #[]] w (IPost w [] 12) := by
  have KC : Hid (∀ w, ClsIn A n x w.heap.size w → Calls Try.prog 29 #[.agg #[.slice A n c]] w fun e w' => e = .returned (.int .i64 12) ∧ Below w.heap.size w w') := Lib.hid fun w h => CheckInked_any A n c x false w h ⟨(fun h => by cases h), fun h => absurd h hG⟩
  have HIN := Lib.hid hin
  clear hin hG
  go_enter Try.func71, Try.ntmps71
  go_wp2_with fail
  refine (KC.out _ ((HIN.out.up (box1 w _) (Nat.le_refl _)).more (box1 w _).size)).mono ?_
  rintro e w1 ⟨rfl, hb⟩
  have hB1 : Below w.heap.size w w1 := (box1 w _).trans (hb.mono (by simp only [World.size_alloc]; omega))
  clear hb
  go_wp2_with fail
  go_ret2
  exact ⟨_, rfl, hB1, World.ownsRow_nil _ _ _ 1⟩
theorem SelI.cell {w wr w1 : World} {f : Nat → Bool} {k : Nat} {v : Value} {o : Obj} {u : Value} (h : SelI w f k v wr) (hg : (wr.alloc o).grownBy w1 v.ownBlock) (hc : wr.cell? ⟨w.heap.size, 0, none⟩ = some u) : w1.cell? ⟨w.heap.size, 0, none⟩ = some u := by
  obtain ⟨h1, h2, h3⟩ := h
  refine cell_row hg (by simp only [World.size_alloc]; omega) (fun e => ?_) (cell_up (box1 wr o) h3 hc)
  obtain ⟨_, hx | ⟨g, cap, cur, e1, e3, _⟩⟩ := h2
  · rw [hx.1] at e; cases e
  · rw [e1] at e
    simp [Value.ownBlock] at e
    omega
set_option maxRecDepth 100000 in
set_option maxHeartbeats 2000000 in
theorem szd_yes (A : Option Addr) (n c : Nat) (x : Cls) (lo hi : Int) (f : Nat → Bool) (hf : ∀ i, i < n → (f i = true ↔ lo ≤ (x.L i : Int) ∧ (x.L i : Int) ≤ hi)) (w : World) (hin : ClsIn A n x w.heap.size w) (hG : InkOk x n) :
    Calls Try.prog 73 #[.agg #[.slice A n c], .int .i64 lo, .int .i64 hi] w (IPost w (selL f n) 0) := by
  obtain ⟨i0, hi0, hz0, hz1, hz2⟩ := info_parts Try.infoInt
  have HIN := Lib.hid hin
  obtain ⟨hn, _⟩ := hin
  have HF := Lib.hid hf
  clear hf
  have HG := Lib.hid hG
  obtain ⟨hn1, hn2, _⟩ := hG
  have KC : Hid (∀ w, ClsIn A n x w.heap.size w → Calls Try.prog 30 #[.agg #[.slice A n c]] w fun e w' => e = .returned (.int .i64 0) ∧ Below w.heap.size w w') := Lib.hid fun w h => RCheckInked_any A n c x true w h ⟨fun _ => HG.out, fun _ => rfl⟩
  go_enter Try.func73, Try.ntmps73
  go_wp2_with fail
  refine (KC.out _ ((HIN.out.up (box1 w _) (Nat.le_refl _)).more (box1 w _).size)).mono ?_
  rintro e w1 ⟨rfl, hb⟩
  have hc1 := low_cell (b := w.heap.size) (o := 0) (v := .slice A n c) hb (by simp only [World.size_alloc]; omega) (by go_simp)
  have hB1 : Below w.heap.size w w1 := (box1 w _).trans (hb.mono (by simp only [World.size_alloc]; omega))
  have hz1' : w.heap.size < w1.heap.size := World.block_lt_of_cell? _ _ hc1
  clear hb
  go_wp2_with fail
  go_loopw [8, 9] (fun v i wr => ∃ k : Nat, k ≤ n ∧ i = .int .i64 k ∧ SelI w f k v wr ∧ wr.cell? ⟨w.heap.size, 0, none⟩ = some (.slice A n c)) (fun _ i _ => n - (intOf i).toNat)
  case atStart => exact ⟨0, Nat.zero_le _, rfl, ⟨hB1, World.ownsRow_nil _ _ _ 1, hz1'⟩, hc1⟩
  case round =>
    obtain ⟨k, hk, rfl, hS, hcx⟩ := hrel
    obtain ⟨wo, rfl⟩ : ∃ wo : World, wo = wr := ⟨_, rfl⟩
    clear hc1 hz1' hB1
    have hk0 : (0 : Int) ≤ (k : Int) := by omega
    have hle := selL_le f k
    have HS := Lib.hid hS
    obtain ⟨hB, hown, hbox⟩ := hS
    by_cases hlt : k < n
    · obtain ⟨a, rfl, ab, c0, hs⟩ := (HIN.out.up hB (Nat.le_refl _)).2 k hlt
      clear hs
      have hki : (k : Int) < (n : Int) := by omega
      have HCX := Lib.hid hcx
      by_cases t : lo ≤ (x.L k : Int) ∧ (x.L k : Int) ≤ hi
      · have HY := Lib.hid ((HF.out k hlt).2 t)
        go_wp2_with (first | (go_at_call 77; refine (within_t _ _ _ _ (by assumption)).mono ?_; rintro e w' ⟨rfl, rfl⟩) | (at_builtin; refine wpList_append_own _ rfl _ _ 36 rfl (w.heap.size + 1) 3 i0 (.int .i64 0) 1 8 Try.underlying36 hi0 hz0 hz1 hz2 rfl (by decide) _ (selL f k).length _ rfl (hown.alloc _) ⟨wo.heap.size, 0, none⟩ 1 1 [.int .i64 (k : Int)] rfl rfl (new1 wo k) (by simp [Value.oneCell']) (by skip; unfold maxLen; omega) (by skip; omega) (by simp only [World.size_alloc]; omega) ?_; intro v1 w1 hown1 hg1 _) | fail)
        have hJ := HS.out.app HY.out hg1 hown1
        have hc2 := HS.out.cell hg1 HCX.out
        clear hown1 hg1 hown hcx
        go_wp2_with fail
        go_roundw
        case rel => exact ⟨k + 1, by omega, by go_num, hJ, hc2⟩
        case measure => simp [intOf]; omega
      · have hy : f k = false := by
          cases hfk : f k with
          | false => rfl
          | true => exact absurd ((HF.out k hlt).1 hfk) t
        have HY := Lib.hid hy
        clear hy
        go_wp2_with ((go_at_call 77; refine (within_f _ _ _ _ (by assumption)).mono ?_; rintro e w' ⟨rfl, rfl⟩))
        go_roundw
        case rel => exact ⟨k + 1, by omega, by go_num, HS.out.skip HY.out, HCX.out⟩
        case measure => simp [intOf]; omega
    · have hki : (n : Int) ≤ (k : Int) := by omega
      obtain rfl : k = n := by omega
      go_wp2_with fail
      go_ret2
      exact ⟨_, rfl, hB, own_mono hown (by omega)⟩
theorem szd_no (A : Option Addr) (n c : Nat) (x : Cls) (lo hi : Int) (w : World) (hin : ClsIn A n x w.heap.size w) (hG : ¬ InkOk x n) :
    Calls Try.prog 73 #[.agg #[.slice A n c], .int .i64 lo, .int .i64 hi] w (IPost w [] 12) := by
  have KC : Hid (∀ w, ClsIn A n x w.heap.size w → Calls Try.prog 30 #[.agg #[.slice A n c]] w fun e w' => e = .returned (.int .i64 12) ∧ Below w.heap.size w w') := Lib.hid fun w h => RCheckInked_any A n c x false w h ⟨(fun h => by cases h), fun h => absurd h hG⟩
  have HIN := Lib.hid hin
  clear hin hG
  go_enter Try.func73, Try.ntmps73
  go_wp2_with fail
  refine (KC.out _ ((HIN.out.up (box1 w _) (Nat.le_refl _)).more (box1 w _).size)).mono ?_
  rintro e w1 ⟨rfl, hb⟩
  have hB1 : Below w.heap.size w w1 := (box1 w _).trans (hb.mono (by simp only [World.size_alloc]; omega))
  clear hb
  go_wp2_with fail
  go_ret2
  exact ⟨_, rfl, hB1, World.ownsRow_nil _ _ _ 1⟩
end Go.Proofs.Ytmeljcbefnojfaa
