import Derived.Test.YtpikaohodieeaaaSet
import Derived.Laws.Bits64b
import Derived.Laws.CopyOwn
namespace Go.Proofs.Ytpikaohodieeaaa
open Go.RowKit
set_option linter.unusedSimpArgs false
set_option linter.unusedVariables false
theorem mask32 (a : Nat) (ha : a < 4294967296) : bits .and .u64 (a : Int) 4294967295 = (a : Int) := by
  have h := bits_and_u64_nat a 4294967295 (by omega) (by omega)
  have e : a &&& 4294967295 = a % 4294967296 := Nat.and_two_pow_sub_one_eq_mod a 32
  rw [e, Nat.mod_eq_of_lt ha] at h
  exact h
theorem wrapU (a : Int) (h0 : 0 ≤ a) (h1 : a < 18446744073709551616) : IntKind.u64.wrap a = a := by rw [IntKind.wrap_u64]; omega
set_option maxRecDepth 100000 in
set_option maxHeartbeats 1000000 in
theorem Mul64_one (y : Nat) (hy : y < 1000) (w : World) :
    Calls Try.prog 143 #[.int .u64 1, .int .u64 y] w fun e w' => e = .returned (.tuple #[.int .u64 0, .int .u64 y]) ∧ w = w' := by
  have m1 : bits .and .u64 1 4294967295 = 1 := mask32 1 (by omega)
  have m0 : bits .and .u64 0 4294967295 = 0 := mask32 0 (by omega)
  have m2 := mask32 y (by omega)
  have d1 : (y : Int) / 4294967296 = 0 := by omega
  have w1 := wrapU y (by omega) (by omega)
  have w0 := wrapU 0 (by omega) (by omega)
  go_enter Try.func143, Try.ntmps143
  go_wp2_with fail
  go_ret2
  exact ⟨by simp, rfl⟩
set_option maxRecDepth 100000 in
set_option maxHeartbeats 1000000 in
theorem Mul_one (y : Nat) (hy : y < 1000) (w : World) :
    Calls Try.prog 136 #[.int .u64 1, .int .u64 y] w fun e w' => e = .returned (.tuple #[.int .u64 0, .int .u64 y]) ∧ w = w' := by
  have K := Lib.hid fun W => Mul64_one y hy W
  go_enter Try.func136, Try.ntmps136
  go_wp2_with fail
  refine (K.out _).mono ?_
  rintro e w1 ⟨rfl, rfl⟩
  go_wp2_with fail
  go_ret2
  exact ⟨by simp, rfl⟩
end Go.Proofs.Ytpikaohodieeaaa
namespace Go.Proofs.Ytpikaohodieeaaa
open Go.RowKit
set_option linter.unusedSimpArgs false
set_option linter.unusedVariables false
/-- a block that is known whole -/
def Row (w : World) (g : Nat) (cur : List Value) : Prop := w.heap[g]? = some (.cells cur.toArray 31 (0, 0))
theorem Row.lt {w : World} {g : Nat} {cur : List Value} (h : Row w g cur) : g < w.heap.size := (Array.getElem?_eq_some_iff.1 h).1
theorem Row.cell {w : World} {g : Nat} {cur : List Value} (h : Row w g cur) (i : Nat) : w.cell? ⟨g, i, none⟩ = cur[i]? := by
  have := cell_of_row w g i cur.toArray 31 (0, 0) h
  simpa using this
theorem Row.frozen {w : World} {g : Nat} {cur : List Value} (h : Row w g cur) (i : Nat) : w.frozen? ⟨g, i, none⟩ = false := by
  unfold Row at h
  simp [World.frozen?, h]
theorem Row.set {w : World} {g : Nat} {cur : List Value} (h : Row w g cur) (new : List Value) : Row (w.setRow g new.toArray) g new := setRow_heap w g _ _ _ _ h
theorem Row.drew {w : World} {g : Nat} {cur : List Value} (h : Row w g cur) : Row w.drew g cur := h
theorem grown_setRow (w : World) (g : Nat) (new : Array Value) : w.grownBy (w.setRow g new) (some g) :=
  ⟨rfl, rfl, rfl, by simp, fun k _ hne => setRow_other w g k new (fun e => hne (by rw [e]))⟩
/-- the run of a copy of elements of two cells -/
theorem run_copy2 (w : World) (ty : TypeId) (g o dLen dCap : Nat) (a : Addr) (sLen sCap : Nat) (cur cs : List Value) (hg : Row w g cur) (hn : cs.length = Nat.min sLen dLen * 2)
    (hsrc : ∀ j v, cs[j]? = some v → w.cell? (a.add j) = some v) (hfit : o + cs.length ≤ cur.length) (h1 : ∀ v ∈ cs, v.oneCell' = true) :
    (Builtin.copy_ #[22, 22] ty #[.slice (some ⟨g, o, none⟩) dLen dCap, .slice (some a) sLen sCap]).run Try.prog w =
      .ok (goInt (Nat.min sLen dLen)) (w.setRow g (splice cur o cs).toArray) := by
  obtain ⟨i0, hi0, hz0, hz1, hz2⟩ := info_parts Try.infoSpan
  have hl := run_loadCells_list (P := Try.prog) w a cs hsrc
  have hst := run_storeCells_at Try.prog g o 31 cs 0 cur.toArray w hg (by simpa using hfit) h1
  simp [Builtin.copy_, run_underlying Try.underlying22, Builtin.lenOf, Builtin.firstCells, sizeOf, typeInfo, hi0, hz1, ← hn, hl, hst, splice]
theorem get_splice {α : Type} (L cs : List α) (o j : Nat) (h : o + cs.length ≤ L.length) : (splice L o cs)[j]? = if j < o then L[j]? else if j < o + cs.length then cs[j - o]? else L[j]? := by
  unfold splice
  by_cases h1 : j < o
  · rw [if_pos h1, List.getElem?_append_left (by rw [List.length_take]; omega), List.getElem?_take, if_pos h1]
  · rw [if_neg h1, List.getElem?_append_right (by rw [List.length_take]; omega), List.length_take, Nat.min_eq_left (by omega)]
    by_cases h2 : j < o + cs.length
    · rw [if_pos h2, List.getElem?_append_left (by omega)]
    · rw [if_neg h2, List.getElem?_append_right (by omega), List.getElem?_drop]
      congr 1; omega

theorem step_copy_mine {ops : Array Oper} {o : Oper} {a : Act} {w : World} {K : Act → World → Prop} {Q : Exit → Act → World → Prop} {E : Prop}
    (hg : o.guard = none) (d x : Operand) (dT sT : TypeId) (hop : o.op = Op.call { callee := Callee.builtin Builtin.copy, args := #[d, x], argTypes := #[dT, sT] })
    (v u : Value) (hd : a.eval d = v) (hx : a.eval x = u) {v' : Value} {w' : World} (hr : (Builtin.copy_ #[dT, sT] o.type #[v, u]).run Try.prog w = .ok v' w') (hK : K (a.put o.dst v') w') :
    if Region.wanted o (yielded ops a.tmps) = true then Oper.wp Try.prog o a w K Q else E := by
  rw [if_pos (by simp [Region.wanted, hg])]
  unfold Oper.wp
  simp [execOp, hop, resolve, invoke, builtin, hd, hx, hr, Result.andThen]
  exact hK
/-- a row whose first spans are one -/
structure RepK (w : World) (g N : Nat) (s : Int × Int) (k : Nat) (cur : List Value) (V : World) : Prop where
  row : Row V g cur
  len : cur.length = N * 2
  c0 : ∀ i, i < k → cur[i * 2]? = some (.int .i64 s.1)
  c1 : ∀ i, i < k → cur[i * 2 + 1]? = some (.int .i64 s.2)
  one : ∀ v ∈ cur, v.oneCell' = true
  below : Below w.heap.size w V
  hg : w.heap.size ≤ g
theorem one_splice {L cs : List Value} {o : Nat} (h : ∀ v ∈ L, v.oneCell' = true) (h2 : ∀ v ∈ cs, v.oneCell' = true) : ∀ v ∈ splice L o cs, v.oneCell' = true := by
  intro v hv
  unfold splice at hv
  rcases List.mem_append.1 hv with h3 | h3
  · exact h v (List.mem_of_mem_take h3)
  · rcases List.mem_append.1 h3 with h4 | h4
    · exact h2 v h4
    · exact h v (List.mem_of_mem_drop h4)
/-- a copy from the row's head behind it -/
theorem RepK.copy {w V : World} {g N k : Nat} {s : Int × Int} {cur : List Value} (h : RepK w g N s k cur V) (hk : k ≤ N) :
    (cur.take (Nat.min k (N - k) * 2)).length = Nat.min k (N - k) * 2 ∧ ∀ W : World, Row W g (splice cur (k * 2) (cur.take (Nat.min k (N - k) * 2))) → Below w.heap.size w W → RepK w g N s (k + Nat.min k (N - k)) (splice cur (k * 2) (cur.take (Nat.min k (N - k) * 2))) W := by
  have hl := h.len
  have hm : Nat.min k (N - k) ≤ k ∧ Nat.min k (N - k) ≤ N - k := ⟨Nat.min_le_left _ _, Nat.min_le_right _ _⟩
  obtain ⟨q, hq⟩ : ∃ q, q = Nat.min k (N - k) := ⟨_, rfl⟩
  rw [← hq] at hm ⊢
  have ht : (cur.take (q * 2)).length = q * 2 := by rw [List.length_take]; omega
  refine ⟨ht, fun W hW hb => ⟨hW, by rw [length_splice _ _ _ (by omega)]; exact hl, fun i hi => ?_, fun i hi => ?_, one_splice h.one (fun v hv => h.one v (List.mem_of_mem_take hv)), hb, h.hg⟩⟩
  · rw [get_splice _ _ _ _ (by omega)]
    by_cases h1 : i * 2 < k * 2
    · rw [if_pos h1]; exact h.c0 i (by omega)
    · rw [if_neg h1, if_pos (by omega), List.getElem?_take, if_pos (by omega), show i * 2 - k * 2 = (i - k) * 2 by omega]
      exact h.c0 _ (by omega)
  · rw [get_splice _ _ _ _ (by omega)]
    by_cases h1 : i * 2 + 1 < k * 2
    · rw [if_pos h1]; exact h.c1 i (by omega)
    · rw [if_neg h1, if_pos (by omega), List.getElem?_take, if_pos (by omega), show i * 2 + 1 - k * 2 = (i - k) * 2 + 1 by omega]
      exact h.c1 _ (by omega)
set_option maxRecDepth 100000 in
set_option maxHeartbeats 2000000 in
theorem Repeat_any (b c N : Nat) (s : Int × Int) (w : World) (hN : N ≤ 500) (hN1 : 1 ≤ N) (h0 : w.cell? ⟨b, 0, none⟩ = some (.int .i64 s.1)) (h1 : w.cell? ⟨b, 1, none⟩ = some (.int .i64 s.2)) :
    Calls Try.prog 124 #[.slice (some ⟨b, 0, none⟩) 1 c, .int .i64 N] w fun e w' => ∃ g, e = .returned (.slice (some ⟨g, 0, none⟩) N N) ∧ w.heap.size ≤ g ∧ SpR g N (fun _ => s) w' ∧ Below w.heap.size w w' := by
  have KM := Lib.hid fun W => Mul_one N (by omega) W
  have hmk := run_make_spans N (by omega) w
  have bl := World.block_lt_of_cell? _ _ h0
  obtain ⟨w1, hw1⟩ : ∃ w1, w1 = w.alloc (.cells (madeCells #[.int .i64 0, .int .i64 0] (N * 2)) 31) := ⟨_, rfl⟩
  rw [← hw1] at hmk
  have hb1 : Below w.heap.size w w1 := by rw [hw1]; exact box1 _ _
  obtain ⟨cur0, hc0⟩ : ∃ cur0 : List Value, cur0 = (madeCells #[.int .i64 0, .int .i64 0] (N * 2)).toList := ⟨_, rfl⟩
  have hr1 : Row w1 w.heap.size cur0 := by rw [hw1, hc0]; unfold Row; rw [World.alloc_heap_new]
  have hl0 : cur0.length = N * 2 := by rw [hc0]; simp [madeCells]
  have ho0 : ∀ v ∈ cur0, v.oneCell' = true := by
    intro v hv
    rw [hc0] at hv
    simp [madeCells] at hv
    obtain ⟨j, hj, rfl⟩ := hv
    rcases Nat.mod_two_eq_zero_or_one j with h | h <;> rw [h] <;> rfl
  have hcp0 : ∀ ty, (Builtin.copy_ #[22, 22] ty #[.slice (some ⟨w.heap.size, 0, none⟩) N N, .slice (some ⟨b, 0, none⟩) 1 c]).run Try.prog w1 = .ok (.int .i64 1) (w1.setRow w.heap.size (splice cur0 0 [.int .i64 s.1, .int .i64 s.2]).toArray) := fun ty => by
    have h := run_copy2 w1 ty w.heap.size 0 N N ⟨b, 0, none⟩ 1 c cur0 [.int .i64 s.1, .int .i64 s.2] hr1 (by rw [show Nat.min 1 N = 1 from Nat.min_eq_left hN1]; rfl)
      (fun j v hj => by
        rw [Addr.add_lit, Nat.zero_add]
        match j, hj with
        | 0, hj => cases hj; exact cell_of hb1 h0
        | 1, hj => cases hj; exact cell_of hb1 h1
        | j + 2, hj => simp at hj) (by simp; omega) (by simp [Value.oneCell'])
    rw [show Nat.min 1 N = 1 from Nat.min_eq_left hN1] at h
    exact h
  obtain ⟨w2, hw2⟩ : ∃ w2, w2 = w1.setRow w.heap.size (splice cur0 0 [.int .i64 s.1, .int .i64 s.2]).toArray := ⟨_, rfl⟩
  have hb2 : Below w.heap.size w w2 := by
    rw [hw2]
    exact hb1.grown (grown_setRow _ _ _) (by have := hb1.size; omega) (fun r e => by cases e; exact Nat.le_refl _)
  have hrk : RepK w w.heap.size N s 1 (splice cur0 0 [.int .i64 s.1, .int .i64 s.2]) w2 := by
    refine ⟨by rw [hw2]; exact hr1.set _, by rw [length_splice _ _ _ (by simp; omega)]; exact hl0, fun i hi => ?_, fun i hi => ?_, one_splice ho0 (by simp [Value.oneCell']), hb2, Nat.le_refl _⟩
    · obtain rfl : i = 0 := by omega
      rw [get_splice _ _ _ _ (by simp; omega)]; simp
    · obtain rfl : i = 0 := by omega
      rw [get_splice _ _ _ _ (by simp; omega)]; simp
  rw [← hw2] at hcp0
  have HRK := Lib.hid hrk
  have HCP := Lib.hid hcp0
  have u1 : IntKind.u64.wrap (N : Int) = (N : Int) := wrapU _ (by omega) (by omega)
  have u2 : IntKind.i64.wrap (N : Int) = (N : Int) := IntWalk.i64_in _ (by omega)
  have u3 : IntKind.u64.wrap 1 = 1 := wrapU _ (by omega) (by omega)
  have hn0 : (0 : Int) ≤ (N : Int) := by omega
  have hn1 : ¬ ((N : Int) < 0) := by omega
  have d1 : decide ((N : Int) < 0) = false := decide_eq_false hn1
  have d2 : decide ((N : Int) > 9223372036854775807) = false := decide_eq_false (by omega)
  have d3 : decide ((9223372036854775807 : Int) < (N : Int)) = false := decide_eq_false (by omega)
  have HMK := Lib.hid hmk
  clear hrk hcp0 hw2 hr1 hc0 hb1 hw1 hb2
  go_enter Try.func124, Try.ntmps124
  go_wp2_with fail
  refine (KM.out _).mono ?_
  rintro e w9 ⟨rfl, rfl⟩
  go_wp2_with fail
  rw [HCP.out]
  clear hmk d1 d2 d3 u1 u3 hn1
  go_wp2_with fail
  go_loopw [8] (fun v wr => ∃ (k : Nat) (cur : List Value), 1 ≤ k ∧ k ≤ N ∧ v = .int .i64 k ∧ Hid (RepK w w.heap.size N s k cur wr)) (fun v _ => N - (intOf v).toNat)
  case atStart => exact ⟨1, _, by omega, hN1, rfl, HRK⟩
  case round =>
    obtain ⟨k, cur, hk1, hk, rfl, hR⟩ := hrel
    have hk0 : (0 : Int) ≤ (k : Int) := by omega
    by_cases hlt : k < N
    · have hki : (k : Int) < (N : Int) := by omega
      have hkl : (k : Int) ≤ (N : Int) := by omega
      obtain ⟨q, hq⟩ : ∃ q, q = Nat.min k (N - k) := ⟨_, rfl⟩
      obtain ⟨e1, e2⟩ := hR.out.copy hk
      have hq1 : 1 ≤ q := by rw [hq]; exact Nat.le_min.2 ⟨hk1, by omega⟩
      have hq2 : k + q ≤ N := by have : q ≤ N - k := by rw [hq]; exact Nat.min_le_right _ _
                                 omega
      rw [← hq] at e1 e2
      have hl := hR.out.len
      have hcp : ∀ ty dc sc, (Builtin.copy_ #[22, 22] ty #[.slice (some ⟨w.heap.size, k * 2, none⟩) (N - k) dc, .slice (some ⟨w.heap.size, 0, none⟩) k sc]).run Try.prog wr.drew = .ok (.int .i64 q) (wr.drew.setRow w.heap.size (splice cur (k * 2) (cur.take (q * 2))).toArray) := fun ty dc sc => by
        have h := run_copy2 wr.drew ty w.heap.size (k * 2) (N - k) dc ⟨w.heap.size, 0, none⟩ k sc cur (cur.take (q * 2)) hR.out.row.drew (by rw [e1, hq]) (fun j v hj => by
          rw [Addr.add_lit, Nat.zero_add, hR.out.row.drew.cell]
          rw [List.getElem?_take] at hj
          split at hj
          · exact hj
          · cases hj) (by rw [e1]; omega) (fun v hv => hR.out.one v (List.mem_of_mem_take hv))
        rw [← hq] at h
        exact h
      obtain ⟨w5, hw5⟩ : ∃ w5, w5 = wr.drew.setRow w.heap.size (splice cur (k * 2) (cur.take (q * 2))).toArray := ⟨_, rfl⟩
      have hn := e2 w5 (by rw [hw5]; exact hR.out.row.drew.set _) (by rw [hw5]; exact (hR.out.below.drew).grown (grown_setRow _ _ _) (by have := hR.out.row.lt; simp only [World.size_drew]; omega) (fun r e => by cases e; exact Nat.le_refl _))
      rw [← hw5] at hcp
      have HCQ := Lib.hid hcp
      have HN := Lib.hid hn
      have hw1 : IntKind.i64.wrap ((k : Int) + (q : Int)) = (k : Int) + (q : Int) := IntWalk.i64_in _ (by omega)
      have ht1 : ((k : Int)).toNat = k := by omega
      have hcap : ¬ (N = k) := by omega
      clear hcp hn hw5 e1 e2 hq hR
      go_wp2_with fail
      refine wp_region_M [] (fun _ => True) (by kernel_rfl) (by kernel_rfl) trivial (fun hT0 => ?_)
      refine M_take (v := ?_) 0 rfl (by kernel_rfl) trivial (fun _ _ _ h => h) (Or.inl ⟨by rfl, ?_⟩) ?_
      rotate_left
      · (intro w hSw; (try dsimp only at hSw); go_simp; (try with_reducible rfl))
      (try simp only [Act.put, List.setIfInBounds_toArray, List.set_cons_zero, List.set_cons_succ])
      refine M_take (v := ?_) 1 rfl (by kernel_rfl) trivial (fun _ _ _ h => h) (Or.inl ⟨by rfl, ?_⟩) ?_
      rotate_left
      · (intro w hSw; (try dsimp only at hSw); go_simp; (try with_reducible rfl))
      (try simp only [Act.put, List.setIfInBounds_toArray, List.set_cons_zero, List.set_cons_succ])
      refine M_take (v := ?_) 2 rfl (by kernel_rfl) trivial (fun _ _ _ h => h) (Or.inl ⟨by rfl, ?_⟩) ?_
      rotate_left
      · (intro w hSw; (try dsimp only at hSw); go_simp; (try with_reducible rfl))
      (try simp only [Act.put, List.setIfInBounds_toArray, List.set_cons_zero, List.set_cons_succ])
      refine M_take (v := ?_) 3 rfl (by kernel_rfl) trivial (fun _ _ _ h => h) (Or.inl ⟨by rfl, ?_⟩) ?_
      rotate_left
      · (intro w hSw; (try dsimp only at hSw); go_simp; (try with_reducible rfl))
      (try simp only [Act.put, List.setIfInBounds_toArray, List.set_cons_zero, List.set_cons_succ])
      refine M_take (v := ?_) 4 rfl (by kernel_rfl) trivial (fun _ _ _ h => h) (Or.inl ⟨by rfl, ?_⟩) ?_
      rotate_left
      · (intro w hSw; (try dsimp only at hSw); go_simp; (try with_reducible rfl))
      (try simp only [Act.put, List.setIfInBounds_toArray, List.set_cons_zero, List.set_cons_succ])
      refine M_take (v := ?_) 5 rfl (by kernel_rfl) trivial (fun _ _ _ h => h) (Or.inl ⟨by rfl, ?_⟩) ?_
      rotate_left
      · (intro w hSw; (try dsimp only at hSw); go_simp; (try with_reducible rfl))
      (try simp only [Act.put, List.setIfInBounds_toArray, List.set_cons_zero, List.set_cons_succ])
      refine M_take (v := ?_) 6 rfl (by kernel_rfl) trivial (fun _ _ _ h => h) (Or.inl ⟨by rfl, ?_⟩) ?_
      rotate_left
      · (intro w hSw; (try dsimp only at hSw); go_simp; (try with_reducible rfl))
      (try simp only [Act.put, List.setIfInBounds_toArray, List.set_cons_zero, List.set_cons_succ])
      refine M_step 7 rfl (by kernel_rfl) (fun K hK => ?_)
      refine step_copy_mine rfl (.tmp 41) (.tmp 44) 22 22 rfl (.slice (some ⟨w.heap.size, k * 2, none⟩) (N - k) (N - k)) (.slice (some ⟨w.heap.size, 0, none⟩) k N) (by simp [Act.eval, Act.put]) (by simp [Act.eval, Act.put]) (HCQ.out _ _ _) ?_
      refine hK.out _ _ (fun _ => trivial) ?_
      clear hK K
      (try simp only [Act.put, List.setIfInBounds_toArray, List.set_cons_zero, List.set_cons_succ])
      refine M_take (v := ?_) 8 rfl (by kernel_rfl) trivial (fun _ _ _ h => h) (Or.inl ⟨by rfl, ?_⟩) ?_
      rotate_left
      · (intro w hSw; (try dsimp only at hSw); go_simp; (try with_reducible rfl))
      (try simp only [Act.put, List.setIfInBounds_toArray, List.set_cons_zero, List.set_cons_succ])
      refine M_step 9 rfl (by kernel_rfl) (fun K hK => ?_)
      go_simp
      refine hK.out _ _ (fun _ => trivial) ?_
      clear hK K
      (try simp only [Act.put, List.setIfInBounds_toArray, List.set_cons_zero, List.set_cons_succ])
      refine M_done (by kernel_rfl) ?_ _
      go_wp2_with fail
      go_roundw
      case rel => exact ⟨k + q, _, by omega, by omega, by go_num, HN⟩
      case measure => simp [intOf]; omega
    · obtain rfl : k = N := by omega
      have d5 : decide ((k : Int) < (k : Int)) = false := decide_eq_false (by omega)
      have HF : Hid (SpR w.heap.size k (fun _ => s) wr ∧ Below w.heap.size w wr) := Lib.hid ⟨⟨hR.out.row.lt, fun i hi => (hR.out.row.cell _).trans (hR.out.c0 i hi), fun i hi => (hR.out.row.cell _).trans (hR.out.c1 i hi), fun o => hR.out.row.frozen o⟩, hR.out.below⟩
      clear hR
      go_wp2_with fail
      go_ret
      exact ⟨_, rfl, Nat.le_refl _, HF.out⟩
end Go.Proofs.Ytpikaohodieeaaa
namespace Go.Proofs.Ytpikaohodieeaaa
open Go.RowKit
set_option linter.unusedSimpArgs false
set_option linter.unusedVariables false
theorem Ends.congr {n : Nat} {R R' : (Nat → Int) → Prop} {S : Nat → Int × Int} (h : Ends n R S) (e : ∀ T, R T ↔ R' T) : Ends n R' S :=
  ⟨fun T hT => h.all T ((e T).2 hT), (e _).1 h.lo, (e _).1 h.hi⟩
/-- what readings returns -/
def RdsP (w : World) (n : Nat) (G : Nat → Int × Int) (m : Nat) (F : Nat → Int × Int × Int) (R : Bool) (v : Value) (w' : World) : Prop :=
  Below w.heap.size w w' ∧ ((R = true ∧ ∃ t S, v = .slice (some ⟨t, 0, none⟩) (n + 1) (n + 1) ∧ w.heap.size ≤ t ∧ SpR t (n + 1) S w' ∧ Ends n (Rdg n G m F) S) ∨ (R = false ∧ v = .slice none 0 0 ∧ ∀ T, ¬ Rdg n G m F T))
/-- gaps as settle wants them -/
def GpOk (n : Nat) (G : Nat → Int × Int) : Prop := 1 ≤ n ∧ n ≤ 200 ∧ ∀ i, i < n → 0 ≤ (G i).1 ∧ (G i).1 ≤ (G i).2 ∧ (G i).2 ≤ 10000
/-- marks as settle wants them -/
def MkOk (n m : Nat) (F : Nat → Int × Int × Int) : Prop := ∀ j, j < m → (0 ≤ (F j).1 ∧ (F j).1 ≤ n) ∧ 0 ≤ (F j).2.1 ∧ (F j).2.1 ≤ (F j).2.2 ∧ (F j).2.2 ≤ 400
set_option maxRecDepth 100000 in
set_option maxHeartbeats 2000000 in
theorem readings_any (g n gc : Nat) (G : Nat → Int × Int) (MA : Option Addr) (m mc : Nat) (F : Nat → Int × Int × Int) (w : World) (hG : SpR g n G w) (hm : TrsIn MA m F w.heap.size w) (hg : GpOk n G) (hk : MkOk n m F) :
    Calls Try.prog 112 #[.slice (some ⟨g, 0, none⟩) n gc, .slice MA m mc] w fun e w' => ∃ R v, e = .returned (.tuple #[v, .bool R]) ∧ RdsP w n G m F R v w' := by
  obtain ⟨h1, hn, hbd⟩ := hg
  have hgl := hG.lt
  have hm0 := hm.1
  have HG := Lib.hid hG
  have HM := Lib.hid hm
  have HBD := Lib.hid hbd
  have HK := Lib.hid hk
  have hw0 : IntKind.i64.wrap ((n : Int) + 1) = (n : Int) + 1 := IntWalk.i64_in _ (by omega)
  have KR := Lib.hid fun (b : Nat) W (h0 : W.cell? ⟨b, 0, none⟩ = some (.int .i64 0)) (h1 : W.cell? ⟨b, 1, none⟩ = some (.int .i64 400)) => Repeat_any b 1 (n + 1) (0, 400) W (by omega) (by omega) h0 h1
  clear hG hm hbd hk
  go_enter Try.func112, Try.ntmps112
  go_wp2_with fail
  obtain ⟨w1, hw1⟩ : ∃ w1 : World, w1 = w.alloc (.cells #[.int .i64 0, .int .i64 400] 31) := ⟨_, rfl⟩
  rw [← hw1]
  have hb1 : Below w.heap.size w w1 := by rw [hw1]; exact box1 _ _
  refine (KR.out _ w1 (by rw [hw1]; go_simp) (by rw [hw1]; go_simp)).mono ?_
  rintro e w2 ⟨t, rfl, ht1, hS, hb2⟩
  have ht : w.heap.size ≤ t := Nat.le_trans hb1.size ht1
  have D2 := Lib.hid (nextB hb1 hb2)
  have HS2 := Lib.hid hS
  clear hw1 hb1 hS hb2 ht1
  go_wp2_with fail
  go_loopw [17] (fun v wr => ∃ k : Nat, k ≤ m ∧ v = .int .i64 k ∧ Hid (SpR t (n + 1) (mkS F k) wr) ∧ Hid (Below w.heap.size w wr)) (fun v _ => m - (intOf v).toNat)
  case atStart => exact ⟨0, Nat.zero_le _, rfl, Lib.hid (HS2.out.same fun i _ => rfl), D2⟩
  case round =>
    obtain ⟨k, hk, rfl, hS, hB⟩ := hrel
    obtain ⟨wo, rfl⟩ : ∃ wo : World, wo = wr := ⟨_, rfl⟩
    have hk0 : (0 : Int) ≤ (k : Int) := by omega
    have hs := hB.out.size
    by_cases hlt : k < m
    · have hki : (k : Int) < (m : Int) := by omega
      obtain ⟨a, ea, ab, c0, c1, c2⟩ := (HM.out.up hB.out (Nat.le_refl _)).2 k hlt
      have hmk := HK.out k hlt
      obtain ⟨cc, hcc⟩ : ∃ cc : Nat, (F k).1 = (cc : Int) := ⟨(F k).1.toNat, (Int.toNat_of_nonneg hmk.1.1).symm⟩
      have hc1 : cc < n + 1 := by have := hmk.1.2; omega
      have hci : (cc : Int) < (n : Int) + 1 := by omega
      have hc0 : (0 : Int) ≤ (cc : Int) := by omega
      have KN := Lib.hid fun W (h : SpR t (n + 1) (mkS F k) W) => narrow_any t (n + 1) cc (mkS F k) (F k).2 W h hc1
      have HC := Lib.hid hcc
      rw [hcc] at c0
      clear hcc hmk
      rw [ea]
      go_wp2_with fail
      obtain ⟨w5, hw5⟩ : ∃ w5 : World, w5 = wo.alloc (.cells #[.int .i64 (cc : Int), .int .i64 (F k).2.1, .int .i64 (F k).2.2] 33) := ⟨_, rfl⟩
      rw [← hw5]
      have hb5 : Below wo.heap.size wo w5 := by rw [hw5]; exact box1 _ _
      have bt5 : Tr3 ((cc : Int), (F k).2) wo.heap.size w5 := by rw [hw5]; exact tr3_new _ ((cc : Int), (F k).2) _
      clear hw5 c0 c1 c2
      have zo := bt5.lt
      obtain ⟨t0, t1, t2⟩ := bt5
      simp only at t0 t1 t2
      have HS5 := Lib.hid (hS.out.up hb5)
      have hB5 := Lib.hid (hB.out.trans (hb5.mono hs))
      have gl5 := HS5.out.lt
      clear hb5
      refine wp_region_M [6] (fun w' => w'.cell? ⟨wo.heap.size, 0, none⟩ = some (.int .i64 (cc : Int)) ∧ w'.cell? ⟨wo.heap.size, 1, none⟩ = some (.int .i64 (F k).2.1) ∧ w'.cell? ⟨wo.heap.size, 2, none⟩ = some (.int .i64 (F k).2.2)) (by kernel_rfl) (by kernel_rfl) (by (try dsimp only); (repeat' apply And.intro); all_goals first | assumption | (go_simp; done)) (fun hT0 => ?_)
      refine M_take (v := ?_) 0 rfl (by kernel_rfl) (by assumption) (fun _ _ _ h => h) (Or.inl ⟨by rfl, ?_⟩) ?_
      rotate_left
      · (intro w hSw; (try dsimp only at hSw); go_simp; (try with_reducible rfl))
      (try simp only [Act.put, List.setIfInBounds_toArray, List.set_cons_zero, List.set_cons_succ])
      refine M_take (v := ?_) 1 rfl (by kernel_rfl) (by assumption) (fun _ _ _ h => h) (Or.inl ⟨by rfl, ?_⟩) ?_
      rotate_left
      · (intro w hSw; (try dsimp only at hSw); go_simp; (try with_reducible rfl))
      (try simp only [Act.put, List.setIfInBounds_toArray, List.set_cons_zero, List.set_cons_succ])
      refine M_take (v := ?_) 2 rfl (by kernel_rfl) (by assumption) (fun _ _ _ h => h) (Or.inl ⟨by rfl, ?_⟩) ?_
      rotate_left
      · (intro w hSw; (try dsimp only at hSw); go_simp; (try with_reducible rfl))
      (try simp only [Act.put, List.setIfInBounds_toArray, List.set_cons_zero, List.set_cons_succ])
      refine M_take (v := ?_) 3 rfl (by kernel_rfl) (by assumption) (fun _ _ _ h => h) (Or.inl ⟨by rfl, ?_⟩) ?_
      rotate_left
      · (intro w hSw; (try dsimp only at hSw); go_simp; (try with_reducible rfl))
      (try simp only [Act.put, List.setIfInBounds_toArray, List.set_cons_zero, List.set_cons_succ])
      refine M_take (v := ?_) 4 rfl (by kernel_rfl) (by assumption) (fun _ _ _ h => h) (Or.inl ⟨by rfl, ?_⟩) ?_
      rotate_left
      · (intro w hSw; (try dsimp only at hSw); go_simp; (try with_reducible rfl))
      (try simp only [Act.put, List.setIfInBounds_toArray, List.set_cons_zero, List.set_cons_succ])
      refine M_take (v := ?_) 5 rfl (by kernel_rfl) (by assumption) (fun _ _ _ h => h) (Or.inl ⟨by rfl, ?_⟩) ?_
      rotate_left
      · (intro w hSw; (try dsimp only at hSw); go_simp; (try with_reducible rfl))
      (try simp only [Act.put, List.setIfInBounds_toArray, List.set_cons_zero, List.set_cons_succ])
      refine M_step 6 rfl (by kernel_rfl) (fun K hK => ?_)
      go_simp
      go_at_call 125
      refine (KN.out _ (HS5.out.up (Below.refl _ _).drew)).mono ?_
      rintro e w6 ⟨rfl, hs6, hg6⟩
      have HS6 := Lib.hid hs6
      have HG6 := Lib.hid ((grown_of_below' (t := t) (Below.refl w5.heap.size w5).drew).trans hg6)
      clear hs6 hg6
      refine hK.out _ _ (fun e => by cases e) ?_
      clear hK K
      (try simp only [Act.put, List.setIfInBounds_toArray, List.set_cons_zero, List.set_cons_succ])
      refine M_done (by kernel_rfl) ?_ _
      have hsz := HG6.out.size
      have NS : Hid (SpR t (n + 1) (mkS F (k + 1)) w6) := Lib.hid (HS6.out.same fun i _ => by
        show upd (mkS F k) cc _ i = upd (mkS F k) (F k).1.toNat _ i
        rw [show (F k).1.toNat = cc by rw [HC.out]; omega])
      have NB : Hid (Below w.heap.size w w6) := Lib.hid (hB5.out.grown HG6.out (by omega) (fun r e => by cases e; exact ht))
      clear HS6 HG6 hT0 t0 t1 t2
      go_wp2_with fail
      go_roundw
      case rel => exact ⟨k + 1, by omega, by go_num, NS, NB⟩
      case measure => simp [intOf]; omega
    · obtain rfl : k = m := by omega
      have hki : ¬ ((k : Int) < (k : Int)) := by omega
      have hgt : g ≠ t := by omega
      have htk : Tk n (mkS F k) := mkS_tk k fun j hj => (HK.out j hj).2
      have KS := Lib.hid (settle_any g n gc t (n + 1) G (mkS F k) wo ((HG.out.up (hB.out.mono (Nat.le_refl _)))) hS.out hgt h1 hn HBD.out htk)
      have HIF := Lib.hid fun T => mkS_iff (n := n) (G := G) (fun j hj => (HK.out j hj).1) T
      clear htk
      go_wp2_with fail
      refine KS.out.mono ?_
      rintro e w8 ⟨R, S, rfl, hs8, hg8, hT8, hF8⟩
      have HB8 := Lib.hid (hB.out.grown hg8 hs (fun r e => by cases e; exact ht))
      have HS8 := Lib.hid hs8
      have HT8 := Lib.hid hT8
      have HF8 := Lib.hid hF8
      clear hs8 hg8 hT8 hF8
      cases R with
      | true =>
        go_wp2_with fail
        refine bodyPost_ret (v := .tuple #[.slice (some ⟨t, 0, none⟩) (n + 1) (n + 1), .bool true]) (by simp [results, Try.results112, go_sem]) rfl ⟨true, _, rfl, HB8.out, .inl ⟨rfl, t, S, rfl, ht, HS8.out, (HT8.out (by trivial)).congr HIF.out⟩⟩
      | false =>
        go_wp2_with fail
        refine bodyPost_ret (v := .tuple #[.slice none 0 0, .bool false]) (by simp [results, Try.results112, go_sem]) rfl ⟨false, _, rfl, HB8.out, .inr ⟨rfl, rfl, fun T hT => HF8.out (by trivial) T ((HIF.out T).2 hT)⟩⟩
end Go.Proofs.Ytpikaohodieeaaa
namespace Go.Proofs.Ytpikaohodieeaaa
open Go.RowKit
set_option linter.unusedSimpArgs false
set_option linter.unusedVariables false
theorem wid_head (S : Nat → Int × Int) : ∀ n, wid S 0 ≤ wid S n
  | 0 => Nat.le_refl _
  | n + 1 => Nat.le_trans (wid_head S n) (Nat.le_add_right _ _)
theorem tight_ex {n : Nat} {G : Nat → Int × Int} (h1 : 1 ≤ n) (hG : ∀ i, i < n → neS (G i)) : ∀ (k : Nat) (S : Nat → Int × Int), Tk n S → wid S n ≤ k → (∃ S', Ends n (RdS n G S) S') ∨ ∀ T, ¬ RdS n G S T := by
  intro k
  induction k with
  | zero =>
    intro S hT hw
    by_cases hne : ∃ i, i ≤ n ∧ ¬ neS (S i)
    · obtain ⟨i, hi, h⟩ := hne
      exact .inr fun T hR => h (by have := hR.tick i hi; unfold neS; omega)
    · have hne' : ∀ i, i ≤ n → neS (S i) := fun i hi => Classical.byContradiction fun h => hne ⟨i, hi, h⟩
      have h0 := hT 0 (by omega)
      have h2 := hne' 0 (by omega)
      unfold neS at h2
      have h3 := wid_head S n
      have h4 : wid S 0 = ((S 0).2 - (S 0).1 + 400).toNat := rfl
      omega
  | succ k ih =>
    intro S hT hw
    by_cases hne : ∃ i, i ≤ n ∧ ¬ neS (S i)
    · obtain ⟨i, hi, h⟩ := hne
      exact .inr fun T hR => h (by have := hR.tick i hi; unfold neS; omega)
    · have hne' : ∀ i, i ≤ n → neS (S i) := fun i hi => Classical.byContradiction fun h => hne ⟨i, hi, h⟩
      by_cases hc : ∃ f t l, stepOk n G f t l ∧ chg S f t l = true
      · obtain ⟨f, t, l, hs, hc⟩ := hc
        have ht := hs.f.2.1
        by_cases hn : neS (stepS S f t l t)
        · have hlt := chg_wid hc ht hn
          rcases ih (stepS S f t l) (step_tk hT ht hn) (by omega) with ⟨S', h⟩ | h
          · exact .inl ⟨S', ⟨fun T hR => h.all T (step_sound hs hR), step_sub h.lo, step_sub h.hi⟩⟩
          · exact .inr fun T hR => h T (step_sound hs hR)
        · refine .inr fun T hR => hn ?_
          have := (step_sound hs hR).tick t ht
          unfold neS; omega
      · have hq : ∀ f t l, stepOk n G f t l → stepS S f t l = S := fun f t l hs => chg_no (by
          cases h : chg S f t l with
          | false => rfl
          | true => exact absurd ⟨f, t, l, hs, h⟩ hc)
        exact .inl ⟨S, ends_of h1 (fun _ h => h) (fun _ h => h) hG hne' (fun i hi => hq _ _ _ (.inl ⟨rfl, hi, rfl⟩)) (fun i hi => hq _ _ _ (.inr ⟨rfl, hi, rfl⟩))⟩

/-- the error and the spans of read -/
def RdR (d : Drm) (m : Nat) (F : Nat → Int × Int × Int) (vd : Bool) (E : Int) (S : Nat → Int × Int) : Prop :=
  ((E = 20 ∨ E = 21) ∧ ChR d m F E) ∨ (DrOk d ∧ MksOk d m F ∧ ((vd = false ∧ E = 1) ∨ (vd = true ∧ E = 22 ∧ ∀ T, ¬ Rdg d.n (gapF d) m F T) ∨ (vd = true ∧ E = 0 ∧ Ends d.n (Rdg d.n (gapF d) m F) S)))
theorem gpOk {d : Drm} (h : DrOk d) : GpOk d.n (gapF d) := ⟨h.n1, by have := h.n2; omega, fun i hi => by
  have h1 := gapK_bd h d.m (Nat.le_refl _) i hi
  have h2 := h.m
  show 0 ≤ (gapK d d.m i).1 ∧ (gapK d d.m i).1 ≤ (gapK d d.m i).2 ∧ (gapK d d.m i).2 ≤ 10000
  omega⟩
theorem mkOk_of {d : Drm} {m : Nat} {F : Nat → Int × Int × Int} (h : MksOk d m F) : MkOk d.n m F := fun j hj => by
  have h1 := h.2 j hj
  unfold mkOk isS at h1
  omega
theorem ends_ex {n : Nat} {G : Nat → Int × Int} {m : Nat} {F : Nat → Int × Int × Int} (hg : GpOk n G) (hk : MkOk n m F) : (∃ S, Ends n (Rdg n G m F) S) ∨ ∀ T, ¬ Rdg n G m F T := by
  have hc : ∀ j, j < m → 0 ≤ (F j).1 ∧ (F j).1 ≤ n := fun j hj => (hk j hj).1
  rcases tight_ex (G := G) hg.1 (fun i hi => by have := hg.2.2 i hi; unfold neS; omega) _ (mkS F m) (mkS_tk m fun j hj => (hk j hj).2) (Nat.le_refl _) with ⟨S, h⟩ | h
  · exact .inl ⟨S, h.congr fun T => mkS_iff hc T⟩
  · exact .inr fun T hT => h T ((mkS_iff hc T).2 hT)
theorem rdR_ex (d : Drm) (m : Nat) (F : Nat → Int × Int × Int) (vd : Bool) : ∃ E S, RdR d m F vd E S := by
  obtain ⟨E, h⟩ := chR_ex d m F
  have h' := h
  rcases h with ⟨rfl, _⟩ | ⟨rfl, _, _⟩ | ⟨rfl, h1, h2⟩
  · exact ⟨20, fun _ => (0, 0), .inl ⟨.inl rfl, h'⟩⟩
  · exact ⟨21, fun _ => (0, 0), .inl ⟨.inr rfl, h'⟩⟩
  · cases vd with
    | false => exact ⟨1, fun _ => (0, 0), .inr ⟨h1, h2, .inl ⟨rfl, rfl⟩⟩⟩
    | true =>
      rcases ends_ex (gpOk h1) (mkOk_of h2) with ⟨S, h⟩ | h
      · exact ⟨0, S, .inr ⟨h1, h2, .inr (.inr ⟨rfl, rfl, h⟩)⟩⟩
      · exact ⟨22, fun _ => (0, 0), .inr ⟨h1, h2, .inr (.inl ⟨rfl, rfl, h⟩)⟩⟩
/-- spans that were returned, or none with an error -/
def RdV (n : Nat) (E : Int) (S : Nat → Int × Int) (v : Value) (w w' : World) : Prop :=
  Below w.heap.size w w' ∧ ((¬ E = 0 ∧ v = .slice none 0 0) ∨ (E = 0 ∧ ∃ t, v = .slice (some ⟨t, 0, none⟩) (n + 1) (n + 1) ∧ w.heap.size ≤ t ∧ SpR t (n + 1) S w'))
set_option maxRecDepth 100000 in
set_option maxHeartbeats 2000000 in
theorem read_any (d : Drm) (MA : Option Addr) (m mc : Nat) (F : Nat → Int × Int × Int) (vd : Bool) (E : Int) (S : Nat → Int × Int) (w : World) (hin : DrIn d w.heap.size w) (hm : TrsIn MA m F w.heap.size w) (hE : RdR d m F vd E S) :
    Calls Try.prog 89 #[d.v, .slice MA m mc, .bool vd] w fun e w' => ∃ v, e = .returned (.tuple #[v, .int .i64 E]) ∧ RdV d.n E S v w w' := by
  obtain ⟨w1, hw1⟩ : ∃ w1 : World, w1 = w.alloc (drO d) := ⟨_, rfl⟩
  have B1 : Below w.heap.size w w1 := by rw [hw1]; exact box1 _ _
  have P1 : HasDr d w.heap.size w1 := by rw [hw1]; exact dr_new w d
  have HB := Lib.hid B1
  have HP := Lib.hid P1
  have I1 := Lib.hid ((hin.up B1 (Nat.le_refl _)).more B1.size)
  have M1 := Lib.hid ((hm.up B1 (Nat.le_refl _)).more B1.size)
  have HIN := Lib.hid hin
  have HM := Lib.hid hm
  obtain ⟨x0, x1⟩ := P1
  clear hin hm B1
  rcases hE with ⟨hE, h⟩ | ⟨hd, hk, h⟩
  · have hne : ¬ E = 0 := by omega
    have hn1 : (E != 0) = true := by simpa using hne
    have hn2 : (E == 0) = false := by simpa using hne
    have H := Lib.hid h
    clear h hE
    go_enter Try.func89, Try.ntmps89
    go_wp2_with fail
    rw [← hw1]
    refine (check_any d MA m mc F E w1 I1.out M1.out H.out).mono ?_
    rintro e w2 ⟨rfl, hb2⟩
    have D2 := Lib.hid (nextB HB.out hb2)
    clear hb2 hw1
    go_wp2_with fail
    exact bodyPost_ret (v := .tuple #[.slice none 0 0, .int .i64 E]) (by simp [results, Try.results89, go_sem]) rfl ⟨_, rfl, D2.out, .inl ⟨hne, rfl⟩⟩
  · have HD := Lib.hid hd
    have HK := Lib.hid hk
    have HC : Hid (ChR d m F 0) := Lib.hid (.inr (.inr ⟨rfl, hd, hk⟩))
    clear hd hk
    rcases h with ⟨rfl, rfl⟩ | ⟨rfl, rfl, hno⟩ | ⟨rfl, rfl, hen⟩
    · go_enter Try.func89, Try.ntmps89
      go_wp2_with fail
      rw [← hw1]
      refine (check_any d MA m mc F 0 w1 I1.out M1.out HC.out).mono ?_
      rintro e w2 ⟨rfl, hb2⟩
      have D2 := Lib.hid (nextB HB.out hb2)
      clear hb2 hw1
      go_wp2_with fail
      exact bodyPost_ret (v := .tuple #[.slice none 0 0, .int .i64 1]) (by simp [results, Try.results89, go_sem]) rfl ⟨_, rfl, D2.out, .inl ⟨by omega, rfl⟩⟩
    · have HNO := Lib.hid hno
      clear hno
      go_enter Try.func89, Try.ntmps89
      go_wp2_with fail
      rw [← hw1]
      refine (check_any d MA m mc F 0 w1 I1.out M1.out HC.out).mono ?_
      rintro e w2 ⟨rfl, hb2⟩
      have D2 := Lib.hid (nextB HB.out hb2)
      have P2 := HP.out.up hb2
      clear hb2 hw1 x0 x1
      obtain ⟨x0, x1⟩ := P2
      have I2 := Lib.hid ((HIN.out.up D2.out (Nat.le_refl _)).more D2.out.size)
      go_wp2_with fail
      refine (gapsOf_any d w2 I2.out HD.out).mono ?_
      rintro e w3 ⟨g, cap, rfl, hg3, hcap3, hS3, hb3⟩
      have D3 := Lib.hid (nextB D2.out hb3)
      have HS3 := Lib.hid hS3
      have M3 := Lib.hid ((HM.out.up D3.out (Nat.le_refl _)).more D3.out.size)
      have KR := Lib.hid (readings_any g d.n cap (gapF d) MA m mc F w3 HS3.out M3.out (gpOk HD.out) (mkOk_of HK.out))
      clear hb3 hS3 hg3 hcap3 x0 x1
      go_wp2_with fail
      refine KR.out.mono ?_
      rintro e w4 ⟨R, v, rfl, hb4, hR⟩
      have D4 := Lib.hid (nextB D3.out hb4)
      obtain ⟨rfl, rfl⟩ : R = false ∧ v = .slice none 0 0 := by
        rcases hR with ⟨rfl, t, T, h1, h2, h3, h4⟩ | ⟨rfl, h1, h2⟩
        · exact absurd h4.lo (HNO.out _)
        · exact ⟨rfl, h1⟩
      clear hb4 hR
      go_wp2_with fail
      exact bodyPost_ret (v := .tuple #[.slice none 0 0, .int .i64 22]) (by simp [results, Try.results89, go_sem]) rfl ⟨_, rfl, D4.out, .inl ⟨by omega, rfl⟩⟩
    · have HNO := Lib.hid hen
      clear hen
      go_enter Try.func89, Try.ntmps89
      go_wp2_with fail
      rw [← hw1]
      refine (check_any d MA m mc F 0 w1 I1.out M1.out HC.out).mono ?_
      rintro e w2 ⟨rfl, hb2⟩
      have D2 := Lib.hid (nextB HB.out hb2)
      have P2 := HP.out.up hb2
      clear hb2 hw1 x0 x1
      obtain ⟨x0, x1⟩ := P2
      have I2 := Lib.hid ((HIN.out.up D2.out (Nat.le_refl _)).more D2.out.size)
      go_wp2_with fail
      refine (gapsOf_any d w2 I2.out HD.out).mono ?_
      rintro e w3 ⟨g, cap, rfl, hg3, hcap3, hS3, hb3⟩
      have D3 := Lib.hid (nextB D2.out hb3)
      have HS3 := Lib.hid hS3
      have M3 := Lib.hid ((HM.out.up D3.out (Nat.le_refl _)).more D3.out.size)
      have KR := Lib.hid (readings_any g d.n cap (gapF d) MA m mc F w3 HS3.out M3.out (gpOk HD.out) (mkOk_of HK.out))
      clear hb3 hS3 hg3 hcap3 x0 x1
      go_wp2_with fail
      refine KR.out.mono ?_
      rintro e w4 ⟨R, v, rfl, hb4, hR⟩
      have D4 := Lib.hid (nextB D3.out hb4)
      obtain ⟨t, T, rfl, rfl, ht, hS4, hEn⟩ : ∃ t T, R = true ∧ v = .slice (some ⟨t, 0, none⟩) (d.n + 1) (d.n + 1) ∧ w3.heap.size ≤ t ∧ SpR t (d.n + 1) T w4 ∧ Ends d.n (Rdg d.n (gapF d) m F) T := by
        rcases hR with ⟨rfl, t, T, h1, h2, h3, h4⟩ | ⟨rfl, h1, h2⟩
        · exact ⟨t, T, rfl, h1, h2, h3, h4⟩
        · exact absurd HNO.out.lo (h2 _)
      have HS4 := Lib.hid (hS4.same (S' := S) fun i hi => hEn.same HNO.out i (by omega))
      have ht4 : w.heap.size ≤ t := Nat.le_trans D3.out.size ht
      clear hb4 hR hS4 hEn ht
      go_wp2_with fail
      exact bodyPost_ret (v := .tuple #[.slice (some ⟨t, 0, none⟩) (d.n + 1) (d.n + 1), .int .i64 0]) (by simp [results, Try.results89, go_sem]) rfl ⟨_, rfl, D4.out, .inr ⟨rfl, t, rfl, ht4, HS4.out⟩⟩
end Go.Proofs.Ytpikaohodieeaaa
namespace Go.Proofs.Ytpikaohodieeaaa
open Go.RowKit
set_option linter.unusedSimpArgs false
set_option linter.unusedVariables false
/-- ticks that were returned, or none with an error -/
def IvP (w : World) (n : Nat) (E : Int) (Z : Nat → Int) (e : Ending) (w' : World) : Prop :=
  ∃ A q c, e = .returned (.tuple #[.slice A q c, .int .i64 E]) ∧ q = (if E = 0 then n + 1 else 0) ∧ IntsIn A q Z w'.heap.size w' ∧ Below w.heap.size w w'
theorem sps_nil (S : Nat → Int × Int) (B : Nat) (w : World) : SpsIn none 0 S B w := ⟨by omega, fun i hi => absurd hi (by omega)⟩
set_option maxRecDepth 100000 in
set_option maxHeartbeats 2000000 in
theorem Earliest_any (d : Drm) (MA : Option Addr) (m mc : Nat) (F : Nat → Int × Int × Int) (E : Int) (S : Nat → Int × Int) (w : World) (hin : DrIn d w.heap.size w) (hm : TrsIn MA m F w.heap.size w) (hE : RdR d m F true E S) :
    Calls Try.prog 37 #[d.v, .slice MA m mc] w fun e w' => IvP w d.n E (fun i => (S i).1) e w' := by
  obtain ⟨w1, hw1⟩ : ∃ w1 : World, w1 = w.alloc (drO d) := ⟨_, rfl⟩
  have B1 : Below w.heap.size w w1 := by rw [hw1]; exact box1 _ _
  have P1 : HasDr d w.heap.size w1 := by rw [hw1]; exact dr_new w d
  have HB := Lib.hid B1
  have K := Lib.hid (read_any d MA m mc F true E S w1 ((hin.up B1 (Nat.le_refl _)).more B1.size) ((hm.up B1 (Nat.le_refl _)).more B1.size) hE)
  have hn : E = 0 → d.n ≤ 200 := fun h => by
    rcases hE with ⟨h1, _⟩ | ⟨h1, _⟩
    · omega
    · have := h1.n2; omega
  obtain ⟨x0, x1⟩ := P1
  clear hin hm B1 hE
  go_enter Try.func37, Try.ntmps37
  go_wp2_with fail
  rw [← hw1]
  refine K.out.mono ?_
  rintro e w2 ⟨v, rfl, hb2, hv⟩
  have D2 := Lib.hid (nextB HB.out hb2)
  clear hb2 hw1 x0 x1
  rcases hv with ⟨hne, rfl⟩ | ⟨rfl, t, rfl, ht, hS⟩
  · go_wp2_with fail
    refine (firsts_any none 0 0 S w2 (sps_nil _ _ _) (by omega)).mono ?_
    rintro e w3 ⟨A, c, rfl, hi, hb3⟩
    have D3 := Lib.hid (nextB D2.out hb3)
    have HI := Lib.hid hi
    clear hi hb3
    go_wp2_with fail
    go_ret2
    exact ⟨A, 0, c, by simp, by rw [if_neg hne], HI.out, D3.out⟩
  · have hn' := hn rfl
    have HS := Lib.hid hS
    clear hS hn
    go_wp2_with fail
    refine (firsts_any (some ⟨t, 0, none⟩) (d.n + 1) (d.n + 1) S w2 (HS.out.sps (by omega)) (by omega)).mono ?_
    rintro e w3 ⟨A, c, rfl, hi, hb3⟩
    have D3 := Lib.hid (nextB D2.out hb3)
    have HI := Lib.hid hi
    clear hi hb3
    go_wp2_with fail
    go_ret2
    exact ⟨A, d.n + 1, c, by simp, by rw [if_pos rfl], HI.out, D3.out⟩
set_option maxRecDepth 100000 in
set_option maxHeartbeats 2000000 in
theorem Latest_any (d : Drm) (MA : Option Addr) (m mc : Nat) (F : Nat → Int × Int × Int) (E : Int) (S : Nat → Int × Int) (w : World) (hin : DrIn d w.heap.size w) (hm : TrsIn MA m F w.heap.size w) (hE : RdR d m F true E S) :
    Calls Try.prog 39 #[d.v, .slice MA m mc] w fun e w' => IvP w d.n E (fun i => (S i).2) e w' := by
  obtain ⟨w1, hw1⟩ : ∃ w1 : World, w1 = w.alloc (drO d) := ⟨_, rfl⟩
  have B1 : Below w.heap.size w w1 := by rw [hw1]; exact box1 _ _
  have P1 : HasDr d w.heap.size w1 := by rw [hw1]; exact dr_new w d
  have HB := Lib.hid B1
  have K := Lib.hid (read_any d MA m mc F true E S w1 ((hin.up B1 (Nat.le_refl _)).more B1.size) ((hm.up B1 (Nat.le_refl _)).more B1.size) hE)
  have hn : E = 0 → d.n ≤ 200 := fun h => by
    rcases hE with ⟨h1, _⟩ | ⟨h1, _⟩
    · omega
    · have := h1.n2; omega
  obtain ⟨x0, x1⟩ := P1
  clear hin hm B1 hE
  go_enter Try.func39, Try.ntmps39
  go_wp2_with fail
  rw [← hw1]
  refine K.out.mono ?_
  rintro e w2 ⟨v, rfl, hb2, hv⟩
  have D2 := Lib.hid (nextB HB.out hb2)
  clear hb2 hw1 x0 x1
  rcases hv with ⟨hne, rfl⟩ | ⟨rfl, t, rfl, ht, hS⟩
  · go_wp2_with fail
    refine (lasts_any none 0 0 S w2 (sps_nil _ _ _) (by omega)).mono ?_
    rintro e w3 ⟨A, c, rfl, hi, hb3⟩
    have D3 := Lib.hid (nextB D2.out hb3)
    have HI := Lib.hid hi
    clear hi hb3
    go_wp2_with fail
    go_ret2
    exact ⟨A, 0, c, by simp, by rw [if_neg hne], HI.out, D3.out⟩
  · have hn' := hn rfl
    have HS := Lib.hid hS
    clear hS hn
    go_wp2_with fail
    refine (lasts_any (some ⟨t, 0, none⟩) (d.n + 1) (d.n + 1) S w2 (HS.out.sps (by omega)) (by omega)).mono ?_
    rintro e w3 ⟨A, c, rfl, hi, hb3⟩
    have D3 := Lib.hid (nextB D2.out hb3)
    have HI := Lib.hid hi
    clear hi hb3
    go_wp2_with fail
    go_ret2
    exact ⟨A, d.n + 1, c, by simp, by rw [if_pos rfl], HI.out, D3.out⟩
set_option maxRecDepth 100000 in
set_option maxHeartbeats 1000000 in
theorem agree_any (g n gc : Nat) (G : Nat → Int × Int) (MA : Option Addr) (m mc : Nat) (F : Nat → Int × Int × Int) (w : World) (R : Bool) (hG : SpR g n G w) (hm : TrsIn MA m F w.heap.size w) (hg : GpOk n G) (hk : MkOk n m F) (hR : R = true ↔ ∃ T, Rdg n G m F T) :
    Calls Try.prog 84 #[.slice (some ⟨g, 0, none⟩) n gc, .slice MA m mc] w fun e w' => e = .returned (.bool R) ∧ Below w.heap.size w w' := by
  have K := Lib.hid (readings_any g n gc G MA m mc F w hG hm hg hk)
  have HR := Lib.hid hR
  clear hG hm hR
  go_enter Try.func84, Try.ntmps84
  go_wp2_with fail
  refine K.out.mono ?_
  rintro e w1 ⟨R', v, rfl, hb1, h⟩
  obtain ⟨rfl, A, q, c, rfl⟩ : R' = R ∧ ∃ A q c, v = .slice A q c := by
    rcases h with ⟨rfl, t, T, h1, h2, h3, h4⟩ | ⟨rfl, h1, h2⟩
    · exact ⟨(HR.out.2 ⟨_, h4.lo⟩).symm, _, _, _, h1⟩
    · refine ⟨?_, _, _, _, h1⟩
      cases R with
      | false => rfl
      | true => obtain ⟨T, hT⟩ := HR.out.1 rfl; exact absurd hT (h2 T)
  have HB := Lib.hid hb1
  clear h hb1
  go_wp2_with fail
  go_ret
  exact ⟨rfl, HB.out⟩
/-- whether a drum has a reading with marks, and the error -/
def FeR (d : Drm) (m : Nat) (F : Nat → Int × Int × Int) (R : Bool) (E : Int) : Prop :=
  ((E = 20 ∨ E = 21) ∧ R = false ∧ ChR d m F E) ∨ (E = 0 ∧ DrOk d ∧ MksOk d m F ∧ (R = true ↔ ∃ T, Rdg d.n (gapF d) m F T))
theorem feR_ex (d : Drm) (m : Nat) (F : Nat → Int × Int × Int) : ∃ R E, FeR d m F R E := by
  obtain ⟨E, h⟩ := chR_ex d m F
  have h' := h
  rcases h with ⟨rfl, _⟩ | ⟨rfl, _, _⟩ | ⟨rfl, h1, h2⟩
  · exact ⟨false, 20, .inl ⟨.inl rfl, rfl, h'⟩⟩
  · exact ⟨false, 21, .inl ⟨.inr rfl, rfl, h'⟩⟩
  · by_cases hx : ∃ T, Rdg d.n (gapF d) m F T
    · exact ⟨true, 0, .inr ⟨rfl, h1, h2, fun _ => hx, fun _ => rfl⟩⟩
    · exact ⟨false, 0, .inr ⟨rfl, h1, h2, fun e => (by cases e), fun h => absurd h hx⟩⟩
set_option maxRecDepth 100000 in
set_option maxHeartbeats 1000000 in
theorem Feasible_any (d : Drm) (MA : Option Addr) (m mc : Nat) (F : Nat → Int × Int × Int) (R : Bool) (E : Int) (w : World) (hin : DrIn d w.heap.size w) (hm : TrsIn MA m F w.heap.size w) (hE : FeR d m F R E) :
    Calls Try.prog 33 #[d.v, .slice MA m mc] w fun e w' => e = .returned (.tuple #[.bool R, .int .i64 E]) ∧ Below w.heap.size w w' := by
  obtain ⟨w1, hw1⟩ : ∃ w1 : World, w1 = w.alloc (drO d) := ⟨_, rfl⟩
  have B1 : Below w.heap.size w w1 := by rw [hw1]; exact box1 _ _
  have P1 : HasDr d w.heap.size w1 := by rw [hw1]; exact dr_new w d
  have HB := Lib.hid B1
  have HP := Lib.hid P1
  have HIN := Lib.hid hin
  have HM := Lib.hid hm
  have KC := Lib.hid fun E (h : ChR d m F E) => check_any d MA m mc F E w1 ((hin.up B1 (Nat.le_refl _)).more B1.size) ((hm.up B1 (Nat.le_refl _)).more B1.size) h
  obtain ⟨x0, x1⟩ := P1
  clear hin hm B1
  rcases hE with ⟨hE, rfl, h⟩ | ⟨rfl, hd, hk, hR⟩
  · have hne : ¬ E = 0 := by omega
    have hn1 : (E != 0) = true := by simpa using hne
    have H := Lib.hid h
    clear h hE hne
    go_enter Try.func33, Try.ntmps33
    go_wp2_with fail
    rw [← hw1]
    refine (KC.out E H.out).mono ?_
    rintro e w2 ⟨rfl, hb2⟩
    have D2 := Lib.hid (nextB HB.out hb2)
    clear hb2 hw1
    go_wp2_with fail
    go_ret2
    exact ⟨by simp, D2.out⟩
  · have HD := Lib.hid hd
    have HK := Lib.hid hk
    have HR := Lib.hid hR
    have HC : Hid (ChR d m F 0) := Lib.hid (.inr (.inr ⟨rfl, hd, hk⟩))
    clear hd hk hR
    go_enter Try.func33, Try.ntmps33
    go_wp2_with fail
    rw [← hw1]
    refine (KC.out 0 HC.out).mono ?_
    rintro e w2 ⟨rfl, hb2⟩
    have D2 := Lib.hid (nextB HB.out hb2)
    have P2 := HP.out.up hb2
    clear hb2 hw1 x0 x1
    obtain ⟨x0, x1⟩ := P2
    go_wp2_with fail
    refine (gapsOf_any d w2 ((HIN.out.up D2.out (Nat.le_refl _)).more D2.out.size) HD.out).mono ?_
    rintro e w3 ⟨g, cap, rfl, hg3, hcap3, hS3, hb3⟩
    have D3 := Lib.hid (nextB D2.out hb3)
    have KA := Lib.hid (agree_any g d.n cap (gapF d) MA m mc F w3 R hS3 ((HM.out.up D3.out (Nat.le_refl _)).more D3.out.size) (gpOk HD.out) (mkOk_of HK.out) HR.out)
    clear hb3 hS3 hg3 hcap3 x0 x1
    go_wp2_with fail
    refine KA.out.mono ?_
    rintro e w4 ⟨rfl, hb4⟩
    have D4 := Lib.hid (nextB D3.out hb4)
    clear hb4
    go_wp2_with fail
    go_ret2
    exact ⟨by simp, D4.out⟩
end Go.Proofs.Ytpikaohodieeaaa
