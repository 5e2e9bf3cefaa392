import Derived.Test.YtmeljcbefnojfaaAda
import Derived.Laws.CopyOwn
import Derived.Lib.AppendZerosOnto
import Derived.Lib.Overlaps
import Derived.Shelf.Spec.SlicesInsert
namespace Go.Proofs.Ytmeljcbefnojfaa
open Go.RowKit
/-- a block that is known whole -/
def Row (w : World) (g : Nat) (cur : List Value) : Prop := w.heap[g]? = some (.cells cur.toArray 23 (0, 0))
theorem Row.lt {w : World} {g : Nat} {cur : List Value} (h : Row w g cur) : g < w.heap.size := (Array.getElem?_eq_some_iff.1 h).1
theorem Row.cell {w : World} {g : Nat} {cur : List Value} (h : Row w g cur) (i : Nat) : w.cell? ⟨g, i, none⟩ = cur[i]? := by
  have := cell_of_row w g i cur.toArray 23 (0, 0) h
  simpa using this
theorem Row.frozen {w : World} {g : Nat} {cur : List Value} (h : Row w g cur) (i : Nat) : w.frozen? ⟨g, i, none⟩ = false := by
  unfold Row at h
  simp [World.frozen?, h]
theorem Row.set {w : World} {g : Nat} {cur : List Value} (h : Row w g cur) (new : List Value) : Row (w.setRow g new.toArray) g new := setRow_heap w g _ _ _ _ h
theorem Row.drew {w : World} {g : Nat} {cur : List Value} (h : Row w g cur) : Row w.drew g cur := h
theorem grown_setRow (w : World) (g : Nat) (new : Array Value) : w.grownBy (w.setRow g new) (some g) :=
  ⟨rfl, rfl, rfl, by simp, fun k _ hne => setRow_other w g k new (fun e => hne (by rw [e]))⟩
/-- the run of a copy of elements of two cells -/
theorem run_copy2 (w : World) (ty : TypeId) (g o dLen dCap : Nat) (a : Addr) (sLen sCap : Nat) (cur cs : List Value) (hg : Row w g cur) (hn : cs.length = Nat.min sLen dLen * 2)
    (hsrc : ∀ j v, cs[j]? = some v → w.cell? (a.add j) = some v) (hfit : o + cs.length ≤ cur.length) (h1 : ∀ v ∈ cs, v.oneCell' = true) :
    (Builtin.copy_ #[52, 52] ty #[.slice (some ⟨g, o, none⟩) dLen dCap, .slice (some a) sLen sCap]).run Try.prog w =
      .ok (goInt (Nat.min sLen dLen)) (w.setRow g (splice cur o cs).toArray) := by
  obtain ⟨i0, hi0, hz0, hz1, hz2⟩ := info_parts Try.infoSpan
  have hl := run_loadCells_list (P := Try.prog) w a cs hsrc
  have hst := run_storeCells_at Try.prog g o 23 cs 0 cur.toArray w hg (by simpa using hfit) h1
  simp [Builtin.copy_, run_underlying Try.underlying52, Builtin.lenOf, Builtin.firstCells, sizeOf, typeInfo, hi0, hz1, ← hn, hl, hst, splice]
/-- the run of an append of one element where there is room -/
theorem run_room2 (w : World) (ty : TypeId) (g n cap : Nat) (b bc : Nat) (x y : Int) (cur : List Value) (hg : Row w g cur) (hn : n + 1 ≤ cap) (hc : cur.length = cap * 2)
    (h0 : w.cell? ⟨b, 0, none⟩ = some (.int .i64 x)) (h1 : w.cell? ⟨b, 1, none⟩ = some (.int .i64 y)) :
    (Builtin.append_ #[52, 52] ty #[.slice (some ⟨g, 0, none⟩) n cap, .slice (some ⟨b, 0, none⟩) 1 bc]).run Try.prog w =
      .ok (.slice (some ⟨g, 0, none⟩) (n + 1) cap) (w.setRow g (splice cur (n * 2) [.int .i64 x, .int .i64 y]).toArray) := by
  obtain ⟨i0, hi0, hz0, hz1, hz2⟩ := info_parts Try.infoSpan
  have hl := run_loadCells_list (P := Try.prog) w ⟨b, 0, none⟩ [.int .i64 x, .int .i64 y] (by
    intro j v hj
    match j with
    | 0 => simp at hj; subst hj; exact h0
    | 1 => simp at hj; subst hj; exact h1
    | j + 2 => simp at hj)
  have hst := run_storeCells_at Try.prog g (n * 2) 23 [.int .i64 x, .int .i64 y] 0 cur.toArray w hg (by simp; omega) (by simp [Value.oneCell'])
  have ha : (⟨g, 0, none⟩ : Addr).add (n * 2) = ⟨g, n * 2, none⟩ := by unfold Addr.add; split <;> simp_all
  simp at hl
  simp [Builtin.append_, run_underlying Try.underlying52, Builtin.lenOf, Builtin.firstCells, sizeOf, typeInfo, hi0, hz1, hl, ha, hst, splice, hn]
/-- clear of no element -/
theorem run_clear0 (w : World) (ty : TypeId) (A : Option Addr) (c : Nat) : (Builtin.clear_ #[52] ty #[.slice A 0 c]).run Try.prog w = .ok (.tuple #[]) w := by
  cases A <;> simp [Builtin.clear_, run_underlying Try.underlying52]
def zerosV (n : Nat) : List Value := (Builtin.zeroCells (Value.agg #[.int .i64 0, .int .i64 0]).cells n).toList
theorem zerosV_length (n : Nat) : (zerosV n).length = n * 2 := by simp [zerosV, Builtin.zeroCells, Value.cells]
theorem zerosV_one (n : Nat) : ∀ v ∈ zerosV n, v.oneCell' = true := by
  intro v hv
  simp [zerosV, Builtin.zeroCells, Value.cells] at hv
  obtain ⟨a, ha, rfl⟩ := hv
  have : a % 2 = 0 ∨ a % 2 = 1 := by omega
  rcases this with h | h <;> simp [h, Value.oneCell']
/-- clear of elements of two cells -/
theorem run_clear2 (w : World) (ty : TypeId) (g o n c : Nat) (cur : List Value) (hg : Row w g cur) (hfit : o + n * 2 ≤ cur.length) (h0 : 0 < n) :
    (Builtin.clear_ #[52] ty #[.slice (some ⟨g, o, none⟩) n c]).run Try.prog w = .ok (.tuple #[]) (w.setRow g (splice cur o (zerosV n)).toArray) := by
  obtain ⟨i0, hi0, hz0, hz1, hz2⟩ := info_parts Try.infoSpan
  have hst := run_storeCells_at Try.prog g o 23 (zerosV n) 0 cur.toArray w hg (by simp [zerosV_length]; omega) (zerosV_one n)
  have hz : ∀ w : World, (zeroValue 23).run Try.prog w = .ok (.agg #[.int .i64 0, .int .i64 0]) w := fun _ => by kernel_rfl
  obtain ⟨m, rfl⟩ : ∃ m, n = m + 1 := ⟨n - 1, by omega⟩
  unfold zerosV at hst
  simp [Builtin.clear_, run_underlying Try.underlying52, hz, hst, splice, zerosV]
end Go.Proofs.Ytmeljcbefnojfaa
namespace Go.Proofs.Ytmeljcbefnojfaa
open Go.RowKit
theorem row_own {w : World} {base g n cap : Nat} {xs : List Value} (h : w.ownsRow base 23 2 (.slice (some ⟨g, 0, none⟩) n cap) n xs) : ∃ cur : List Value, Row w g cur ∧ base ≤ g ∧ n ≤ cap ∧ cap ≤ maxLen ∧ cur.length = cap * 2 ∧ cur.take (n * 2) = xs ∧ xs.length = n * 2 := by
  obtain ⟨h0, hx | ⟨g', cap', cur, e1, e2, e3, e4, e5, e6, e7⟩⟩ := h
  · cases hx.1
  · cases e1
    exact ⟨cur.toList, by unfold Row; simpa using e3, e2, e4, e5, by simpa using e6, e7, h0⟩
theorem own_row {w : World} {base g n cap : Nat} {xs cur : List Value} (h : Row w g cur) (hb : base ≤ g) (hn : n ≤ cap) (hc : cap ≤ maxLen) (hl : cur.length = cap * 2) (ht : cur.take (n * 2) = xs) : w.ownsRow base 23 2 (.slice (some ⟨g, 0, none⟩) n cap) n xs := by
  refine ⟨?_, .inr ⟨g, cap, cur.toArray, rfl, hb, h, hn, hc, by simpa using hl, by simpa using ht⟩⟩
  rw [← ht, List.length_take]; omega
theorem lits2 {v : List Value} (h : ∀ x ∈ v, ∃ n : Int, x = .int .i64 n) : ∀ x ∈ v, x.oneCell' = true := by
  intro x hx
  obtain ⟨n, rfl⟩ := h x hx
  rfl
theorem get_splice {α : Type} (L cs : List α) (o j : Nat) (h : o + cs.length ≤ L.length) : (splice L o cs)[j]? = if j < o then L[j]? else if j < o + cs.length then cs[j - o]? else L[j]? := by
  unfold splice
  by_cases h1 : j < o
  · rw [if_pos h1, List.getElem?_append_left (by rw [List.length_take]; omega), List.getElem?_take, if_pos h1]
  · rw [if_neg h1, List.getElem?_append_right (by rw [List.length_take]; omega), List.length_take, Nat.min_eq_left (by omega)]
    by_cases h2 : j < o + cs.length
    · rw [if_pos h2, List.getElem?_append_left (by omega)]
    · rw [if_neg h2, List.getElem?_append_right (by omega), List.getElem?_drop]
      congr 1; omega
theorem get_three {α : Type} (a t b : List α) (j : Nat) : (a ++ t ++ b)[j]? = if j < a.length then a[j]? else if j < a.length + t.length then t[j - a.length]? else b[j - (a.length + t.length)]? := by
  by_cases h1 : j < a.length
  · rw [if_pos h1, List.append_assoc, List.getElem?_append_left h1]
  · rw [if_neg h1]
    by_cases h2 : j < a.length + t.length
    · rw [if_pos h2, List.append_assoc, List.getElem?_append_right (by omega), List.getElem?_append_left (by omega)]
    · rw [if_neg h2, List.getElem?_append_right (by simp; omega), List.length_append]
/-- what an insert in the middle leaves -/
theorem mid_room {α : Type} {cur xs t : List α} {p N : Nat} (ht : cur.take N = xs) (hx : xs.length = N) (hp : p ≤ N) (hr : N + t.length ≤ cur.length) :
    (splice (splice cur (p + t.length) (xs.drop p)) p t).take (N + t.length) = xs.take p ++ t ++ xs.drop p := by
  have hd : (xs.drop p).length = N - p := by rw [List.length_drop, hx]
  have hl1 : (splice cur (p + t.length) (xs.drop p)).length = cur.length := length_splice _ _ _ (by rw [hd]; omega)
  have hcx : ∀ k, k < N → cur[k]? = xs[k]? := fun k hk => by rw [← ht, List.getElem?_take, if_pos hk]
  apply List.ext_getElem?
  intro j
  rw [List.getElem?_take, get_three, get_splice _ _ _ _ (by rw [hl1]; omega), get_splice _ _ _ _ (by rw [hd]; omega), List.length_take, hd, hx, Nat.min_eq_left hp]
  by_cases h1 : j < N + t.length
  · rw [if_pos h1]
    by_cases h2 : j < p
    · rw [if_pos h2, if_pos (by omega), if_pos h2, List.getElem?_take, if_pos h2, hcx j (by omega)]
    · rw [if_neg h2, if_neg h2]
      by_cases h3 : j < p + t.length
      · rw [if_pos h3, if_pos h3]
      · rw [if_neg h3, if_neg h3, if_neg h3, if_pos (by omega)]
  · rw [if_neg h1, if_neg (by omega), if_neg (by omega), List.getElem?_eq_none (by rw [hd]; omega)]
set_option maxRecDepth 100000 in
set_option maxHeartbeats 4000000 in
/-- slices.Insert of one element in the middle of a row of one's own, where there is room -/
theorem Insert_room (base bv g cap n i : Nat) (xs : List Value) (x y : Int) (w : World) (_hbase : base ≤ w.heap.size) (hn : n ≤ 1000000) (hi : i < n) (hroom : n + 1 ≤ cap) (hgv : bv ≠ g)
    (hown : w.ownsRow base 23 2 (.slice (some ⟨g, 0, none⟩) n cap) n xs) (hxs : ∀ v ∈ xs, v.oneCell' = true) (hv : Row w bv [.int .i64 x, .int .i64 y]) :
    Calls Try.prog 143 #[.slice (some ⟨g, 0, none⟩) n cap, .int .i64 i, .slice (some ⟨bv, 0, none⟩) 1 1] w fun e w' => Rep base w (some g) (n + 1) (xs.take (i * 2) ++ [.int .i64 x, .int .i64 y] ++ xs.drop (i * 2)) e w' := by
  obtain ⟨cur, hg, hbg, hnc, hcm, hcl, hct, hxl⟩ := row_own hown
  have hov : ∀ lb cb, (callFunc 144 #[.slice (some ⟨bv, 0, none⟩) 1 1, .slice (some ⟨g, (i + 1) * 2, none⟩) lb cb]).run Try.prog w = .ok (.value (.bool false)) w := fun lb cb => by
    rw [run_callFunc_extern Try.func144 (by kernel_rfl) (by kernel_rfl) (by kernel_rfl) (e := Extern.SlicesOverlaps.overlaps #[52, 52] #[4]) (by kernel_rfl),
      Lib.run_overlaps_apart w 52 4 23 Try.underlying52 2 (fun _ => by kernel_rfl) ⟨bv, 0, none⟩ ⟨g, (i + 1) * 2, none⟩ 1 1 lb cb hgv 23 23 2 (cap * 2) (by unfold Row at hv; simp [World.shape?, hv]) (by unfold Row at hg; simp [World.shape?, hg, hcl]) (by omega) (hv.frozen 0) (hv.frozen 2)]
    rfl
  have HOV := Lib.hid hov
  have e0 : ∀ W : World, W.heap = w.heap → Row W g cur := fun W h => by unfold Row; rw [h]; exact hg
  have hdl : (xs.drop (i * 2)).length = (n - i) * 2 := by rw [List.length_drop, hxl]; omega
  have hcp1 : ∀ (W : World), W.heap = w.heap → ∀ ty dc sc, (Builtin.copy_ #[52, 52] ty #[.slice (some ⟨g, (i + 1) * 2, none⟩) (n - i) dc, .slice (some ⟨g, i * 2, none⟩) (n + 1 - i) sc]).run Try.prog W = .ok (goInt (Nat.min (n + 1 - i) (n - i))) (W.setRow g (splice cur ((i + 1) * 2) (xs.drop (i * 2))).toArray) := fun W hW ty dc sc =>
    run_copy2 W ty g ((i + 1) * 2) (n - i) dc ⟨g, i * 2, none⟩ (n + 1 - i) sc cur (xs.drop (i * 2)) (e0 W hW) (by rw [hdl]; simp only [Nat.min_def]; split <;> omega)
      (fun j v hj => by
        rw [Addr.add_lit, (e0 W hW).cell]
        rw [List.getElem?_drop, ← hct, List.getElem?_take] at hj
        split at hj
        · exact hj
        · cases hj) (by rw [hdl]; omega) (fun v hv => hxs v (List.mem_of_mem_drop hv))
  obtain ⟨c1, hc1⟩ : ∃ c1, c1 = splice cur ((i + 1) * 2) (xs.drop (i * 2)) := ⟨_, rfl⟩
  have hl1 : c1.length = cap * 2 := by rw [hc1, length_splice _ _ _ (by rw [hdl]; omega), hcl]
  rw [← hc1] at hcp1
  have hcp2 : ∀ (W : World), Row W g c1 → Row W bv [.int .i64 x, .int .i64 y] → ∀ ty dc, (Builtin.copy_ #[52, 52] ty #[.slice (some ⟨g, i * 2, none⟩) (n + 1 - i) dc, .slice (some ⟨bv, 0, none⟩) 1 1]).run Try.prog W = .ok (goInt (Nat.min 1 (n + 1 - i))) (W.setRow g (splice c1 (i * 2) [.int .i64 x, .int .i64 y]).toArray) := fun W hW hV ty dc =>
    run_copy2 W ty g (i * 2) (n + 1 - i) dc ⟨bv, 0, none⟩ 1 1 c1 [.int .i64 x, .int .i64 y] hW (by simp only [Nat.min_def]; split <;> simp; omega)
      (fun j v hj => by rw [Addr.add_lit, hV.cell, Nat.zero_add]; exact hj) (by simp; omega) (by simp [Value.oneCell'])
  have hr1 : ∀ W : World, W.heap = w.heap → Row (W.setRow g c1.toArray) g c1 := fun W h => (e0 W h).set c1
  have hr2 : ∀ W : World, W.heap = w.heap → Row (W.setRow g c1.toArray) bv [.int .i64 x, .int .i64 y] := fun W h => by
    unfold Row; rw [setRow_other W g bv _ hgv, h]; exact hv
  have HC1 := Lib.hid hcp1
  have HC2 := Lib.hid hcp2
  have HR1 := Lib.hid hr1
  have HR2 := Lib.hid hr2
  have HD := Lib.hid hc1
  have hfin : (splice c1 (i * 2) [Value.int .i64 x, .int .i64 y]).take ((n + 1) * 2) = xs.take (i * 2) ++ [.int .i64 x, .int .i64 y] ++ xs.drop (i * 2) := by
    have := mid_room (t := [Value.int .i64 x, Value.int .i64 y]) (p := i * 2) hct hxl (by omega) (by simp; omega)
    rw [hc1]
    simp only [List.length_cons, List.length_nil] at this
    rw [show (i + 1) * 2 = i * 2 + (0 + 1 + 1) by omega, show (n + 1) * 2 = n * 2 + (0 + 1 + 1) by omega]
    exact this
  have HF := Lib.hid hfin
  have HCT := Lib.hid hct
  have HCM := Lib.hid hcm
  have hgl := hg.lt
  unfold maxLen at hcm
  have hw1 : IntKind.i64.wrap ((i : Int) + 1) = (i : Int) + 1 := IntWalk.i64_in _ (by omega)
  have hb1 : (0 : Int) ≤ (i : Int) + 1 := by omega
  have htn : ((i : Int) + 1).toNat = i + 1 := by omega
  have hin : i ≤ n := by omega
  have hb3 : (i : Int) ≤ (n : Int) + 1 := by omega
  have hb2 : ¬ (cap = i + 1) := by omega
  have hb4 : ¬ (cap = i) := by omega
  have hb5 : ¬ ((i : Int) = (n : Int)) := by omega
  clear hcp1 hcp2 hr1 hr2 hc1 hfin hov hown hct e0 hg hv hdl
  go_enter Try.func143, Try.ntmps143
  go_wp2_with (simp only [HOV.out])
  go_region_law (refine step_copy_runI rfl (.tmp 73) (.tmp 76) 52 52 rfl (.slice (some ⟨g, (i + 1) * 2, none⟩) (n - i) (cap - (i + 1))) (.slice (some ⟨g, i * 2, none⟩) (n + 1 - i) (cap - i)) (by simp [Act.eval, Act.put]) (by simp [Act.eval, Act.put]) (HC1.out w.drew rfl _ _ _) ?_)
  have hrun2 := HC2.out (w.drew.setRow g c1.toArray) (HR1.out w.drew rfl) (HR2.out w.drew rfl)
  go_wp2_with fail
  go_ret
  refine ⟨g, cap, rfl, ?_, ?_, .inl rfl, ?_⟩
  · have := (HR1.out w.drew rfl).set (splice c1 (i * 2) [Value.int .i64 x, Value.int .i64 y])
    exact own_row this hbg hroom HCM.out (by rw [length_splice _ _ _ (by simp; omega), hl1]) HF.out
  · refine ⟨rfl, rfl, rfl, by rw [setRow_size, setRow_size]; exact Nat.le_refl _, fun k _ hne => ?_⟩
    have hk : k ≠ g := fun e => hne (by rw [e])
    rw [setRow_other _ g k _ hk, setRow_other _ g k _ hk]
    rfl
  · rw [setRow_size, setRow_size]; exact hgl
theorem mid_grow {α : Type} {xs t zs : List α} {p N : Nat} (hx : xs.length = N) (hp : p ≤ N) (hz : N + t.length ≤ p + zs.length) :
    (splice (splice (xs.take p ++ zs) p t) (p + t.length) (xs.drop p)).take (N + t.length) = xs.take p ++ t ++ xs.drop p := by
  have hd : (xs.drop p).length = N - p := by rw [List.length_drop, hx]
  have hlt : (xs.take p).length = p := by rw [List.length_take, hx, Nat.min_eq_left hp]
  have hl0 : (xs.take p ++ zs).length = p + zs.length := by rw [List.length_append, hlt]
  have hl1 : (splice (xs.take p ++ zs) p t).length = p + zs.length := by rw [length_splice _ _ _ (by rw [hl0]; omega), hl0]
  apply List.ext_getElem?
  intro j
  rw [List.getElem?_take, get_three, get_splice _ _ _ _ (by rw [hl1, hd]; omega), get_splice _ _ _ _ (by rw [hl0]; omega), hlt, hd]
  by_cases h1 : j < N + t.length
  · rw [if_pos h1]
    by_cases h2 : j < p
    · rw [if_pos (by omega), if_pos h2, if_pos h2, List.getElem?_append_left (by rw [hlt]; exact h2)]
    · rw [if_neg h2]
      by_cases h3 : j < p + t.length
      · rw [if_pos h3, if_neg h2, if_pos h3, if_pos h3]
      · rw [if_neg h3, if_pos (by omega), if_neg h2, if_neg h3]
  · rw [if_neg h1, if_neg (by omega), if_neg (by omega), List.getElem?_eq_none (by rw [hd]; omega)]
set_option maxRecDepth 100000 in
set_option maxHeartbeats 4000000 in
/-- slices.Insert of one element in the middle of a row of one's own that is full -/
theorem Insert_full (base bv g n i : Nat) (xs : List Value) (x y : Int) (w : World) (hbase : base ≤ w.heap.size) (hn : n ≤ 1000000) (hi : i < n)
    (hown : w.ownsRow base 23 2 (.slice (some ⟨g, 0, none⟩) n n) n xs) (hxs : ∀ v ∈ xs, v.oneCell' = true) (hv : Row w bv [.int .i64 x, .int .i64 y]) :
    Calls Try.prog 143 #[.slice (some ⟨g, 0, none⟩) n n, .int .i64 i, .slice (some ⟨bv, 0, none⟩) 1 1] w fun e w' => Rep base w (some g) (n + 1) (xs.take (i * 2) ++ [.int .i64 x, .int .i64 y] ++ xs.drop (i * 2)) e w' := by
  obtain ⟨i0, hi0, hz0, hz1, hz2⟩ := info_parts Try.infoSpan
  obtain ⟨cur, hg, hbg, hnc, hcm, hcl, hct, hxl⟩ := row_own hown
  have hgl := hg.lt
  have hvl := hv.lt
  have hxc : cur = xs := by rw [← hct, List.take_of_length_le (by omega)]
  subst hxc
  have hold : (Builtin.firstCells i0.size i (.slice (some ⟨g, 0, none⟩) i n)).run Try.prog w.drew = .ok (cur.take (i * 2)).toArray w.drew := by
    rw [hz1]
    exact run_firstCells_some w.drew 2 i ⟨g, 0, none⟩ i n (cur.take (i * 2)) (by rw [List.length_take]; omega) (fun j v hj => by
      rw [Addr.add_lit, Nat.zero_add, hg.drew.cell]
      rw [List.getElem?_take] at hj
      split at hj
      · exact hj
      · cases hj)
  obtain ⟨ROW, hROW⟩ : ∃ ROW : List Value, ROW = cur.take (i * 2) ++ (zerosV (n + 1 - i) ++ zerosV (grownCap w (n + 1) n 23 - (n + 1))) := ⟨_, rfl⟩
  obtain ⟨G, hG⟩ : ∃ G, G = grownCap w (n + 1) n 23 := ⟨_, rfl⟩
  have hik : i + (n + 1 - i) = n + 1 := by omega
  have hrz : ∀ ty, (Builtin.append_ #[52, 3] ty #[.slice (some ⟨g, 0, none⟩) i n, .int .i64 ((n : Int) + 1 - (i : Int))]).run Try.prog w =
      .ok (.slice (some ⟨w.heap.size, 0, none⟩) (n + 1) G) (w.drew.alloc (.cells ROW.toArray 23)) := fun ty => by
    have h := Lib.run_append_grow_zeros w 52 3 ty 23 i0 _ .i64 .i64 Try.underlying52 Try.underlying3 hi0 hz0 (some ⟨g, 0, none⟩) i n (cur.take (i * 2)) hold (n + 1 - i) (by omega) (by omega) (by omega) (by omega) (by rw [hz2]; omega) (by rw [hz2, hik]; exact growslice_fits (by omega) (by omega))
    rw [hik] at h
    have harr : (cur.take (i * 2)).toArray ++ Builtin.zeroCells (Value.agg #[.int .i64 0, .int .i64 0]).cells (n + 1 - i) ++ Builtin.zeroCells (Value.agg #[.int .i64 0, .int .i64 0]).cells (grownCap w (n + 1) n 23 - (n + 1)) = ROW.toArray := by
      apply Array.ext'
      rw [hROW]
      simp [zerosV]
    rw [show (n : Int) + 1 - (i : Int) = ((n + 1 - i : Nat) : Int) by omega, h, hG, harr]
  have hG1 : n + 1 ≤ G := by rw [hG]; exact grownCap_ge w _ _ _
  have hGm : G ≤ maxLen := by rw [hG]; exact grownCap_le_maxLen w (n + 1) n 23 (by unfold maxLen; omega)
  have hRl : ROW.length = G * 2 := by rw [hROW, ← hG]; simp [zerosV_length]; omega
  have hdl : (cur.drop (i * 2)).length = (n - i) * 2 := by rw [List.length_drop, hxl]; omega
  obtain ⟨N, hN⟩ : ∃ N, N = w.heap.size := ⟨_, rfl⟩
  have hcp1 : ∀ (W : World), Row W N ROW → Row W bv [.int .i64 x, .int .i64 y] → ∀ ty dc, (Builtin.copy_ #[52, 52] ty #[.slice (some ⟨N, i * 2, none⟩) (n + 1 - i) dc, .slice (some ⟨bv, 0, none⟩) 1 1]).run Try.prog W = .ok (goInt (Nat.min 1 (n + 1 - i))) (W.setRow N (splice ROW (i * 2) [.int .i64 x, .int .i64 y]).toArray) := fun W hW hV ty dc =>
    run_copy2 W ty N (i * 2) (n + 1 - i) dc ⟨bv, 0, none⟩ 1 1 ROW [.int .i64 x, .int .i64 y] hW (by simp only [Nat.min_def]; split <;> simp; omega)
      (fun j v hj => by rw [Addr.add_lit, hV.cell, Nat.zero_add]; exact hj) (by simp; omega) (by simp [Value.oneCell'])
  obtain ⟨c1, hc1⟩ : ∃ c1, c1 = splice ROW (i * 2) [Value.int .i64 x, Value.int .i64 y] := ⟨_, rfl⟩
  have hl1 : c1.length = G * 2 := by rw [hc1, length_splice _ _ _ (by simp; omega), hRl]
  rw [← hc1] at hcp1
  have hcp2 : ∀ (W : World), Row W N c1 → Row W g cur → ∀ ty dc sc, (Builtin.copy_ #[52, 52] ty #[.slice (some ⟨N, (i + 1) * 2, none⟩) (n - i) dc, .slice (some ⟨g, i * 2, none⟩) (n - i) sc]).run Try.prog W = .ok (goInt (Nat.min (n - i) (n - i))) (W.setRow N (splice c1 ((i + 1) * 2) (cur.drop (i * 2))).toArray) := fun W hW hV ty dc sc =>
    run_copy2 W ty N ((i + 1) * 2) (n - i) dc ⟨g, i * 2, none⟩ (n - i) sc c1 (cur.drop (i * 2)) hW (by rw [hdl]; simp only [Nat.min_def]; split <;> omega)
      (fun j v hj => by rw [Addr.add_lit, hV.cell]; rw [List.getElem?_drop] at hj; exact hj) (by rw [hdl]; omega) (fun v hv => hxs v (List.mem_of_mem_drop hv))
  have hfin : (splice c1 ((i + 1) * 2) (cur.drop (i * 2))).take ((n + 1) * 2) = cur.take (i * 2) ++ [.int .i64 x, .int .i64 y] ++ cur.drop (i * 2) := by
    have := mid_grow (t := [Value.int .i64 x, Value.int .i64 y]) (p := i * 2) (zs := zerosV (n + 1 - i) ++ zerosV (grownCap w (n + 1) n 23 - (n + 1))) hxl (by omega) (by simp [zerosV_length]; omega)
    rw [hc1, hROW]
    simp only [List.length_cons, List.length_nil] at this
    rw [show (i + 1) * 2 = i * 2 + (0 + 1 + 1) by omega, show (n + 1) * 2 = n * 2 + (0 + 1 + 1) by omega]
    exact this
  obtain ⟨W1, hW1⟩ : ∃ W1, W1 = (w.alloc (.cells ROW.toArray 23)).drew := ⟨_, rfl⟩
  have r1 : Row W1 N ROW := by rw [hW1, hN]; exact heap_alloc_new w _
  have k1 : ∀ k, k < w.heap.size → W1.heap[k]? = w.heap[k]? := fun k hk => by rw [hW1]; exact Below.heap_alloc w _ k hk
  have r2 : Row W1 bv [.int .i64 x, .int .i64 y] := (k1 bv hvl).trans hv
  have r3 : Row (W1.setRow N c1.toArray) N c1 := r1.set c1
  have r4 : Row (W1.setRow N c1.toArray) g cur := by unfold Row; rw [setRow_other _ _ _ _ (by omega), k1 g hgl]; exact hg
  have run1 := hcp1 W1 r1 r2
  have run2 := hcp2 (W1.setRow N c1.toArray).drew r3 r4
  have hrz' : ∀ ty, (Builtin.append_ #[52, 3] ty #[.slice (some ⟨g, 0, none⟩) i n, .int .i64 ((n : Int) + 1 - (i : Int))]).run Try.prog w = .ok (.slice (some ⟨N, 0, none⟩) (n + 1) G) W1 := fun ty => by rw [hrz ty, hW1, hN]; rfl
  have R1 := Lib.hid run1
  have R2 := Lib.hid run2
  have RZ := Lib.hid hrz'
  have HF := Lib.hid hfin
  have HK := Lib.hid k1
  have H3 := Lib.hid r3
  have HS : W1.heap.size = w.heap.size + 1 := by rw [hW1]; exact World.size_alloc _ _
  have HW1 := Lib.hid hW1
  have HNN := Lib.hid hN
  have HSS := Lib.hid HS
  have HL1 := Lib.hid hl1
  have HGM := Lib.hid hGm
  have HDL := Lib.hid hdl
  have hNg : N ≠ g := by omega
  have hos : W1.os = w.os ∧ W1.tape = w.tape ∧ W1.output = w.output := by rw [hW1]; exact ⟨rfl, rfl, rfl⟩
  have HOS := Lib.hid hos
  unfold maxLen at hGm hcm
  have hw1 : IntKind.i64.wrap ((i : Int) + 1) = (i : Int) + 1 := IntWalk.i64_in _ (by omega)
  have hb1 : (0 : Int) ≤ (i : Int) + 1 := by omega
  have htn : ((i : Int) + 1).toNat = i + 1 := by omega
  have hin : i ≤ n := by omega
  have hb3 : (i : Int) ≤ (n : Int) := by omega
  have hb5 : ¬ ((i : Int) = (n : Int)) := by omega
  have hb6 : ¬ (G = i) := by omega
  have hb7 : ¬ (G = i + 1) := by omega
  have hb8 : ¬ (n = i) := by omega
  have hb9 : (n : Int) < (n : Int) + 1 := by omega
  clear hcp1 hcp2 hc1 hfin hown hct hg hv hdl hrz hrz' hROW hG hRl hl1 r1 r2 r3 r4 run1 run2 k1 hW1 hN HS hold hik hos hcl hxl
  go_enter Try.func143, Try.ntmps143
  have rr1 := R1.out
  go_wp2_with ((at_builtin; refine Lib.wpList_append_run _ rfl _ _ _ _ rfl _ _ rfl rfl _ _ (RZ.out _) ?_))
  clear rr1
  go_region_law (refine step_copy_runI rfl (.tmp 50) (.tmp 53) 52 52 rfl (.slice (some ⟨N, (i + 1) * 2, none⟩) (n - i) (G - (i + 1))) (.slice (some ⟨g, i * 2, none⟩) (n - i) (n - i)) (by simp [Act.eval, Act.put]) (by simp [Act.eval, Act.put]) (R2.out _ _ _) ?_)
  go_wp2_with fail
  go_ret
  have hN := HNN.out
  have hdl := HDL.out
  have hl1 := HL1.out
  refine ⟨N, G, rfl, ?_, ?_, .inr hN, ?_⟩
  · refine own_row (H3.out.drew.set (splice c1 ((i + 1) * 2) (cur.drop (i * 2)))) (by omega) hG1 HGM.out ?_ HF.out
    rw [length_splice _ _ _ (by rw [hdl]; omega), hl1]
  · refine ⟨HOS.out.1, HOS.out.2.1, HOS.out.2.2, by rw [setRow_size]; show _ ≤ (W1.setRow N c1.toArray).heap.size; rw [setRow_size]; have := HSS.out; omega, fun k hk _ => ?_⟩
    rw [setRow_other _ N k _ (by omega)]
    show (W1.setRow N c1.toArray).heap[k]? = _
    rw [setRow_other _ N k _ (by omega)]
    exact HK.out k hk
  · rw [setRow_size]
    show _ < (W1.setRow N c1.toArray).heap.size
    rw [setRow_size]
    have := HSS.out
    omega
end Go.Proofs.Ytmeljcbefnojfaa
namespace Go.Proofs.Ytmeljcbefnojfaa
open Go.RowKit
/-- what a replace in the middle leaves -/
theorem rep_mid {α : Type} {cur xs t : List α} {p q N : Nat} (ht : cur.take N = xs) (hx : xs.length = N) (hp : p + t.length ≤ q) (hq : q ≤ N) (hr : N ≤ cur.length) :
    (splice (splice cur p t) (p + t.length) (xs.drop q)).take (p + t.length + (N - q)) = xs.take p ++ t ++ xs.drop q := by
  have hd : (xs.drop q).length = N - q := by rw [List.length_drop, hx]
  have hl1 : (splice cur p t).length = cur.length := length_splice _ _ _ (by omega)
  have hcx : ∀ k, k < N → cur[k]? = xs[k]? := fun k hk => by rw [← ht, List.getElem?_take, if_pos hk]
  apply List.ext_getElem?
  intro j
  rw [List.getElem?_take, get_three, get_splice _ _ _ _ (by rw [hl1, hd]; omega), get_splice _ _ _ _ (by omega), List.length_take, hd, hx, Nat.min_eq_left (by omega)]
  by_cases h1 : j < p + t.length + (N - q)
  · rw [if_pos h1]
    by_cases h2 : j < p
    · rw [if_pos (by omega), if_pos h2, if_pos h2, List.getElem?_take, if_pos h2, hcx j (by omega)]
    · by_cases h3 : j < p + t.length
      · rw [if_pos h3, if_neg h2, if_pos h3, if_neg h2, if_pos h3]
      · rw [if_neg h3, if_pos h1, if_neg h2, if_neg h3]
  · rw [if_neg h1, if_neg (by omega), if_neg (by omega), List.getElem?_eq_none (by rw [hd]; omega)]
set_option maxRecDepth 100000 in
set_option maxHeartbeats 4000000 in
/-- slices.Replace of some elements in the middle of a row of one's own by one -/
theorem Replace_mid (base bv g cap n i j : Nat) (xs : List Value) (x y : Int) (w : World) (_hbase : base ≤ w.heap.size) (hn : n ≤ 1000000) (hij : i < j) (hjn : j < n) (_hgv : bv ≠ g)
    (hown : w.ownsRow base 23 2 (.slice (some ⟨g, 0, none⟩) n cap) n xs) (hxs : ∀ v ∈ xs, v.oneCell' = true) (hv : Row w bv [.int .i64 x, .int .i64 y]) :
    Calls Try.prog 133 #[.slice (some ⟨g, 0, none⟩) n cap, .int .i64 i, .int .i64 j, .slice (some ⟨bv, 0, none⟩) 1 1] w fun e w' => Rep base w (some g) (i + 1 + (n - j)) (xs.take (i * 2) ++ [.int .i64 x, .int .i64 y] ++ xs.drop (j * 2)) e w' := by
  obtain ⟨cur, hg, hbg, hnc, hcm, hcl, hct, hxl⟩ := row_own hown
  have hgl := hg.lt
  have hvl := hv.lt
  obtain ⟨t, ht⟩ : ∃ t, t = [Value.int .i64 x, Value.int .i64 y] := ⟨_, rfl⟩
  have htl : t.length = 2 := by rw [ht]; rfl
  have hdl : (xs.drop (j * 2)).length = (n - j) * 2 := by rw [List.length_drop, hxl]; omega
  obtain ⟨c1, hc1⟩ : ∃ c1, c1 = splice cur (i * 2) t := ⟨_, rfl⟩
  have hl1 : c1.length = cap * 2 := by rw [hc1, length_splice _ _ _ (by omega), hcl]
  obtain ⟨c2, hc2⟩ : ∃ c2, c2 = splice c1 ((i + 1) * 2) (xs.drop (j * 2)) := ⟨_, rfl⟩
  have hl2 : c2.length = cap * 2 := by rw [hc2, length_splice _ _ _ (by rw [hdl]; omega), hl1]
  have ht2 : c2.take ((i + 1 + (n - j)) * 2) = xs.take (i * 2) ++ t ++ xs.drop (j * 2) := by
    have := rep_mid (t := t) (p := i * 2) (q := j * 2) hct hxl (by omega) (by omega) (by omega)
    rw [hc2, hc1, show (i + 1) * 2 = i * 2 + t.length by omega, show (i + 1 + (n - j)) * 2 = i * 2 + t.length + (n * 2 - j * 2) by omega]
    exact this
  obtain ⟨ys, hys⟩ : ∃ ys, ys = xs.take (i * 2) ++ [Value.int .i64 x, Value.int .i64 y] ++ xs.drop (j * 2) := ⟨_, rfl⟩
  rw [← hys]
  have run1 : ∀ q ty dc, (Builtin.copy_ #[52, 52] ty #[.slice (some ⟨g, i * 2, none⟩) (i + 1 + (n - j) - i) dc, .slice (some ⟨bv, 0, none⟩) 1 1]).run Try.prog (w.drewN q) = .ok (goInt (Nat.min 1 (i + 1 + (n - j) - i))) ((w.drewN q).setRow g c1.toArray) := fun q ty dc => by
    rw [hc1]
    exact run_copy2 (w.drewN q) ty g (i * 2) (i + 1 + (n - j) - i) dc ⟨bv, 0, none⟩ 1 1 cur t hg (by rw [htl]; simp only [Nat.min_def]; split <;> omega)
      (fun k v hk => by rw [Addr.add_lit, Nat.zero_add, Row.cell (w := w.drewN q) (cur := [.int .i64 x, .int .i64 y]) hv, ← ht]; exact hk) (by omega) (by rw [ht]; simp [Value.oneCell'])
  have r1 : ∀ q, Row ((w.drewN q).setRow g c1.toArray) g c1 := fun q => Row.set (w := w.drewN q) hg c1
  have run2 : ∀ q ty dc sc, (Builtin.copy_ #[52, 52] ty #[.slice (some ⟨g, (i + 1) * 2, none⟩) (i + 1 + (n - j) - (i + 1)) dc, .slice (some ⟨g, j * 2, none⟩) (n - j) sc]).run Try.prog ((w.drewN q).setRow g c1.toArray).drew = .ok (goInt (Nat.min (n - j) (i + 1 + (n - j) - (i + 1)))) (((w.drewN q).setRow g c1.toArray).drew.setRow g c2.toArray) := fun q ty dc sc => by
    rw [hc2]
    refine run_copy2 _ ty g ((i + 1) * 2) (i + 1 + (n - j) - (i + 1)) dc ⟨g, j * 2, none⟩ (n - j) sc c1 (xs.drop (j * 2)) (r1 q).drew (by rw [hdl]; simp only [Nat.min_def]; split <;> omega)
      (fun k v hk => ?_) (by rw [hdl]; omega) (fun v hv => hxs v (List.mem_of_mem_drop hv))
    rw [Addr.add_lit, (r1 q).drew.cell, hc1, get_splice _ _ _ _ (by omega), if_neg (by omega), if_neg (by omega)]
    rw [List.getElem?_drop, ← hct, List.getElem?_take] at hk
    split at hk
    · exact hk
    · cases hk
  have r2 : ∀ q, Row (((w.drewN q).setRow g c1.toArray).drew.setRow g c2.toArray) g c2 := fun q => (r1 q).drew.set c2
  have fin : ∀ (q : Nat) (W : World) (c3 : List Value), c3.length = cap * 2 → c3.take ((i + 1 + (n - j)) * 2) = c2.take ((i + 1 + (n - j)) * 2) → Row W g c3 → W.heap.size = w.heap.size → W.os = w.os ∧ W.tape = w.tape ∧ W.output = w.output → (∀ k, k ≠ g → W.heap[k]? = w.heap[k]?) →
      Rep base w (some g) (i + 1 + (n - j)) ys (.returned (.slice (some ⟨g, 0, none⟩) (i + 1 + (n - j)) cap)) W := by
    intro q W c3 h1 h2 h3 h4 h5 h6
    refine ⟨g, cap, rfl, own_row h3 hbg (by omega) hcm h1 (by rw [h2, ht2, ht, hys]), ⟨h5.1, h5.2.1, h5.2.2, by omega, fun k _ hne => h6 k (fun e => hne (by rw [e]))⟩, .inl rfl, by omega⟩
  have run3 : i + 1 + (n - j) < n → ∀ q ty sc, (Builtin.clear_ #[52] ty #[.slice (some ⟨g, (i + 1 + (n - j)) * 2, none⟩) (n - (i + 1 + (n - j))) sc]).run Try.prog (((w.drewN q).setRow g c1.toArray).drew.setRow g c2.toArray) = .ok (.tuple #[]) ((((w.drewN q).setRow g c1.toArray).drew.setRow g c2.toArray).setRow g (splice c2 ((i + 1 + (n - j)) * 2) (zerosV (n - (i + 1 + (n - j))))).toArray) := fun hlt q ty sc =>
    run_clear2 _ ty g ((i + 1 + (n - j)) * 2) (n - (i + 1 + (n - j))) sc c2 (r2 q) (by omega) (by omega)
  obtain ⟨c3, hc3'⟩ : ∃ c3, c3 = splice c2 ((i + 1 + (n - j)) * 2) (zerosV (n - (i + 1 + (n - j)))) := ⟨_, rfl⟩
  have hl3 : i + 1 + (n - j) < n → c3.length = cap * 2 := fun hlt => by rw [hc3', length_splice _ _ _ (by rw [zerosV_length]; omega), hl2]
  have ht3 : i + 1 + (n - j) < n → c3.take ((i + 1 + (n - j)) * 2) = c2.take ((i + 1 + (n - j)) * 2) := fun hlt => by
    apply List.ext_getElem?
    intro k
    rw [hc3', List.getElem?_take, List.getElem?_take, get_splice _ _ _ _ (by rw [zerosV_length]; omega)]
    by_cases hk : k < (i + 1 + (n - j)) * 2
    · rw [if_pos hk, if_pos hk, if_pos hk]
    · rw [if_neg hk, if_neg hk]
  rw [← hc3'] at run3
  have R3 := Lib.hid run3
  have HL3 := Lib.hid hl3
  have HT3 := Lib.hid ht3
  have FIN := Lib.hid fin
  have R1 := Lib.hid run1
  have R2 := Lib.hid run2
  have HR2 := Lib.hid r2
  have HL2 := Lib.hid hl2
  unfold maxLen at hcm
  have hin : i ≤ n := by omega
  have hjn2 : j ≤ n := by omega
  have hi3 : i ≤ j := by omega
  have hi4 : i ≤ cap := by omega
  have hb0 : ¬ ((i : Int) = (j : Int)) := by omega
  have hb1 : ¬ ((j : Int) = (n : Int)) := by omega
  have hc2' : ¬ (cap = i) := by omega
  have hc3 : ¬ (cap = j) := by omega
  have hw1 : IntKind.i64.wrap ((i : Int) + 1) = (i : Int) + 1 := IntWalk.i64_in _ (by omega)
  have hb2 : (0 : Int) ≤ (i : Int) + 1 := by omega
  have htn : ((i : Int) + 1).toNat = i + 1 := by omega
  have hc4 : ¬ (cap = i + 1) := by omega
  have hb3 : (i : Int) + 1 ≤ (i : Int) + 1 + ((n - j : Nat) : Int) := by omega
  have hb4 : i + 1 ≤ i + 1 + (n - j) := by omega
  clear hys run1 run2 run3 hl3 ht3 hc3' r1 r2 fin hct hxl hcl hg hv ht hc1 hc2 ht2 hl1 hl2 hown hxs hdl htl
  go_enter Try.func133, Try.ntmps133
  go_wp2_with fail
  go_quiet (fail)
  have rr1 := R1.out nq
  go_wp2_with fail
  clear rr1
  go_region_law (refine step_copy_runI rfl (.tmp 103) (.tmp 106) 52 52 rfl (.slice (some ⟨g, (i + 1) * 2, none⟩) (i + 1 + (n - j) - (i + 1)) (cap - (i + 1))) (.slice (some ⟨g, j * 2, none⟩) (n - j) (cap - j)) (by simp [Act.eval, Act.put]) (by simp [Act.eval, Act.put]) (R2.out nq _ _ _) ?_)
  have other : ∀ k, k ≠ g → (((w.drewN nq).setRow g c1.toArray).drew.setRow g c2.toArray).heap[k]? = w.heap[k]? := fun k hk => by
    rw [setRow_other _ g k _ hk]
    show ((w.drewN nq).setRow g c1.toArray).heap[k]? = _
    rw [setRow_other _ g k _ hk]
    rfl
  have size : (((w.drewN nq).setRow g c1.toArray).drew.setRow g c2.toArray).heap.size = w.heap.size := by
    rw [setRow_size]
    show ((w.drewN nq).setRow g c1.toArray).heap.size = _
    rw [setRow_size]
    rfl
  have OT := Lib.hid other
  have SZ := Lib.hid size
  clear other size
  by_cases hT : i + 1 + (n - j) < n
  · have hT1 : ¬ (cap = i + 1 + (n - j)) := by omega
    have hT2 : i + 1 + (n - j) ≤ n := by omega
    have rr3 := R3.out hT nq
    go_wp2_with fail
    go_ret
    have hh := FIN.out nq _ c3 (HL3.out hT) (HT3.out hT) ((HR2.out nq).set c3) (by rw [setRow_size]; exact SZ.out) ⟨rfl, rfl, rfl⟩ (fun k hk => by rw [setRow_other _ g k _ hk]; exact OT.out k hk)
    exact hh
  · have hT3 : n - (i + 1 + (n - j)) = 0 := by omega
    have hT2 : i + 1 + (n - j) ≤ n := by omega
    have rr3 := fun W ty A c => run_clear0 W ty A c
    go_wp2_with fail
    all_goals
      go_ret
      have hh := FIN.out nq _ c2 HL2.out rfl (HR2.out nq) SZ.out ⟨rfl, rfl, rfl⟩ (fun k hk => OT.out k hk)
      first
        | exact hh
        | (have hcc : cap = i + 1 + (n - j) := by assumption
           rw [hcc] at hh
           exact hh)
set_option maxRecDepth 100000 in
set_option maxHeartbeats 4000000 in
/-- slices.Replace of the last elements of a row of one's own by one -/
theorem Replace_end (base bv g cap n i : Nat) (xs : List Value) (x y : Int) (w : World) (_hbase : base ≤ w.heap.size) (hn : n ≤ 1000000) (hij : i < n) (_hgv : bv ≠ g)
    (hown : w.ownsRow base 23 2 (.slice (some ⟨g, 0, none⟩) n cap) n xs) (hv : Row w bv [.int .i64 x, .int .i64 y]) :
    Calls Try.prog 133 #[.slice (some ⟨g, 0, none⟩) n cap, .int .i64 i, .int .i64 n, .slice (some ⟨bv, 0, none⟩) 1 1] w fun e w' => Rep base w (some g) (i + 1) (xs.take (i * 2) ++ [.int .i64 x, .int .i64 y]) e w' := by
  obtain ⟨cur, hg, hbg, hnc, hcm, hcl, hct, hxl⟩ := row_own hown
  have hgl := hg.lt
  obtain ⟨c1, hc1⟩ : ∃ c1, c1 = splice cur (i * 2) [Value.int .i64 x, Value.int .i64 y] := ⟨_, rfl⟩
  have hl1 : c1.length = cap * 2 := by rw [hc1, length_splice _ _ _ (by simp; omega), hcl]
  have ht1 : c1.take ((i + 1) * 2) = xs.take (i * 2) ++ [.int .i64 x, .int .i64 y] := by
    apply List.ext_getElem?
    intro k
    rw [hc1, List.getElem?_take, get_splice _ _ _ _ (by simp; omega)]
    have := get_three (xs.take (i * 2)) [Value.int .i64 x, Value.int .i64 y] [] k
    rw [List.append_nil] at this
    rw [this, List.length_take, Nat.min_eq_left (by omega)]
    simp only [List.length_cons, List.length_nil]
    by_cases h1 : k < (i + 1) * 2
    · rw [if_pos h1]
      by_cases h2 : k < i * 2
      · rw [if_pos h2, if_pos h2, ← hct, List.take_take, List.getElem?_take, if_pos (by omega)]
      · rw [if_neg h2, if_neg h2]
        have h3 : k < i * 2 + (0 + 1 + 1) := by omega
        rw [if_pos h3, if_pos h3]
    · rw [if_neg h1, if_neg (by omega), if_neg (by omega)]
      simp
  obtain ⟨ys, hys⟩ : ∃ ys, ys = xs.take (i * 2) ++ [Value.int .i64 x, Value.int .i64 y] := ⟨_, rfl⟩
  rw [← hys]
  have run1 : ∀ ty, (Builtin.append_ #[52, 52] ty #[.slice (some ⟨g, 0, none⟩) i cap, .slice (some ⟨bv, 0, none⟩) 1 1]).run Try.prog w = .ok (.slice (some ⟨g, 0, none⟩) (i + 1) cap) (w.setRow g c1.toArray) := fun ty => by
    rw [hc1]
    exact run_room2 w ty g i cap bv 1 x y cur hg (by omega) hcl (by rw [hv.cell]; rfl) (by rw [hv.cell]; rfl)
  have r1 : Row (w.setRow g c1.toArray) g c1 := hg.set c1
  obtain ⟨c3, hc3'⟩ : ∃ c3, c3 = splice c1 ((i + 1) * 2) (zerosV (n - (i + 1))) := ⟨_, rfl⟩
  have run3 : i + 1 < n → ∀ ty sc, (Builtin.clear_ #[52] ty #[.slice (some ⟨g, (i + 1) * 2, none⟩) (n - (i + 1)) sc]).run Try.prog (w.setRow g c1.toArray) = .ok (.tuple #[]) ((w.setRow g c1.toArray).setRow g c3.toArray) := fun hlt ty sc => by
    rw [hc3']
    exact run_clear2 _ ty g ((i + 1) * 2) (n - (i + 1)) sc c1 r1 (by omega) (by omega)
  have hl3 : i + 1 < n → c3.length = cap * 2 := fun hlt => by rw [hc3', length_splice _ _ _ (by rw [zerosV_length]; omega), hl1]
  have ht3 : i + 1 < n → c3.take ((i + 1) * 2) = c1.take ((i + 1) * 2) := fun hlt => by
    apply List.ext_getElem?
    intro k
    rw [hc3', List.getElem?_take, List.getElem?_take, get_splice _ _ _ _ (by rw [zerosV_length]; omega)]
    by_cases hk : k < (i + 1) * 2
    · rw [if_pos hk, if_pos hk, if_pos hk]
    · rw [if_neg hk, if_neg hk]
  have fin : ∀ (W : World) (c3 : List Value), c3.length = cap * 2 → c3.take ((i + 1) * 2) = c1.take ((i + 1) * 2) → Row W g c3 → W.heap.size = w.heap.size → W.os = w.os ∧ W.tape = w.tape ∧ W.output = w.output → (∀ k, k ≠ g → W.heap[k]? = w.heap[k]?) →
      Rep base w (some g) (i + 1) ys (.returned (.slice (some ⟨g, 0, none⟩) (i + 1) cap)) W := by
    intro W c3 h1 h2 h3 h4 h5 h6
    refine ⟨g, cap, rfl, own_row h3 hbg (by omega) hcm h1 (by rw [h2, ht1, hys]), ⟨h5.1, h5.2.1, h5.2.2, by omega, fun k _ hne => h6 k (fun e => hne (by rw [e]))⟩, .inl rfl, by omega⟩
  have FIN := Lib.hid fin
  have R1 := Lib.hid run1
  have R3 := Lib.hid run3
  have HR1 := Lib.hid r1
  have HL1 := Lib.hid hl1
  have HL3 := Lib.hid hl3
  have HT3 := Lib.hid ht3
  unfold maxLen at hcm
  have hin : i ≤ n := by omega
  have hi4 : i ≤ cap := by omega
  have hb0 : ¬ ((i : Int) = (n : Int)) := by omega
  have hc2' : ¬ (cap = i) := by omega
  clear hys run1 run3 hl3 ht3 hc3' r1 fin hct hxl hcl hg hv hc1 hl1 ht1 hown
  by_cases hT : i + 1 < n
  · have hT1 : ¬ (cap = i + 1) := by omega
    have hT2 : i + 1 ≤ n := by omega
    have hT3 : ((i : Int) + 1) < (n : Int) := by omega
    have rr3 := R3.out hT
    go_enter Try.func133, Try.ntmps133
    go_wp2_with ((at_builtin; refine Lib.wpList_append_run _ rfl _ _ _ _ rfl _ _ rfl rfl _ _ (R1.out _) ?_))
    go_ret
    exact FIN.out _ c3 (HL3.out hT) (HT3.out hT) (HR1.out.set c3) (by rw [setRow_size, setRow_size]) ⟨rfl, rfl, rfl⟩ (fun k hk => by rw [setRow_other _ g k _ hk, setRow_other _ g k _ hk])
  · have hT3 : (n : Int) ≤ ((i : Int) + 1) := by omega
    go_enter Try.func133, Try.ntmps133
    go_wp2_with ((at_builtin; refine Lib.wpList_append_run _ rfl _ _ _ _ rfl _ _ rfl rfl _ _ (R1.out _) ?_))
    go_ret
    exact FIN.out _ c1 HL1.out rfl HR1.out (by rw [setRow_size]) ⟨rfl, rfl, rfl⟩ (fun k hk => by rw [setRow_other _ g k _ hk])
end Go.Proofs.Ytmeljcbefnojfaa
