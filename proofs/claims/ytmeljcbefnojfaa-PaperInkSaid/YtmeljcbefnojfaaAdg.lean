import Derived.Test.YtmeljcbefnojfaaRpa
namespace Go.Proofs.Ytmeljcbefnojfaa
open Go.RowKit
set_option maxHeartbeats 1000000 in
theorem add1_gen (t2 t3 bm o g cap n i : Nat) (a y : Int) (W : World) (hi : i < n) (_hn : n ≤ 1000) (c0 : W.cell? ⟨t2, 0, none⟩ = some (.pointer (some ⟨bm, o, none⟩))) (c1 : W.cell? ⟨bm, o, none⟩ = some (.slice (some ⟨g, 0, none⟩) n cap)) (c2 : W.cell? ⟨g, i * 2 + 1, none⟩ = some (.int .i64 y))
    (c3 : W.cell? ⟨t3, 0, none⟩ = some (.int .i64 a)) (h0 : -1000000000 ≤ a) (h1 : a ≤ 1000000000) :
    Calls Try.prog 131 #[.int .i64 i, .pointer (some ⟨t2, 0, none⟩), .pointer (some ⟨t3, 0, none⟩)] W fun e w' => e = .returned (.bool (decide (a - 1 ≤ y))) ∧ ∃ q, w' = W.drewN q := by
  have g1 : IntKind.i64.wrap (a - 1) = a - 1 := IntWalk.i64_in _ (by omega)
  have g2 : (i : Int) < (n : Int) := by omega
  have g3 : (0 : Int) ≤ (i : Int) := by omega
  go_enter Try.func131, Try.ntmps131
  go_wp2_with fail
  go_quiet (fail)
  go_wp2_with fail
  go_ret
  exact ⟨rfl, nq, rfl⟩
set_option maxHeartbeats 1000000 in
theorem add2_gen (t2 t3 bm o g cap n i : Nat) (b x : Int) (W : World) (hi : i < n) (_hn : n ≤ 1000) (c0 : W.cell? ⟨t2, 0, none⟩ = some (.pointer (some ⟨bm, o, none⟩))) (c1 : W.cell? ⟨bm, o, none⟩ = some (.slice (some ⟨g, 0, none⟩) n cap)) (c2 : W.cell? ⟨g, i * 2, none⟩ = some (.int .i64 x))
    (c3 : W.cell? ⟨t3, 1, none⟩ = some (.int .i64 b)) (h0 : -1000000000 ≤ b) (h1 : b ≤ 1000000000) :
    Calls Try.prog 132 #[.int .i64 i, .pointer (some ⟨t2, 0, none⟩), .pointer (some ⟨t3, 0, none⟩)] W fun e w' => e = .returned (.bool (decide (b + 1 < x))) ∧ ∃ q, w' = W.drewN q := by
  have g1 : IntKind.i64.wrap (b + 1) = b + 1 := IntWalk.i64_in _ (by omega)
  have g2 : (i : Int) < (n : Int) := by omega
  have g3 : (0 : Int) ≤ (i : Int) := by omega
  go_enter Try.func132, Try.ntmps132
  go_wp2_with fail
  go_quiet (fail)
  go_wp2_with fail
  go_ret
  exact ⟨rfl, nq, rfl⟩
/-- what a replace gives, but the slice itself -/
def RepH (base : Nat) (W : World) (row : Option Nat) (L : List (Int × Int)) (g cap : Nat) (w' : World) : Prop :=
  w'.ownsRow base 23 2 (.slice (some ⟨g, 0, none⟩) L.length cap) L.length (flatL L) ∧ W.grownBy w' row ∧ (row = some g ∨ g = W.heap.size) ∧ g < w'.heap.size
/-- what add leaves behind, in general -/
def AddG (bm o base : Nat) (row : Option Nat) (w : World) (L : List (Int × Int)) (w' : World) : Prop :=
  ∃ v, w'.ownsRow base 23 2 v L.length (flatL L) ∧ w'.heap[bm]? = (w.setCell ⟨bm, o, none⟩ v).heap[bm]? ∧ (v.ownBlock = row ∨ ∃ g, v.ownBlock = some g ∧ w.heap.size ≤ g) ∧
    w'.os = w.os ∧ w'.tape = w.tape ∧ w'.output = w.output ∧ w.heap.size ≤ w'.heap.size ∧ ∀ k, k < w.heap.size → k ≠ bm → some k ≠ row → w'.heap[k]? = w.heap[k]?
theorem heap_setCell_of {w w1 : World} {bm o : Nat} {v : Value} (h : w1.heap[bm]? = w.heap[bm]?) : (w1.setCell ⟨bm, o, none⟩ v).heap[bm]? = (w.setCell ⟨bm, o, none⟩ v).heap[bm]? := by
  simp [World.setCell, Array.getElem?_modify, h]
theorem addG_of {bm o base n g cap : Nat} {row : Option Nat} {L : List (Int × Int)} {w W0 w1 : World} (hA : Below w.heap.size w W0) (hg : W0.grownBy w1 row) (hown : w1.ownsRow base 23 2 (.slice (some ⟨g, 0, none⟩) n cap) n (flatL L)) (hn : n = L.length)
    (hat : row = some g ∨ g = W0.heap.size) (hb : bm < base) (hbw : bm < w.heap.size) (hr : ∀ r, row = some r → base ≤ r) :
    AddG bm o base row w L (w1.setCell ⟨bm, o, none⟩ (.slice (some ⟨g, 0, none⟩) n cap)) := by
  subst hn
  refine ⟨_, ownsRow_setCell_below hown (a := ⟨bm, o, none⟩) hb _, ?_, ?_, ?_, ?_, ?_, ?_, ?_⟩
  · refine heap_setCell_of ?_
    rw [hg.block bm (Nat.lt_of_lt_of_le hbw hA.size) (fun e => by have := hr bm e.symm; omega)]
    exact hA.block bm hbw
  · rcases hat with h | h
    · exact .inl h.symm
    · exact .inr ⟨g, rfl, by rw [h]; exact hA.size⟩
  · exact hg.os.trans hA.os
  · exact hg.tape.trans hA.tape
  · exact hg.output.trans hA.output
  · rw [World.size_setCell]; exact Nat.le_trans hA.size hg.size
  · intro k hk h1 h2
    rw [Below.heap_setCell _ ⟨bm, o, none⟩ _ k h1, hg.block k (Nat.lt_of_lt_of_le hk hA.size) h2]
    exact hA.block k hk
theorem row_new (W : World) (b : Nat) (x y : Int) (h : b = W.heap.size) : Row (W.alloc (.cells #[.int .i64 x, .int .i64 y] 23)) b [.int .i64 x, .int .i64 y] := by
  subst h
  exact heap_alloc_new W _
/-- a row of spans read at an index -/
theorem own_span {w : World} {base g cap : Nat} {L : List (Int × Int)} (h : w.ownsRow base 23 2 (.slice (some ⟨g, 0, none⟩) L.length cap) L.length (flatL L)) (i : Nat) (q : Int × Int) (hq : L[i]? = some q) : w.cell? ⟨g, i * 2, none⟩ = some (.int .i64 q.1) ∧ w.cell? ⟨g, i * 2 + 1, none⟩ = some (.int .i64 q.2) := by
  obtain ⟨cur, hg, _, _, _, hcl, hct, hxl⟩ := row_own h
  have hi : i < L.length := (List.getElem?_eq_some_iff.1 hq).1
  have e : (flatL L).drop (i * 2) = .int .i64 q.1 :: .int .i64 q.2 :: flatL (L.drop (i + 1)) := by
    rw [← flatL_drop, List.drop_eq_getElem_cons hi]
    have : L[i] = q := by rw [List.getElem?_eq_getElem hi] at hq; exact Option.some.inj hq
    rw [this]
    simp [flatL]
  have h0 : (flatL L)[i * 2]? = some (.int .i64 q.1) := by
    have := congrArg (fun l => l[0]?) e
    simpa [List.getElem?_drop] using this
  have h1 : (flatL L)[i * 2 + 1]? = some (.int .i64 q.2) := by
    have := congrArg (fun l => l[1]?) e
    simpa [List.getElem?_drop] using this
  rw [← hct, List.getElem?_take] at h0 h1
  rw [hg.cell, hg.cell]
  split at h0
  · split at h1
    · exact ⟨h0, h1⟩
    · cases h1
  · cases h0
theorem own_keep2 {W W' : World} {B n size : Nat} {e : TypeId} {v : Value} {xs : List Value} (h : W.ownsRow B e size v n xs) (hb : Below W.heap.size W W') : W'.ownsRow B e size v n xs := by
  obtain ⟨h1, h2 | ⟨g, cap, cur, rfl, e3, e4⟩⟩ := id h
  · exact ⟨h1, .inl h2⟩
  · exact ownsRow_keep h hb
set_option maxRecDepth 100000 in
set_option maxHeartbeats 4000000 in
theorem add_ins (bm o base f t cap : Nat) (A : Option Addr) (L : List (Int × Int)) (a b : Int) (w : World) (hft : f = t) (ht : t ≤ L.length) (hm : w.cell? ⟨bm, o, none⟩ = some (.slice A L.length cap)) (hf : w.frozen? ⟨bm, o, none⟩ = false) (hbase : bm < base ∧ base ≤ w.heap.size) (hn : L.length ≤ 1000)
    (hown : w.ownsRow base 23 2 (.slice A L.length cap) L.length (flatL L)) (hab : (0 ≤ a ∧ a ≤ 100000000) ∧ 0 ≤ b ∧ b ≤ 100000000) (hF : ∀ i r, L[i]? = some r → (a - 1 ≤ r.2 ↔ f ≤ i)) (hT : ∀ i r, L[i]? = some r → (b + 1 < r.1 ↔ t ≤ i)) :
    Calls Try.prog 99 #[.pointer (some ⟨bm, o, none⟩), .agg #[.int .i64 a, .int .i64 b]] w fun e w' => e = .returned (.tuple #[]) ∧ AddG bm o base (Value.slice A L.length cap).ownBlock w (repL L f t (a, b)) w' := by
  obtain ⟨i0, i1⟩ := hab
  have hfl : f ≤ L.length := by omega
  have hbm : bm < w.heap.size := World.block_lt_of_cell? _ _ hm
  have hcap : (cap : Int) ≤ 9223372036854775807 ∧ L.length ≤ cap := by
    obtain ⟨_, h | ⟨g', cap', cur, e1, e2, e3, e4, e5, e6, e7⟩⟩ := hown
    · obtain ⟨h1, h2⟩ := h
      injection h1 with _ _ h3
      omega
    · cases e1
      unfold maxLen at e5
      exact ⟨by omega, e4⟩
  have hro : ∀ r, (Value.slice A L.length cap).ownBlock = some r → base ≤ r ∧ r < w.heap.size := by
    intro r hr
    obtain ⟨_, h | ⟨g', cap', cur, e1, e2, e3, e4, e5, e6, e7⟩⟩ := hown
    · obtain ⟨h1, h2⟩ := h
      injection h1 with h3 _ _
      subst h3
      cases hr
    · cases e1
      cases hr
      exact ⟨e2, (Array.getElem?_eq_some_iff.1 e3).1⟩
  obtain ⟨W0, hW0⟩ : ∃ W0, W0 = (w.alloc (.cells #[.pointer (some ⟨bm, o, none⟩)] 128)).alloc (.cells #[.int .i64 a, .int .i64 b] 23) := ⟨_, rfl⟩
  have hB : Below w.heap.size w W0 := by rw [hW0]; exact box2 _ _ _
  have k2 : W0.cell? ⟨w.heap.size, 0, none⟩ = some (.pointer (some ⟨bm, o, none⟩)) := by rw [hW0]; go_simp
  have k3 : W0.cell? ⟨w.heap.size + 1, 0, none⟩ = some (.int .i64 a) := by rw [hW0]; go_simp
  have k4 : W0.cell? ⟨w.heap.size + 1, 1, none⟩ = some (.int .i64 b) := by rw [hW0]; go_simp
  have k5 := cell_up hB hbm hm
  have hrow : ∀ i r, L[i]? = some r → ∃ g, A = some ⟨g, 0, none⟩ ∧ g < w.heap.size ∧ W0.cell? ⟨g, i * 2, none⟩ = some (.int .i64 r.1) ∧ W0.cell? ⟨g, i * 2 + 1, none⟩ = some (.int .i64 r.2) := by
    intro i r hr
    have hil : i < L.length := (List.getElem?_eq_some_iff.1 hr).1
    have hown' := hown
    obtain ⟨_, h | ⟨g', cap', cur, e1, e2, e3, e4, e5, e6, e7⟩⟩ := hown
    · omega
    · cases e1
      have hgl := (Array.getElem?_eq_some_iff.1 e3).1
      obtain ⟨u0, u1⟩ := own_span hown' i r hr
      exact ⟨g', rfl, hgl, cell_up hB hgl u0, cell_up hB hgl u1⟩
  have hS1 := Search_any 131 #[.pointer (some ⟨w.heap.size, 0, none⟩), .pointer (some ⟨w.heap.size + 1, 0, none⟩)] L.length f W0 hfl (by omega) eg_a1
    (fun m i hi => by
      have hr : L[i]? = some (L[i]'hi) := List.getElem?_eq_getElem hi
      obtain ⟨g, rfl, _, u0, u1⟩ := hrow i _ hr
      have := add1_gen w.heap.size (w.heap.size + 1) bm o g cap L.length i a (L[i]'hi).2 (W0.drewN m) hi hn k2 k5 u1 k3 (by omega) (by omega)
      refine this.mono fun e w' h => ⟨by rw [h.1]; have := hF i _ hr; simp only [decide_eq_decide, Ending.returned.injEq, Value.bool.injEq]; omega, ?_⟩
      obtain ⟨q, hq⟩ := h.2
      exact ⟨m + q, by rw [hq, World.drewN_drewN]⟩)
  have hS2 := fun q => Search_any 132 #[.pointer (some ⟨w.heap.size, 0, none⟩), .pointer (some ⟨w.heap.size + 1, 0, none⟩)] L.length t (W0.drewN q) ht (by omega) eg_a2
    (fun m i hi => by
      have hr : L[i]? = some (L[i]'hi) := List.getElem?_eq_getElem hi
      obtain ⟨g, rfl, _, u0, u1⟩ := hrow i _ hr
      have := add2_gen w.heap.size (w.heap.size + 1) bm o g cap L.length i b (L[i]'hi).1 ((W0.drewN q).drewN m) hi hn k2 k5 u0 k4 (by omega) (by omega)
      refine this.mono fun e w' h => ⟨by rw [h.1]; have := hT i _ hr; simp only [decide_eq_decide, Ending.returned.injEq, Value.bool.injEq]; omega, ?_⟩
      obtain ⟨q, hq⟩ := h.2
      exact ⟨m + q, by rw [hq, World.drewN_drewN]⟩)
  have H1 := Lib.hid hS1
  have H2 := Lib.hid hS2
  have HW := Lib.hid hW0
  have HO := Lib.hid hown
  have HRO := Lib.hid hro
  clear hS1 hS2 k2 k3 k4 k5 hW0 hrow hF hT
  have z1 : bm < w.heap.size + 1 := by omega
  have hgv : (Value.slice A L.length cap).ownBlock ≠ some (w.heap.size + 1 + 1) := fun e => by have := (HRO.out _ e).2; omega
  have HGV := Lib.hid hgv
  subst hft
  have KR : Hid (∀ W, base ≤ W.heap.size → Row W (w.heap.size + 1 + 1) [.int .i64 (a, b).1, .int .i64 (a, b).2] → Below w.heap.size w W → W.cell? ⟨w.heap.size, 0, none⟩ = some (.pointer (some ⟨bm, o, none⟩)) → w.heap.size < W.heap.size → Calls Try.prog 133 #[.slice A L.length cap, .int .i64 f, .int .i64 f, .slice (some ⟨w.heap.size + 1 + 1, 0, none⟩) 1 1] W fun e w' => (∃ g' cap', e = .returned (.slice (some ⟨g', 0, none⟩) (repL L f f (a, b)).length cap') ∧ Hid (RepH base W (Value.slice A L.length cap).ownBlock (repL L f f (a, b)) g' cap' w')) ∧ w'.cell? ⟨bm, o, none⟩ = some (.slice A L.length cap) ∧ w'.frozen? ⟨bm, o, none⟩ = false ∧ w'.cell? ⟨w.heap.size, 0, none⟩ = some (.pointer (some ⟨bm, o, none⟩))) := Lib.hid fun W h1 h2 h3 h4 h5 =>
    (Replace_any base (w.heap.size + 1 + 1) cap f f A L (a, b) W h1 hn (Nat.le_refl _) ht HGV.out (own_keep2 HO.out h3) h2).mono fun e w' hR => by
      obtain ⟨g', cap', he, hown, hgrow, hat, hlt⟩ := hR
      refine ⟨⟨g', cap', he, Lib.hid ⟨hown, hgrow, hat, hlt⟩⟩, ?_⟩
      have hne : some bm ≠ (Value.slice A L.length cap).ownBlock := fun e => by have := (HRO.out _ e.symm).1; omega
      have hne2 : some w.heap.size ≠ (Value.slice A L.length cap).ownBlock := fun e => by have := (HRO.out _ e.symm).2; omega
      exact ⟨cell_row hgrow (Nat.lt_trans hbm h5) hne (cell_up h3 hbm hm), frozen_row hgrow (Nat.lt_trans hbm h5) hne (frozen_up h3 hbm hf), cell_row hgrow h5 hne2 h4⟩
  obtain ⟨LL, hLL⟩ : ∃ LL, LL = repL L f f (a, b) := ⟨_, rfl⟩
  rw [← hLL] at KR ⊢
  clear hgv hown hro hLL
  go_enter Try.func99, Try.ntmps99
  go_wp2_with fail
  rw [← HW.out]
  refine H1.out.mono ?_
  rintro e w1 ⟨rfl, q1, rfl⟩
  rw [HW.out]
  go_wp2_with fail
  rw [← HW.out]
  refine (H2.out q1).mono ?_
  rintro e w1 ⟨rfl, q2, rfl⟩
  rw [HW.out]
  clear hB
  go_wp2_with fail
  go_region_law (first | (go_simp; go_at_call 133; ((with_reducible refine (KR.out _ (by simp only [World.size_alloc, World.heap_drewN]; omega) (by (repeat' first | exact row_new _ _ _ _ (by simp only [World.size_alloc, World.heap_drewN]) | refine Row.drew ?_)) (by (repeat' first | with_reducible exact box2 _ _ _ | with_reducible refine below_drewN ?_ _ | with_reducible refine Below.drew ?_ | with_reducible refine set1 ?_ (by omega) _ _ | with_reducible refine Below.alloc ?_ (by simp only [World.size_alloc, World.heap_drewN]; omega) _)) (by go_simp) (by simp only [World.size_alloc, World.heap_drewN]; omega)).mono ?_); rintro e w1 ⟨⟨g', cap', rfl, HRR⟩, hm1, hf1, ht1⟩)))
  all_goals go_end0
  all_goals exact ⟨rfl, addG_of (by (repeat' first | with_reducible exact box2 _ _ _ | with_reducible refine below_drewN ?_ _ | with_reducible refine Below.drew ?_ | with_reducible refine set1 ?_ (by omega) _ _ | with_reducible refine Below.alloc ?_ (by simp only [World.size_alloc, World.heap_drewN]; omega) _)) HRR.out.2.1 HRR.out.1 rfl HRR.out.2.2.1 hbase.1 hbm (fun r hr => (HRO.out r hr).1)⟩
set_option maxRecDepth 100000 in
set_option maxHeartbeats 4000000 in
theorem add_mrg (bm o base f t cap : Nat) (A : Option Addr) (L : List (Int × Int)) (a b : Int) (w : World) (p q : Int × Int) (hp : L[f]? = some p) (hq : L[t - 1]? = some q) (hft : f < t) (ht : t ≤ L.length) (hm : w.cell? ⟨bm, o, none⟩ = some (.slice A L.length cap)) (hf : w.frozen? ⟨bm, o, none⟩ = false) (hbase : bm < base ∧ base ≤ w.heap.size) (hn : L.length ≤ 1000)
    (hown : w.ownsRow base 23 2 (.slice A L.length cap) L.length (flatL L)) (hab : (0 ≤ a ∧ a ≤ 100000000) ∧ 0 ≤ b ∧ b ≤ 100000000) (hF : ∀ i r, L[i]? = some r → (a - 1 ≤ r.2 ↔ f ≤ i)) (hT : ∀ i r, L[i]? = some r → (b + 1 < r.1 ↔ t ≤ i)) :
    Calls Try.prog 99 #[.pointer (some ⟨bm, o, none⟩), .agg #[.int .i64 a, .int .i64 b]] w fun e w' => e = .returned (.tuple #[]) ∧ AddG bm o base (Value.slice A L.length cap).ownBlock w (repL L f t (min a p.1, max b q.2)) w' := by
  obtain ⟨i0, i1⟩ := hab
  have hfl : f ≤ L.length := by omega
  have hbm : bm < w.heap.size := World.block_lt_of_cell? _ _ hm
  have hcap : (cap : Int) ≤ 9223372036854775807 ∧ L.length ≤ cap := by
    obtain ⟨_, h | ⟨g', cap', cur, e1, e2, e3, e4, e5, e6, e7⟩⟩ := hown
    · obtain ⟨h1, h2⟩ := h
      injection h1 with _ _ h3
      omega
    · cases e1
      unfold maxLen at e5
      exact ⟨by omega, e4⟩
  have hro : ∀ r, (Value.slice A L.length cap).ownBlock = some r → base ≤ r ∧ r < w.heap.size := by
    intro r hr
    obtain ⟨_, h | ⟨g', cap', cur, e1, e2, e3, e4, e5, e6, e7⟩⟩ := hown
    · obtain ⟨h1, h2⟩ := h
      injection h1 with h3 _ _
      subst h3
      cases hr
    · cases e1
      cases hr
      exact ⟨e2, (Array.getElem?_eq_some_iff.1 e3).1⟩
  obtain ⟨W0, hW0⟩ : ∃ W0, W0 = (w.alloc (.cells #[.pointer (some ⟨bm, o, none⟩)] 128)).alloc (.cells #[.int .i64 a, .int .i64 b] 23) := ⟨_, rfl⟩
  have hB : Below w.heap.size w W0 := by rw [hW0]; exact box2 _ _ _
  have k2 : W0.cell? ⟨w.heap.size, 0, none⟩ = some (.pointer (some ⟨bm, o, none⟩)) := by rw [hW0]; go_simp
  have k3 : W0.cell? ⟨w.heap.size + 1, 0, none⟩ = some (.int .i64 a) := by rw [hW0]; go_simp
  have k4 : W0.cell? ⟨w.heap.size + 1, 1, none⟩ = some (.int .i64 b) := by rw [hW0]; go_simp
  have k5 := cell_up hB hbm hm
  have hrow : ∀ i r, L[i]? = some r → ∃ g, A = some ⟨g, 0, none⟩ ∧ g < w.heap.size ∧ W0.cell? ⟨g, i * 2, none⟩ = some (.int .i64 r.1) ∧ W0.cell? ⟨g, i * 2 + 1, none⟩ = some (.int .i64 r.2) := by
    intro i r hr
    have hil : i < L.length := (List.getElem?_eq_some_iff.1 hr).1
    have hown' := hown
    obtain ⟨_, h | ⟨g', cap', cur, e1, e2, e3, e4, e5, e6, e7⟩⟩ := hown
    · omega
    · cases e1
      have hgl := (Array.getElem?_eq_some_iff.1 e3).1
      obtain ⟨u0, u1⟩ := own_span hown' i r hr
      exact ⟨g', rfl, hgl, cell_up hB hgl u0, cell_up hB hgl u1⟩
  have hS1 := Search_any 131 #[.pointer (some ⟨w.heap.size, 0, none⟩), .pointer (some ⟨w.heap.size + 1, 0, none⟩)] L.length f W0 hfl (by omega) eg_a1
    (fun m i hi => by
      have hr : L[i]? = some (L[i]'hi) := List.getElem?_eq_getElem hi
      obtain ⟨g, rfl, _, u0, u1⟩ := hrow i _ hr
      have := add1_gen w.heap.size (w.heap.size + 1) bm o g cap L.length i a (L[i]'hi).2 (W0.drewN m) hi hn k2 k5 u1 k3 (by omega) (by omega)
      refine this.mono fun e w' h => ⟨by rw [h.1]; have := hF i _ hr; simp only [decide_eq_decide, Ending.returned.injEq, Value.bool.injEq]; omega, ?_⟩
      obtain ⟨q, hq⟩ := h.2
      exact ⟨m + q, by rw [hq, World.drewN_drewN]⟩)
  have hS2 := fun q => Search_any 132 #[.pointer (some ⟨w.heap.size, 0, none⟩), .pointer (some ⟨w.heap.size + 1, 0, none⟩)] L.length t (W0.drewN q) ht (by omega) eg_a2
    (fun m i hi => by
      have hr : L[i]? = some (L[i]'hi) := List.getElem?_eq_getElem hi
      obtain ⟨g, rfl, _, u0, u1⟩ := hrow i _ hr
      have := add2_gen w.heap.size (w.heap.size + 1) bm o g cap L.length i b (L[i]'hi).1 ((W0.drewN q).drewN m) hi hn k2 k5 u0 k4 (by omega) (by omega)
      refine this.mono fun e w' h => ⟨by rw [h.1]; have := hT i _ hr; simp only [decide_eq_decide, Ending.returned.injEq, Value.bool.injEq]; omega, ?_⟩
      obtain ⟨q, hq⟩ := h.2
      exact ⟨m + q, by rw [hq, World.drewN_drewN]⟩)
  have hfn : f < L.length := by omega
  obtain ⟨g, hA, hgl, u0, _⟩ := hrow f p hp
  obtain ⟨g', hA', _, _, u1⟩ := hrow (t - 1) q hq
  subst hA
  cases hA'
  have hgb : g ≠ bm := by have := (hro g rfl).1; omega
  have b0 : w.cell? ⟨g, f * 2, none⟩ = some (.int .i64 p.1) := by
    have := hB.cell (p := ⟨g, f * 2, none⟩) hgl
    rw [← this]; exact u0
  have b1 : w.cell? ⟨g, (t - 1) * 2 + 1, none⟩ = some (.int .i64 q.2) := by
    have := hB.cell (p := ⟨g, (t - 1) * 2 + 1, none⟩) hgl
    rw [← this]; exact u1
  have z2 : g < w.heap.size + 1 := by omega
  have t1 : ((t : Int) - 1).toNat = t - 1 := by omega
  have t2 : 0 ≤ (t : Int) - 1 := by omega
  have t3 : (t : Int) - 1 < (L.length : Int) := by omega
  have t4 : IntKind.i64.wrap ((t : Int) - 1) = (t : Int) - 1 := IntWalk.i64_in _ (by omega)
  have t5 : (f : Int) < (L.length : Int) := by omega
  have t6 : (0 : Int) ≤ (f : Int) := by omega
  clear u0 u1
  have H1 := Lib.hid hS1
  have H2 := Lib.hid hS2
  have HW := Lib.hid hW0
  have HO := Lib.hid hown
  have HRO := Lib.hid hro
  clear hS1 hS2 k2 k3 k4 k5 hW0 hrow hF hT
  have z1 : bm < w.heap.size + 1 := by omega
  have hgv : (Value.slice (some ⟨g, 0, none⟩) L.length cap).ownBlock ≠ some (w.heap.size + 1 + 1) := fun e => by have := (HRO.out _ e).2; omega
  have HGV := Lib.hid hgv
  have d1 : decide (f < t) = true := by simpa using hft
  have KR : Hid (∀ W, base ≤ W.heap.size → Row W (w.heap.size + 1 + 1) [.int .i64 (min a p.1, max b q.2).1, .int .i64 (min a p.1, max b q.2).2] → Below w.heap.size w W → W.cell? ⟨w.heap.size, 0, none⟩ = some (.pointer (some ⟨bm, o, none⟩)) → w.heap.size < W.heap.size → Calls Try.prog 133 #[.slice (some ⟨g, 0, none⟩) L.length cap, .int .i64 f, .int .i64 t, .slice (some ⟨w.heap.size + 1 + 1, 0, none⟩) 1 1] W fun e w' => (∃ g' cap', e = .returned (.slice (some ⟨g', 0, none⟩) (repL L f t (min a p.1, max b q.2)).length cap') ∧ Hid (RepH base W (Value.slice (some ⟨g, 0, none⟩) L.length cap).ownBlock (repL L f t (min a p.1, max b q.2)) g' cap' w')) ∧ w'.cell? ⟨bm, o, none⟩ = some (.slice (some ⟨g, 0, none⟩) L.length cap) ∧ w'.frozen? ⟨bm, o, none⟩ = false ∧ w'.cell? ⟨w.heap.size, 0, none⟩ = some (.pointer (some ⟨bm, o, none⟩))) := Lib.hid fun W h1 h2 h3 h4 h5 =>
    (Replace_any base (w.heap.size + 1 + 1) cap f t (some ⟨g, 0, none⟩) L (min a p.1, max b q.2) W h1 hn (by omega) ht HGV.out (own_keep2 HO.out h3) h2).mono fun e w' hR => by
      obtain ⟨g', cap', he, hown, hgrow, hat, hlt⟩ := hR
      refine ⟨⟨g', cap', he, Lib.hid ⟨hown, hgrow, hat, hlt⟩⟩, ?_⟩
      have hne : some bm ≠ (Value.slice (some ⟨g, 0, none⟩) L.length cap).ownBlock := fun e => by have := (HRO.out _ e.symm).1; omega
      have hne2 : some w.heap.size ≠ (Value.slice (some ⟨g, 0, none⟩) L.length cap).ownBlock := fun e => by have := (HRO.out _ e.symm).2; omega
      exact ⟨cell_row hgrow (Nat.lt_trans hbm h5) hne (cell_up h3 hbm hm), frozen_row hgrow (Nat.lt_trans hbm h5) hne (frozen_up h3 hbm hf), cell_row hgrow h5 hne2 h4⟩
  obtain ⟨LL, hLL⟩ : ∃ LL, LL = repL L f t (min a p.1, max b q.2) := ⟨_, rfl⟩
  rw [← hLL] at KR ⊢
  clear hgv hown hro hLL
  go_enter Try.func99, Try.ntmps99
  go_wp2_with fail
  rw [← HW.out]
  refine H1.out.mono ?_
  rintro e w1 ⟨rfl, q1, rfl⟩
  rw [HW.out]
  go_wp2_with fail
  rw [← HW.out]
  refine (H2.out q1).mono ?_
  rintro e w1 ⟨rfl, q2, rfl⟩
  rw [HW.out]
  clear hB
  go_wp2_with fail
  go_region
  go_wp2_with fail
  go_region
  go_wp2_with fail
  go_region_law (first | (go_simp; go_at_call 133; ((with_reducible refine (KR.out _ (by simp only [World.size_drew, World.size_alloc, World.heap_drewN, World.size_setCell]; omega) (by (repeat' first | exact row_new _ _ _ _ (by simp only [World.size_alloc, World.heap_drewN, World.size_setCell]) | refine Row.drew ?_)) (by (repeat' first | with_reducible exact box2 _ _ _ | with_reducible refine below_drewN ?_ _ | with_reducible refine Below.drew ?_ | with_reducible refine set1 ?_ (by omega) _ _ | with_reducible refine Below.alloc ?_ (by simp only [World.size_alloc, World.heap_drewN, World.size_setCell]; omega) _)) (by go_simp) (by simp only [World.size_drew, World.size_alloc, World.heap_drewN, World.size_setCell]; omega)).mono ?_); rintro e w1 ⟨⟨g', cap', rfl, HRR⟩, hm1, hf1, ht1⟩)))
  all_goals go_end0
  all_goals exact ⟨rfl, addG_of (by (repeat' first | with_reducible exact box2 _ _ _ | with_reducible refine below_drewN ?_ _ | with_reducible refine Below.drew ?_ | with_reducible refine set1 ?_ (by omega) _ _ | with_reducible refine Below.alloc ?_ (by simp only [World.size_alloc, World.heap_drewN, World.size_setCell]; omega) _)) HRR.out.2.1 HRR.out.1 rfl HRR.out.2.2.1 hbase.1 hbm (fun r hr => (HRO.out r hr).1)⟩
end Go.Proofs.Ytmeljcbefnojfaa
