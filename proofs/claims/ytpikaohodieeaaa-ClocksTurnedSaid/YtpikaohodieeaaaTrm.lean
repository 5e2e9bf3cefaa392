/- The mathematics of clocks turned over. -/
import Derived.Test.YtpikaohodieeaaaHas
namespace Go.Proofs.Ytpikaohodieeaaa
open Go.RowKit
set_option linter.unusedSimpArgs false
set_option linter.unusedVariables false
/-- a clock, turned over -/
structure TrnR (c c' : Clo) : Prop where
  n : c'.d.n = c.d.n
  G : ∀ i, i < c.d.n → c'.d.G i = c.d.G (c.d.n - 1 - i)
  k : c'.d.m = c.d.m
  S : ∀ i, i < c.d.m → c'.d.S i = ((c.d.n : Int) - 1 - (c.d.S i).1, (c.d.S i).2)
  m : c'.m = c.m
  F : ∀ i, i < c.m → c'.F i = ((c.d.n : Int) - (c.F i).1, 400 - (c.F i).2.2, 400 - (c.F i).2.1)
theorem TrnR.dr {c c' : Clo} (h : TrnR c c') (hd : DrOk c.d) : DrOk c'.d := by
  refine ⟨by rw [h.n]; exact hd.n1, by rw [h.n]; exact hd.n2, by rw [h.k]; exact hd.m, fun i hi => ?_, fun i hi => ?_⟩
  · rw [h.n] at hi
    rw [h.G i hi]
    exact hd.rates _ (by omega)
  · rw [h.k] at hi
    have := hd.stops i hi
    unfold stopOk at *
    rw [h.S i hi, h.n]
    exact ⟨by simp only; omega, this.2⟩
theorem TrnR.mks {c c' : Clo} (h : TrnR c c') (hk : MksOk c.d c.m c.F) : MksOk c'.d c'.m c'.F := ⟨by rw [h.m]; exact hk.1, fun i hi => by
  rw [h.m] at hi
  have := hk.2 i hi
  unfold mkOk isS at *
  rw [h.F i hi, h.n]
  simp only
  omega⟩
theorem TrnR.gap {c c' : Clo} (h : TrnR c c') (i : Nat) (hi : i < c.d.n) : gapF c'.d i = gapF c.d (c.d.n - 1 - i) := by
  have key : ∀ k, k ≤ c.d.m → gapK c'.d k i = gapK c.d k (c.d.n - 1 - i) := by
    intro k
    induction k with
    | zero => intro _; exact h.G i hi
    | succ k ih =>
      intro hk
      show (if (c'.d.S k).1 = i then addS (gapK c'.d k i) (c'.d.S k).2 else gapK c'.d k i) = (if (c.d.S k).1 = ((c.d.n - 1 - i : Nat) : Int) then addS (gapK c.d k (c.d.n - 1 - i)) (c.d.S k).2 else gapK c.d k (c.d.n - 1 - i))
      rw [ih (by omega), h.S k (by omega)]
      by_cases e : (c.d.S k).1 = ((c.d.n - 1 - i : Nat) : Int)
      · rw [if_pos e, if_pos (by simp only; omega)]
      · rw [if_neg e, if_neg (by simp only; omega)]
  show gapK c'.d c'.d.m i = _
  rw [h.k]
  exact key _ (Nat.le_refl _)
theorem TrnR.rdg {c c' : Clo} (h : TrnR c c') (hk : MksOk c.d c.m c.F) {T T' : Nat → Int} (hT : ∀ i, i ≤ c.d.n → T' i = 400 - T (c.d.n - i)) (hr : Rdg c.d.n (gapF c.d) c.m c.F T) : Rdg c'.d.n (gapF c'.d) c'.m c'.F T' := by
  refine ⟨fun i hi => ?_, fun i hi => ?_, fun i hi => ?_⟩
  · rw [h.n] at hi
    rw [hT i (by omega)]
    have := hr.tick (c.d.n - i) (by omega)
    omega
  · rw [h.n] at hi
    rw [h.gap i hi, hT i (by omega), hT (i + 1) (by omega)]
    have := hr.gap (c.d.n - 1 - i) (by omega)
    rw [show c.d.n - 1 - i + 1 = c.d.n - i by omega] at this
    rw [show c.d.n - (i + 1) = c.d.n - 1 - i by omega]
    unfold hasP at *
    omega
  · rw [h.m] at hi
    have k := (hk.2 i hi).1
    have := hr.mark i hi
    rw [h.F i hi]
    unfold hasP at *
    simp only
    rw [hT _ (by omega), show c.d.n - ((c.d.n : Int) - (c.F i).1).toNat = (c.F i).1.toNat by omega]
    omega
theorem TrnR.back {c c' : Clo} (h : TrnR c c') (hk : MksOk c.d c.m c.F) {T T' : Nat → Int} (hT : ∀ i, i ≤ c.d.n → T' i = 400 - T (c.d.n - i)) (hr : Rdg c'.d.n (gapF c'.d) c'.m c'.F T') : Rdg c.d.n (gapF c.d) c.m c.F T := by
  refine ⟨fun i hi => ?_, fun i hi => ?_, fun i hi => ?_⟩
  · have := hr.tick (c.d.n - i) (by rw [h.n]; omega)
    rw [hT _ (by omega), show c.d.n - (c.d.n - i) = i by omega] at this
    omega
  · have := hr.gap (c.d.n - 1 - i) (by rw [h.n]; omega)
    rw [h.gap _ (by omega), hT _ (by omega), hT _ (by omega), show c.d.n - 1 - (c.d.n - 1 - i) = i by omega, show c.d.n - (c.d.n - 1 - i + 1) = i by omega, show c.d.n - (c.d.n - 1 - i) = i + 1 by omega] at this
    unfold hasP at *
    omega
  · have k := (hk.2 i hi).1
    have := hr.mark i (by rw [h.m]; exact hi)
    rw [h.F i hi] at this
    unfold hasP at *
    simp only at this
    rw [hT _ (by omega), show c.d.n - ((c.d.n : Int) - (c.F i).1).toNat = (c.F i).1.toNat by omega] at this
    omega
/-- what Turned asks of the bounds -/
theorem turn_ends {c c' : Clo} {S S' : Nat → Int × Int} (h : TrnR c c') (hk : MksOk c.d c.m c.F) (he : Ends c.d.n (Rdg c.d.n (gapF c.d) c.m c.F) S) (he' : Ends c'.d.n (Rdg c'.d.n (gapF c'.d) c'.m c'.F) S') (i : Nat) (hi : i ≤ c.d.n) : (S i).2 = 400 - (S' (c.d.n - i)).1 := by
  have h1 := h.rdg hk (T := fun i => (S i).2) (T' := fun i => 400 - (S (c.d.n - i)).2) (fun i hi => rfl) he.hi
  have h2 := h.back hk (T := fun i => 400 - (S' (c.d.n - i)).1) (T' := fun i => (S' i).1) (fun i hi => by show (S' i).1 = 400 - (400 - (S' (c.d.n - (c.d.n - i))).1); rw [show c.d.n - (c.d.n - i) = i by omega]; omega) he'.lo
  have h3 := (he'.all _ h1 (c.d.n - i) (by rw [h.n]; omega)).1
  have h4 := (he.all _ h2 i hi).2
  rw [show c.d.n - (c.d.n - i) = i by omega] at h3
  omega
/-- a box of three values -/
structure Bx3 (b : Nat) (x y z : Value) (w : World) : Prop where
  c0 : w.cell? ⟨b, 0, none⟩ = some x
  c1 : w.cell? ⟨b, 1, none⟩ = some y
  c2 : w.cell? ⟨b, 2, none⟩ = some z
  f : ∀ o, w.frozen? ⟨b, o, none⟩ = false
theorem Bx3.lt {b : Nat} {x y z : Value} {w : World} (h : Bx3 b x y z w) : b < w.heap.size := World.block_lt_of_cell? _ _ h.c0
theorem Bx3.up {b : Nat} {x y z : Value} {w w' : World} (h : Bx3 b x y z w) (hb : Below w.heap.size w w') : Bx3 b x y z w' := ⟨cell_up hb h.lt h.c0, cell_up hb h.lt h.c1, cell_up hb h.lt h.c2, fun o => low_frozen hb h.lt (h.f o)⟩
theorem Bx3.new (w : World) (t : TypeId) (x y z : Value) : Bx3 w.heap.size x y z (w.alloc (.cells #[x, y, z] t)) := ⟨by go_simp, by go_simp, by go_simp, fun o => by unfold World.frozen?; rw [World.alloc_heap_new]; simp⟩
theorem Bx3.kept {b : Nat} {x y z : Value} {W W' : World} {row : Option Nat} (h : Bx3 b x y z W) (hg : W.grownBy W' row) (hne : some b ≠ row) : Bx3 b x y z W' :=
  ⟨cell_row hg h.lt hne h.c0, cell_row hg h.lt hne h.c1, cell_row hg h.lt hne h.c2, fun o => frozen_row hg h.lt hne (h.f o)⟩
theorem Bx3.other {b G o : Nat} {x y z u : Value} {w : World} (h : Bx3 b x y z w) (hne : b ≠ G) : Bx3 b x y z (w.setCell ⟨G, o, none⟩ u) :=
  ⟨cell_ne h.c0 hne, cell_ne h.c1 hne, cell_ne h.c2 hne, fun k => by rw [World.frozen?_setCell]; exact h.f k⟩
theorem Bx3.s0 {b : Nat} {x y z : Value} {w : World} (h : Bx3 b x y z w) (u : Value) : Bx3 b u y z (w.setCell ⟨b, 0, none⟩ u) := by
  obtain ⟨h0, h1, h2, h3⟩ := h
  exact ⟨by go_simp, by go_simp, by go_simp, fun o => by rw [World.frozen?_setCell]; exact h3 o⟩
theorem Bx3.s1 {b : Nat} {x y z : Value} {w : World} (h : Bx3 b x y z w) (u : Value) : Bx3 b x u z (w.setCell ⟨b, 1, none⟩ u) := by
  obtain ⟨h0, h1, h2, h3⟩ := h
  exact ⟨by go_simp, by go_simp, by go_simp, fun o => by rw [World.frozen?_setCell]; exact h3 o⟩
theorem Bx3.s2 {b : Nat} {x y z : Value} {w : World} (h : Bx3 b x y z w) (u : Value) : Bx3 b x y u (w.setCell ⟨b, 2, none⟩ u) := by
  obtain ⟨h0, h1, h2, h3⟩ := h
  exact ⟨by go_simp, by go_simp, by go_simp, fun o => by rw [World.frozen?_setCell]; exact h3 o⟩
def trG (c : Clo) (i : Nat) : Int × Int := c.d.G (c.d.n - 1 - i)
def trS (c : Clo) (i : Nat) : Int × Int × Int := ((c.d.n : Int) - 1 - (c.d.S i).1, (c.d.S i).2.1, (c.d.S i).2.2)
def trF (c : Clo) (i : Nat) : Int × Int × Int := ((c.d.n : Int) - (c.F i).1, 400 - (c.F i).2.2, 400 - (c.F i).2.1)
theorem rowS_succ (S : Nat → Int × Int) (n : Nat) : rowS S (n + 1) = rowS S n ++ [.int .i64 (S n).1, .int .i64 (S n).2] := by
  unfold rowS
  rw [List.range_succ, List.map_append, List.map_singleton, flatM_snoc]
theorem own_type {w : World} {B n size : Nat} {e : TypeId} {v : Value} {xs : List Value} (h : w.ownsRow B e size v n xs) {g : Nat} (hg : v.ownBlock = some g) : ∃ cur, w.heap[g]? = some (.cells cur e (0, 0)) := by
  obtain ⟨_, ⟨f, _⟩ | ⟨g', cap, cur, f1, f2, f3, _⟩⟩ := h
  · subst f; cases hg
  · subst f1; cases hg; exact ⟨cur, f3⟩
theorem own_part {w : World} {B n1 n2 s1 s2 : Nat} {e1 e2 : TypeId} {v1 v2 : Value} {x1 x2 : List Value} (h1 : w.ownsRow B e1 s1 v1 n1 x1) (h2 : w.ownsRow B e2 s2 v2 n2 x2) (hne : e1 ≠ e2) : Parted v1 v2 := fun g h3 h4 => by
  obtain ⟨c1, k1⟩ := own_type h1 h3
  obtain ⟨c2, k2⟩ := own_type h2 h4
  rw [k1] at k2
  injection k2 with k2
  injection k2 with _ k2 _
  exact hne k2
theorem own_kept {W w1 : World} {B n s : Nat} {e : TypeId} {u v : Value} {xs : List Value} (hu : W.ownsRow B e s u n xs) (hg : W.grownBy w1 v.ownBlock) (hd : Parted v u) : w1.ownsRow B e s u n xs := hu.kept hg (by
  cases hub : u.ownBlock with
  | none => exact .inl rfl
  | some g => exact .inr fun e => hd g e.symm hub)
theorem own_form {w : World} {B n s : Nat} {e : TypeId} {v : Value} {xs : List Value} (h : w.ownsRow B e s v (n + 1) xs) : ∃ g cap, v = .slice (some ⟨g, 0, none⟩) (n + 1) cap := by
  obtain ⟨_, ⟨_, f⟩ | ⟨g, cap, cur, f1, _⟩⟩ := h
  · cases f
  · exact ⟨g, cap, f1⟩
theorem own_form0 {w : World} {B n s : Nat} {e : TypeId} {v : Value} {xs : List Value} (h : w.ownsRow B e s v n xs) : ∃ A cap, v = .slice A n cap := by
  obtain ⟨_, ⟨f, f2⟩ | ⟨g, cap, cur, f1, _⟩⟩ := h
  · subst f2; exact ⟨none, 0, f⟩
  · exact ⟨_, cap, f1⟩
/-- the state of 'turned' -/
structure TuI (c : Clo) (w : World) (j1 j2 j3 : Nat) (v1 v2 v3 : Value) (wr : World) : Prop where
  bl : Below w.heap.size w wr
  cl : HasCl c w.heap.size wr
  rs : Bx3 (w.heap.size + 1) (.slice none 0 0) (.slice none 0 0) (.slice none 0 0) wr
  ob : Bx3 (w.heap.size + 1 + 1) v1 v2 v3 wr
  o1 : wr.ownsRow (w.heap.size + 3) 31 2 v1 j1 (rowS (trG c) j1)
  o2 : wr.ownsRow (w.heap.size + 3) 34 3 v2 j2 (rowT (trS c) j2)
  o3 : wr.ownsRow (w.heap.size + 3) 33 3 v3 j3 (rowT (trF c) j3)
theorem TuI.up {c : Clo} {w wr W : World} {j1 j2 j3 : Nat} {v1 v2 v3 : Value} (h : TuI c w j1 j2 j3 v1 v2 v3 wr) (hb : Below wr.heap.size wr W) : TuI c w j1 j2 j3 v1 v2 v3 W :=
  ⟨nextB h.bl hb, h.cl.up hb, h.rs.up hb, h.ob.up hb, own_keep h.o1 hb, own_keep h.o2 hb, own_keep h.o3 hb⟩
theorem row_gt {w : World} {B n s : Nat} {e : TypeId} {v : Value} {xs : List Value} (h : w.ownsRow B e s v n xs) {b : Nat} (hb : b < B) : some b ≠ v.ownBlock := fun e => by have := (own_block h e.symm).1; omega
theorem HasCl.kept {c : Clo} {b : Nat} {W W' : World} {row : Option Nat} (h : HasCl c b W) (hg : W.grownBy W' row) (hne : some b ≠ row) : HasCl c b W' := ⟨cell_row hg h.lt hne h.c0, cell_row hg h.lt hne h.c1, cell_row hg h.lt hne h.c2⟩
theorem HasCl.other {c : Clo} {b G o : Nat} {u : Value} {w : World} (h : HasCl c b w) (hne : b ≠ G) : HasCl c b (w.setCell ⟨G, o, none⟩ u) := ⟨cell_ne h.c0 hne, cell_ne h.c1 hne, cell_ne h.c2 hne⟩
theorem TuI.app1 {c : Clo} {w wr w5 : World} {j1 j2 j3 : Nat} {v1 v2 v3 v' : Value} (h : TuI c w j1 j2 j3 v1 v2 v3 wr) (hg : wr.grownBy w5 v1.ownBlock)
    (hown : w5.ownsRow (w.heap.size + 3) 31 2 v' (j1 + 1) (rowS (trG c) (j1 + 1))) : Bx3 (w.heap.size + 1 + 1) v1 v2 v3 w5 ∧ (Below w.heap.size w w5 ∧ HasCl c w.heap.size w5) ∧ TuI c w (j1 + 1) j2 j3 v' v2 v3 (w5.setCell ⟨w.heap.size + 1 + 1, 0, none⟩ v') := by
  have hz := h.ob.lt
  have k := h.ob.kept hg (row_gt h.o1 (by omega))
  have hbl := h.bl.grown hg (by omega) (fun r e => by have := (own_block h.o1 e).1; omega)
  have hcl := h.cl.kept hg (row_gt h.o1 (by omega))
  exact ⟨k, ⟨hbl, hcl⟩, set1 hbl (by omega) _ _, hcl.other (by omega), (h.rs.kept hg (row_gt h.o1 (by omega))).other (by omega), k.s0 v',
    own_set hown (by omega), own_set (own_kept h.o2 hg (own_part h.o1 h.o2 (by decide))) (by omega), own_set (own_kept h.o3 hg (own_part h.o1 h.o3 (by decide))) (by omega)⟩
theorem TuI.app2 {c : Clo} {w wr w5 : World} {j1 j2 j3 : Nat} {v1 v2 v3 v' : Value} (h : TuI c w j1 j2 j3 v1 v2 v3 wr) (hg : wr.grownBy w5 v2.ownBlock)
    (hown : w5.ownsRow (w.heap.size + 3) 34 3 v' (j2 + 1) (rowT (trS c) (j2 + 1))) : Bx3 (w.heap.size + 1 + 1) v1 v2 v3 w5 ∧ (Below w.heap.size w w5 ∧ HasCl c w.heap.size w5) ∧ TuI c w j1 (j2 + 1) j3 v1 v' v3 (w5.setCell ⟨w.heap.size + 1 + 1, 1, none⟩ v') := by
  have hz := h.ob.lt
  have k := h.ob.kept hg (row_gt h.o2 (by omega))
  have hbl := h.bl.grown hg (by omega) (fun r e => by have := (own_block h.o2 e).1; omega)
  have hcl := h.cl.kept hg (row_gt h.o2 (by omega))
  exact ⟨k, ⟨hbl, hcl⟩, set1 hbl (by omega) _ _, hcl.other (by omega), (h.rs.kept hg (row_gt h.o2 (by omega))).other (by omega), k.s1 v',
    own_set (own_kept h.o1 hg (own_part h.o2 h.o1 (by decide))) (by omega), own_set hown (by omega), own_set (own_kept h.o3 hg (own_part h.o2 h.o3 (by decide))) (by omega)⟩
theorem TuI.app3 {c : Clo} {w wr w5 : World} {j1 j2 j3 : Nat} {v1 v2 v3 v' : Value} (h : TuI c w j1 j2 j3 v1 v2 v3 wr) (hg : wr.grownBy w5 v3.ownBlock)
    (hown : w5.ownsRow (w.heap.size + 3) 33 3 v' (j3 + 1) (rowT (trF c) (j3 + 1))) : Bx3 (w.heap.size + 1 + 1) v1 v2 v3 w5 ∧ (Below w.heap.size w w5 ∧ HasCl c w.heap.size w5) ∧ TuI c w j1 j2 (j3 + 1) v1 v2 v' (w5.setCell ⟨w.heap.size + 1 + 1, 2, none⟩ v') := by
  have hz := h.ob.lt
  have k := h.ob.kept hg (row_gt h.o3 (by omega))
  have hbl := h.bl.grown hg (by omega) (fun r e => by have := (own_block h.o3 e).1; omega)
  have hcl := h.cl.kept hg (row_gt h.o3 (by omega))
  exact ⟨k, ⟨hbl, hcl⟩, set1 hbl (by omega) _ _, hcl.other (by omega), (h.rs.kept hg (row_gt h.o3 (by omega))).other (by omega), k.s2 v',
    own_set (own_kept h.o1 hg (own_part h.o3 h.o1 (by decide))) (by omega), own_set (own_kept h.o2 hg (own_part h.o3 h.o2 (by decide))) (by omega), own_set hown (by omega)⟩
end Go.Proofs.Ytpikaohodieeaaa
