/- The specification's Wind. -/
import Derived.Test.YtpikaohodieeaaaQfWin
import Derived.Test.YtpikaohodieeaaaQfRwi
import Derived.Test.YtpikaohodieeaaaQfTrm
import Derived.Maps.AppendAt
import Derived.Deep.CutRange
namespace Go.Proofs.Ytpikaohodieeaaa
open Go.RowKit
set_option linter.unusedSimpArgs false
set_option linter.unusedVariables false
theorem run_none_span (w : World) (ty : TypeId) (g l cap c : Nat) (h : l ≤ cap) : (Builtin.append_ #[22, 22] ty #[.slice (some ⟨g, 0, none⟩) l cap, .slice none 0 c]).run Try.prog w = .ok (.slice (some ⟨g, 0, none⟩) l cap) w := by
 obtain ⟨i0, hi0, hz0, hz1, hz2⟩ := info_parts Try.infoSpan
 simp [Builtin.append_, run_underlying Try.underlying22, Builtin.lenOf, Builtin.firstCells, sizeOf, typeInfo, hi0, hz1, h, storeCells]
theorem app_span {V : World} {B : Nat} {v : Value} {n m c : Nat} {xs : List Value} {A : Option Addr} {F : Nat → Int × Int} (hown : V.ownsRow B 31 2 v n xs) (hne : v ≠ .slice none 0 0) (hA : SpsIn A m F V.heap.size V) (hn : n + m ≤ 1000) (hB : B ≤ V.heap.size) (ty : TypeId) :
  ∃ v' V', (Builtin.append_ #[22, 22] ty #[v, .slice A m c]).run Try.prog V = .ok v' V' ∧ V'.ownsRow B 31 2 v' (n + m) (xs ++ rowS F m) ∧ V.grownBy V' v.ownBlock ∧ v' ≠ .slice none 0 0 ∧ (v'.ownBlock = v.ownBlock ∨ v'.ownBlock = some V.heap.size) := by
 obtain ⟨i0, hi0, hz0, hz1, hz2⟩ := info_parts Try.infoSpan
 cases A with
 | none =>
  have hm : m = 0 := by
   by_cases e : m = 0
   ·exact e
   ·obtain ⟨a, ea, _⟩ := hA.2 0 (by omega)
    cases ea
  subst hm
  obtain ⟨h0, ⟨f, _⟩ | ⟨g, cap, cur, f1, f2, f3, f4⟩⟩ := id hown
  ·exact absurd f hne
  ·subst f1
   refine ⟨_, V, run_none_span V ty g n cap c f4.1, ?_, grown_refl _ _, hne, .inl rfl⟩
   rw [Nat.add_zero, show rowS F 0 = [] from rfl, List.append_nil]
   exact hown
 | some ad =>
  obtain ⟨v', V', h1, h2, h3, h4, h5⟩ := run_append_own_at (P := Try.prog) (w := V) B 22 ty 31 i0 (.agg #[.int .i64 0, .int .i64 0]) 2 16 Try.underlying22 hi0 hz0 hz1 hz2 rfl (by decide) v n xs hown ad m c (rowS F m) (rowS_len _ _) (rowS_at hA rfl _ (Nat.le_refl _)) (rowS_one _ _) (by unfold maxLen; omega) (by omega) hB
  exact ⟨v', V', h1, h2, h3, fun e => hne (h4.1 e).1, h5⟩
theorem run_none_stop (w : World) (ty : TypeId) (g l cap c : Nat) (h : l ≤ cap) : (Builtin.append_ #[23, 23] ty #[.slice (some ⟨g, 0, none⟩) l cap, .slice none 0 c]).run Try.prog w = .ok (.slice (some ⟨g, 0, none⟩) l cap) w := by
 obtain ⟨i0, hi0, hz0, hz1, hz2⟩ := info_parts Try.infoStop
 simp [Builtin.append_, run_underlying Try.underlying23, Builtin.lenOf, Builtin.firstCells, sizeOf, typeInfo, hi0, hz1, h, storeCells]
theorem app_stop {V : World} {B : Nat} {v : Value} {n m c : Nat} {xs : List Value} {A : Option Addr} {F : Nat → Int × Int × Int} (hown : V.ownsRow B 34 3 v n xs) (hne : v ≠ .slice none 0 0) (hA : TrsIn A m F V.heap.size V) (hn : n + m ≤ 1000) (hB : B ≤ V.heap.size) (ty : TypeId) :
  ∃ v' V', (Builtin.append_ #[23, 23] ty #[v, .slice A m c]).run Try.prog V = .ok v' V' ∧ V'.ownsRow B 34 3 v' (n + m) (xs ++ rowT F m) ∧ V.grownBy V' v.ownBlock ∧ v' ≠ .slice none 0 0 ∧ (v'.ownBlock = v.ownBlock ∨ v'.ownBlock = some V.heap.size) := by
 obtain ⟨i0, hi0, hz0, hz1, hz2⟩ := info_parts Try.infoStop
 cases A with
 | none =>
  have hm : m = 0 := by
   by_cases e : m = 0
   ·exact e
   ·obtain ⟨a, ea, _⟩ := hA.2 0 (by omega)
    cases ea
  subst hm
  obtain ⟨h0, ⟨f, _⟩ | ⟨g, cap, cur, f1, f2, f3, f4⟩⟩ := id hown
  ·exact absurd f hne
  ·subst f1
   refine ⟨_, V, run_none_stop V ty g n cap c f4.1, ?_, grown_refl _ _, hne, .inl rfl⟩
   rw [Nat.add_zero, show rowT F 0 = [] from rfl, List.append_nil]
   exact hown
 | some ad =>
  obtain ⟨v', V', h1, h2, h3, h4, h5⟩ := run_append_own_at (P := Try.prog) (w := V) B 23 ty 34 i0 (.agg #[.int .i64 0, .int .i64 0, .int .i64 0]) 3 24 Try.underlying23 hi0 hz0 hz1 hz2 rfl (by decide) v n xs hown ad m c (rowT F m) (rowT_len _ _) (rowT_at hA rfl) (rowT_one _ _) (by unfold maxLen; omega) (by omega) hB
  exact ⟨v', V', h1, h2, h3, fun e => hne (h4.1 e).1, h5⟩
/-- what a walk through Wind's region knows: a row of rates, a row of stops, the further stop, the new drum's box -/
structure WSt (w2 : World) (p : Int × Int × Int) (rn sn : Option (Value × Nat × List Value)) (bx bb : Option Nat) (W : World) : Prop where
 bl : Below w2.heap.size w2 W
 R : ∀ v n xs, rn = some (v, n, xs) → W.ownsRow w2.heap.size 31 2 v n xs ∧ v ≠ .slice none 0 0
 S : ∀ v n xs, sn = some (v, n, xs) → W.ownsRow w2.heap.size 34 3 v n xs ∧ v ≠ .slice none 0 0
 X : ∀ b, bx = some b → TrsIn (some ⟨b, 0, none⟩) 1 (fun _ => p) W.heap.size W ∧ b < W.heap.size ∧ (∀ v n xs, rn = some (v, n, xs) → some b ≠ v.ownBlock) ∧ ∀ v n xs, sn = some (v, n, xs) → some b ≠ v.ownBlock
 D : ∀ b, bb = some b → Bv b (.slice none 0 0) (.slice none 0 0) W ∧ w2.heap.size ≤ b ∧ (∀ v n xs, rn = some (v, n, xs) → some b ≠ v.ownBlock) ∧ ∀ v n xs, sn = some (v, n, xs) → some b ≠ v.ownBlock
theorem WSt.start (w2 : World) (p : Int × Int × Int) : WSt w2 p none none none none w2.drew :=
 ⟨(Below.refl _ _).drew, fun v n xs e => (by cases e), fun v n xs e => (by cases e), fun b e => (by cases e), fun b e => (by cases e)⟩
theorem WSt.allocR {w2 W : World} {p : Int × Int × Int} {sn : Option (Value × Nat × List Value)} {bx bb : Option Nat} (h : WSt w2 p none sn bx bb W) :
  WSt w2 p (some (.slice (some ⟨W.heap.size, 0, none⟩) 0 0, 0, [])) sn bx bb (W.alloc (.cells #[] 31)) :=
 ⟨nextB h.bl (box1 _ _), fun v n xs e => by cases e; exact ⟨own_mono (own_empty W _ _) h.bl.size, by intro e; cases e⟩,
  fun v n xs e => ⟨(h.S v n xs e).1.alloc _, (h.S v n xs e).2⟩,
  fun b e => ⟨((h.X b e).1.up (box1 _ _) (Nat.le_refl _)).more (box1 _ _).size, by have := (h.X b e).2.1; rw [World.size_alloc]; omega, fun v n xs e2 => by cases e2; intro e3; have := (h.X b e).2.1; simp [Value.ownBlock] at e3; omega, (h.X b e).2.2.2⟩,
  fun b e => ⟨(h.D b e).1.up (box1 _ _), (h.D b e).2.1, fun v n xs e2 => by cases e2; intro e3; have := (h.D b e).1.lt; simp [Value.ownBlock] at e3; omega, (h.D b e).2.2.2⟩⟩
theorem WSt.allocS {w2 W : World} {p : Int × Int × Int} {rn : Option (Value × Nat × List Value)} {bx bb : Option Nat} (h : WSt w2 p rn none bx bb W) :
  WSt w2 p rn (some (.slice (some ⟨W.heap.size, 0, none⟩) 0 0, 0, [])) bx bb (W.alloc (.cells #[] 34)) :=
 ⟨nextB h.bl (box1 _ _), fun v n xs e => ⟨(h.R v n xs e).1.alloc _, (h.R v n xs e).2⟩, fun v n xs e => by cases e; exact ⟨own_mono (own_empty W _ _) h.bl.size, by intro e; cases e⟩,
  fun b e => ⟨((h.X b e).1.up (box1 _ _) (Nat.le_refl _)).more (box1 _ _).size, by have := (h.X b e).2.1; rw [World.size_alloc]; omega, (h.X b e).2.2.1, fun v n xs e2 => by cases e2; intro e3; have := (h.X b e).2.1; simp [Value.ownBlock] at e3; omega⟩,
  fun b e => ⟨(h.D b e).1.up (box1 _ _), (h.D b e).2.1, (h.D b e).2.2.1, fun v n xs e2 => by cases e2; intro e3; have := (h.D b e).1.lt; simp [Value.ownBlock] at e3; omega⟩⟩
theorem WSt.allocX {w2 W : World} {p0 p1 p2 : Int} {rn sn : Option (Value × Nat × List Value)} {bb : Option Nat} (h : WSt w2 (p0, p1, p2) rn sn none bb W) :
  WSt w2 (p0, p1, p2) rn sn (some W.heap.size) bb (W.alloc (.cells #[.int .i64 p0, .int .i64 p1, .int .i64 p2] 34)) :=
 ⟨nextB h.bl (box1 _ _), fun v n xs e => ⟨(h.R v n xs e).1.alloc _, (h.R v n xs e).2⟩, fun v n xs e => ⟨(h.S v n xs e).1.alloc _, (h.S v n xs e).2⟩,
  fun b e => by cases e; exact ⟨trs_one (tr3_new W (p0, p1, p2) _), by rw [World.size_alloc]; omega, fun v n xs e => own_out (h.R v n xs e).1 (Nat.le_refl _), fun v n xs e => own_out (h.S v n xs e).1 (Nat.le_refl _)⟩,
  fun b e => ⟨(h.D b e).1.up (box1 _ _), (h.D b e).2.1, (h.D b e).2.2.1, (h.D b e).2.2.2⟩⟩
theorem WSt.allocD {w2 W : World} {p : Int × Int × Int} {rn sn : Option (Value × Nat × List Value)} {bx : Option Nat} (h : WSt w2 p rn sn bx none W) :
  WSt w2 p rn sn bx (some W.heap.size) (W.alloc (.cells #[.slice none 0 0, .slice none 0 0] 25)) :=
 ⟨nextB h.bl (box1 _ _), fun v n xs e => ⟨(h.R v n xs e).1.alloc _, (h.R v n xs e).2⟩, fun v n xs e => ⟨(h.S v n xs e).1.alloc _, (h.S v n xs e).2⟩,
  fun b e => ⟨((h.X b e).1.up (box1 _ _) (Nat.le_refl _)).more (box1 _ _).size, by have := (h.X b e).2.1; rw [World.size_alloc]; omega, (h.X b e).2.2.1, (h.X b e).2.2.2⟩,
  fun b e => by cases e; exact ⟨Bv.new W _ _ _, h.bl.size, fun v n xs e => own_out (h.R v n xs e).1 (Nat.le_refl _), fun v n xs e => own_out (h.S v n xs e).1 (Nat.le_refl _)⟩⟩
theorem ne_own {b : Nat} {v v' : Value} {N : Nat} (h : some b ≠ v.ownBlock) (hb : b < N) (ha : v'.ownBlock = v.ownBlock ∨ v'.ownBlock = some N) : some b ≠ v'.ownBlock := by
 rcases ha with e | e
 ·rw [e]; exact h
 ·rw [e]; intro e2; cases e2; omega
theorem WSt.appR {w2 W : World} {p : Int × Int × Int} {v : Value} {sn : Option (Value × Nat × List Value)} {bx bb : Option Nat} (h : WSt w2 p (some (v, 0, [])) sn bx bb W) {A : Option Addr} {n c : Nat} {G : Nat → Int × Int} (hA : SpsIn A n G W.heap.size W) (hn : n ≤ 1000) (ty : TypeId) :
  ∃ v' V', (Builtin.append_ #[22, 22] ty #[v, .slice A n c]).run Try.prog W = .ok v' V' ∧ WSt w2 p (some (v', n, rowS G n)) sn bx bb V' := by
 obtain ⟨ho, hne⟩ := h.R _ _ _ rfl
 obtain ⟨v', V', h1, h2, h3, h4, h5⟩ := app_span (c := c) ho hne hA (by omega) h.bl.size ty
 rw [Nat.zero_add, List.nil_append] at h2
 exact ⟨v', V', h1, Below.grown h.bl h3 h.bl.size (fun r e => (own_block ho e).1), fun v n xs e => by cases e; exact ⟨h2, h4⟩,
  fun u n xs e => ⟨own_kept (h.S u n xs e).1 h3 (own_part ho (h.S u n xs e).1 (by decide)), (h.S u n xs e).2⟩,
  fun b e => ⟨(h.X b e).1.row h3 (h.X b e).2.1 ((h.X b e).2.2.1 _ _ _ rfl), by have := (h.X b e).2.1; have := h3.size; omega, fun u n xs e2 => by cases e2; exact ne_own ((h.X b e).2.2.1 _ _ _ rfl) (h.X b e).2.1 h5, (h.X b e).2.2.2⟩,
  fun b e => ⟨(h.D b e).1.kept h3 ((h.D b e).2.2.1 _ _ _ rfl), (h.D b e).2.1, fun u n xs e2 => by cases e2; exact ne_own ((h.D b e).2.2.1 _ _ _ rfl) (h.D b e).1.lt h5, (h.D b e).2.2.2⟩⟩
theorem WSt.appS {w2 W : World} {p : Int × Int × Int} {v : Value} {k : Nat} {xs : List Value} {rn : Option (Value × Nat × List Value)} {bx bb : Option Nat} (h : WSt w2 p rn (some (v, k, xs)) bx bb W) {A : Option Addr} {n c : Nat} {F : Nat → Int × Int × Int} (hA : TrsIn A n F W.heap.size W) (hn : k + n ≤ 1000) (ty : TypeId) :
  ∃ v' V', (Builtin.append_ #[23, 23] ty #[v, .slice A n c]).run Try.prog W = .ok v' V' ∧ WSt w2 p rn (some (v', k + n, xs ++ rowT F n)) bx bb V' := by
 obtain ⟨ho, hne⟩ := h.S _ _ _ rfl
 obtain ⟨v', V', h1, h2, h3, h4, h5⟩ := app_stop (c := c) ho hne hA hn h.bl.size ty
 exact ⟨v', V', h1, Below.grown h.bl h3 h.bl.size (fun r e => (own_block ho e).1),
  fun u n xs e => ⟨own_kept (h.R u n xs e).1 h3 (own_part ho (h.R u n xs e).1 (by decide)), (h.R u n xs e).2⟩, fun v n xs e => by cases e; exact ⟨h2, h4⟩,
  fun b e => ⟨(h.X b e).1.row h3 (h.X b e).2.1 ((h.X b e).2.2.2 _ _ _ rfl), by have := (h.X b e).2.1; have := h3.size; omega, (h.X b e).2.2.1, fun u n xs e2 => by cases e2; exact ne_own ((h.X b e).2.2.2 _ _ _ rfl) (h.X b e).2.1 h5⟩,
  fun b e => ⟨(h.D b e).1.kept h3 ((h.D b e).2.2.2 _ _ _ rfl), (h.D b e).2.1, (h.D b e).2.2.1, fun u n xs e2 => by cases e2; exact ne_own ((h.D b e).2.2.2 _ _ _ rfl) (h.D b e).1.lt h5⟩⟩
theorem SpsIn.oth {g n : Nat} {F : Nat → Int × Int} {B : Nat} {w : World} {G o : Nat} {u : Value} (h : SpsIn (some ⟨g, 0, none⟩) n F B w) (hne : g ≠ G) : SpsIn (some ⟨g, 0, none⟩) n F B (w.setCell ⟨G, o, none⟩ u) :=
 ⟨h.1, fun i hi => by
  obtain ⟨a, e, l, h1, h2⟩ := h.2 i hi
  cases e
  exact ⟨_, rfl, l, keepA h1 (by rw [add_block]; exact hne), keepA h2 (by simp only [add_block]; exact hne)⟩⟩
theorem own_sps' {w : World} {B n cap : Nat} {A : Option Addr} {S : Nat → Int × Int} (h : w.ownsRow B 31 2 (.slice A n cap) n (rowS S n)) (h1 : 1 ≤ n) (hn : n ≤ 1000) : SpsIn A n S w.heap.size w := by
 obtain ⟨g, c, e, _, _, hS⟩ := row_SpR (B := B) (n := n) (S := S) (v := .slice A n cap) (by rw [Nat.zero_add, List.nil_append]; exact h) h1
 injection e with e1 e2 e3
 subst e1
 exact hS.sps hn
/-- the end of Wind's region: the new drum in its box -/
def WEnd (d : Drm) (p : Int × Int × Int) (w2 : World) (v : Value) (wx : World) : Prop :=
 ∃ bb g cap cg ccap, v = .pointer (some ⟨bb, 0, none⟩) ∧ Bv bb (.slice (some ⟨g, 0, none⟩) d.n cap) (.slice (some ⟨cg, 0, none⟩) (d.m + 1) ccap) wx ∧ w2.heap.size ≤ bb ∧ w2.heap.size ≤ g ∧ w2.heap.size ≤ cg ∧ SpsIn (some ⟨g, 0, none⟩) d.n d.G wx.heap.size wx ∧ TrsIn (some ⟨cg, 0, none⟩) (d.m + 1) (catF d.m d.S fun _ => p) wx.heap.size wx ∧ Below w2.heap.size w2 wx
theorem WSt.fin {d : Drm} {w2 W : World} {p0 p1 p2 : Int} {v u : Value} {xs : List Value} {bx : Option Nat} {bb : Nat} (h : WSt w2 (p0, p1, p2) (some (v, d.n, rowS d.G d.n)) (some (u, d.m + 1, xs)) bx (some bb) W) (hxs : xs = rowT d.S d.m ++ rowT (fun _ => (p0, p1, p2)) 1) (h1 : 1 ≤ d.n) (hn : d.n ≤ 500) (hm : d.m ≤ 500) :
  WEnd d (p0, p1, p2) w2 (.pointer (some ⟨bb, 0, none⟩)) ((W.setCell ⟨bb, 0, none⟩ v).setCell ⟨bb, 1, none⟩ u) := by
 obtain ⟨r1, r2⟩ := h.R _ _ _ rfl
 obtain ⟨s1, s2⟩ := h.S _ _ _ rfl
 obtain ⟨d1, d2, d3, d4⟩ := h.D _ rfl
 obtain ⟨g, cap, rfl⟩ := own_some r1 r2
 obtain ⟨cg, ccap, rfl⟩ := own_some s1 s2
 have e1 : bb ≠ g := fun e => d3 _ _ _ rfl (by rw [e]; rfl)
 have e2 : bb ≠ cg := fun e => d4 _ _ _ rfl (by rw [e]; rfl)
 have gl := own_block r1 (g := g) rfl
 have cl := own_block s1 (g := cg) rfl
 have hS : SpsIn (some ⟨g, 0, none⟩) d.n d.G W.heap.size W := own_sps' r1 h1 (by omega)
 have hT : TrsIn (some ⟨cg, 0, none⟩) (d.m + 1) (catF d.m d.S fun _ => (p0, p1, p2)) W.heap.size W := row_trs (B := w2.heap.size) (t := 34) (cap := ccap) (by rw [rowT_cat, ← hxs]; exact s1) (by omega)
 exact ⟨bb, g, cap, cg, ccap, rfl, d1.store _ _, d2, gl.1, cl.1, by rw [World.size_setCell, World.size_setCell]; exact (hS.oth (Ne.symm e1)).oth (Ne.symm e1), by rw [World.size_setCell, World.size_setCell]; exact (hT.oth (Ne.symm e2)).oth (Ne.symm e2), set1 (set1 h.bl d2 _ _) d2 _ _⟩
theorem set_new2 (W : World) (x y u v : Value) (t : TypeId) : ((W.alloc (.cells #[x, y] t)).setCell ⟨W.heap.size, 0, none⟩ u).setCell ⟨W.heap.size, 1, none⟩ v = W.alloc (.cells #[u, v] t) := by go_simp
theorem wend_drew {d : Drm} {p : Int × Int × Int} {w2 : World} {v : Value} {wx : World} (h : WEnd d p w2 v wx) : WEnd d p w2 v wx.drew := by
 obtain ⟨bb, g, cap, cg, ccap, rfl, h1, h2, h3, h4, h5, h6, h7⟩ := h
 exact ⟨bb, g, cap, cg, ccap, rfl, h1.up (Below.refl _ _).drew, h2, h3, h4, (h5.up (Below.refl _ _).drew (Nat.le_refl _)).more (Nat.le_refl _), (h6.up (Below.refl _ _).drew (Nat.le_refl _)).more (Nat.le_refl _), h7.drew⟩
section
variable {P : Program} {Q : Exit → Act → World → Prop} {md : Region.Mode} {T : World → Prop} {L : List Nat}
/-- four operations may come up: any way -/
theorem M_fork4 {l r r' r'' r3 : List Oper} {o o' o'' o3 : Oper} {g : Nat} {listed : Array Bool} {a : Act} {w : World} (i j k m : Nat) (hi : l.drop i = o :: r) (hj : l.drop j = o' :: r') (hk3 : l.drop k = o'' :: r'') (hm4 : l.drop m = o3 :: r3) (hr : Region.ready md l.toArray listed = [i, j, k, m])
  (h : ∀ K' : Act → World → Prop, Hid (∀ a w, (L.contains i = false → T w) → wpM P md l.toArray Q T L g (listed.setIfInBounds i true) a w → K' a w) → if Region.wanted o (yielded l.toArray a.tmps) = true then Oper.wp P o a w K' Q else K' (a.put o.dst undef) w)
  (h' : ∀ K' : Act → World → Prop, Hid (∀ a w, (L.contains j = false → T w) → wpM P md l.toArray Q T L g (listed.setIfInBounds j true) a w → K' a w) → if Region.wanted o' (yielded l.toArray a.tmps) = true then Oper.wp P o' a w K' Q else K' (a.put o'.dst undef) w)
  (h'' : ∀ K' : Act → World → Prop, Hid (∀ a w, (L.contains k = false → T w) → wpM P md l.toArray Q T L g (listed.setIfInBounds k true) a w → K' a w) → if Region.wanted o'' (yielded l.toArray a.tmps) = true then Oper.wp P o'' a w K' Q else K' (a.put o''.dst undef) w)
  (h3 : ∀ K' : Act → World → Prop, Hid (∀ a w, (L.contains m = false → T w) → wpM P md l.toArray Q T L g (listed.setIfInBounds m true) a w → K' a w) → if Region.wanted o3 (yielded l.toArray a.tmps) = true then Oper.wp P o3 a w K' Q else K' (a.put o3.dst undef) w) :
  wpM P md l.toArray Q T L (g + 1) listed a w := fun hc hs =>
 ⟨fun e => (by rw [hr] at e; cases e), fun q hq => by
  have hq' := hq
  rw [hr] at hq
  rcases List.mem_cons.1 hq with rfl | hq
  ·exact wpOp_step (at_drop hi) fun K' hK => h K' (Lib.hid fun a w hT hW => hK a w ⟨hT, hW (hc.next hq') hs⟩)
  ·rcases List.mem_cons.1 hq with rfl | hq
   ·exact wpOp_step (at_drop hj) fun K' hK => h' K' (Lib.hid fun a w hT hW => hK a w ⟨hT, hW (hc.next hq') hs⟩)
   ·rcases List.mem_cons.1 hq with rfl | hq
    ·exact wpOp_step (at_drop hk3) fun K' hK => h'' K' (Lib.hid fun a w hT hW => hK a w ⟨hT, hW (hc.next hq') hs⟩)
    ·obtain rfl : q = m := by simpa using hq
     exact wpOp_step (at_drop hm4) fun K' hK => h3 K' (Lib.hid fun a w hT hW => hK a w ⟨hT, hW (hc.next hq') hs⟩)⟩
end
attribute [local go_sem] Oper.semAt_some
set_option maxRecDepth 100000 in
set_option maxHeartbeats 40000000 in
theorem RWind_any (d : Drm) (p : Int × Int × Int) (E : Int) (w : World) (hin : DrIn d w.heap.size w) (hE : WnR d p E) :
  Calls Try.prog 30 #[d.v, Mk p] w (WnP d p E w) := by
 obtain ⟨p0, p1, p2⟩ := p
 obtain ⟨w1, hw1⟩ : ∃ w1 : World, w1 = ((w.alloc (drO d)).alloc (.cells #[.int .i64 p0, .int .i64 p1, .int .i64 p2] 34)).alloc (drO ⟨none, 0, 0, fun _ => (0, 0), none, 0, 0, fun _ => (0, 0, 0)⟩) := ⟨_, rfl⟩
 have hb1 : Below w.heap.size w w1 := by rw [hw1]; exact box3 _ _ _ _
 have P1 : HasDr d w.heap.size w1 := by rw [hw1]; exact (dr_new w d).up (box2 _ _ _)
 have S1 : Tr3 (p0, p1, p2) (w.heap.size + 1) w1 := by rw [hw1]; have h := (tr3_new (w.alloc (drO d)) (p0, p1, p2) 34).up (box1 _ (drO ⟨none, 0, 0, fun _ => (0, 0), none, 0, 0, fun _ => (0, 0, 0)⟩)); rw [World.size_alloc] at h; exact h
 have R1 : Bv (w.heap.size + 1 + 1) (.slice none 0 0) (.slice none 0 0) w1 := by rw [hw1]; have h := Bv.new ((w.alloc (drO d)).alloc (.cells #[.int .i64 p0, .int .i64 p1, .int .i64 p2] 34)) 25 (.slice none 0 0) (.slice none 0 0); simp only [World.size_alloc] at h; exact h
 have DD : Hid (∀ W, Below w.heap.size w W → DrIn d W.heap.size W) := Lib.hid fun W h => (hin.up h (Nat.le_refl _)).more h.size
 obtain ⟨E1, hE1⟩ : ∃ E1 : Int, (E1 = 0 ∧ DrOk d) ∨ (E1 = 20 ∧ ¬ DrOk d) := by
  by_cases h : DrOk d
  ·exact ⟨0, .inl ⟨rfl, h⟩⟩
  ·exact ⟨20, .inr ⟨rfl, h⟩⟩
 have K1 := Lib.hid fun W h => RCheck_any d E1 W (DD.out W h) hE1
 have HE := Lib.hid hE
 have HE1 := Lib.hid hE1
 have D := Lib.hid hb1
 have P := Lib.hid P1
 have S := Lib.hid S1
 have R := Lib.hid R1
 have hw1' := hw1
 simp only [drO] at hw1'
 have HW1 := Lib.hid hw1'
 clear hin hE hE1 hb1 P1 S1 R1 hw1 hw1'
 obtain ⟨x0, x1⟩ := P.out
 have zP := P.out.lt
 go_enter Try.func30, Try.ntmps30
 go_wp2_with fail
 rw [← HW1.out]
 refine (K1.out w1 D.out).mono ?_
 rintro e w2 ⟨rfl, hb⟩
 have J := Lib.hid hb
 have D := Lib.hid (nextB D.out hb)
 have P := Lib.hid (P.out.up hb)
 have S := Lib.hid (S.out.up hb)
 have R := Lib.hid (R.out.up hb)
 clear hb x0 x1 zP
 obtain ⟨x0, x1⟩ := P.out
 obtain ⟨r0, r1, r2, r3⟩ := R.out
 have zP := P.out.lt
 have zR := R.out.lt
 rcases HE1.out with ⟨rfl, hd⟩ | ⟨rfl, hnd⟩
 ·have HD := Lib.hid hd
  clear hd
  by_cases h16 : d.m = 16
  ·obtain rfl : E = 2 := by
    rcases HE.out with ⟨_, h⟩ | ⟨h, _⟩ | ⟨_, _, h, _⟩ | ⟨_, _, h, _⟩
    ·exact absurd HD.out h
    ·exact h
    ·exact absurd h16 h
    ·exact absurd h16 h
   have d1 : (d.m == 16) = true := by simpa using h16
   have d2 : ((d.m : Int) == 16) = true := by simpa using (by omega : (d.m : Int) = 16)
   clear h16
   have hq := R.out.store (.slice none 0 0) (.slice none 0 0)
   have hfb : Below w.heap.size w ((w2.setCell ⟨w.heap.size + 1 + 1, 0, none⟩ (.slice none 0 0)).setCell ⟨w.heap.size + 1 + 1, 1, none⟩ (.slice none 0 0)) := set1 (set1 D.out (by omega) _ _) (by omega) _ _
   have HQ := Lib.hid hq
   have HFB := Lib.hid hfb
   clear hq hfb
   go_wp2_with fail
   obtain ⟨wf, hwf⟩ : ∃ wf : World, wf = ((w2.setCell ⟨w.heap.size + 1 + 1, 0, none⟩ (.slice none 0 0)).setCell ⟨w.heap.size + 1 + 1, 1, none⟩ (.slice none 0 0)) := ⟨_, rfl⟩
   have HF2 := HFB.out
   have HQ2 := HQ.out
   rw [← hwf] at HF2 HQ2 ⊢
   obtain ⟨q0, q1, _, _⟩ := HQ2
   exact bodyPost_ret (v := .tuple #[.agg #[.slice none 0 0, .slice none 0 0], .int .i64 2]) (by simp [results, Try.results30, go_sem, q0, q1]) rfl ⟨HF2, .inl ⟨by omega, rfl⟩⟩
  ·have d1 : (d.m == 16) = false := by simpa using h16
   have d2 : ((d.m : Int) == 16) = false := by simpa using (by omega : ¬ (d.m : Int) = 16)
   have hE3 : (E = 1 ∧ ¬ WOk d (p0, p1, p2)) ∨ (E = 0 ∧ WOk d (p0, p1, p2)) := by
    rcases HE.out with ⟨_, h⟩ | ⟨_, _, h⟩ | ⟨h, _, _, h2⟩ | ⟨h, _, _, h2⟩
    ·exact absurd HD.out h
    ·exact absurd h h16
    ·exact .inl ⟨h, h2⟩
    ·exact .inr ⟨h, h2⟩
   have HE3 := Lib.hid hE3
   have hdn1 : 1 ≤ d.n := HD.out.n1
   have hdn : d.n ≤ 200 := by have := HD.out.n2; omega
   have hdm : d.m ≤ 16 := HD.out.m
   obtain ⟨s0, s1, s2⟩ := S.out
   have zS := S.out.lt
   have TC : Hid (∀ W, Below w2.heap.size w2 W → W.cell? ⟨w.heap.size, 0, none⟩ = some (.slice d.RA d.n d.rc) ∧ W.cell? ⟨w.heap.size, 1, none⟩ = some (.slice d.SA d.m d.sc) ∧ W.cell? ⟨w.heap.size + 1, 0, none⟩ = some (.int .i64 p0) ∧ W.cell? ⟨w.heap.size + 1, 1, none⟩ = some (.int .i64 p1) ∧ W.cell? ⟨w.heap.size + 1, 2, none⟩ = some (.int .i64 p2)) := Lib.hid fun W h => ⟨cell_up h zP x0, cell_up h zP x1, cell_up h zS s0, cell_up h zS s1, cell_up h zS s2⟩
   have DD2 : Hid (∀ W, Below w2.heap.size w2 W → DrIn d W.heap.size W) := Lib.hid fun W h => DD.out W (nextB D.out h)
   clear h16 hE3 HE
   go_upto_region 5 with fail
   go_cut [6] from 16 to 27 (fun v wx => WEnd d (p0, p1, p2) w2 v wx)
   case first =>
    refine wp_region_M [13] (fun w' => w'.cell? ⟨w.heap.size, 0, none⟩ = some (.slice d.RA d.n d.rc) ∧ w'.cell? ⟨w.heap.size, 1, none⟩ = some (.slice d.SA d.m d.sc) ∧ w'.cell? ⟨w.heap.size + 1, 0, none⟩ = some (.int .i64 p0) ∧ w'.cell? ⟨w.heap.size + 1, 1, none⟩ = some (.int .i64 p1) ∧ w'.cell? ⟨w.heap.size + 1, 2, none⟩ = some (.int .i64 p2)) (by kernel_rfl) (by kernel_rfl) (by (try dsimp only); (repeat' apply And.intro); all_goals first | assumption | (go_simp; done)) (fun hT0 => ?_)
    have h0 := WSt.start w2 (p0, p1, p2)
    refine M_take (v := ?_) 1 rfl (by kernel_rfl) (by assumption) (fun _ _ _ h => h) (Or.inl ⟨by rfl, ?_⟩) ?_
    rotate_left
    ·(intro w hSw; (try dsimp only at hSw); go_simp; (try with_reducible rfl))
    (try simp only [Act.put, List.setIfInBounds_toArray, List.set_cons_zero, List.set_cons_succ])
    refine M_take (v := ?_) 2 rfl (by kernel_rfl) (by assumption) (fun _ _ _ h => h) (Or.inl ⟨by rfl, ?_⟩) ?_
    rotate_left
    ·(intro w hSw; (try dsimp only at hSw); go_simp; (try with_reducible rfl))
    (try simp only [Act.put, List.setIfInBounds_toArray, List.set_cons_zero, List.set_cons_succ])
    refine M_take (v := ?_) 5 rfl (by kernel_rfl) (by assumption) (fun _ _ _ h => h) (Or.inl ⟨by rfl, ?_⟩) ?_
    rotate_left
    ·(intro w hSw; (try dsimp only at hSw); go_simp; (try with_reducible rfl))
    (try simp only [Act.put, List.setIfInBounds_toArray, List.set_cons_zero, List.set_cons_succ])
    refine M_take (v := ?_) 6 rfl (by kernel_rfl) (by assumption) (fun _ _ _ h => h) (Or.inl ⟨by rfl, ?_⟩) ?_
    rotate_left
    ·(intro w hSw; (try dsimp only at hSw); go_simp; (try with_reducible rfl))
    (try simp only [Act.put, List.setIfInBounds_toArray, List.set_cons_zero, List.set_cons_succ])
    refine M_take (v := ?_) 8 rfl (by kernel_rfl) (by assumption) (fun _ _ _ h => h) (Or.inl ⟨by rfl, ?_⟩) ?_
    rotate_left
    ·(intro w hSw; (try dsimp only at hSw); go_simp; (try with_reducible rfl))
    (try simp only [Act.put, List.setIfInBounds_toArray, List.set_cons_zero, List.set_cons_succ])
    refine M_fork4 0 4 9 12 rfl rfl rfl rfl (by kernel_rfl) (fun K hK => ?_) (fun K hK => ?_) (fun K hK => ?_) (fun K hK => ?_)
    ·go_simp; have h1 := h0.allocR; have hT1 := TC.out _ h1.bl; refine hK.out _ _ (fun _ => hT1) ?_; clear hK K
     refine M_fork4 3 4 9 12 rfl rfl rfl rfl (by kernel_rfl) (fun K hK => ?_) (fun K hK => ?_) (fun K hK => ?_) (fun K hK => ?_)
     ·obtain ⟨vR, W2, hrun, h2⟩ := h1.appR (c := d.rc) (DD2.out _ h1.bl).1 (by omega) 22; obtain ⟨g, cap, rfl⟩ := own_some (h2.R _ _ _ rfl).1 (h2.R _ _ _ rfl).2; refine step_app_run rfl (.tmp 16) (.tmp 18) 22 rfl _ _ (by simp [Act.eval]; first | done | rfl) (by simp [Act.eval]; first | done | rfl) _ W2 hrun ?_; have hT2 := TC.out _ h2.bl; refine hK.out _ _ (fun _ => hT2) ?_; clear hK K
      refine M_fork3 4 9 12 rfl rfl rfl (by kernel_rfl) (fun K hK => ?_) (fun K hK => ?_) (fun K hK => ?_)
      ·go_simp; have h3 := h2.allocS; have hT3 := TC.out _ h3.bl; refine hK.out _ _ (fun _ => hT3) ?_; clear hK K
       refine M_fork3 7 9 12 rfl rfl rfl (by kernel_rfl) (fun K hK => ?_) (fun K hK => ?_) (fun K hK => ?_)
       ·obtain ⟨vS, W4, hrun7, h4⟩ := h3.appS (c := d.sc) (DD2.out _ h3.bl).2 (by omega) 23; rw [Nat.zero_add, List.nil_append] at h4; obtain ⟨g7, cap7, rfl⟩ := own_some (h4.S _ _ _ rfl).1 (h4.S _ _ _ rfl).2; refine step_app_run rfl (.tmp 20) (.tmp 22) 23 rfl _ _ (by simp [Act.eval]; first | done | rfl) (by simp [Act.eval]; first | done | rfl) _ W4 hrun7 ?_; have hT4 := TC.out _ h4.bl; refine hK.out _ _ (fun _ => hT4) ?_; clear hK K
        refine M_fork 9 12 rfl rfl (by kernel_rfl) (fun K hK => ?_) (fun K hK => ?_)
        ·go_simp; have h5 := h4.allocX; have hT5 := TC.out _ h5.bl; refine hK.out _ _ (fun _ => hT5) ?_; clear hK K
         refine M_fork 10 12 rfl rfl (by kernel_rfl) (fun K hK => ?_) (fun K hK => ?_)
         ·obtain ⟨vT, W6, hrun10, h6⟩ := h5.appS (c := 1) (h5.X _ rfl).1 (by omega) 23; obtain ⟨cg, ccap, rfl⟩ := own_some (h6.S _ _ _ rfl).1 (h6.S _ _ _ rfl).2; refine step_app_run rfl (.tmp 23) (.tmp 25) 23 rfl _ _ (by simp [Act.eval]; first | done | rfl) (by simp [Act.eval]; first | done | rfl) _ W6 hrun10 ?_; have hT6 := TC.out _ h6.bl; refine hK.out _ _ (fun _ => hT6) ?_; clear hK K
          refine M_take (v := ?_) 11 rfl (by kernel_rfl) (by assumption) (fun _ _ _ h => h) (Or.inl ⟨by rfl, ?_⟩) ?_
          rotate_left
          ·(intro w hSw; (try dsimp only at hSw); go_simp; (try with_reducible rfl))
          (try simp only [Act.put, List.setIfInBounds_toArray, List.set_cons_zero, List.set_cons_succ])
          refine M_step 12 rfl (by kernel_rfl) (fun K hK => ?_)
          go_simp; have h7 := h6.allocD; have hT7 := TC.out _ h7.bl; refine hK.out _ _ (fun _ => hT7) ?_; clear hK K
          refine M_step 13 rfl (by kernel_rfl) (fun K hK => ?_)
          have hend := h7.fin rfl hdn1 (by omega) (by omega); obtain ⟨b0, b1, b2, b3⟩ := (h7.D _ rfl).1; have zb := (h7.D _ rfl).1.lt; (try simp only [World.size_alloc, World.size_drew] at b0 b1 b2 b3 zb hend); have HEND := Lib.hid hend; clear hend; go_simp; refine hK.out _ _ (fun e => by cases e) ?_; clear hK K
          refine M_done (by kernel_rfl) ?_ _
          clear hT0 b0 b1 b2 b3 zb
          go_wp2_with fail
          go_meet
          first | exact HEND.out | (have h := HEND.out; rw [set_new2] at h; exact h) | exact wend_drew HEND.out
         ·go_simp; have h6 := h5.allocD; have hT6 := TC.out _ h6.bl; refine hK.out _ _ (fun _ => hT6) ?_; clear hK K
          refine M_step 10 rfl (by kernel_rfl) (fun K hK => ?_)
          obtain ⟨vT, W7, hrun10, h7⟩ := h6.appS (c := 1) (h6.X _ rfl).1 (by omega) 23; obtain ⟨cg, ccap, rfl⟩ := own_some (h7.S _ _ _ rfl).1 (h7.S _ _ _ rfl).2; refine step_app_run rfl (.tmp 23) (.tmp 25) 23 rfl _ _ (by simp [Act.eval]; first | done | rfl) (by simp [Act.eval]; first | done | rfl) _ W7 hrun10 ?_; have hT7 := TC.out _ h7.bl; refine hK.out _ _ (fun _ => hT7) ?_; clear hK K
          refine M_take (v := ?_) 11 rfl (by kernel_rfl) (by assumption) (fun _ _ _ h => h) (Or.inl ⟨by rfl, ?_⟩) ?_
          rotate_left
          ·(intro w hSw; (try dsimp only at hSw); go_simp; (try with_reducible rfl))
          (try simp only [Act.put, List.setIfInBounds_toArray, List.set_cons_zero, List.set_cons_succ])
          refine M_step 13 rfl (by kernel_rfl) (fun K hK => ?_)
          have hend := h7.fin rfl hdn1 (by omega) (by omega); obtain ⟨b0, b1, b2, b3⟩ := (h7.D _ rfl).1; have zb := (h7.D _ rfl).1.lt; (try simp only [World.size_alloc, World.size_drew] at b0 b1 b2 b3 zb hend); have HEND := Lib.hid hend; clear hend; go_simp; refine hK.out _ _ (fun e => by cases e) ?_; clear hK K
          refine M_done (by kernel_rfl) ?_ _
          clear hT0 b0 b1 b2 b3 zb
          go_wp2_with fail
          go_meet
          first | exact HEND.out | (have h := HEND.out; rw [set_new2] at h; exact h) | exact wend_drew HEND.out
        ·go_simp; have h5 := h4.allocD; have hT5 := TC.out _ h5.bl; refine hK.out _ _ (fun _ => hT5) ?_; clear hK K
         refine M_step 9 rfl (by kernel_rfl) (fun K hK => ?_)
         go_simp; have h6 := h5.allocX; have hT6 := TC.out _ h6.bl; refine hK.out _ _ (fun _ => hT6) ?_; clear hK K
         refine M_step 10 rfl (by kernel_rfl) (fun K hK => ?_)
         obtain ⟨vT, W7, hrun10, h7⟩ := h6.appS (c := 1) (h6.X _ rfl).1 (by omega) 23; obtain ⟨cg, ccap, rfl⟩ := own_some (h7.S _ _ _ rfl).1 (h7.S _ _ _ rfl).2; refine step_app_run rfl (.tmp 23) (.tmp 25) 23 rfl _ _ (by simp [Act.eval]; first | done | rfl) (by simp [Act.eval]; first | done | rfl) _ W7 hrun10 ?_; have hT7 := TC.out _ h7.bl; refine hK.out _ _ (fun _ => hT7) ?_; clear hK K
         refine M_take (v := ?_) 11 rfl (by kernel_rfl) (by assumption) (fun _ _ _ h => h) (Or.inl ⟨by rfl, ?_⟩) ?_
         rotate_left
         ·(intro w hSw; (try dsimp only at hSw); go_simp; (try with_reducible rfl))
         (try simp only [Act.put, List.setIfInBounds_toArray, List.set_cons_zero, List.set_cons_succ])
         refine M_step 13 rfl (by kernel_rfl) (fun K hK => ?_)
         have hend := h7.fin rfl hdn1 (by omega) (by omega); obtain ⟨b0, b1, b2, b3⟩ := (h7.D _ rfl).1; have zb := (h7.D _ rfl).1.lt; (try simp only [World.size_alloc, World.size_drew] at b0 b1 b2 b3 zb hend); have HEND := Lib.hid hend; clear hend; go_simp; refine hK.out _ _ (fun e => by cases e) ?_; clear hK K
         refine M_done (by kernel_rfl) ?_ _
         clear hT0 b0 b1 b2 b3 zb
         go_wp2_with fail
         go_meet
         first | exact HEND.out | (have h := HEND.out; rw [set_new2] at h; exact h) | exact wend_drew HEND.out
       ·go_simp; have h4 := h3.allocX; have hT4 := TC.out _ h4.bl; refine hK.out _ _ (fun _ => hT4) ?_; clear hK K
        refine M_fork 7 12 rfl rfl (by kernel_rfl) (fun K hK => ?_) (fun K hK => ?_)
        ·obtain ⟨vS, W5, hrun7, h5⟩ := h4.appS (c := d.sc) (DD2.out _ h4.bl).2 (by omega) 23; rw [Nat.zero_add, List.nil_append] at h5; obtain ⟨g7, cap7, rfl⟩ := own_some (h5.S _ _ _ rfl).1 (h5.S _ _ _ rfl).2; refine step_app_run rfl (.tmp 20) (.tmp 22) 23 rfl _ _ (by simp [Act.eval]; first | done | rfl) (by simp [Act.eval]; first | done | rfl) _ W5 hrun7 ?_; have hT5 := TC.out _ h5.bl; refine hK.out _ _ (fun _ => hT5) ?_; clear hK K
         refine M_fork 10 12 rfl rfl (by kernel_rfl) (fun K hK => ?_) (fun K hK => ?_)
         ·obtain ⟨vT, W6, hrun10, h6⟩ := h5.appS (c := 1) (h5.X _ rfl).1 (by omega) 23; obtain ⟨cg, ccap, rfl⟩ := own_some (h6.S _ _ _ rfl).1 (h6.S _ _ _ rfl).2; refine step_app_run rfl (.tmp 23) (.tmp 25) 23 rfl _ _ (by simp [Act.eval]; first | done | rfl) (by simp [Act.eval]; first | done | rfl) _ W6 hrun10 ?_; have hT6 := TC.out _ h6.bl; refine hK.out _ _ (fun _ => hT6) ?_; clear hK K
          refine M_take (v := ?_) 11 rfl (by kernel_rfl) (by assumption) (fun _ _ _ h => h) (Or.inl ⟨by rfl, ?_⟩) ?_
          rotate_left
          ·(intro w hSw; (try dsimp only at hSw); go_simp; (try with_reducible rfl))
          (try simp only [Act.put, List.setIfInBounds_toArray, List.set_cons_zero, List.set_cons_succ])
          refine M_step 12 rfl (by kernel_rfl) (fun K hK => ?_)
          go_simp; have h7 := h6.allocD; have hT7 := TC.out _ h7.bl; refine hK.out _ _ (fun _ => hT7) ?_; clear hK K
          refine M_step 13 rfl (by kernel_rfl) (fun K hK => ?_)
          have hend := h7.fin rfl hdn1 (by omega) (by omega); obtain ⟨b0, b1, b2, b3⟩ := (h7.D _ rfl).1; have zb := (h7.D _ rfl).1.lt; (try simp only [World.size_alloc, World.size_drew] at b0 b1 b2 b3 zb hend); have HEND := Lib.hid hend; clear hend; go_simp; refine hK.out _ _ (fun e => by cases e) ?_; clear hK K
          refine M_done (by kernel_rfl) ?_ _
          clear hT0 b0 b1 b2 b3 zb
          go_wp2_with fail
          go_meet
          first | exact HEND.out | (have h := HEND.out; rw [set_new2] at h; exact h) | exact wend_drew HEND.out
         ·go_simp; have h6 := h5.allocD; have hT6 := TC.out _ h6.bl; refine hK.out _ _ (fun _ => hT6) ?_; clear hK K
          refine M_step 10 rfl (by kernel_rfl) (fun K hK => ?_)
          obtain ⟨vT, W7, hrun10, h7⟩ := h6.appS (c := 1) (h6.X _ rfl).1 (by omega) 23; obtain ⟨cg, ccap, rfl⟩ := own_some (h7.S _ _ _ rfl).1 (h7.S _ _ _ rfl).2; refine step_app_run rfl (.tmp 23) (.tmp 25) 23 rfl _ _ (by simp [Act.eval]; first | done | rfl) (by simp [Act.eval]; first | done | rfl) _ W7 hrun10 ?_; have hT7 := TC.out _ h7.bl; refine hK.out _ _ (fun _ => hT7) ?_; clear hK K
          refine M_take (v := ?_) 11 rfl (by kernel_rfl) (by assumption) (fun _ _ _ h => h) (Or.inl ⟨by rfl, ?_⟩) ?_
          rotate_left
          ·(intro w hSw; (try dsimp only at hSw); go_simp; (try with_reducible rfl))
          (try simp only [Act.put, List.setIfInBounds_toArray, List.set_cons_zero, List.set_cons_succ])
          refine M_step 13 rfl (by kernel_rfl) (fun K hK => ?_)
          have hend := h7.fin rfl hdn1 (by omega) (by omega); obtain ⟨b0, b1, b2, b3⟩ := (h7.D _ rfl).1; have zb := (h7.D _ rfl).1.lt; (try simp only [World.size_alloc, World.size_drew] at b0 b1 b2 b3 zb hend); have HEND := Lib.hid hend; clear hend; go_simp; refine hK.out _ _ (fun e => by cases e) ?_; clear hK K
          refine M_done (by kernel_rfl) ?_ _
          clear hT0 b0 b1 b2 b3 zb
          go_wp2_with fail
          go_meet
          first | exact HEND.out | (have h := HEND.out; rw [set_new2] at h; exact h) | exact wend_drew HEND.out
        ·go_simp; have h5 := h4.allocD; have hT5 := TC.out _ h5.bl; refine hK.out _ _ (fun _ => hT5) ?_; clear hK K
         refine M_step 7 rfl (by kernel_rfl) (fun K hK => ?_)
         obtain ⟨vS, W6, hrun7, h6⟩ := h5.appS (c := d.sc) (DD2.out _ h5.bl).2 (by omega) 23; rw [Nat.zero_add, List.nil_append] at h6; obtain ⟨g7, cap7, rfl⟩ := own_some (h6.S _ _ _ rfl).1 (h6.S _ _ _ rfl).2; refine step_app_run rfl (.tmp 20) (.tmp 22) 23 rfl _ _ (by simp [Act.eval]; first | done | rfl) (by simp [Act.eval]; first | done | rfl) _ W6 hrun7 ?_; have hT6 := TC.out _ h6.bl; refine hK.out _ _ (fun _ => hT6) ?_; clear hK K
         refine M_step 10 rfl (by kernel_rfl) (fun K hK => ?_)
         obtain ⟨vT, W7, hrun10, h7⟩ := h6.appS (c := 1) (h6.X _ rfl).1 (by omega) 23; obtain ⟨cg, ccap, rfl⟩ := own_some (h7.S _ _ _ rfl).1 (h7.S _ _ _ rfl).2; refine step_app_run rfl (.tmp 23) (.tmp 25) 23 rfl _ _ (by simp [Act.eval]; first | done | rfl) (by simp [Act.eval]; first | done | rfl) _ W7 hrun10 ?_; have hT7 := TC.out _ h7.bl; refine hK.out _ _ (fun _ => hT7) ?_; clear hK K
         refine M_take (v := ?_) 11 rfl (by kernel_rfl) (by assumption) (fun _ _ _ h => h) (Or.inl ⟨by rfl, ?_⟩) ?_
         rotate_left
         ·(intro w hSw; (try dsimp only at hSw); go_simp; (try with_reducible rfl))
         (try simp only [Act.put, List.setIfInBounds_toArray, List.set_cons_zero, List.set_cons_succ])
         refine M_step 13 rfl (by kernel_rfl) (fun K hK => ?_)
         have hend := h7.fin rfl hdn1 (by omega) (by omega); obtain ⟨b0, b1, b2, b3⟩ := (h7.D _ rfl).1; have zb := (h7.D _ rfl).1.lt; (try simp only [World.size_alloc, World.size_drew] at b0 b1 b2 b3 zb hend); have HEND := Lib.hid hend; clear hend; go_simp; refine hK.out _ _ (fun e => by cases e) ?_; clear hK K
         refine M_done (by kernel_rfl) ?_ _
         clear hT0 b0 b1 b2 b3 zb
         go_wp2_with fail
         go_meet
         first | exact HEND.out | (have h := HEND.out; rw [set_new2] at h; exact h) | exact wend_drew HEND.out
       ·go_simp; have h4 := h3.allocD; have hT4 := TC.out _ h4.bl; refine hK.out _ _ (fun _ => hT4) ?_; clear hK K
        refine M_fork 7 9 rfl rfl (by kernel_rfl) (fun K hK => ?_) (fun K hK => ?_)
        ·obtain ⟨vS, W5, hrun7, h5⟩ := h4.appS (c := d.sc) (DD2.out _ h4.bl).2 (by omega) 23; rw [Nat.zero_add, List.nil_append] at h5; obtain ⟨g7, cap7, rfl⟩ := own_some (h5.S _ _ _ rfl).1 (h5.S _ _ _ rfl).2; refine step_app_run rfl (.tmp 20) (.tmp 22) 23 rfl _ _ (by simp [Act.eval]; first | done | rfl) (by simp [Act.eval]; first | done | rfl) _ W5 hrun7 ?_; have hT5 := TC.out _ h5.bl; refine hK.out _ _ (fun _ => hT5) ?_; clear hK K
         refine M_step 9 rfl (by kernel_rfl) (fun K hK => ?_)
         go_simp; have h6 := h5.allocX; have hT6 := TC.out _ h6.bl; refine hK.out _ _ (fun _ => hT6) ?_; clear hK K
         refine M_step 10 rfl (by kernel_rfl) (fun K hK => ?_)
         obtain ⟨vT, W7, hrun10, h7⟩ := h6.appS (c := 1) (h6.X _ rfl).1 (by omega) 23; obtain ⟨cg, ccap, rfl⟩ := own_some (h7.S _ _ _ rfl).1 (h7.S _ _ _ rfl).2; refine step_app_run rfl (.tmp 23) (.tmp 25) 23 rfl _ _ (by simp [Act.eval]; first | done | rfl) (by simp [Act.eval]; first | done | rfl) _ W7 hrun10 ?_; have hT7 := TC.out _ h7.bl; refine hK.out _ _ (fun _ => hT7) ?_; clear hK K
         refine M_take (v := ?_) 11 rfl (by kernel_rfl) (by assumption) (fun _ _ _ h => h) (Or.inl ⟨by rfl, ?_⟩) ?_
         rotate_left
         ·(intro w hSw; (try dsimp only at hSw); go_simp; (try with_reducible rfl))
         (try simp only [Act.put, List.setIfInBounds_toArray, List.set_cons_zero, List.set_cons_succ])
         refine M_step 13 rfl (by kernel_rfl) (fun K hK => ?_)
         have hend := h7.fin rfl hdn1 (by omega) (by omega); obtain ⟨b0, b1, b2, b3⟩ := (h7.D _ rfl).1; have zb := (h7.D _ rfl).1.lt; (try simp only [World.size_alloc, World.size_drew] at b0 b1 b2 b3 zb hend); have HEND := Lib.hid hend; clear hend; go_simp; refine hK.out _ _ (fun e => by cases e) ?_; clear hK K
         refine M_done (by kernel_rfl) ?_ _
         clear hT0 b0 b1 b2 b3 zb
         go_wp2_with fail
         go_meet
         first | exact HEND.out | (have h := HEND.out; rw [set_new2] at h; exact h) | exact wend_drew HEND.out
        ·go_simp; have h5 := h4.allocX; have hT5 := TC.out _ h5.bl; refine hK.out _ _ (fun _ => hT5) ?_; clear hK K
         refine M_step 7 rfl (by kernel_rfl) (fun K hK => ?_)
         obtain ⟨vS, W6, hrun7, h6⟩ := h5.appS (c := d.sc) (DD2.out _ h5.bl).2 (by omega) 23; rw [Nat.zero_add, List.nil_append] at h6; obtain ⟨g7, cap7, rfl⟩ := own_some (h6.S _ _ _ rfl).1 (h6.S _ _ _ rfl).2; refine step_app_run rfl (.tmp 20) (.tmp 22) 23 rfl _ _ (by simp [Act.eval]; first | done | rfl) (by simp [Act.eval]; first | done | rfl) _ W6 hrun7 ?_; have hT6 := TC.out _ h6.bl; refine hK.out _ _ (fun _ => hT6) ?_; clear hK K
         refine M_step 10 rfl (by kernel_rfl) (fun K hK => ?_)
         obtain ⟨vT, W7, hrun10, h7⟩ := h6.appS (c := 1) (h6.X _ rfl).1 (by omega) 23; obtain ⟨cg, ccap, rfl⟩ := own_some (h7.S _ _ _ rfl).1 (h7.S _ _ _ rfl).2; refine step_app_run rfl (.tmp 23) (.tmp 25) 23 rfl _ _ (by simp [Act.eval]; first | done | rfl) (by simp [Act.eval]; first | done | rfl) _ W7 hrun10 ?_; have hT7 := TC.out _ h7.bl; refine hK.out _ _ (fun _ => hT7) ?_; clear hK K
         refine M_take (v := ?_) 11 rfl (by kernel_rfl) (by assumption) (fun _ _ _ h => h) (Or.inl ⟨by rfl, ?_⟩) ?_
         rotate_left
         ·(intro w hSw; (try dsimp only at hSw); go_simp; (try with_reducible rfl))
         (try simp only [Act.put, List.setIfInBounds_toArray, List.set_cons_zero, List.set_cons_succ])
         refine M_step 13 rfl (by kernel_rfl) (fun K hK => ?_)
         have hend := h7.fin rfl hdn1 (by omega) (by omega); obtain ⟨b0, b1, b2, b3⟩ := (h7.D _ rfl).1; have zb := (h7.D _ rfl).1.lt; (try simp only [World.size_alloc, World.size_drew] at b0 b1 b2 b3 zb hend); have HEND := Lib.hid hend; clear hend; go_simp; refine hK.out _ _ (fun e => by cases e) ?_; clear hK K
         refine M_done (by kernel_rfl) ?_ _
         clear hT0 b0 b1 b2 b3 zb
         go_wp2_with fail
         go_meet
         first | exact HEND.out | (have h := HEND.out; rw [set_new2] at h; exact h) | exact wend_drew HEND.out
      ·go_simp; have h3 := h2.allocX; have hT3 := TC.out _ h3.bl; refine hK.out _ _ (fun _ => hT3) ?_; clear hK K
       refine M_fork 4 12 rfl rfl (by kernel_rfl) (fun K hK => ?_) (fun K hK => ?_)
       ·go_simp; have h4 := h3.allocS; have hT4 := TC.out _ h4.bl; refine hK.out _ _ (fun _ => hT4) ?_; clear hK K
        refine M_fork 7 12 rfl rfl (by kernel_rfl) (fun K hK => ?_) (fun K hK => ?_)
        ·obtain ⟨vS, W5, hrun7, h5⟩ := h4.appS (c := d.sc) (DD2.out _ h4.bl).2 (by omega) 23; rw [Nat.zero_add, List.nil_append] at h5; obtain ⟨g7, cap7, rfl⟩ := own_some (h5.S _ _ _ rfl).1 (h5.S _ _ _ rfl).2; refine step_app_run rfl (.tmp 20) (.tmp 22) 23 rfl _ _ (by simp [Act.eval]; first | done | rfl) (by simp [Act.eval]; first | done | rfl) _ W5 hrun7 ?_; have hT5 := TC.out _ h5.bl; refine hK.out _ _ (fun _ => hT5) ?_; clear hK K
         refine M_fork 10 12 rfl rfl (by kernel_rfl) (fun K hK => ?_) (fun K hK => ?_)
         ·obtain ⟨vT, W6, hrun10, h6⟩ := h5.appS (c := 1) (h5.X _ rfl).1 (by omega) 23; obtain ⟨cg, ccap, rfl⟩ := own_some (h6.S _ _ _ rfl).1 (h6.S _ _ _ rfl).2; refine step_app_run rfl (.tmp 23) (.tmp 25) 23 rfl _ _ (by simp [Act.eval]; first | done | rfl) (by simp [Act.eval]; first | done | rfl) _ W6 hrun10 ?_; have hT6 := TC.out _ h6.bl; refine hK.out _ _ (fun _ => hT6) ?_; clear hK K
          refine M_take (v := ?_) 11 rfl (by kernel_rfl) (by assumption) (fun _ _ _ h => h) (Or.inl ⟨by rfl, ?_⟩) ?_
          rotate_left
          ·(intro w hSw; (try dsimp only at hSw); go_simp; (try with_reducible rfl))
          (try simp only [Act.put, List.setIfInBounds_toArray, List.set_cons_zero, List.set_cons_succ])
          refine M_step 12 rfl (by kernel_rfl) (fun K hK => ?_)
          go_simp; have h7 := h6.allocD; have hT7 := TC.out _ h7.bl; refine hK.out _ _ (fun _ => hT7) ?_; clear hK K
          refine M_step 13 rfl (by kernel_rfl) (fun K hK => ?_)
          have hend := h7.fin rfl hdn1 (by omega) (by omega); obtain ⟨b0, b1, b2, b3⟩ := (h7.D _ rfl).1; have zb := (h7.D _ rfl).1.lt; (try simp only [World.size_alloc, World.size_drew] at b0 b1 b2 b3 zb hend); have HEND := Lib.hid hend; clear hend; go_simp; refine hK.out _ _ (fun e => by cases e) ?_; clear hK K
          refine M_done (by kernel_rfl) ?_ _
          clear hT0 b0 b1 b2 b3 zb
          go_wp2_with fail
          go_meet
          first | exact HEND.out | (have h := HEND.out; rw [set_new2] at h; exact h) | exact wend_drew HEND.out
         ·go_simp; have h6 := h5.allocD; have hT6 := TC.out _ h6.bl; refine hK.out _ _ (fun _ => hT6) ?_; clear hK K
          refine M_step 10 rfl (by kernel_rfl) (fun K hK => ?_)
          obtain ⟨vT, W7, hrun10, h7⟩ := h6.appS (c := 1) (h6.X _ rfl).1 (by omega) 23; obtain ⟨cg, ccap, rfl⟩ := own_some (h7.S _ _ _ rfl).1 (h7.S _ _ _ rfl).2; refine step_app_run rfl (.tmp 23) (.tmp 25) 23 rfl _ _ (by simp [Act.eval]; first | done | rfl) (by simp [Act.eval]; first | done | rfl) _ W7 hrun10 ?_; have hT7 := TC.out _ h7.bl; refine hK.out _ _ (fun _ => hT7) ?_; clear hK K
          refine M_take (v := ?_) 11 rfl (by kernel_rfl) (by assumption) (fun _ _ _ h => h) (Or.inl ⟨by rfl, ?_⟩) ?_
          rotate_left
          ·(intro w hSw; (try dsimp only at hSw); go_simp; (try with_reducible rfl))
          (try simp only [Act.put, List.setIfInBounds_toArray, List.set_cons_zero, List.set_cons_succ])
          refine M_step 13 rfl (by kernel_rfl) (fun K hK => ?_)
          have hend := h7.fin rfl hdn1 (by omega) (by omega); obtain ⟨b0, b1, b2, b3⟩ := (h7.D _ rfl).1; have zb := (h7.D _ rfl).1.lt; (try simp only [World.size_alloc, World.size_drew] at b0 b1 b2 b3 zb hend); have HEND := Lib.hid hend; clear hend; go_simp; refine hK.out _ _ (fun e => by cases e) ?_; clear hK K
          refine M_done (by kernel_rfl) ?_ _
          clear hT0 b0 b1 b2 b3 zb
          go_wp2_with fail
          go_meet
          first | exact HEND.out | (have h := HEND.out; rw [set_new2] at h; exact h) | exact wend_drew HEND.out
        ·go_simp; have h5 := h4.allocD; have hT5 := TC.out _ h5.bl; refine hK.out _ _ (fun _ => hT5) ?_; clear hK K
         refine M_step 7 rfl (by kernel_rfl) (fun K hK => ?_)
         obtain ⟨vS, W6, hrun7, h6⟩ := h5.appS (c := d.sc) (DD2.out _ h5.bl).2 (by omega) 23; rw [Nat.zero_add, List.nil_append] at h6; obtain ⟨g7, cap7, rfl⟩ := own_some (h6.S _ _ _ rfl).1 (h6.S _ _ _ rfl).2; refine step_app_run rfl (.tmp 20) (.tmp 22) 23 rfl _ _ (by simp [Act.eval]; first | done | rfl) (by simp [Act.eval]; first | done | rfl) _ W6 hrun7 ?_; have hT6 := TC.out _ h6.bl; refine hK.out _ _ (fun _ => hT6) ?_; clear hK K
         refine M_step 10 rfl (by kernel_rfl) (fun K hK => ?_)
         obtain ⟨vT, W7, hrun10, h7⟩ := h6.appS (c := 1) (h6.X _ rfl).1 (by omega) 23; obtain ⟨cg, ccap, rfl⟩ := own_some (h7.S _ _ _ rfl).1 (h7.S _ _ _ rfl).2; refine step_app_run rfl (.tmp 23) (.tmp 25) 23 rfl _ _ (by simp [Act.eval]; first | done | rfl) (by simp [Act.eval]; first | done | rfl) _ W7 hrun10 ?_; have hT7 := TC.out _ h7.bl; refine hK.out _ _ (fun _ => hT7) ?_; clear hK K
         refine M_take (v := ?_) 11 rfl (by kernel_rfl) (by assumption) (fun _ _ _ h => h) (Or.inl ⟨by rfl, ?_⟩) ?_
         rotate_left
         ·(intro w hSw; (try dsimp only at hSw); go_simp; (try with_reducible rfl))
         (try simp only [Act.put, List.setIfInBounds_toArray, List.set_cons_zero, List.set_cons_succ])
         refine M_step 13 rfl (by kernel_rfl) (fun K hK => ?_)
         have hend := h7.fin rfl hdn1 (by omega) (by omega); obtain ⟨b0, b1, b2, b3⟩ := (h7.D _ rfl).1; have zb := (h7.D _ rfl).1.lt; (try simp only [World.size_alloc, World.size_drew] at b0 b1 b2 b3 zb hend); have HEND := Lib.hid hend; clear hend; go_simp; refine hK.out _ _ (fun e => by cases e) ?_; clear hK K
         refine M_done (by kernel_rfl) ?_ _
         clear hT0 b0 b1 b2 b3 zb
         go_wp2_with fail
         go_meet
         first | exact HEND.out | (have h := HEND.out; rw [set_new2] at h; exact h) | exact wend_drew HEND.out
       ·go_simp; have h4 := h3.allocD; have hT4 := TC.out _ h4.bl; refine hK.out _ _ (fun _ => hT4) ?_; clear hK K
        refine M_step 4 rfl (by kernel_rfl) (fun K hK => ?_)
        go_simp; have h5 := h4.allocS; have hT5 := TC.out _ h5.bl; refine hK.out _ _ (fun _ => hT5) ?_; clear hK K
        refine M_step 7 rfl (by kernel_rfl) (fun K hK => ?_)
        obtain ⟨vS, W6, hrun7, h6⟩ := h5.appS (c := d.sc) (DD2.out _ h5.bl).2 (by omega) 23; rw [Nat.zero_add, List.nil_append] at h6; obtain ⟨g7, cap7, rfl⟩ := own_some (h6.S _ _ _ rfl).1 (h6.S _ _ _ rfl).2; refine step_app_run rfl (.tmp 20) (.tmp 22) 23 rfl _ _ (by simp [Act.eval]; first | done | rfl) (by simp [Act.eval]; first | done | rfl) _ W6 hrun7 ?_; have hT6 := TC.out _ h6.bl; refine hK.out _ _ (fun _ => hT6) ?_; clear hK K
        refine M_step 10 rfl (by kernel_rfl) (fun K hK => ?_)
        obtain ⟨vT, W7, hrun10, h7⟩ := h6.appS (c := 1) (h6.X _ rfl).1 (by omega) 23; obtain ⟨cg, ccap, rfl⟩ := own_some (h7.S _ _ _ rfl).1 (h7.S _ _ _ rfl).2; refine step_app_run rfl (.tmp 23) (.tmp 25) 23 rfl _ _ (by simp [Act.eval]; first | done | rfl) (by simp [Act.eval]; first | done | rfl) _ W7 hrun10 ?_; have hT7 := TC.out _ h7.bl; refine hK.out _ _ (fun _ => hT7) ?_; clear hK K
        refine M_take (v := ?_) 11 rfl (by kernel_rfl) (by assumption) (fun _ _ _ h => h) (Or.inl ⟨by rfl, ?_⟩) ?_
        rotate_left
        ·(intro w hSw; (try dsimp only at hSw); go_simp; (try with_reducible rfl))
        (try simp only [Act.put, List.setIfInBounds_toArray, List.set_cons_zero, List.set_cons_succ])
        refine M_step 13 rfl (by kernel_rfl) (fun K hK => ?_)
        have hend := h7.fin rfl hdn1 (by omega) (by omega); obtain ⟨b0, b1, b2, b3⟩ := (h7.D _ rfl).1; have zb := (h7.D _ rfl).1.lt; (try simp only [World.size_alloc, World.size_drew] at b0 b1 b2 b3 zb hend); have HEND := Lib.hid hend; clear hend; go_simp; refine hK.out _ _ (fun e => by cases e) ?_; clear hK K
        refine M_done (by kernel_rfl) ?_ _
        clear hT0 b0 b1 b2 b3 zb
        go_wp2_with fail
        go_meet
        first | exact HEND.out | (have h := HEND.out; rw [set_new2] at h; exact h) | exact wend_drew HEND.out
      ·go_simp; have h3 := h2.allocD; have hT3 := TC.out _ h3.bl; refine hK.out _ _ (fun _ => hT3) ?_; clear hK K
       refine M_fork 4 9 rfl rfl (by kernel_rfl) (fun K hK => ?_) (fun K hK => ?_)
       ·go_simp; have h4 := h3.allocS; have hT4 := TC.out _ h4.bl; refine hK.out _ _ (fun _ => hT4) ?_; clear hK K
        refine M_fork 7 9 rfl rfl (by kernel_rfl) (fun K hK => ?_) (fun K hK => ?_)
        ·obtain ⟨vS, W5, hrun7, h5⟩ := h4.appS (c := d.sc) (DD2.out _ h4.bl).2 (by omega) 23; rw [Nat.zero_add, List.nil_append] at h5; obtain ⟨g7, cap7, rfl⟩ := own_some (h5.S _ _ _ rfl).1 (h5.S _ _ _ rfl).2; refine step_app_run rfl (.tmp 20) (.tmp 22) 23 rfl _ _ (by simp [Act.eval]; first | done | rfl) (by simp [Act.eval]; first | done | rfl) _ W5 hrun7 ?_; have hT5 := TC.out _ h5.bl; refine hK.out _ _ (fun _ => hT5) ?_; clear hK K
         refine M_step 9 rfl (by kernel_rfl) (fun K hK => ?_)
         go_simp; have h6 := h5.allocX; have hT6 := TC.out _ h6.bl; refine hK.out _ _ (fun _ => hT6) ?_; clear hK K
         refine M_step 10 rfl (by kernel_rfl) (fun K hK => ?_)
         obtain ⟨vT, W7, hrun10, h7⟩ := h6.appS (c := 1) (h6.X _ rfl).1 (by omega) 23; obtain ⟨cg, ccap, rfl⟩ := own_some (h7.S _ _ _ rfl).1 (h7.S _ _ _ rfl).2; refine step_app_run rfl (.tmp 23) (.tmp 25) 23 rfl _ _ (by simp [Act.eval]; first | done | rfl) (by simp [Act.eval]; first | done | rfl) _ W7 hrun10 ?_; have hT7 := TC.out _ h7.bl; refine hK.out _ _ (fun _ => hT7) ?_; clear hK K
         refine M_take (v := ?_) 11 rfl (by kernel_rfl) (by assumption) (fun _ _ _ h => h) (Or.inl ⟨by rfl, ?_⟩) ?_
         rotate_left
         ·(intro w hSw; (try dsimp only at hSw); go_simp; (try with_reducible rfl))
         (try simp only [Act.put, List.setIfInBounds_toArray, List.set_cons_zero, List.set_cons_succ])
         refine M_step 13 rfl (by kernel_rfl) (fun K hK => ?_)
         have hend := h7.fin rfl hdn1 (by omega) (by omega); obtain ⟨b0, b1, b2, b3⟩ := (h7.D _ rfl).1; have zb := (h7.D _ rfl).1.lt; (try simp only [World.size_alloc, World.size_drew] at b0 b1 b2 b3 zb hend); have HEND := Lib.hid hend; clear hend; go_simp; refine hK.out _ _ (fun e => by cases e) ?_; clear hK K
         refine M_done (by kernel_rfl) ?_ _
         clear hT0 b0 b1 b2 b3 zb
         go_wp2_with fail
         go_meet
         first | exact HEND.out | (have h := HEND.out; rw [set_new2] at h; exact h) | exact wend_drew HEND.out
        ·go_simp; have h5 := h4.allocX; have hT5 := TC.out _ h5.bl; refine hK.out _ _ (fun _ => hT5) ?_; clear hK K
         refine M_step 7 rfl (by kernel_rfl) (fun K hK => ?_)
         obtain ⟨vS, W6, hrun7, h6⟩ := h5.appS (c := d.sc) (DD2.out _ h5.bl).2 (by omega) 23; rw [Nat.zero_add, List.nil_append] at h6; obtain ⟨g7, cap7, rfl⟩ := own_some (h6.S _ _ _ rfl).1 (h6.S _ _ _ rfl).2; refine step_app_run rfl (.tmp 20) (.tmp 22) 23 rfl _ _ (by simp [Act.eval]; first | done | rfl) (by simp [Act.eval]; first | done | rfl) _ W6 hrun7 ?_; have hT6 := TC.out _ h6.bl; refine hK.out _ _ (fun _ => hT6) ?_; clear hK K
         refine M_step 10 rfl (by kernel_rfl) (fun K hK => ?_)
         obtain ⟨vT, W7, hrun10, h7⟩ := h6.appS (c := 1) (h6.X _ rfl).1 (by omega) 23; obtain ⟨cg, ccap, rfl⟩ := own_some (h7.S _ _ _ rfl).1 (h7.S _ _ _ rfl).2; refine step_app_run rfl (.tmp 23) (.tmp 25) 23 rfl _ _ (by simp [Act.eval]; first | done | rfl) (by simp [Act.eval]; first | done | rfl) _ W7 hrun10 ?_; have hT7 := TC.out _ h7.bl; refine hK.out _ _ (fun _ => hT7) ?_; clear hK K
         refine M_take (v := ?_) 11 rfl (by kernel_rfl) (by assumption) (fun _ _ _ h => h) (Or.inl ⟨by rfl, ?_⟩) ?_
         rotate_left
         ·(intro w hSw; (try dsimp only at hSw); go_simp; (try with_reducible rfl))
         (try simp only [Act.put, List.setIfInBounds_toArray, List.set_cons_zero, List.set_cons_succ])
         refine M_step 13 rfl (by kernel_rfl) (fun K hK => ?_)
         have hend := h7.fin rfl hdn1 (by omega) (by omega); obtain ⟨b0, b1, b2, b3⟩ := (h7.D _ rfl).1; have zb := (h7.D _ rfl).1.lt; (try simp only [World.size_alloc, World.size_drew] at b0 b1 b2 b3 zb hend); have HEND := Lib.hid hend; clear hend; go_simp; refine hK.out _ _ (fun e => by cases e) ?_; clear hK K
         refine M_done (by kernel_rfl) ?_ _
         clear hT0 b0 b1 b2 b3 zb
         go_wp2_with fail
         go_meet
         first | exact HEND.out | (have h := HEND.out; rw [set_new2] at h; exact h) | exact wend_drew HEND.out
       ·go_simp; have h4 := h3.allocX; have hT4 := TC.out _ h4.bl; refine hK.out _ _ (fun _ => hT4) ?_; clear hK K
        refine M_step 4 rfl (by kernel_rfl) (fun K hK => ?_)
        go_simp; have h5 := h4.allocS; have hT5 := TC.out _ h5.bl; refine hK.out _ _ (fun _ => hT5) ?_; clear hK K
        refine M_step 7 rfl (by kernel_rfl) (fun K hK => ?_)
        obtain ⟨vS, W6, hrun7, h6⟩ := h5.appS (c := d.sc) (DD2.out _ h5.bl).2 (by omega) 23; rw [Nat.zero_add, List.nil_append] at h6; obtain ⟨g7, cap7, rfl⟩ := own_some (h6.S _ _ _ rfl).1 (h6.S _ _ _ rfl).2; refine step_app_run rfl (.tmp 20) (.tmp 22) 23 rfl _ _ (by simp [Act.eval]; first | done | rfl) (by simp [Act.eval]; first | done | rfl) _ W6 hrun7 ?_; have hT6 := TC.out _ h6.bl; refine hK.out _ _ (fun _ => hT6) ?_; clear hK K
        refine M_step 10 rfl (by kernel_rfl) (fun K hK => ?_)
        obtain ⟨vT, W7, hrun10, h7⟩ := h6.appS (c := 1) (h6.X _ rfl).1 (by omega) 23; obtain ⟨cg, ccap, rfl⟩ := own_some (h7.S _ _ _ rfl).1 (h7.S _ _ _ rfl).2; refine step_app_run rfl (.tmp 23) (.tmp 25) 23 rfl _ _ (by simp [Act.eval]; first | done | rfl) (by simp [Act.eval]; first | done | rfl) _ W7 hrun10 ?_; have hT7 := TC.out _ h7.bl; refine hK.out _ _ (fun _ => hT7) ?_; clear hK K
        refine M_take (v := ?_) 11 rfl (by kernel_rfl) (by assumption) (fun _ _ _ h => h) (Or.inl ⟨by rfl, ?_⟩) ?_
        rotate_left
        ·(intro w hSw; (try dsimp only at hSw); go_simp; (try with_reducible rfl))
        (try simp only [Act.put, List.setIfInBounds_toArray, List.set_cons_zero, List.set_cons_succ])
        refine M_step 13 rfl (by kernel_rfl) (fun K hK => ?_)
        have hend := h7.fin rfl hdn1 (by omega) (by omega); obtain ⟨b0, b1, b2, b3⟩ := (h7.D _ rfl).1; have zb := (h7.D _ rfl).1.lt; (try simp only [World.size_alloc, World.size_drew] at b0 b1 b2 b3 zb hend); have HEND := Lib.hid hend; clear hend; go_simp; refine hK.out _ _ (fun e => by cases e) ?_; clear hK K
        refine M_done (by kernel_rfl) ?_ _
        clear hT0 b0 b1 b2 b3 zb
        go_wp2_with fail
        go_meet
        first | exact HEND.out | (have h := HEND.out; rw [set_new2] at h; exact h) | exact wend_drew HEND.out
     ·go_simp; have h2 := h1.allocS; have hT2 := TC.out _ h2.bl; refine hK.out _ _ (fun _ => hT2) ?_; clear hK K
      refine M_fork3 3 9 12 rfl rfl rfl (by kernel_rfl) (fun K hK => ?_) (fun K hK => ?_) (fun K hK => ?_)
      ·obtain ⟨vR, W3, hrun, h3⟩ := h2.appR (c := d.rc) (DD2.out _ h2.bl).1 (by omega) 22; obtain ⟨g, cap, rfl⟩ := own_some (h3.R _ _ _ rfl).1 (h3.R _ _ _ rfl).2; refine step_app_run rfl (.tmp 16) (.tmp 18) 22 rfl _ _ (by simp [Act.eval]; first | done | rfl) (by simp [Act.eval]; first | done | rfl) _ W3 hrun ?_; have hT3 := TC.out _ h3.bl; refine hK.out _ _ (fun _ => hT3) ?_; clear hK K
       refine M_fork3 7 9 12 rfl rfl rfl (by kernel_rfl) (fun K hK => ?_) (fun K hK => ?_) (fun K hK => ?_)
       ·obtain ⟨vS, W4, hrun7, h4⟩ := h3.appS (c := d.sc) (DD2.out _ h3.bl).2 (by omega) 23; rw [Nat.zero_add, List.nil_append] at h4; obtain ⟨g7, cap7, rfl⟩ := own_some (h4.S _ _ _ rfl).1 (h4.S _ _ _ rfl).2; refine step_app_run rfl (.tmp 20) (.tmp 22) 23 rfl _ _ (by simp [Act.eval]; first | done | rfl) (by simp [Act.eval]; first | done | rfl) _ W4 hrun7 ?_; have hT4 := TC.out _ h4.bl; refine hK.out _ _ (fun _ => hT4) ?_; clear hK K
        refine M_fork 9 12 rfl rfl (by kernel_rfl) (fun K hK => ?_) (fun K hK => ?_)
        ·go_simp; have h5 := h4.allocX; have hT5 := TC.out _ h5.bl; refine hK.out _ _ (fun _ => hT5) ?_; clear hK K
         refine M_fork 10 12 rfl rfl (by kernel_rfl) (fun K hK => ?_) (fun K hK => ?_)
         ·obtain ⟨vT, W6, hrun10, h6⟩ := h5.appS (c := 1) (h5.X _ rfl).1 (by omega) 23; obtain ⟨cg, ccap, rfl⟩ := own_some (h6.S _ _ _ rfl).1 (h6.S _ _ _ rfl).2; refine step_app_run rfl (.tmp 23) (.tmp 25) 23 rfl _ _ (by simp [Act.eval]; first | done | rfl) (by simp [Act.eval]; first | done | rfl) _ W6 hrun10 ?_; have hT6 := TC.out _ h6.bl; refine hK.out _ _ (fun _ => hT6) ?_; clear hK K
          refine M_take (v := ?_) 11 rfl (by kernel_rfl) (by assumption) (fun _ _ _ h => h) (Or.inl ⟨by rfl, ?_⟩) ?_
          rotate_left
          ·(intro w hSw; (try dsimp only at hSw); go_simp; (try with_reducible rfl))
          (try simp only [Act.put, List.setIfInBounds_toArray, List.set_cons_zero, List.set_cons_succ])
          refine M_step 12 rfl (by kernel_rfl) (fun K hK => ?_)
          go_simp; have h7 := h6.allocD; have hT7 := TC.out _ h7.bl; refine hK.out _ _ (fun _ => hT7) ?_; clear hK K
          refine M_step 13 rfl (by kernel_rfl) (fun K hK => ?_)
          have hend := h7.fin rfl hdn1 (by omega) (by omega); obtain ⟨b0, b1, b2, b3⟩ := (h7.D _ rfl).1; have zb := (h7.D _ rfl).1.lt; (try simp only [World.size_alloc, World.size_drew] at b0 b1 b2 b3 zb hend); have HEND := Lib.hid hend; clear hend; go_simp; refine hK.out _ _ (fun e => by cases e) ?_; clear hK K
          refine M_done (by kernel_rfl) ?_ _
          clear hT0 b0 b1 b2 b3 zb
          go_wp2_with fail
          go_meet
          first | exact HEND.out | (have h := HEND.out; rw [set_new2] at h; exact h) | exact wend_drew HEND.out
         ·go_simp; have h6 := h5.allocD; have hT6 := TC.out _ h6.bl; refine hK.out _ _ (fun _ => hT6) ?_; clear hK K
          refine M_step 10 rfl (by kernel_rfl) (fun K hK => ?_)
          obtain ⟨vT, W7, hrun10, h7⟩ := h6.appS (c := 1) (h6.X _ rfl).1 (by omega) 23; obtain ⟨cg, ccap, rfl⟩ := own_some (h7.S _ _ _ rfl).1 (h7.S _ _ _ rfl).2; refine step_app_run rfl (.tmp 23) (.tmp 25) 23 rfl _ _ (by simp [Act.eval]; first | done | rfl) (by simp [Act.eval]; first | done | rfl) _ W7 hrun10 ?_; have hT7 := TC.out _ h7.bl; refine hK.out _ _ (fun _ => hT7) ?_; clear hK K
          refine M_take (v := ?_) 11 rfl (by kernel_rfl) (by assumption) (fun _ _ _ h => h) (Or.inl ⟨by rfl, ?_⟩) ?_
          rotate_left
          ·(intro w hSw; (try dsimp only at hSw); go_simp; (try with_reducible rfl))
          (try simp only [Act.put, List.setIfInBounds_toArray, List.set_cons_zero, List.set_cons_succ])
          refine M_step 13 rfl (by kernel_rfl) (fun K hK => ?_)
          have hend := h7.fin rfl hdn1 (by omega) (by omega); obtain ⟨b0, b1, b2, b3⟩ := (h7.D _ rfl).1; have zb := (h7.D _ rfl).1.lt; (try simp only [World.size_alloc, World.size_drew] at b0 b1 b2 b3 zb hend); have HEND := Lib.hid hend; clear hend; go_simp; refine hK.out _ _ (fun e => by cases e) ?_; clear hK K
          refine M_done (by kernel_rfl) ?_ _
          clear hT0 b0 b1 b2 b3 zb
          go_wp2_with fail
          go_meet
          first | exact HEND.out | (have h := HEND.out; rw [set_new2] at h; exact h) | exact wend_drew HEND.out
        ·go_simp; have h5 := h4.allocD; have hT5 := TC.out _ h5.bl; refine hK.out _ _ (fun _ => hT5) ?_; clear hK K
         refine M_step 9 rfl (by kernel_rfl) (fun K hK => ?_)
         go_simp; have h6 := h5.allocX; have hT6 := TC.out _ h6.bl; refine hK.out _ _ (fun _ => hT6) ?_; clear hK K
         refine M_step 10 rfl (by kernel_rfl) (fun K hK => ?_)
         obtain ⟨vT, W7, hrun10, h7⟩ := h6.appS (c := 1) (h6.X _ rfl).1 (by omega) 23; obtain ⟨cg, ccap, rfl⟩ := own_some (h7.S _ _ _ rfl).1 (h7.S _ _ _ rfl).2; refine step_app_run rfl (.tmp 23) (.tmp 25) 23 rfl _ _ (by simp [Act.eval]; first | done | rfl) (by simp [Act.eval]; first | done | rfl) _ W7 hrun10 ?_; have hT7 := TC.out _ h7.bl; refine hK.out _ _ (fun _ => hT7) ?_; clear hK K
         refine M_take (v := ?_) 11 rfl (by kernel_rfl) (by assumption) (fun _ _ _ h => h) (Or.inl ⟨by rfl, ?_⟩) ?_
         rotate_left
         ·(intro w hSw; (try dsimp only at hSw); go_simp; (try with_reducible rfl))
         (try simp only [Act.put, List.setIfInBounds_toArray, List.set_cons_zero, List.set_cons_succ])
         refine M_step 13 rfl (by kernel_rfl) (fun K hK => ?_)
         have hend := h7.fin rfl hdn1 (by omega) (by omega); obtain ⟨b0, b1, b2, b3⟩ := (h7.D _ rfl).1; have zb := (h7.D _ rfl).1.lt; (try simp only [World.size_alloc, World.size_drew] at b0 b1 b2 b3 zb hend); have HEND := Lib.hid hend; clear hend; go_simp; refine hK.out _ _ (fun e => by cases e) ?_; clear hK K
         refine M_done (by kernel_rfl) ?_ _
         clear hT0 b0 b1 b2 b3 zb
         go_wp2_with fail
         go_meet
         first | exact HEND.out | (have h := HEND.out; rw [set_new2] at h; exact h) | exact wend_drew HEND.out
       ·go_simp; have h4 := h3.allocX; have hT4 := TC.out _ h4.bl; refine hK.out _ _ (fun _ => hT4) ?_; clear hK K
        refine M_fork 7 12 rfl rfl (by kernel_rfl) (fun K hK => ?_) (fun K hK => ?_)
        ·obtain ⟨vS, W5, hrun7, h5⟩ := h4.appS (c := d.sc) (DD2.out _ h4.bl).2 (by omega) 23; rw [Nat.zero_add, List.nil_append] at h5; obtain ⟨g7, cap7, rfl⟩ := own_some (h5.S _ _ _ rfl).1 (h5.S _ _ _ rfl).2; refine step_app_run rfl (.tmp 20) (.tmp 22) 23 rfl _ _ (by simp [Act.eval]; first | done | rfl) (by simp [Act.eval]; first | done | rfl) _ W5 hrun7 ?_; have hT5 := TC.out _ h5.bl; refine hK.out _ _ (fun _ => hT5) ?_; clear hK K
         refine M_fork 10 12 rfl rfl (by kernel_rfl) (fun K hK => ?_) (fun K hK => ?_)
         ·obtain ⟨vT, W6, hrun10, h6⟩ := h5.appS (c := 1) (h5.X _ rfl).1 (by omega) 23; obtain ⟨cg, ccap, rfl⟩ := own_some (h6.S _ _ _ rfl).1 (h6.S _ _ _ rfl).2; refine step_app_run rfl (.tmp 23) (.tmp 25) 23 rfl _ _ (by simp [Act.eval]; first | done | rfl) (by simp [Act.eval]; first | done | rfl) _ W6 hrun10 ?_; have hT6 := TC.out _ h6.bl; refine hK.out _ _ (fun _ => hT6) ?_; clear hK K
          refine M_take (v := ?_) 11 rfl (by kernel_rfl) (by assumption) (fun _ _ _ h => h) (Or.inl ⟨by rfl, ?_⟩) ?_
          rotate_left
          ·(intro w hSw; (try dsimp only at hSw); go_simp; (try with_reducible rfl))
          (try simp only [Act.put, List.setIfInBounds_toArray, List.set_cons_zero, List.set_cons_succ])
          refine M_step 12 rfl (by kernel_rfl) (fun K hK => ?_)
          go_simp; have h7 := h6.allocD; have hT7 := TC.out _ h7.bl; refine hK.out _ _ (fun _ => hT7) ?_; clear hK K
          refine M_step 13 rfl (by kernel_rfl) (fun K hK => ?_)
          have hend := h7.fin rfl hdn1 (by omega) (by omega); obtain ⟨b0, b1, b2, b3⟩ := (h7.D _ rfl).1; have zb := (h7.D _ rfl).1.lt; (try simp only [World.size_alloc, World.size_drew] at b0 b1 b2 b3 zb hend); have HEND := Lib.hid hend; clear hend; go_simp; refine hK.out _ _ (fun e => by cases e) ?_; clear hK K
          refine M_done (by kernel_rfl) ?_ _
          clear hT0 b0 b1 b2 b3 zb
          go_wp2_with fail
          go_meet
          first | exact HEND.out | (have h := HEND.out; rw [set_new2] at h; exact h) | exact wend_drew HEND.out
         ·go_simp; have h6 := h5.allocD; have hT6 := TC.out _ h6.bl; refine hK.out _ _ (fun _ => hT6) ?_; clear hK K
          refine M_step 10 rfl (by kernel_rfl) (fun K hK => ?_)
          obtain ⟨vT, W7, hrun10, h7⟩ := h6.appS (c := 1) (h6.X _ rfl).1 (by omega) 23; obtain ⟨cg, ccap, rfl⟩ := own_some (h7.S _ _ _ rfl).1 (h7.S _ _ _ rfl).2; refine step_app_run rfl (.tmp 23) (.tmp 25) 23 rfl _ _ (by simp [Act.eval]; first | done | rfl) (by simp [Act.eval]; first | done | rfl) _ W7 hrun10 ?_; have hT7 := TC.out _ h7.bl; refine hK.out _ _ (fun _ => hT7) ?_; clear hK K
          refine M_take (v := ?_) 11 rfl (by kernel_rfl) (by assumption) (fun _ _ _ h => h) (Or.inl ⟨by rfl, ?_⟩) ?_
          rotate_left
          ·(intro w hSw; (try dsimp only at hSw); go_simp; (try with_reducible rfl))
          (try simp only [Act.put, List.setIfInBounds_toArray, List.set_cons_zero, List.set_cons_succ])
          refine M_step 13 rfl (by kernel_rfl) (fun K hK => ?_)
          have hend := h7.fin rfl hdn1 (by omega) (by omega); obtain ⟨b0, b1, b2, b3⟩ := (h7.D _ rfl).1; have zb := (h7.D _ rfl).1.lt; (try simp only [World.size_alloc, World.size_drew] at b0 b1 b2 b3 zb hend); have HEND := Lib.hid hend; clear hend; go_simp; refine hK.out _ _ (fun e => by cases e) ?_; clear hK K
          refine M_done (by kernel_rfl) ?_ _
          clear hT0 b0 b1 b2 b3 zb
          go_wp2_with fail
          go_meet
          first | exact HEND.out | (have h := HEND.out; rw [set_new2] at h; exact h) | exact wend_drew HEND.out
        ·go_simp; have h5 := h4.allocD; have hT5 := TC.out _ h5.bl; refine hK.out _ _ (fun _ => hT5) ?_; clear hK K
         refine M_step 7 rfl (by kernel_rfl) (fun K hK => ?_)
         obtain ⟨vS, W6, hrun7, h6⟩ := h5.appS (c := d.sc) (DD2.out _ h5.bl).2 (by omega) 23; rw [Nat.zero_add, List.nil_append] at h6; obtain ⟨g7, cap7, rfl⟩ := own_some (h6.S _ _ _ rfl).1 (h6.S _ _ _ rfl).2; refine step_app_run rfl (.tmp 20) (.tmp 22) 23 rfl _ _ (by simp [Act.eval]; first | done | rfl) (by simp [Act.eval]; first | done | rfl) _ W6 hrun7 ?_; have hT6 := TC.out _ h6.bl; refine hK.out _ _ (fun _ => hT6) ?_; clear hK K
         refine M_step 10 rfl (by kernel_rfl) (fun K hK => ?_)
         obtain ⟨vT, W7, hrun10, h7⟩ := h6.appS (c := 1) (h6.X _ rfl).1 (by omega) 23; obtain ⟨cg, ccap, rfl⟩ := own_some (h7.S _ _ _ rfl).1 (h7.S _ _ _ rfl).2; refine step_app_run rfl (.tmp 23) (.tmp 25) 23 rfl _ _ (by simp [Act.eval]; first | done | rfl) (by simp [Act.eval]; first | done | rfl) _ W7 hrun10 ?_; have hT7 := TC.out _ h7.bl; refine hK.out _ _ (fun _ => hT7) ?_; clear hK K
         refine M_take (v := ?_) 11 rfl (by kernel_rfl) (by assumption) (fun _ _ _ h => h) (Or.inl ⟨by rfl, ?_⟩) ?_
         rotate_left
         ·(intro w hSw; (try dsimp only at hSw); go_simp; (try with_reducible rfl))
         (try simp only [Act.put, List.setIfInBounds_toArray, List.set_cons_zero, List.set_cons_succ])
         refine M_step 13 rfl (by kernel_rfl) (fun K hK => ?_)
         have hend := h7.fin rfl hdn1 (by omega) (by omega); obtain ⟨b0, b1, b2, b3⟩ := (h7.D _ rfl).1; have zb := (h7.D _ rfl).1.lt; (try simp only [World.size_alloc, World.size_drew] at b0 b1 b2 b3 zb hend); have HEND := Lib.hid hend; clear hend; go_simp; refine hK.out _ _ (fun e => by cases e) ?_; clear hK K
         refine M_done (by kernel_rfl) ?_ _
         clear hT0 b0 b1 b2 b3 zb
         go_wp2_with fail
         go_meet
         first | exact HEND.out | (have h := HEND.out; rw [set_new2] at h; exact h) | exact wend_drew HEND.out
       ·go_simp; have h4 := h3.allocD; have hT4 := TC.out _ h4.bl; refine hK.out _ _ (fun _ => hT4) ?_; clear hK K
        refine M_fork 7 9 rfl rfl (by kernel_rfl) (fun K hK => ?_) (fun K hK => ?_)
        ·obtain ⟨vS, W5, hrun7, h5⟩ := h4.appS (c := d.sc) (DD2.out _ h4.bl).2 (by omega) 23; rw [Nat.zero_add, List.nil_append] at h5; obtain ⟨g7, cap7, rfl⟩ := own_some (h5.S _ _ _ rfl).1 (h5.S _ _ _ rfl).2; refine step_app_run rfl (.tmp 20) (.tmp 22) 23 rfl _ _ (by simp [Act.eval]; first | done | rfl) (by simp [Act.eval]; first | done | rfl) _ W5 hrun7 ?_; have hT5 := TC.out _ h5.bl; refine hK.out _ _ (fun _ => hT5) ?_; clear hK K
         refine M_step 9 rfl (by kernel_rfl) (fun K hK => ?_)
         go_simp; have h6 := h5.allocX; have hT6 := TC.out _ h6.bl; refine hK.out _ _ (fun _ => hT6) ?_; clear hK K
         refine M_step 10 rfl (by kernel_rfl) (fun K hK => ?_)
         obtain ⟨vT, W7, hrun10, h7⟩ := h6.appS (c := 1) (h6.X _ rfl).1 (by omega) 23; obtain ⟨cg, ccap, rfl⟩ := own_some (h7.S _ _ _ rfl).1 (h7.S _ _ _ rfl).2; refine step_app_run rfl (.tmp 23) (.tmp 25) 23 rfl _ _ (by simp [Act.eval]; first | done | rfl) (by simp [Act.eval]; first | done | rfl) _ W7 hrun10 ?_; have hT7 := TC.out _ h7.bl; refine hK.out _ _ (fun _ => hT7) ?_; clear hK K
         refine M_take (v := ?_) 11 rfl (by kernel_rfl) (by assumption) (fun _ _ _ h => h) (Or.inl ⟨by rfl, ?_⟩) ?_
         rotate_left
         ·(intro w hSw; (try dsimp only at hSw); go_simp; (try with_reducible rfl))
         (try simp only [Act.put, List.setIfInBounds_toArray, List.set_cons_zero, List.set_cons_succ])
         refine M_step 13 rfl (by kernel_rfl) (fun K hK => ?_)
         have hend := h7.fin rfl hdn1 (by omega) (by omega); obtain ⟨b0, b1, b2, b3⟩ := (h7.D _ rfl).1; have zb := (h7.D _ rfl).1.lt; (try simp only [World.size_alloc, World.size_drew] at b0 b1 b2 b3 zb hend); have HEND := Lib.hid hend; clear hend; go_simp; refine hK.out _ _ (fun e => by cases e) ?_; clear hK K
         refine M_done (by kernel_rfl) ?_ _
         clear hT0 b0 b1 b2 b3 zb
         go_wp2_with fail
         go_meet
         first | exact HEND.out | (have h := HEND.out; rw [set_new2] at h; exact h) | exact wend_drew HEND.out
        ·go_simp; have h5 := h4.allocX; have hT5 := TC.out _ h5.bl; refine hK.out _ _ (fun _ => hT5) ?_; clear hK K
         refine M_step 7 rfl (by kernel_rfl) (fun K hK => ?_)
         obtain ⟨vS, W6, hrun7, h6⟩ := h5.appS (c := d.sc) (DD2.out _ h5.bl).2 (by omega) 23; rw [Nat.zero_add, List.nil_append] at h6; obtain ⟨g7, cap7, rfl⟩ := own_some (h6.S _ _ _ rfl).1 (h6.S _ _ _ rfl).2; refine step_app_run rfl (.tmp 20) (.tmp 22) 23 rfl _ _ (by simp [Act.eval]; first | done | rfl) (by simp [Act.eval]; first | done | rfl) _ W6 hrun7 ?_; have hT6 := TC.out _ h6.bl; refine hK.out _ _ (fun _ => hT6) ?_; clear hK K
         refine M_step 10 rfl (by kernel_rfl) (fun K hK => ?_)
         obtain ⟨vT, W7, hrun10, h7⟩ := h6.appS (c := 1) (h6.X _ rfl).1 (by omega) 23; obtain ⟨cg, ccap, rfl⟩ := own_some (h7.S _ _ _ rfl).1 (h7.S _ _ _ rfl).2; refine step_app_run rfl (.tmp 23) (.tmp 25) 23 rfl _ _ (by simp [Act.eval]; first | done | rfl) (by simp [Act.eval]; first | done | rfl) _ W7 hrun10 ?_; have hT7 := TC.out _ h7.bl; refine hK.out _ _ (fun _ => hT7) ?_; clear hK K
         refine M_take (v := ?_) 11 rfl (by kernel_rfl) (by assumption) (fun _ _ _ h => h) (Or.inl ⟨by rfl, ?_⟩) ?_
         rotate_left
         ·(intro w hSw; (try dsimp only at hSw); go_simp; (try with_reducible rfl))
         (try simp only [Act.put, List.setIfInBounds_toArray, List.set_cons_zero, List.set_cons_succ])
         refine M_step 13 rfl (by kernel_rfl) (fun K hK => ?_)
         have hend := h7.fin rfl hdn1 (by omega) (by omega); obtain ⟨b0, b1, b2, b3⟩ := (h7.D _ rfl).1; have zb := (h7.D _ rfl).1.lt; (try simp only [World.size_alloc, World.size_drew] at b0 b1 b2 b3 zb hend); have HEND := Lib.hid hend; clear hend; go_simp; refine hK.out _ _ (fun e => by cases e) ?_; clear hK K
         refine M_done (by kernel_rfl) ?_ _
         clear hT0 b0 b1 b2 b3 zb
         go_wp2_with fail
         go_meet
         first | exact HEND.out | (have h := HEND.out; rw [set_new2] at h; exact h) | exact wend_drew HEND.out
      ·go_simp; have h3 := h2.allocX; have hT3 := TC.out _ h3.bl; refine hK.out _ _ (fun _ => hT3) ?_; clear hK K
       refine M_fork 3 12 rfl rfl (by kernel_rfl) (fun K hK => ?_) (fun K hK => ?_)
       ·obtain ⟨vR, W4, hrun, h4⟩ := h3.appR (c := d.rc) (DD2.out _ h3.bl).1 (by omega) 22; obtain ⟨g, cap, rfl⟩ := own_some (h4.R _ _ _ rfl).1 (h4.R _ _ _ rfl).2; refine step_app_run rfl (.tmp 16) (.tmp 18) 22 rfl _ _ (by simp [Act.eval]; first | done | rfl) (by simp [Act.eval]; first | done | rfl) _ W4 hrun ?_; have hT4 := TC.out _ h4.bl; refine hK.out _ _ (fun _ => hT4) ?_; clear hK K
        refine M_fork 7 12 rfl rfl (by kernel_rfl) (fun K hK => ?_) (fun K hK => ?_)
        ·obtain ⟨vS, W5, hrun7, h5⟩ := h4.appS (c := d.sc) (DD2.out _ h4.bl).2 (by omega) 23; rw [Nat.zero_add, List.nil_append] at h5; obtain ⟨g7, cap7, rfl⟩ := own_some (h5.S _ _ _ rfl).1 (h5.S _ _ _ rfl).2; refine step_app_run rfl (.tmp 20) (.tmp 22) 23 rfl _ _ (by simp [Act.eval]; first | done | rfl) (by simp [Act.eval]; first | done | rfl) _ W5 hrun7 ?_; have hT5 := TC.out _ h5.bl; refine hK.out _ _ (fun _ => hT5) ?_; clear hK K
         refine M_fork 10 12 rfl rfl (by kernel_rfl) (fun K hK => ?_) (fun K hK => ?_)
         ·obtain ⟨vT, W6, hrun10, h6⟩ := h5.appS (c := 1) (h5.X _ rfl).1 (by omega) 23; obtain ⟨cg, ccap, rfl⟩ := own_some (h6.S _ _ _ rfl).1 (h6.S _ _ _ rfl).2; refine step_app_run rfl (.tmp 23) (.tmp 25) 23 rfl _ _ (by simp [Act.eval]; first | done | rfl) (by simp [Act.eval]; first | done | rfl) _ W6 hrun10 ?_; have hT6 := TC.out _ h6.bl; refine hK.out _ _ (fun _ => hT6) ?_; clear hK K
          refine M_take (v := ?_) 11 rfl (by kernel_rfl) (by assumption) (fun _ _ _ h => h) (Or.inl ⟨by rfl, ?_⟩) ?_
          rotate_left
          ·(intro w hSw; (try dsimp only at hSw); go_simp; (try with_reducible rfl))
          (try simp only [Act.put, List.setIfInBounds_toArray, List.set_cons_zero, List.set_cons_succ])
          refine M_step 12 rfl (by kernel_rfl) (fun K hK => ?_)
          go_simp; have h7 := h6.allocD; have hT7 := TC.out _ h7.bl; refine hK.out _ _ (fun _ => hT7) ?_; clear hK K
          refine M_step 13 rfl (by kernel_rfl) (fun K hK => ?_)
          have hend := h7.fin rfl hdn1 (by omega) (by omega); obtain ⟨b0, b1, b2, b3⟩ := (h7.D _ rfl).1; have zb := (h7.D _ rfl).1.lt; (try simp only [World.size_alloc, World.size_drew] at b0 b1 b2 b3 zb hend); have HEND := Lib.hid hend; clear hend; go_simp; refine hK.out _ _ (fun e => by cases e) ?_; clear hK K
          refine M_done (by kernel_rfl) ?_ _
          clear hT0 b0 b1 b2 b3 zb
          go_wp2_with fail
          go_meet
          first | exact HEND.out | (have h := HEND.out; rw [set_new2] at h; exact h) | exact wend_drew HEND.out
         ·go_simp; have h6 := h5.allocD; have hT6 := TC.out _ h6.bl; refine hK.out _ _ (fun _ => hT6) ?_; clear hK K
          refine M_step 10 rfl (by kernel_rfl) (fun K hK => ?_)
          obtain ⟨vT, W7, hrun10, h7⟩ := h6.appS (c := 1) (h6.X _ rfl).1 (by omega) 23; obtain ⟨cg, ccap, rfl⟩ := own_some (h7.S _ _ _ rfl).1 (h7.S _ _ _ rfl).2; refine step_app_run rfl (.tmp 23) (.tmp 25) 23 rfl _ _ (by simp [Act.eval]; first | done | rfl) (by simp [Act.eval]; first | done | rfl) _ W7 hrun10 ?_; have hT7 := TC.out _ h7.bl; refine hK.out _ _ (fun _ => hT7) ?_; clear hK K
          refine M_take (v := ?_) 11 rfl (by kernel_rfl) (by assumption) (fun _ _ _ h => h) (Or.inl ⟨by rfl, ?_⟩) ?_
          rotate_left
          ·(intro w hSw; (try dsimp only at hSw); go_simp; (try with_reducible rfl))
          (try simp only [Act.put, List.setIfInBounds_toArray, List.set_cons_zero, List.set_cons_succ])
          refine M_step 13 rfl (by kernel_rfl) (fun K hK => ?_)
          have hend := h7.fin rfl hdn1 (by omega) (by omega); obtain ⟨b0, b1, b2, b3⟩ := (h7.D _ rfl).1; have zb := (h7.D _ rfl).1.lt; (try simp only [World.size_alloc, World.size_drew] at b0 b1 b2 b3 zb hend); have HEND := Lib.hid hend; clear hend; go_simp; refine hK.out _ _ (fun e => by cases e) ?_; clear hK K
          refine M_done (by kernel_rfl) ?_ _
          clear hT0 b0 b1 b2 b3 zb
          go_wp2_with fail
          go_meet
          first | exact HEND.out | (have h := HEND.out; rw [set_new2] at h; exact h) | exact wend_drew HEND.out
        ·go_simp; have h5 := h4.allocD; have hT5 := TC.out _ h5.bl; refine hK.out _ _ (fun _ => hT5) ?_; clear hK K
         refine M_step 7 rfl (by kernel_rfl) (fun K hK => ?_)
         obtain ⟨vS, W6, hrun7, h6⟩ := h5.appS (c := d.sc) (DD2.out _ h5.bl).2 (by omega) 23; rw [Nat.zero_add, List.nil_append] at h6; obtain ⟨g7, cap7, rfl⟩ := own_some (h6.S _ _ _ rfl).1 (h6.S _ _ _ rfl).2; refine step_app_run rfl (.tmp 20) (.tmp 22) 23 rfl _ _ (by simp [Act.eval]; first | done | rfl) (by simp [Act.eval]; first | done | rfl) _ W6 hrun7 ?_; have hT6 := TC.out _ h6.bl; refine hK.out _ _ (fun _ => hT6) ?_; clear hK K
         refine M_step 10 rfl (by kernel_rfl) (fun K hK => ?_)
         obtain ⟨vT, W7, hrun10, h7⟩ := h6.appS (c := 1) (h6.X _ rfl).1 (by omega) 23; obtain ⟨cg, ccap, rfl⟩ := own_some (h7.S _ _ _ rfl).1 (h7.S _ _ _ rfl).2; refine step_app_run rfl (.tmp 23) (.tmp 25) 23 rfl _ _ (by simp [Act.eval]; first | done | rfl) (by simp [Act.eval]; first | done | rfl) _ W7 hrun10 ?_; have hT7 := TC.out _ h7.bl; refine hK.out _ _ (fun _ => hT7) ?_; clear hK K
         refine M_take (v := ?_) 11 rfl (by kernel_rfl) (by assumption) (fun _ _ _ h => h) (Or.inl ⟨by rfl, ?_⟩) ?_
         rotate_left
         ·(intro w hSw; (try dsimp only at hSw); go_simp; (try with_reducible rfl))
         (try simp only [Act.put, List.setIfInBounds_toArray, List.set_cons_zero, List.set_cons_succ])
         refine M_step 13 rfl (by kernel_rfl) (fun K hK => ?_)
         have hend := h7.fin rfl hdn1 (by omega) (by omega); obtain ⟨b0, b1, b2, b3⟩ := (h7.D _ rfl).1; have zb := (h7.D _ rfl).1.lt; (try simp only [World.size_alloc, World.size_drew] at b0 b1 b2 b3 zb hend); have HEND := Lib.hid hend; clear hend; go_simp; refine hK.out _ _ (fun e => by cases e) ?_; clear hK K
         refine M_done (by kernel_rfl) ?_ _
         clear hT0 b0 b1 b2 b3 zb
         go_wp2_with fail
         go_meet
         first | exact HEND.out | (have h := HEND.out; rw [set_new2] at h; exact h) | exact wend_drew HEND.out
       ·go_simp; have h4 := h3.allocD; have hT4 := TC.out _ h4.bl; refine hK.out _ _ (fun _ => hT4) ?_; clear hK K
        refine M_step 3 rfl (by kernel_rfl) (fun K hK => ?_)
        obtain ⟨vR, W5, hrun, h5⟩ := h4.appR (c := d.rc) (DD2.out _ h4.bl).1 (by omega) 22; obtain ⟨g, cap, rfl⟩ := own_some (h5.R _ _ _ rfl).1 (h5.R _ _ _ rfl).2; refine step_app_run rfl (.tmp 16) (.tmp 18) 22 rfl _ _ (by simp [Act.eval]; first | done | rfl) (by simp [Act.eval]; first | done | rfl) _ W5 hrun ?_; have hT5 := TC.out _ h5.bl; refine hK.out _ _ (fun _ => hT5) ?_; clear hK K
        refine M_step 7 rfl (by kernel_rfl) (fun K hK => ?_)
        obtain ⟨vS, W6, hrun7, h6⟩ := h5.appS (c := d.sc) (DD2.out _ h5.bl).2 (by omega) 23; rw [Nat.zero_add, List.nil_append] at h6; obtain ⟨g7, cap7, rfl⟩ := own_some (h6.S _ _ _ rfl).1 (h6.S _ _ _ rfl).2; refine step_app_run rfl (.tmp 20) (.tmp 22) 23 rfl _ _ (by simp [Act.eval]; first | done | rfl) (by simp [Act.eval]; first | done | rfl) _ W6 hrun7 ?_; have hT6 := TC.out _ h6.bl; refine hK.out _ _ (fun _ => hT6) ?_; clear hK K
        refine M_step 10 rfl (by kernel_rfl) (fun K hK => ?_)
        obtain ⟨vT, W7, hrun10, h7⟩ := h6.appS (c := 1) (h6.X _ rfl).1 (by omega) 23; obtain ⟨cg, ccap, rfl⟩ := own_some (h7.S _ _ _ rfl).1 (h7.S _ _ _ rfl).2; refine step_app_run rfl (.tmp 23) (.tmp 25) 23 rfl _ _ (by simp [Act.eval]; first | done | rfl) (by simp [Act.eval]; first | done | rfl) _ W7 hrun10 ?_; have hT7 := TC.out _ h7.bl; refine hK.out _ _ (fun _ => hT7) ?_; clear hK K
        refine M_take (v := ?_) 11 rfl (by kernel_rfl) (by assumption) (fun _ _ _ h => h) (Or.inl ⟨by rfl, ?_⟩) ?_
        rotate_left
        ·(intro w hSw; (try dsimp only at hSw); go_simp; (try with_reducible rfl))
        (try simp only [Act.put, List.setIfInBounds_toArray, List.set_cons_zero, List.set_cons_succ])
        refine M_step 13 rfl (by kernel_rfl) (fun K hK => ?_)
        have hend := h7.fin rfl hdn1 (by omega) (by omega); obtain ⟨b0, b1, b2, b3⟩ := (h7.D _ rfl).1; have zb := (h7.D _ rfl).1.lt; (try simp only [World.size_alloc, World.size_drew] at b0 b1 b2 b3 zb hend); have HEND := Lib.hid hend; clear hend; go_simp; refine hK.out _ _ (fun e => by cases e) ?_; clear hK K
        refine M_done (by kernel_rfl) ?_ _
        clear hT0 b0 b1 b2 b3 zb
        go_wp2_with fail
        go_meet
        first | exact HEND.out | (have h := HEND.out; rw [set_new2] at h; exact h) | exact wend_drew HEND.out
      ·go_simp; have h3 := h2.allocD; have hT3 := TC.out _ h3.bl; refine hK.out _ _ (fun _ => hT3) ?_; clear hK K
       refine M_fork 3 9 rfl rfl (by kernel_rfl) (fun K hK => ?_) (fun K hK => ?_)
       ·obtain ⟨vR, W4, hrun, h4⟩ := h3.appR (c := d.rc) (DD2.out _ h3.bl).1 (by omega) 22; obtain ⟨g, cap, rfl⟩ := own_some (h4.R _ _ _ rfl).1 (h4.R _ _ _ rfl).2; refine step_app_run rfl (.tmp 16) (.tmp 18) 22 rfl _ _ (by simp [Act.eval]; first | done | rfl) (by simp [Act.eval]; first | done | rfl) _ W4 hrun ?_; have hT4 := TC.out _ h4.bl; refine hK.out _ _ (fun _ => hT4) ?_; clear hK K
        refine M_fork 7 9 rfl rfl (by kernel_rfl) (fun K hK => ?_) (fun K hK => ?_)
        ·obtain ⟨vS, W5, hrun7, h5⟩ := h4.appS (c := d.sc) (DD2.out _ h4.bl).2 (by omega) 23; rw [Nat.zero_add, List.nil_append] at h5; obtain ⟨g7, cap7, rfl⟩ := own_some (h5.S _ _ _ rfl).1 (h5.S _ _ _ rfl).2; refine step_app_run rfl (.tmp 20) (.tmp 22) 23 rfl _ _ (by simp [Act.eval]; first | done | rfl) (by simp [Act.eval]; first | done | rfl) _ W5 hrun7 ?_; have hT5 := TC.out _ h5.bl; refine hK.out _ _ (fun _ => hT5) ?_; clear hK K
         refine M_step 9 rfl (by kernel_rfl) (fun K hK => ?_)
         go_simp; have h6 := h5.allocX; have hT6 := TC.out _ h6.bl; refine hK.out _ _ (fun _ => hT6) ?_; clear hK K
         refine M_step 10 rfl (by kernel_rfl) (fun K hK => ?_)
         obtain ⟨vT, W7, hrun10, h7⟩ := h6.appS (c := 1) (h6.X _ rfl).1 (by omega) 23; obtain ⟨cg, ccap, rfl⟩ := own_some (h7.S _ _ _ rfl).1 (h7.S _ _ _ rfl).2; refine step_app_run rfl (.tmp 23) (.tmp 25) 23 rfl _ _ (by simp [Act.eval]; first | done | rfl) (by simp [Act.eval]; first | done | rfl) _ W7 hrun10 ?_; have hT7 := TC.out _ h7.bl; refine hK.out _ _ (fun _ => hT7) ?_; clear hK K
         refine M_take (v := ?_) 11 rfl (by kernel_rfl) (by assumption) (fun _ _ _ h => h) (Or.inl ⟨by rfl, ?_⟩) ?_
         rotate_left
         ·(intro w hSw; (try dsimp only at hSw); go_simp; (try with_reducible rfl))
         (try simp only [Act.put, List.setIfInBounds_toArray, List.set_cons_zero, List.set_cons_succ])
         refine M_step 13 rfl (by kernel_rfl) (fun K hK => ?_)
         have hend := h7.fin rfl hdn1 (by omega) (by omega); obtain ⟨b0, b1, b2, b3⟩ := (h7.D _ rfl).1; have zb := (h7.D _ rfl).1.lt; (try simp only [World.size_alloc, World.size_drew] at b0 b1 b2 b3 zb hend); have HEND := Lib.hid hend; clear hend; go_simp; refine hK.out _ _ (fun e => by cases e) ?_; clear hK K
         refine M_done (by kernel_rfl) ?_ _
         clear hT0 b0 b1 b2 b3 zb
         go_wp2_with fail
         go_meet
         first | exact HEND.out | (have h := HEND.out; rw [set_new2] at h; exact h) | exact wend_drew HEND.out
        ·go_simp; have h5 := h4.allocX; have hT5 := TC.out _ h5.bl; refine hK.out _ _ (fun _ => hT5) ?_; clear hK K
         refine M_step 7 rfl (by kernel_rfl) (fun K hK => ?_)
         obtain ⟨vS, W6, hrun7, h6⟩ := h5.appS (c := d.sc) (DD2.out _ h5.bl).2 (by omega) 23; rw [Nat.zero_add, List.nil_append] at h6; obtain ⟨g7, cap7, rfl⟩ := own_some (h6.S _ _ _ rfl).1 (h6.S _ _ _ rfl).2; refine step_app_run rfl (.tmp 20) (.tmp 22) 23 rfl _ _ (by simp [Act.eval]; first | done | rfl) (by simp [Act.eval]; first | done | rfl) _ W6 hrun7 ?_; have hT6 := TC.out _ h6.bl; refine hK.out _ _ (fun _ => hT6) ?_; clear hK K
         refine M_step 10 rfl (by kernel_rfl) (fun K hK => ?_)
         obtain ⟨vT, W7, hrun10, h7⟩ := h6.appS (c := 1) (h6.X _ rfl).1 (by omega) 23; obtain ⟨cg, ccap, rfl⟩ := own_some (h7.S _ _ _ rfl).1 (h7.S _ _ _ rfl).2; refine step_app_run rfl (.tmp 23) (.tmp 25) 23 rfl _ _ (by simp [Act.eval]; first | done | rfl) (by simp [Act.eval]; first | done | rfl) _ W7 hrun10 ?_; have hT7 := TC.out _ h7.bl; refine hK.out _ _ (fun _ => hT7) ?_; clear hK K
         refine M_take (v := ?_) 11 rfl (by kernel_rfl) (by assumption) (fun _ _ _ h => h) (Or.inl ⟨by rfl, ?_⟩) ?_
         rotate_left
         ·(intro w hSw; (try dsimp only at hSw); go_simp; (try with_reducible rfl))
         (try simp only [Act.put, List.setIfInBounds_toArray, List.set_cons_zero, List.set_cons_succ])
         refine M_step 13 rfl (by kernel_rfl) (fun K hK => ?_)
         have hend := h7.fin rfl hdn1 (by omega) (by omega); obtain ⟨b0, b1, b2, b3⟩ := (h7.D _ rfl).1; have zb := (h7.D _ rfl).1.lt; (try simp only [World.size_alloc, World.size_drew] at b0 b1 b2 b3 zb hend); have HEND := Lib.hid hend; clear hend; go_simp; refine hK.out _ _ (fun e => by cases e) ?_; clear hK K
         refine M_done (by kernel_rfl) ?_ _
         clear hT0 b0 b1 b2 b3 zb
         go_wp2_with fail
         go_meet
         first | exact HEND.out | (have h := HEND.out; rw [set_new2] at h; exact h) | exact wend_drew HEND.out
       ·go_simp; have h4 := h3.allocX; have hT4 := TC.out _ h4.bl; refine hK.out _ _ (fun _ => hT4) ?_; clear hK K
        refine M_step 3 rfl (by kernel_rfl) (fun K hK => ?_)
        obtain ⟨vR, W5, hrun, h5⟩ := h4.appR (c := d.rc) (DD2.out _ h4.bl).1 (by omega) 22; obtain ⟨g, cap, rfl⟩ := own_some (h5.R _ _ _ rfl).1 (h5.R _ _ _ rfl).2; refine step_app_run rfl (.tmp 16) (.tmp 18) 22 rfl _ _ (by simp [Act.eval]; first | done | rfl) (by simp [Act.eval]; first | done | rfl) _ W5 hrun ?_; have hT5 := TC.out _ h5.bl; refine hK.out _ _ (fun _ => hT5) ?_; clear hK K
        refine M_step 7 rfl (by kernel_rfl) (fun K hK => ?_)
        obtain ⟨vS, W6, hrun7, h6⟩ := h5.appS (c := d.sc) (DD2.out _ h5.bl).2 (by omega) 23; rw [Nat.zero_add, List.nil_append] at h6; obtain ⟨g7, cap7, rfl⟩ := own_some (h6.S _ _ _ rfl).1 (h6.S _ _ _ rfl).2; refine step_app_run rfl (.tmp 20) (.tmp 22) 23 rfl _ _ (by simp [Act.eval]; first | done | rfl) (by simp [Act.eval]; first | done | rfl) _ W6 hrun7 ?_; have hT6 := TC.out _ h6.bl; refine hK.out _ _ (fun _ => hT6) ?_; clear hK K
        refine M_step 10 rfl (by kernel_rfl) (fun K hK => ?_)
        obtain ⟨vT, W7, hrun10, h7⟩ := h6.appS (c := 1) (h6.X _ rfl).1 (by omega) 23; obtain ⟨cg, ccap, rfl⟩ := own_some (h7.S _ _ _ rfl).1 (h7.S _ _ _ rfl).2; refine step_app_run rfl (.tmp 23) (.tmp 25) 23 rfl _ _ (by simp [Act.eval]; first | done | rfl) (by simp [Act.eval]; first | done | rfl) _ W7 hrun10 ?_; have hT7 := TC.out _ h7.bl; refine hK.out _ _ (fun _ => hT7) ?_; clear hK K
        refine M_take (v := ?_) 11 rfl (by kernel_rfl) (by assumption) (fun _ _ _ h => h) (Or.inl ⟨by rfl, ?_⟩) ?_
        rotate_left
        ·(intro w hSw; (try dsimp only at hSw); go_simp; (try with_reducible rfl))
        (try simp only [Act.put, List.setIfInBounds_toArray, List.set_cons_zero, List.set_cons_succ])
        refine M_step 13 rfl (by kernel_rfl) (fun K hK => ?_)
        have hend := h7.fin rfl hdn1 (by omega) (by omega); obtain ⟨b0, b1, b2, b3⟩ := (h7.D _ rfl).1; have zb := (h7.D _ rfl).1.lt; (try simp only [World.size_alloc, World.size_drew] at b0 b1 b2 b3 zb hend); have HEND := Lib.hid hend; clear hend; go_simp; refine hK.out _ _ (fun e => by cases e) ?_; clear hK K
        refine M_done (by kernel_rfl) ?_ _
        clear hT0 b0 b1 b2 b3 zb
        go_wp2_with fail
        go_meet
        first | exact HEND.out | (have h := HEND.out; rw [set_new2] at h; exact h) | exact wend_drew HEND.out
     ·go_simp; have h2 := h1.allocX; have hT2 := TC.out _ h2.bl; refine hK.out _ _ (fun _ => hT2) ?_; clear hK K
      refine M_fork3 3 4 12 rfl rfl rfl (by kernel_rfl) (fun K hK => ?_) (fun K hK => ?_) (fun K hK => ?_)
      ·obtain ⟨vR, W3, hrun, h3⟩ := h2.appR (c := d.rc) (DD2.out _ h2.bl).1 (by omega) 22; obtain ⟨g, cap, rfl⟩ := own_some (h3.R _ _ _ rfl).1 (h3.R _ _ _ rfl).2; refine step_app_run rfl (.tmp 16) (.tmp 18) 22 rfl _ _ (by simp [Act.eval]; first | done | rfl) (by simp [Act.eval]; first | done | rfl) _ W3 hrun ?_; have hT3 := TC.out _ h3.bl; refine hK.out _ _ (fun _ => hT3) ?_; clear hK K
       refine M_fork 4 12 rfl rfl (by kernel_rfl) (fun K hK => ?_) (fun K hK => ?_)
       ·go_simp; have h4 := h3.allocS; have hT4 := TC.out _ h4.bl; refine hK.out _ _ (fun _ => hT4) ?_; clear hK K
        refine M_fork 7 12 rfl rfl (by kernel_rfl) (fun K hK => ?_) (fun K hK => ?_)
        ·obtain ⟨vS, W5, hrun7, h5⟩ := h4.appS (c := d.sc) (DD2.out _ h4.bl).2 (by omega) 23; rw [Nat.zero_add, List.nil_append] at h5; obtain ⟨g7, cap7, rfl⟩ := own_some (h5.S _ _ _ rfl).1 (h5.S _ _ _ rfl).2; refine step_app_run rfl (.tmp 20) (.tmp 22) 23 rfl _ _ (by simp [Act.eval]; first | done | rfl) (by simp [Act.eval]; first | done | rfl) _ W5 hrun7 ?_; have hT5 := TC.out _ h5.bl; refine hK.out _ _ (fun _ => hT5) ?_; clear hK K
         refine M_fork 10 12 rfl rfl (by kernel_rfl) (fun K hK => ?_) (fun K hK => ?_)
         ·obtain ⟨vT, W6, hrun10, h6⟩ := h5.appS (c := 1) (h5.X _ rfl).1 (by omega) 23; obtain ⟨cg, ccap, rfl⟩ := own_some (h6.S _ _ _ rfl).1 (h6.S _ _ _ rfl).2; refine step_app_run rfl (.tmp 23) (.tmp 25) 23 rfl _ _ (by simp [Act.eval]; first | done | rfl) (by simp [Act.eval]; first | done | rfl) _ W6 hrun10 ?_; have hT6 := TC.out _ h6.bl; refine hK.out _ _ (fun _ => hT6) ?_; clear hK K
          refine M_take (v := ?_) 11 rfl (by kernel_rfl) (by assumption) (fun _ _ _ h => h) (Or.inl ⟨by rfl, ?_⟩) ?_
          rotate_left
          ·(intro w hSw; (try dsimp only at hSw); go_simp; (try with_reducible rfl))
          (try simp only [Act.put, List.setIfInBounds_toArray, List.set_cons_zero, List.set_cons_succ])
          refine M_step 12 rfl (by kernel_rfl) (fun K hK => ?_)
          go_simp; have h7 := h6.allocD; have hT7 := TC.out _ h7.bl; refine hK.out _ _ (fun _ => hT7) ?_; clear hK K
          refine M_step 13 rfl (by kernel_rfl) (fun K hK => ?_)
          have hend := h7.fin rfl hdn1 (by omega) (by omega); obtain ⟨b0, b1, b2, b3⟩ := (h7.D _ rfl).1; have zb := (h7.D _ rfl).1.lt; (try simp only [World.size_alloc, World.size_drew] at b0 b1 b2 b3 zb hend); have HEND := Lib.hid hend; clear hend; go_simp; refine hK.out _ _ (fun e => by cases e) ?_; clear hK K
          refine M_done (by kernel_rfl) ?_ _
          clear hT0 b0 b1 b2 b3 zb
          go_wp2_with fail
          go_meet
          first | exact HEND.out | (have h := HEND.out; rw [set_new2] at h; exact h) | exact wend_drew HEND.out
         ·go_simp; have h6 := h5.allocD; have hT6 := TC.out _ h6.bl; refine hK.out _ _ (fun _ => hT6) ?_; clear hK K
          refine M_step 10 rfl (by kernel_rfl) (fun K hK => ?_)
          obtain ⟨vT, W7, hrun10, h7⟩ := h6.appS (c := 1) (h6.X _ rfl).1 (by omega) 23; obtain ⟨cg, ccap, rfl⟩ := own_some (h7.S _ _ _ rfl).1 (h7.S _ _ _ rfl).2; refine step_app_run rfl (.tmp 23) (.tmp 25) 23 rfl _ _ (by simp [Act.eval]; first | done | rfl) (by simp [Act.eval]; first | done | rfl) _ W7 hrun10 ?_; have hT7 := TC.out _ h7.bl; refine hK.out _ _ (fun _ => hT7) ?_; clear hK K
          refine M_take (v := ?_) 11 rfl (by kernel_rfl) (by assumption) (fun _ _ _ h => h) (Or.inl ⟨by rfl, ?_⟩) ?_
          rotate_left
          ·(intro w hSw; (try dsimp only at hSw); go_simp; (try with_reducible rfl))
          (try simp only [Act.put, List.setIfInBounds_toArray, List.set_cons_zero, List.set_cons_succ])
          refine M_step 13 rfl (by kernel_rfl) (fun K hK => ?_)
          have hend := h7.fin rfl hdn1 (by omega) (by omega); obtain ⟨b0, b1, b2, b3⟩ := (h7.D _ rfl).1; have zb := (h7.D _ rfl).1.lt; (try simp only [World.size_alloc, World.size_drew] at b0 b1 b2 b3 zb hend); have HEND := Lib.hid hend; clear hend; go_simp; refine hK.out _ _ (fun e => by cases e) ?_; clear hK K
          refine M_done (by kernel_rfl) ?_ _
          clear hT0 b0 b1 b2 b3 zb
          go_wp2_with fail
          go_meet
          first | exact HEND.out | (have h := HEND.out; rw [set_new2] at h; exact h) | exact wend_drew HEND.out
        ·go_simp; have h5 := h4.allocD; have hT5 := TC.out _ h5.bl; refine hK.out _ _ (fun _ => hT5) ?_; clear hK K
         refine M_step 7 rfl (by kernel_rfl) (fun K hK => ?_)
         obtain ⟨vS, W6, hrun7, h6⟩ := h5.appS (c := d.sc) (DD2.out _ h5.bl).2 (by omega) 23; rw [Nat.zero_add, List.nil_append] at h6; obtain ⟨g7, cap7, rfl⟩ := own_some (h6.S _ _ _ rfl).1 (h6.S _ _ _ rfl).2; refine step_app_run rfl (.tmp 20) (.tmp 22) 23 rfl _ _ (by simp [Act.eval]; first | done | rfl) (by simp [Act.eval]; first | done | rfl) _ W6 hrun7 ?_; have hT6 := TC.out _ h6.bl; refine hK.out _ _ (fun _ => hT6) ?_; clear hK K
         refine M_step 10 rfl (by kernel_rfl) (fun K hK => ?_)
         obtain ⟨vT, W7, hrun10, h7⟩ := h6.appS (c := 1) (h6.X _ rfl).1 (by omega) 23; obtain ⟨cg, ccap, rfl⟩ := own_some (h7.S _ _ _ rfl).1 (h7.S _ _ _ rfl).2; refine step_app_run rfl (.tmp 23) (.tmp 25) 23 rfl _ _ (by simp [Act.eval]; first | done | rfl) (by simp [Act.eval]; first | done | rfl) _ W7 hrun10 ?_; have hT7 := TC.out _ h7.bl; refine hK.out _ _ (fun _ => hT7) ?_; clear hK K
         refine M_take (v := ?_) 11 rfl (by kernel_rfl) (by assumption) (fun _ _ _ h => h) (Or.inl ⟨by rfl, ?_⟩) ?_
         rotate_left
         ·(intro w hSw; (try dsimp only at hSw); go_simp; (try with_reducible rfl))
         (try simp only [Act.put, List.setIfInBounds_toArray, List.set_cons_zero, List.set_cons_succ])
         refine M_step 13 rfl (by kernel_rfl) (fun K hK => ?_)
         have hend := h7.fin rfl hdn1 (by omega) (by omega); obtain ⟨b0, b1, b2, b3⟩ := (h7.D _ rfl).1; have zb := (h7.D _ rfl).1.lt; (try simp only [World.size_alloc, World.size_drew] at b0 b1 b2 b3 zb hend); have HEND := Lib.hid hend; clear hend; go_simp; refine hK.out _ _ (fun e => by cases e) ?_; clear hK K
         refine M_done (by kernel_rfl) ?_ _
         clear hT0 b0 b1 b2 b3 zb
         go_wp2_with fail
         go_meet
         first | exact HEND.out | (have h := HEND.out; rw [set_new2] at h; exact h) | exact wend_drew HEND.out
       ·go_simp; have h4 := h3.allocD; have hT4 := TC.out _ h4.bl; refine hK.out _ _ (fun _ => hT4) ?_; clear hK K
        refine M_step 4 rfl (by kernel_rfl) (fun K hK => ?_)
        go_simp; have h5 := h4.allocS; have hT5 := TC.out _ h5.bl; refine hK.out _ _ (fun _ => hT5) ?_; clear hK K
        refine M_step 7 rfl (by kernel_rfl) (fun K hK => ?_)
        obtain ⟨vS, W6, hrun7, h6⟩ := h5.appS (c := d.sc) (DD2.out _ h5.bl).2 (by omega) 23; rw [Nat.zero_add, List.nil_append] at h6; obtain ⟨g7, cap7, rfl⟩ := own_some (h6.S _ _ _ rfl).1 (h6.S _ _ _ rfl).2; refine step_app_run rfl (.tmp 20) (.tmp 22) 23 rfl _ _ (by simp [Act.eval]; first | done | rfl) (by simp [Act.eval]; first | done | rfl) _ W6 hrun7 ?_; have hT6 := TC.out _ h6.bl; refine hK.out _ _ (fun _ => hT6) ?_; clear hK K
        refine M_step 10 rfl (by kernel_rfl) (fun K hK => ?_)
        obtain ⟨vT, W7, hrun10, h7⟩ := h6.appS (c := 1) (h6.X _ rfl).1 (by omega) 23; obtain ⟨cg, ccap, rfl⟩ := own_some (h7.S _ _ _ rfl).1 (h7.S _ _ _ rfl).2; refine step_app_run rfl (.tmp 23) (.tmp 25) 23 rfl _ _ (by simp [Act.eval]; first | done | rfl) (by simp [Act.eval]; first | done | rfl) _ W7 hrun10 ?_; have hT7 := TC.out _ h7.bl; refine hK.out _ _ (fun _ => hT7) ?_; clear hK K
        refine M_take (v := ?_) 11 rfl (by kernel_rfl) (by assumption) (fun _ _ _ h => h) (Or.inl ⟨by rfl, ?_⟩) ?_
        rotate_left
        ·(intro w hSw; (try dsimp only at hSw); go_simp; (try with_reducible rfl))
        (try simp only [Act.put, List.setIfInBounds_toArray, List.set_cons_zero, List.set_cons_succ])
        refine M_step 13 rfl (by kernel_rfl) (fun K hK => ?_)
        have hend := h7.fin rfl hdn1 (by omega) (by omega); obtain ⟨b0, b1, b2, b3⟩ := (h7.D _ rfl).1; have zb := (h7.D _ rfl).1.lt; (try simp only [World.size_alloc, World.size_drew] at b0 b1 b2 b3 zb hend); have HEND := Lib.hid hend; clear hend; go_simp; refine hK.out _ _ (fun e => by cases e) ?_; clear hK K
        refine M_done (by kernel_rfl) ?_ _
        clear hT0 b0 b1 b2 b3 zb
        go_wp2_with fail
        go_meet
        first | exact HEND.out | (have h := HEND.out; rw [set_new2] at h; exact h) | exact wend_drew HEND.out
      ·go_simp; have h3 := h2.allocS; have hT3 := TC.out _ h3.bl; refine hK.out _ _ (fun _ => hT3) ?_; clear hK K
       refine M_fork 3 12 rfl rfl (by kernel_rfl) (fun K hK => ?_) (fun K hK => ?_)
       ·obtain ⟨vR, W4, hrun, h4⟩ := h3.appR (c := d.rc) (DD2.out _ h3.bl).1 (by omega) 22; obtain ⟨g, cap, rfl⟩ := own_some (h4.R _ _ _ rfl).1 (h4.R _ _ _ rfl).2; refine step_app_run rfl (.tmp 16) (.tmp 18) 22 rfl _ _ (by simp [Act.eval]; first | done | rfl) (by simp [Act.eval]; first | done | rfl) _ W4 hrun ?_; have hT4 := TC.out _ h4.bl; refine hK.out _ _ (fun _ => hT4) ?_; clear hK K
        refine M_fork 7 12 rfl rfl (by kernel_rfl) (fun K hK => ?_) (fun K hK => ?_)
        ·obtain ⟨vS, W5, hrun7, h5⟩ := h4.appS (c := d.sc) (DD2.out _ h4.bl).2 (by omega) 23; rw [Nat.zero_add, List.nil_append] at h5; obtain ⟨g7, cap7, rfl⟩ := own_some (h5.S _ _ _ rfl).1 (h5.S _ _ _ rfl).2; refine step_app_run rfl (.tmp 20) (.tmp 22) 23 rfl _ _ (by simp [Act.eval]; first | done | rfl) (by simp [Act.eval]; first | done | rfl) _ W5 hrun7 ?_; have hT5 := TC.out _ h5.bl; refine hK.out _ _ (fun _ => hT5) ?_; clear hK K
         refine M_fork 10 12 rfl rfl (by kernel_rfl) (fun K hK => ?_) (fun K hK => ?_)
         ·obtain ⟨vT, W6, hrun10, h6⟩ := h5.appS (c := 1) (h5.X _ rfl).1 (by omega) 23; obtain ⟨cg, ccap, rfl⟩ := own_some (h6.S _ _ _ rfl).1 (h6.S _ _ _ rfl).2; refine step_app_run rfl (.tmp 23) (.tmp 25) 23 rfl _ _ (by simp [Act.eval]; first | done | rfl) (by simp [Act.eval]; first | done | rfl) _ W6 hrun10 ?_; have hT6 := TC.out _ h6.bl; refine hK.out _ _ (fun _ => hT6) ?_; clear hK K
          refine M_take (v := ?_) 11 rfl (by kernel_rfl) (by assumption) (fun _ _ _ h => h) (Or.inl ⟨by rfl, ?_⟩) ?_
          rotate_left
          ·(intro w hSw; (try dsimp only at hSw); go_simp; (try with_reducible rfl))
          (try simp only [Act.put, List.setIfInBounds_toArray, List.set_cons_zero, List.set_cons_succ])
          refine M_step 12 rfl (by kernel_rfl) (fun K hK => ?_)
          go_simp; have h7 := h6.allocD; have hT7 := TC.out _ h7.bl; refine hK.out _ _ (fun _ => hT7) ?_; clear hK K
          refine M_step 13 rfl (by kernel_rfl) (fun K hK => ?_)
          have hend := h7.fin rfl hdn1 (by omega) (by omega); obtain ⟨b0, b1, b2, b3⟩ := (h7.D _ rfl).1; have zb := (h7.D _ rfl).1.lt; (try simp only [World.size_alloc, World.size_drew] at b0 b1 b2 b3 zb hend); have HEND := Lib.hid hend; clear hend; go_simp; refine hK.out _ _ (fun e => by cases e) ?_; clear hK K
          refine M_done (by kernel_rfl) ?_ _
          clear hT0 b0 b1 b2 b3 zb
          go_wp2_with fail
          go_meet
          first | exact HEND.out | (have h := HEND.out; rw [set_new2] at h; exact h) | exact wend_drew HEND.out
         ·go_simp; have h6 := h5.allocD; have hT6 := TC.out _ h6.bl; refine hK.out _ _ (fun _ => hT6) ?_; clear hK K
          refine M_step 10 rfl (by kernel_rfl) (fun K hK => ?_)
          obtain ⟨vT, W7, hrun10, h7⟩ := h6.appS (c := 1) (h6.X _ rfl).1 (by omega) 23; obtain ⟨cg, ccap, rfl⟩ := own_some (h7.S _ _ _ rfl).1 (h7.S _ _ _ rfl).2; refine step_app_run rfl (.tmp 23) (.tmp 25) 23 rfl _ _ (by simp [Act.eval]; first | done | rfl) (by simp [Act.eval]; first | done | rfl) _ W7 hrun10 ?_; have hT7 := TC.out _ h7.bl; refine hK.out _ _ (fun _ => hT7) ?_; clear hK K
          refine M_take (v := ?_) 11 rfl (by kernel_rfl) (by assumption) (fun _ _ _ h => h) (Or.inl ⟨by rfl, ?_⟩) ?_
          rotate_left
          ·(intro w hSw; (try dsimp only at hSw); go_simp; (try with_reducible rfl))
          (try simp only [Act.put, List.setIfInBounds_toArray, List.set_cons_zero, List.set_cons_succ])
          refine M_step 13 rfl (by kernel_rfl) (fun K hK => ?_)
          have hend := h7.fin rfl hdn1 (by omega) (by omega); obtain ⟨b0, b1, b2, b3⟩ := (h7.D _ rfl).1; have zb := (h7.D _ rfl).1.lt; (try simp only [World.size_alloc, World.size_drew] at b0 b1 b2 b3 zb hend); have HEND := Lib.hid hend; clear hend; go_simp; refine hK.out _ _ (fun e => by cases e) ?_; clear hK K
          refine M_done (by kernel_rfl) ?_ _
          clear hT0 b0 b1 b2 b3 zb
          go_wp2_with fail
          go_meet
          first | exact HEND.out | (have h := HEND.out; rw [set_new2] at h; exact h) | exact wend_drew HEND.out
        ·go_simp; have h5 := h4.allocD; have hT5 := TC.out _ h5.bl; refine hK.out _ _ (fun _ => hT5) ?_; clear hK K
         refine M_step 7 rfl (by kernel_rfl) (fun K hK => ?_)
         obtain ⟨vS, W6, hrun7, h6⟩ := h5.appS (c := d.sc) (DD2.out _ h5.bl).2 (by omega) 23; rw [Nat.zero_add, List.nil_append] at h6; obtain ⟨g7, cap7, rfl⟩ := own_some (h6.S _ _ _ rfl).1 (h6.S _ _ _ rfl).2; refine step_app_run rfl (.tmp 20) (.tmp 22) 23 rfl _ _ (by simp [Act.eval]; first | done | rfl) (by simp [Act.eval]; first | done | rfl) _ W6 hrun7 ?_; have hT6 := TC.out _ h6.bl; refine hK.out _ _ (fun _ => hT6) ?_; clear hK K
         refine M_step 10 rfl (by kernel_rfl) (fun K hK => ?_)
         obtain ⟨vT, W7, hrun10, h7⟩ := h6.appS (c := 1) (h6.X _ rfl).1 (by omega) 23; obtain ⟨cg, ccap, rfl⟩ := own_some (h7.S _ _ _ rfl).1 (h7.S _ _ _ rfl).2; refine step_app_run rfl (.tmp 23) (.tmp 25) 23 rfl _ _ (by simp [Act.eval]; first | done | rfl) (by simp [Act.eval]; first | done | rfl) _ W7 hrun10 ?_; have hT7 := TC.out _ h7.bl; refine hK.out _ _ (fun _ => hT7) ?_; clear hK K
         refine M_take (v := ?_) 11 rfl (by kernel_rfl) (by assumption) (fun _ _ _ h => h) (Or.inl ⟨by rfl, ?_⟩) ?_
         rotate_left
         ·(intro w hSw; (try dsimp only at hSw); go_simp; (try with_reducible rfl))
         (try simp only [Act.put, List.setIfInBounds_toArray, List.set_cons_zero, List.set_cons_succ])
         refine M_step 13 rfl (by kernel_rfl) (fun K hK => ?_)
         have hend := h7.fin rfl hdn1 (by omega) (by omega); obtain ⟨b0, b1, b2, b3⟩ := (h7.D _ rfl).1; have zb := (h7.D _ rfl).1.lt; (try simp only [World.size_alloc, World.size_drew] at b0 b1 b2 b3 zb hend); have HEND := Lib.hid hend; clear hend; go_simp; refine hK.out _ _ (fun e => by cases e) ?_; clear hK K
         refine M_done (by kernel_rfl) ?_ _
         clear hT0 b0 b1 b2 b3 zb
         go_wp2_with fail
         go_meet
         first | exact HEND.out | (have h := HEND.out; rw [set_new2] at h; exact h) | exact wend_drew HEND.out
       ·go_simp; have h4 := h3.allocD; have hT4 := TC.out _ h4.bl; refine hK.out _ _ (fun _ => hT4) ?_; clear hK K
        refine M_step 3 rfl (by kernel_rfl) (fun K hK => ?_)
        obtain ⟨vR, W5, hrun, h5⟩ := h4.appR (c := d.rc) (DD2.out _ h4.bl).1 (by omega) 22; obtain ⟨g, cap, rfl⟩ := own_some (h5.R _ _ _ rfl).1 (h5.R _ _ _ rfl).2; refine step_app_run rfl (.tmp 16) (.tmp 18) 22 rfl _ _ (by simp [Act.eval]; first | done | rfl) (by simp [Act.eval]; first | done | rfl) _ W5 hrun ?_; have hT5 := TC.out _ h5.bl; refine hK.out _ _ (fun _ => hT5) ?_; clear hK K
        refine M_step 7 rfl (by kernel_rfl) (fun K hK => ?_)
        obtain ⟨vS, W6, hrun7, h6⟩ := h5.appS (c := d.sc) (DD2.out _ h5.bl).2 (by omega) 23; rw [Nat.zero_add, List.nil_append] at h6; obtain ⟨g7, cap7, rfl⟩ := own_some (h6.S _ _ _ rfl).1 (h6.S _ _ _ rfl).2; refine step_app_run rfl (.tmp 20) (.tmp 22) 23 rfl _ _ (by simp [Act.eval]; first | done | rfl) (by simp [Act.eval]; first | done | rfl) _ W6 hrun7 ?_; have hT6 := TC.out _ h6.bl; refine hK.out _ _ (fun _ => hT6) ?_; clear hK K
        refine M_step 10 rfl (by kernel_rfl) (fun K hK => ?_)
        obtain ⟨vT, W7, hrun10, h7⟩ := h6.appS (c := 1) (h6.X _ rfl).1 (by omega) 23; obtain ⟨cg, ccap, rfl⟩ := own_some (h7.S _ _ _ rfl).1 (h7.S _ _ _ rfl).2; refine step_app_run rfl (.tmp 23) (.tmp 25) 23 rfl _ _ (by simp [Act.eval]; first | done | rfl) (by simp [Act.eval]; first | done | rfl) _ W7 hrun10 ?_; have hT7 := TC.out _ h7.bl; refine hK.out _ _ (fun _ => hT7) ?_; clear hK K
        refine M_take (v := ?_) 11 rfl (by kernel_rfl) (by assumption) (fun _ _ _ h => h) (Or.inl ⟨by rfl, ?_⟩) ?_
        rotate_left
        ·(intro w hSw; (try dsimp only at hSw); go_simp; (try with_reducible rfl))
        (try simp only [Act.put, List.setIfInBounds_toArray, List.set_cons_zero, List.set_cons_succ])
        refine M_step 13 rfl (by kernel_rfl) (fun K hK => ?_)
        have hend := h7.fin rfl hdn1 (by omega) (by omega); obtain ⟨b0, b1, b2, b3⟩ := (h7.D _ rfl).1; have zb := (h7.D _ rfl).1.lt; (try simp only [World.size_alloc, World.size_drew] at b0 b1 b2 b3 zb hend); have HEND := Lib.hid hend; clear hend; go_simp; refine hK.out _ _ (fun e => by cases e) ?_; clear hK K
        refine M_done (by kernel_rfl) ?_ _
        clear hT0 b0 b1 b2 b3 zb
        go_wp2_with fail
        go_meet
        first | exact HEND.out | (have h := HEND.out; rw [set_new2] at h; exact h) | exact wend_drew HEND.out
      ·go_simp; have h3 := h2.allocD; have hT3 := TC.out _ h3.bl; refine hK.out _ _ (fun _ => hT3) ?_; clear hK K
       refine M_fork 3 4 rfl rfl (by kernel_rfl) (fun K hK => ?_) (fun K hK => ?_)
       ·obtain ⟨vR, W4, hrun, h4⟩ := h3.appR (c := d.rc) (DD2.out _ h3.bl).1 (by omega) 22; obtain ⟨g, cap, rfl⟩ := own_some (h4.R _ _ _ rfl).1 (h4.R _ _ _ rfl).2; refine step_app_run rfl (.tmp 16) (.tmp 18) 22 rfl _ _ (by simp [Act.eval]; first | done | rfl) (by simp [Act.eval]; first | done | rfl) _ W4 hrun ?_; have hT4 := TC.out _ h4.bl; refine hK.out _ _ (fun _ => hT4) ?_; clear hK K
        refine M_step 4 rfl (by kernel_rfl) (fun K hK => ?_)
        go_simp; have h5 := h4.allocS; have hT5 := TC.out _ h5.bl; refine hK.out _ _ (fun _ => hT5) ?_; clear hK K
        refine M_step 7 rfl (by kernel_rfl) (fun K hK => ?_)
        obtain ⟨vS, W6, hrun7, h6⟩ := h5.appS (c := d.sc) (DD2.out _ h5.bl).2 (by omega) 23; rw [Nat.zero_add, List.nil_append] at h6; obtain ⟨g7, cap7, rfl⟩ := own_some (h6.S _ _ _ rfl).1 (h6.S _ _ _ rfl).2; refine step_app_run rfl (.tmp 20) (.tmp 22) 23 rfl _ _ (by simp [Act.eval]; first | done | rfl) (by simp [Act.eval]; first | done | rfl) _ W6 hrun7 ?_; have hT6 := TC.out _ h6.bl; refine hK.out _ _ (fun _ => hT6) ?_; clear hK K
        refine M_step 10 rfl (by kernel_rfl) (fun K hK => ?_)
        obtain ⟨vT, W7, hrun10, h7⟩ := h6.appS (c := 1) (h6.X _ rfl).1 (by omega) 23; obtain ⟨cg, ccap, rfl⟩ := own_some (h7.S _ _ _ rfl).1 (h7.S _ _ _ rfl).2; refine step_app_run rfl (.tmp 23) (.tmp 25) 23 rfl _ _ (by simp [Act.eval]; first | done | rfl) (by simp [Act.eval]; first | done | rfl) _ W7 hrun10 ?_; have hT7 := TC.out _ h7.bl; refine hK.out _ _ (fun _ => hT7) ?_; clear hK K
        refine M_take (v := ?_) 11 rfl (by kernel_rfl) (by assumption) (fun _ _ _ h => h) (Or.inl ⟨by rfl, ?_⟩) ?_
        rotate_left
        ·(intro w hSw; (try dsimp only at hSw); go_simp; (try with_reducible rfl))
        (try simp only [Act.put, List.setIfInBounds_toArray, List.set_cons_zero, List.set_cons_succ])
        refine M_step 13 rfl (by kernel_rfl) (fun K hK => ?_)
        have hend := h7.fin rfl hdn1 (by omega) (by omega); obtain ⟨b0, b1, b2, b3⟩ := (h7.D _ rfl).1; have zb := (h7.D _ rfl).1.lt; (try simp only [World.size_alloc, World.size_drew] at b0 b1 b2 b3 zb hend); have HEND := Lib.hid hend; clear hend; go_simp; refine hK.out _ _ (fun e => by cases e) ?_; clear hK K
        refine M_done (by kernel_rfl) ?_ _
        clear hT0 b0 b1 b2 b3 zb
        go_wp2_with fail
        go_meet
        first | exact HEND.out | (have h := HEND.out; rw [set_new2] at h; exact h) | exact wend_drew HEND.out
       ·go_simp; have h4 := h3.allocS; have hT4 := TC.out _ h4.bl; refine hK.out _ _ (fun _ => hT4) ?_; clear hK K
        refine M_step 3 rfl (by kernel_rfl) (fun K hK => ?_)
        obtain ⟨vR, W5, hrun, h5⟩ := h4.appR (c := d.rc) (DD2.out _ h4.bl).1 (by omega) 22; obtain ⟨g, cap, rfl⟩ := own_some (h5.R _ _ _ rfl).1 (h5.R _ _ _ rfl).2; refine step_app_run rfl (.tmp 16) (.tmp 18) 22 rfl _ _ (by simp [Act.eval]; first | done | rfl) (by simp [Act.eval]; first | done | rfl) _ W5 hrun ?_; have hT5 := TC.out _ h5.bl; refine hK.out _ _ (fun _ => hT5) ?_; clear hK K
        refine M_step 7 rfl (by kernel_rfl) (fun K hK => ?_)
        obtain ⟨vS, W6, hrun7, h6⟩ := h5.appS (c := d.sc) (DD2.out _ h5.bl).2 (by omega) 23; rw [Nat.zero_add, List.nil_append] at h6; obtain ⟨g7, cap7, rfl⟩ := own_some (h6.S _ _ _ rfl).1 (h6.S _ _ _ rfl).2; refine step_app_run rfl (.tmp 20) (.tmp 22) 23 rfl _ _ (by simp [Act.eval]; first | done | rfl) (by simp [Act.eval]; first | done | rfl) _ W6 hrun7 ?_; have hT6 := TC.out _ h6.bl; refine hK.out _ _ (fun _ => hT6) ?_; clear hK K
        refine M_step 10 rfl (by kernel_rfl) (fun K hK => ?_)
        obtain ⟨vT, W7, hrun10, h7⟩ := h6.appS (c := 1) (h6.X _ rfl).1 (by omega) 23; obtain ⟨cg, ccap, rfl⟩ := own_some (h7.S _ _ _ rfl).1 (h7.S _ _ _ rfl).2; refine step_app_run rfl (.tmp 23) (.tmp 25) 23 rfl _ _ (by simp [Act.eval]; first | done | rfl) (by simp [Act.eval]; first | done | rfl) _ W7 hrun10 ?_; have hT7 := TC.out _ h7.bl; refine hK.out _ _ (fun _ => hT7) ?_; clear hK K
        refine M_take (v := ?_) 11 rfl (by kernel_rfl) (by assumption) (fun _ _ _ h => h) (Or.inl ⟨by rfl, ?_⟩) ?_
        rotate_left
        ·(intro w hSw; (try dsimp only at hSw); go_simp; (try with_reducible rfl))
        (try simp only [Act.put, List.setIfInBounds_toArray, List.set_cons_zero, List.set_cons_succ])
        refine M_step 13 rfl (by kernel_rfl) (fun K hK => ?_)
        have hend := h7.fin rfl hdn1 (by omega) (by omega); obtain ⟨b0, b1, b2, b3⟩ := (h7.D _ rfl).1; have zb := (h7.D _ rfl).1.lt; (try simp only [World.size_alloc, World.size_drew] at b0 b1 b2 b3 zb hend); have HEND := Lib.hid hend; clear hend; go_simp; refine hK.out _ _ (fun e => by cases e) ?_; clear hK K
        refine M_done (by kernel_rfl) ?_ _
        clear hT0 b0 b1 b2 b3 zb
        go_wp2_with fail
        go_meet
        first | exact HEND.out | (have h := HEND.out; rw [set_new2] at h; exact h) | exact wend_drew HEND.out
     ·go_simp; have h2 := h1.allocD; have hT2 := TC.out _ h2.bl; refine hK.out _ _ (fun _ => hT2) ?_; clear hK K
      refine M_fork3 3 4 9 rfl rfl rfl (by kernel_rfl) (fun K hK => ?_) (fun K hK => ?_) (fun K hK => ?_)
      ·obtain ⟨vR, W3, hrun, h3⟩ := h2.appR (c := d.rc) (DD2.out _ h2.bl).1 (by omega) 22; obtain ⟨g, cap, rfl⟩ := own_some (h3.R _ _ _ rfl).1 (h3.R _ _ _ rfl).2; refine step_app_run rfl (.tmp 16) (.tmp 18) 22 rfl _ _ (by simp [Act.eval]; first | done | rfl) (by simp [Act.eval]; first | done | rfl) _ W3 hrun ?_; have hT3 := TC.out _ h3.bl; refine hK.out _ _ (fun _ => hT3) ?_; clear hK K
       refine M_fork 4 9 rfl rfl (by kernel_rfl) (fun K hK => ?_) (fun K hK => ?_)
       ·go_simp; have h4 := h3.allocS; have hT4 := TC.out _ h4.bl; refine hK.out _ _ (fun _ => hT4) ?_; clear hK K
        refine M_fork 7 9 rfl rfl (by kernel_rfl) (fun K hK => ?_) (fun K hK => ?_)
        ·obtain ⟨vS, W5, hrun7, h5⟩ := h4.appS (c := d.sc) (DD2.out _ h4.bl).2 (by omega) 23; rw [Nat.zero_add, List.nil_append] at h5; obtain ⟨g7, cap7, rfl⟩ := own_some (h5.S _ _ _ rfl).1 (h5.S _ _ _ rfl).2; refine step_app_run rfl (.tmp 20) (.tmp 22) 23 rfl _ _ (by simp [Act.eval]; first | done | rfl) (by simp [Act.eval]; first | done | rfl) _ W5 hrun7 ?_; have hT5 := TC.out _ h5.bl; refine hK.out _ _ (fun _ => hT5) ?_; clear hK K
         refine M_step 9 rfl (by kernel_rfl) (fun K hK => ?_)
         go_simp; have h6 := h5.allocX; have hT6 := TC.out _ h6.bl; refine hK.out _ _ (fun _ => hT6) ?_; clear hK K
         refine M_step 10 rfl (by kernel_rfl) (fun K hK => ?_)
         obtain ⟨vT, W7, hrun10, h7⟩ := h6.appS (c := 1) (h6.X _ rfl).1 (by omega) 23; obtain ⟨cg, ccap, rfl⟩ := own_some (h7.S _ _ _ rfl).1 (h7.S _ _ _ rfl).2; refine step_app_run rfl (.tmp 23) (.tmp 25) 23 rfl _ _ (by simp [Act.eval]; first | done | rfl) (by simp [Act.eval]; first | done | rfl) _ W7 hrun10 ?_; have hT7 := TC.out _ h7.bl; refine hK.out _ _ (fun _ => hT7) ?_; clear hK K
         refine M_take (v := ?_) 11 rfl (by kernel_rfl) (by assumption) (fun _ _ _ h => h) (Or.inl ⟨by rfl, ?_⟩) ?_
         rotate_left
         ·(intro w hSw; (try dsimp only at hSw); go_simp; (try with_reducible rfl))
         (try simp only [Act.put, List.setIfInBounds_toArray, List.set_cons_zero, List.set_cons_succ])
         refine M_step 13 rfl (by kernel_rfl) (fun K hK => ?_)
         have hend := h7.fin rfl hdn1 (by omega) (by omega); obtain ⟨b0, b1, b2, b3⟩ := (h7.D _ rfl).1; have zb := (h7.D _ rfl).1.lt; (try simp only [World.size_alloc, World.size_drew] at b0 b1 b2 b3 zb hend); have HEND := Lib.hid hend; clear hend; go_simp; refine hK.out _ _ (fun e => by cases e) ?_; clear hK K
         refine M_done (by kernel_rfl) ?_ _
         clear hT0 b0 b1 b2 b3 zb
         go_wp2_with fail
         go_meet
         first | exact HEND.out | (have h := HEND.out; rw [set_new2] at h; exact h) | exact wend_drew HEND.out
        ·go_simp; have h5 := h4.allocX; have hT5 := TC.out _ h5.bl; refine hK.out _ _ (fun _ => hT5) ?_; clear hK K
         refine M_step 7 rfl (by kernel_rfl) (fun K hK => ?_)
         obtain ⟨vS, W6, hrun7, h6⟩ := h5.appS (c := d.sc) (DD2.out _ h5.bl).2 (by omega) 23; rw [Nat.zero_add, List.nil_append] at h6; obtain ⟨g7, cap7, rfl⟩ := own_some (h6.S _ _ _ rfl).1 (h6.S _ _ _ rfl).2; refine step_app_run rfl (.tmp 20) (.tmp 22) 23 rfl _ _ (by simp [Act.eval]; first | done | rfl) (by simp [Act.eval]; first | done | rfl) _ W6 hrun7 ?_; have hT6 := TC.out _ h6.bl; refine hK.out _ _ (fun _ => hT6) ?_; clear hK K
         refine M_step 10 rfl (by kernel_rfl) (fun K hK => ?_)
         obtain ⟨vT, W7, hrun10, h7⟩ := h6.appS (c := 1) (h6.X _ rfl).1 (by omega) 23; obtain ⟨cg, ccap, rfl⟩ := own_some (h7.S _ _ _ rfl).1 (h7.S _ _ _ rfl).2; refine step_app_run rfl (.tmp 23) (.tmp 25) 23 rfl _ _ (by simp [Act.eval]; first | done | rfl) (by simp [Act.eval]; first | done | rfl) _ W7 hrun10 ?_; have hT7 := TC.out _ h7.bl; refine hK.out _ _ (fun _ => hT7) ?_; clear hK K
         refine M_take (v := ?_) 11 rfl (by kernel_rfl) (by assumption) (fun _ _ _ h => h) (Or.inl ⟨by rfl, ?_⟩) ?_
         rotate_left
         ·(intro w hSw; (try dsimp only at hSw); go_simp; (try with_reducible rfl))
         (try simp only [Act.put, List.setIfInBounds_toArray, List.set_cons_zero, List.set_cons_succ])
         refine M_step 13 rfl (by kernel_rfl) (fun K hK => ?_)
         have hend := h7.fin rfl hdn1 (by omega) (by omega); obtain ⟨b0, b1, b2, b3⟩ := (h7.D _ rfl).1; have zb := (h7.D _ rfl).1.lt; (try simp only [World.size_alloc, World.size_drew] at b0 b1 b2 b3 zb hend); have HEND := Lib.hid hend; clear hend; go_simp; refine hK.out _ _ (fun e => by cases e) ?_; clear hK K
         refine M_done (by kernel_rfl) ?_ _
         clear hT0 b0 b1 b2 b3 zb
         go_wp2_with fail
         go_meet
         first | exact HEND.out | (have h := HEND.out; rw [set_new2] at h; exact h) | exact wend_drew HEND.out
       ·go_simp; have h4 := h3.allocX; have hT4 := TC.out _ h4.bl; refine hK.out _ _ (fun _ => hT4) ?_; clear hK K
        refine M_step 4 rfl (by kernel_rfl) (fun K hK => ?_)
        go_simp; have h5 := h4.allocS; have hT5 := TC.out _ h5.bl; refine hK.out _ _ (fun _ => hT5) ?_; clear hK K
        refine M_step 7 rfl (by kernel_rfl) (fun K hK => ?_)
        obtain ⟨vS, W6, hrun7, h6⟩ := h5.appS (c := d.sc) (DD2.out _ h5.bl).2 (by omega) 23; rw [Nat.zero_add, List.nil_append] at h6; obtain ⟨g7, cap7, rfl⟩ := own_some (h6.S _ _ _ rfl).1 (h6.S _ _ _ rfl).2; refine step_app_run rfl (.tmp 20) (.tmp 22) 23 rfl _ _ (by simp [Act.eval]; first | done | rfl) (by simp [Act.eval]; first | done | rfl) _ W6 hrun7 ?_; have hT6 := TC.out _ h6.bl; refine hK.out _ _ (fun _ => hT6) ?_; clear hK K
        refine M_step 10 rfl (by kernel_rfl) (fun K hK => ?_)
        obtain ⟨vT, W7, hrun10, h7⟩ := h6.appS (c := 1) (h6.X _ rfl).1 (by omega) 23; obtain ⟨cg, ccap, rfl⟩ := own_some (h7.S _ _ _ rfl).1 (h7.S _ _ _ rfl).2; refine step_app_run rfl (.tmp 23) (.tmp 25) 23 rfl _ _ (by simp [Act.eval]; first | done | rfl) (by simp [Act.eval]; first | done | rfl) _ W7 hrun10 ?_; have hT7 := TC.out _ h7.bl; refine hK.out _ _ (fun _ => hT7) ?_; clear hK K
        refine M_take (v := ?_) 11 rfl (by kernel_rfl) (by assumption) (fun _ _ _ h => h) (Or.inl ⟨by rfl, ?_⟩) ?_
        rotate_left
        ·(intro w hSw; (try dsimp only at hSw); go_simp; (try with_reducible rfl))
        (try simp only [Act.put, List.setIfInBounds_toArray, List.set_cons_zero, List.set_cons_succ])
        refine M_step 13 rfl (by kernel_rfl) (fun K hK => ?_)
        have hend := h7.fin rfl hdn1 (by omega) (by omega); obtain ⟨b0, b1, b2, b3⟩ := (h7.D _ rfl).1; have zb := (h7.D _ rfl).1.lt; (try simp only [World.size_alloc, World.size_drew] at b0 b1 b2 b3 zb hend); have HEND := Lib.hid hend; clear hend; go_simp; refine hK.out _ _ (fun e => by cases e) ?_; clear hK K
        refine M_done (by kernel_rfl) ?_ _
        clear hT0 b0 b1 b2 b3 zb
        go_wp2_with fail
        go_meet
        first | exact HEND.out | (have h := HEND.out; rw [set_new2] at h; exact h) | exact wend_drew HEND.out
      ·go_simp; have h3 := h2.allocS; have hT3 := TC.out _ h3.bl; refine hK.out _ _ (fun _ => hT3) ?_; clear hK K
       refine M_fork 3 9 rfl rfl (by kernel_rfl) (fun K hK => ?_) (fun K hK => ?_)
       ·obtain ⟨vR, W4, hrun, h4⟩ := h3.appR (c := d.rc) (DD2.out _ h3.bl).1 (by omega) 22; obtain ⟨g, cap, rfl⟩ := own_some (h4.R _ _ _ rfl).1 (h4.R _ _ _ rfl).2; refine step_app_run rfl (.tmp 16) (.tmp 18) 22 rfl _ _ (by simp [Act.eval]; first | done | rfl) (by simp [Act.eval]; first | done | rfl) _ W4 hrun ?_; have hT4 := TC.out _ h4.bl; refine hK.out _ _ (fun _ => hT4) ?_; clear hK K
        refine M_fork 7 9 rfl rfl (by kernel_rfl) (fun K hK => ?_) (fun K hK => ?_)
        ·obtain ⟨vS, W5, hrun7, h5⟩ := h4.appS (c := d.sc) (DD2.out _ h4.bl).2 (by omega) 23; rw [Nat.zero_add, List.nil_append] at h5; obtain ⟨g7, cap7, rfl⟩ := own_some (h5.S _ _ _ rfl).1 (h5.S _ _ _ rfl).2; refine step_app_run rfl (.tmp 20) (.tmp 22) 23 rfl _ _ (by simp [Act.eval]; first | done | rfl) (by simp [Act.eval]; first | done | rfl) _ W5 hrun7 ?_; have hT5 := TC.out _ h5.bl; refine hK.out _ _ (fun _ => hT5) ?_; clear hK K
         refine M_step 9 rfl (by kernel_rfl) (fun K hK => ?_)
         go_simp; have h6 := h5.allocX; have hT6 := TC.out _ h6.bl; refine hK.out _ _ (fun _ => hT6) ?_; clear hK K
         refine M_step 10 rfl (by kernel_rfl) (fun K hK => ?_)
         obtain ⟨vT, W7, hrun10, h7⟩ := h6.appS (c := 1) (h6.X _ rfl).1 (by omega) 23; obtain ⟨cg, ccap, rfl⟩ := own_some (h7.S _ _ _ rfl).1 (h7.S _ _ _ rfl).2; refine step_app_run rfl (.tmp 23) (.tmp 25) 23 rfl _ _ (by simp [Act.eval]; first | done | rfl) (by simp [Act.eval]; first | done | rfl) _ W7 hrun10 ?_; have hT7 := TC.out _ h7.bl; refine hK.out _ _ (fun _ => hT7) ?_; clear hK K
         refine M_take (v := ?_) 11 rfl (by kernel_rfl) (by assumption) (fun _ _ _ h => h) (Or.inl ⟨by rfl, ?_⟩) ?_
         rotate_left
         ·(intro w hSw; (try dsimp only at hSw); go_simp; (try with_reducible rfl))
         (try simp only [Act.put, List.setIfInBounds_toArray, List.set_cons_zero, List.set_cons_succ])
         refine M_step 13 rfl (by kernel_rfl) (fun K hK => ?_)
         have hend := h7.fin rfl hdn1 (by omega) (by omega); obtain ⟨b0, b1, b2, b3⟩ := (h7.D _ rfl).1; have zb := (h7.D _ rfl).1.lt; (try simp only [World.size_alloc, World.size_drew] at b0 b1 b2 b3 zb hend); have HEND := Lib.hid hend; clear hend; go_simp; refine hK.out _ _ (fun e => by cases e) ?_; clear hK K
         refine M_done (by kernel_rfl) ?_ _
         clear hT0 b0 b1 b2 b3 zb
         go_wp2_with fail
         go_meet
         first | exact HEND.out | (have h := HEND.out; rw [set_new2] at h; exact h) | exact wend_drew HEND.out
        ·go_simp; have h5 := h4.allocX; have hT5 := TC.out _ h5.bl; refine hK.out _ _ (fun _ => hT5) ?_; clear hK K
         refine M_step 7 rfl (by kernel_rfl) (fun K hK => ?_)
         obtain ⟨vS, W6, hrun7, h6⟩ := h5.appS (c := d.sc) (DD2.out _ h5.bl).2 (by omega) 23; rw [Nat.zero_add, List.nil_append] at h6; obtain ⟨g7, cap7, rfl⟩ := own_some (h6.S _ _ _ rfl).1 (h6.S _ _ _ rfl).2; refine step_app_run rfl (.tmp 20) (.tmp 22) 23 rfl _ _ (by simp [Act.eval]; first | done | rfl) (by simp [Act.eval]; first | done | rfl) _ W6 hrun7 ?_; have hT6 := TC.out _ h6.bl; refine hK.out _ _ (fun _ => hT6) ?_; clear hK K
         refine M_step 10 rfl (by kernel_rfl) (fun K hK => ?_)
         obtain ⟨vT, W7, hrun10, h7⟩ := h6.appS (c := 1) (h6.X _ rfl).1 (by omega) 23; obtain ⟨cg, ccap, rfl⟩ := own_some (h7.S _ _ _ rfl).1 (h7.S _ _ _ rfl).2; refine step_app_run rfl (.tmp 23) (.tmp 25) 23 rfl _ _ (by simp [Act.eval]; first | done | rfl) (by simp [Act.eval]; first | done | rfl) _ W7 hrun10 ?_; have hT7 := TC.out _ h7.bl; refine hK.out _ _ (fun _ => hT7) ?_; clear hK K
         refine M_take (v := ?_) 11 rfl (by kernel_rfl) (by assumption) (fun _ _ _ h => h) (Or.inl ⟨by rfl, ?_⟩) ?_
         rotate_left
         ·(intro w hSw; (try dsimp only at hSw); go_simp; (try with_reducible rfl))
         (try simp only [Act.put, List.setIfInBounds_toArray, List.set_cons_zero, List.set_cons_succ])
         refine M_step 13 rfl (by kernel_rfl) (fun K hK => ?_)
         have hend := h7.fin rfl hdn1 (by omega) (by omega); obtain ⟨b0, b1, b2, b3⟩ := (h7.D _ rfl).1; have zb := (h7.D _ rfl).1.lt; (try simp only [World.size_alloc, World.size_drew] at b0 b1 b2 b3 zb hend); have HEND := Lib.hid hend; clear hend; go_simp; refine hK.out _ _ (fun e => by cases e) ?_; clear hK K
         refine M_done (by kernel_rfl) ?_ _
         clear hT0 b0 b1 b2 b3 zb
         go_wp2_with fail
         go_meet
         first | exact HEND.out | (have h := HEND.out; rw [set_new2] at h; exact h) | exact wend_drew HEND.out
       ·go_simp; have h4 := h3.allocX; have hT4 := TC.out _ h4.bl; refine hK.out _ _ (fun _ => hT4) ?_; clear hK K
        refine M_step 3 rfl (by kernel_rfl) (fun K hK => ?_)
        obtain ⟨vR, W5, hrun, h5⟩ := h4.appR (c := d.rc) (DD2.out _ h4.bl).1 (by omega) 22; obtain ⟨g, cap, rfl⟩ := own_some (h5.R _ _ _ rfl).1 (h5.R _ _ _ rfl).2; refine step_app_run rfl (.tmp 16) (.tmp 18) 22 rfl _ _ (by simp [Act.eval]; first | done | rfl) (by simp [Act.eval]; first | done | rfl) _ W5 hrun ?_; have hT5 := TC.out _ h5.bl; refine hK.out _ _ (fun _ => hT5) ?_; clear hK K
        refine M_step 7 rfl (by kernel_rfl) (fun K hK => ?_)
        obtain ⟨vS, W6, hrun7, h6⟩ := h5.appS (c := d.sc) (DD2.out _ h5.bl).2 (by omega) 23; rw [Nat.zero_add, List.nil_append] at h6; obtain ⟨g7, cap7, rfl⟩ := own_some (h6.S _ _ _ rfl).1 (h6.S _ _ _ rfl).2; refine step_app_run rfl (.tmp 20) (.tmp 22) 23 rfl _ _ (by simp [Act.eval]; first | done | rfl) (by simp [Act.eval]; first | done | rfl) _ W6 hrun7 ?_; have hT6 := TC.out _ h6.bl; refine hK.out _ _ (fun _ => hT6) ?_; clear hK K
        refine M_step 10 rfl (by kernel_rfl) (fun K hK => ?_)
        obtain ⟨vT, W7, hrun10, h7⟩ := h6.appS (c := 1) (h6.X _ rfl).1 (by omega) 23; obtain ⟨cg, ccap, rfl⟩ := own_some (h7.S _ _ _ rfl).1 (h7.S _ _ _ rfl).2; refine step_app_run rfl (.tmp 23) (.tmp 25) 23 rfl _ _ (by simp [Act.eval]; first | done | rfl) (by simp [Act.eval]; first | done | rfl) _ W7 hrun10 ?_; have hT7 := TC.out _ h7.bl; refine hK.out _ _ (fun _ => hT7) ?_; clear hK K
        refine M_take (v := ?_) 11 rfl (by kernel_rfl) (by assumption) (fun _ _ _ h => h) (Or.inl ⟨by rfl, ?_⟩) ?_
        rotate_left
        ·(intro w hSw; (try dsimp only at hSw); go_simp; (try with_reducible rfl))
        (try simp only [Act.put, List.setIfInBounds_toArray, List.set_cons_zero, List.set_cons_succ])
        refine M_step 13 rfl (by kernel_rfl) (fun K hK => ?_)
        have hend := h7.fin rfl hdn1 (by omega) (by omega); obtain ⟨b0, b1, b2, b3⟩ := (h7.D _ rfl).1; have zb := (h7.D _ rfl).1.lt; (try simp only [World.size_alloc, World.size_drew] at b0 b1 b2 b3 zb hend); have HEND := Lib.hid hend; clear hend; go_simp; refine hK.out _ _ (fun e => by cases e) ?_; clear hK K
        refine M_done (by kernel_rfl) ?_ _
        clear hT0 b0 b1 b2 b3 zb
        go_wp2_with fail
        go_meet
        first | exact HEND.out | (have h := HEND.out; rw [set_new2] at h; exact h) | exact wend_drew HEND.out
      ·go_simp; have h3 := h2.allocX; have hT3 := TC.out _ h3.bl; refine hK.out _ _ (fun _ => hT3) ?_; clear hK K
       refine M_fork 3 4 rfl rfl (by kernel_rfl) (fun K hK => ?_) (fun K hK => ?_)
       ·obtain ⟨vR, W4, hrun, h4⟩ := h3.appR (c := d.rc) (DD2.out _ h3.bl).1 (by omega) 22; obtain ⟨g, cap, rfl⟩ := own_some (h4.R _ _ _ rfl).1 (h4.R _ _ _ rfl).2; refine step_app_run rfl (.tmp 16) (.tmp 18) 22 rfl _ _ (by simp [Act.eval]; first | done | rfl) (by simp [Act.eval]; first | done | rfl) _ W4 hrun ?_; have hT4 := TC.out _ h4.bl; refine hK.out _ _ (fun _ => hT4) ?_; clear hK K
        refine M_step 4 rfl (by kernel_rfl) (fun K hK => ?_)
        go_simp; have h5 := h4.allocS; have hT5 := TC.out _ h5.bl; refine hK.out _ _ (fun _ => hT5) ?_; clear hK K
        refine M_step 7 rfl (by kernel_rfl) (fun K hK => ?_)
        obtain ⟨vS, W6, hrun7, h6⟩ := h5.appS (c := d.sc) (DD2.out _ h5.bl).2 (by omega) 23; rw [Nat.zero_add, List.nil_append] at h6; obtain ⟨g7, cap7, rfl⟩ := own_some (h6.S _ _ _ rfl).1 (h6.S _ _ _ rfl).2; refine step_app_run rfl (.tmp 20) (.tmp 22) 23 rfl _ _ (by simp [Act.eval]; first | done | rfl) (by simp [Act.eval]; first | done | rfl) _ W6 hrun7 ?_; have hT6 := TC.out _ h6.bl; refine hK.out _ _ (fun _ => hT6) ?_; clear hK K
        refine M_step 10 rfl (by kernel_rfl) (fun K hK => ?_)
        obtain ⟨vT, W7, hrun10, h7⟩ := h6.appS (c := 1) (h6.X _ rfl).1 (by omega) 23; obtain ⟨cg, ccap, rfl⟩ := own_some (h7.S _ _ _ rfl).1 (h7.S _ _ _ rfl).2; refine step_app_run rfl (.tmp 23) (.tmp 25) 23 rfl _ _ (by simp [Act.eval]; first | done | rfl) (by simp [Act.eval]; first | done | rfl) _ W7 hrun10 ?_; have hT7 := TC.out _ h7.bl; refine hK.out _ _ (fun _ => hT7) ?_; clear hK K
        refine M_take (v := ?_) 11 rfl (by kernel_rfl) (by assumption) (fun _ _ _ h => h) (Or.inl ⟨by rfl, ?_⟩) ?_
        rotate_left
        ·(intro w hSw; (try dsimp only at hSw); go_simp; (try with_reducible rfl))
        (try simp only [Act.put, List.setIfInBounds_toArray, List.set_cons_zero, List.set_cons_succ])
        refine M_step 13 rfl (by kernel_rfl) (fun K hK => ?_)
        have hend := h7.fin rfl hdn1 (by omega) (by omega); obtain ⟨b0, b1, b2, b3⟩ := (h7.D _ rfl).1; have zb := (h7.D _ rfl).1.lt; (try simp only [World.size_alloc, World.size_drew] at b0 b1 b2 b3 zb hend); have HEND := Lib.hid hend; clear hend; go_simp; refine hK.out _ _ (fun e => by cases e) ?_; clear hK K
        refine M_done (by kernel_rfl) ?_ _
        clear hT0 b0 b1 b2 b3 zb
        go_wp2_with fail
        go_meet
        first | exact HEND.out | (have h := HEND.out; rw [set_new2] at h; exact h) | exact wend_drew HEND.out
       ·go_simp; have h4 := h3.allocS; have hT4 := TC.out _ h4.bl; refine hK.out _ _ (fun _ => hT4) ?_; clear hK K
        refine M_step 3 rfl (by kernel_rfl) (fun K hK => ?_)
        obtain ⟨vR, W5, hrun, h5⟩ := h4.appR (c := d.rc) (DD2.out _ h4.bl).1 (by omega) 22; obtain ⟨g, cap, rfl⟩ := own_some (h5.R _ _ _ rfl).1 (h5.R _ _ _ rfl).2; refine step_app_run rfl (.tmp 16) (.tmp 18) 22 rfl _ _ (by simp [Act.eval]; first | done | rfl) (by simp [Act.eval]; first | done | rfl) _ W5 hrun ?_; have hT5 := TC.out _ h5.bl; refine hK.out _ _ (fun _ => hT5) ?_; clear hK K
        refine M_step 7 rfl (by kernel_rfl) (fun K hK => ?_)
        obtain ⟨vS, W6, hrun7, h6⟩ := h5.appS (c := d.sc) (DD2.out _ h5.bl).2 (by omega) 23; rw [Nat.zero_add, List.nil_append] at h6; obtain ⟨g7, cap7, rfl⟩ := own_some (h6.S _ _ _ rfl).1 (h6.S _ _ _ rfl).2; refine step_app_run rfl (.tmp 20) (.tmp 22) 23 rfl _ _ (by simp [Act.eval]; first | done | rfl) (by simp [Act.eval]; first | done | rfl) _ W6 hrun7 ?_; have hT6 := TC.out _ h6.bl; refine hK.out _ _ (fun _ => hT6) ?_; clear hK K
        refine M_step 10 rfl (by kernel_rfl) (fun K hK => ?_)
        obtain ⟨vT, W7, hrun10, h7⟩ := h6.appS (c := 1) (h6.X _ rfl).1 (by omega) 23; obtain ⟨cg, ccap, rfl⟩ := own_some (h7.S _ _ _ rfl).1 (h7.S _ _ _ rfl).2; refine step_app_run rfl (.tmp 23) (.tmp 25) 23 rfl _ _ (by simp [Act.eval]; first | done | rfl) (by simp [Act.eval]; first | done | rfl) _ W7 hrun10 ?_; have hT7 := TC.out _ h7.bl; refine hK.out _ _ (fun _ => hT7) ?_; clear hK K
        refine M_take (v := ?_) 11 rfl (by kernel_rfl) (by assumption) (fun _ _ _ h => h) (Or.inl ⟨by rfl, ?_⟩) ?_
        rotate_left
        ·(intro w hSw; (try dsimp only at hSw); go_simp; (try with_reducible rfl))
        (try simp only [Act.put, List.setIfInBounds_toArray, List.set_cons_zero, List.set_cons_succ])
        refine M_step 13 rfl (by kernel_rfl) (fun K hK => ?_)
        have hend := h7.fin rfl hdn1 (by omega) (by omega); obtain ⟨b0, b1, b2, b3⟩ := (h7.D _ rfl).1; have zb := (h7.D _ rfl).1.lt; (try simp only [World.size_alloc, World.size_drew] at b0 b1 b2 b3 zb hend); have HEND := Lib.hid hend; clear hend; go_simp; refine hK.out _ _ (fun e => by cases e) ?_; clear hK K
        refine M_done (by kernel_rfl) ?_ _
        clear hT0 b0 b1 b2 b3 zb
        go_wp2_with fail
        go_meet
        first | exact HEND.out | (have h := HEND.out; rw [set_new2] at h; exact h) | exact wend_drew HEND.out
    ·go_simp; have h1 := h0.allocS; have hT1 := TC.out _ h1.bl; refine hK.out _ _ (fun _ => hT1) ?_; clear hK K
     refine M_fork3 0 9 12 rfl rfl rfl (by kernel_rfl) (fun K hK => ?_) (fun K hK => ?_) (fun K hK => ?_)
     ·go_simp; have h2 := h1.allocR; have hT2 := TC.out _ h2.bl; refine hK.out _ _ (fun _ => hT2) ?_; clear hK K
      refine M_fork3 3 9 12 rfl rfl rfl (by kernel_rfl) (fun K hK => ?_) (fun K hK => ?_) (fun K hK => ?_)
      ·obtain ⟨vR, W3, hrun, h3⟩ := h2.appR (c := d.rc) (DD2.out _ h2.bl).1 (by omega) 22; obtain ⟨g, cap, rfl⟩ := own_some (h3.R _ _ _ rfl).1 (h3.R _ _ _ rfl).2; refine step_app_run rfl (.tmp 16) (.tmp 18) 22 rfl _ _ (by simp [Act.eval]; first | done | rfl) (by simp [Act.eval]; first | done | rfl) _ W3 hrun ?_; have hT3 := TC.out _ h3.bl; refine hK.out _ _ (fun _ => hT3) ?_; clear hK K
       refine M_fork3 7 9 12 rfl rfl rfl (by kernel_rfl) (fun K hK => ?_) (fun K hK => ?_) (fun K hK => ?_)
       ·obtain ⟨vS, W4, hrun7, h4⟩ := h3.appS (c := d.sc) (DD2.out _ h3.bl).2 (by omega) 23; rw [Nat.zero_add, List.nil_append] at h4; obtain ⟨g7, cap7, rfl⟩ := own_some (h4.S _ _ _ rfl).1 (h4.S _ _ _ rfl).2; refine step_app_run rfl (.tmp 20) (.tmp 22) 23 rfl _ _ (by simp [Act.eval]; first | done | rfl) (by simp [Act.eval]; first | done | rfl) _ W4 hrun7 ?_; have hT4 := TC.out _ h4.bl; refine hK.out _ _ (fun _ => hT4) ?_; clear hK K
        refine M_fork 9 12 rfl rfl (by kernel_rfl) (fun K hK => ?_) (fun K hK => ?_)
        ·go_simp; have h5 := h4.allocX; have hT5 := TC.out _ h5.bl; refine hK.out _ _ (fun _ => hT5) ?_; clear hK K
         refine M_fork 10 12 rfl rfl (by kernel_rfl) (fun K hK => ?_) (fun K hK => ?_)
         ·obtain ⟨vT, W6, hrun10, h6⟩ := h5.appS (c := 1) (h5.X _ rfl).1 (by omega) 23; obtain ⟨cg, ccap, rfl⟩ := own_some (h6.S _ _ _ rfl).1 (h6.S _ _ _ rfl).2; refine step_app_run rfl (.tmp 23) (.tmp 25) 23 rfl _ _ (by simp [Act.eval]; first | done | rfl) (by simp [Act.eval]; first | done | rfl) _ W6 hrun10 ?_; have hT6 := TC.out _ h6.bl; refine hK.out _ _ (fun _ => hT6) ?_; clear hK K
          refine M_take (v := ?_) 11 rfl (by kernel_rfl) (by assumption) (fun _ _ _ h => h) (Or.inl ⟨by rfl, ?_⟩) ?_
          rotate_left
          ·(intro w hSw; (try dsimp only at hSw); go_simp; (try with_reducible rfl))
          (try simp only [Act.put, List.setIfInBounds_toArray, List.set_cons_zero, List.set_cons_succ])
          refine M_step 12 rfl (by kernel_rfl) (fun K hK => ?_)
          go_simp; have h7 := h6.allocD; have hT7 := TC.out _ h7.bl; refine hK.out _ _ (fun _ => hT7) ?_; clear hK K
          refine M_step 13 rfl (by kernel_rfl) (fun K hK => ?_)
          have hend := h7.fin rfl hdn1 (by omega) (by omega); obtain ⟨b0, b1, b2, b3⟩ := (h7.D _ rfl).1; have zb := (h7.D _ rfl).1.lt; (try simp only [World.size_alloc, World.size_drew] at b0 b1 b2 b3 zb hend); have HEND := Lib.hid hend; clear hend; go_simp; refine hK.out _ _ (fun e => by cases e) ?_; clear hK K
          refine M_done (by kernel_rfl) ?_ _
          clear hT0 b0 b1 b2 b3 zb
          go_wp2_with fail
          go_meet
          first | exact HEND.out | (have h := HEND.out; rw [set_new2] at h; exact h) | exact wend_drew HEND.out
         ·go_simp; have h6 := h5.allocD; have hT6 := TC.out _ h6.bl; refine hK.out _ _ (fun _ => hT6) ?_; clear hK K
          refine M_step 10 rfl (by kernel_rfl) (fun K hK => ?_)
          obtain ⟨vT, W7, hrun10, h7⟩ := h6.appS (c := 1) (h6.X _ rfl).1 (by omega) 23; obtain ⟨cg, ccap, rfl⟩ := own_some (h7.S _ _ _ rfl).1 (h7.S _ _ _ rfl).2; refine step_app_run rfl (.tmp 23) (.tmp 25) 23 rfl _ _ (by simp [Act.eval]; first | done | rfl) (by simp [Act.eval]; first | done | rfl) _ W7 hrun10 ?_; have hT7 := TC.out _ h7.bl; refine hK.out _ _ (fun _ => hT7) ?_; clear hK K
          refine M_take (v := ?_) 11 rfl (by kernel_rfl) (by assumption) (fun _ _ _ h => h) (Or.inl ⟨by rfl, ?_⟩) ?_
          rotate_left
          ·(intro w hSw; (try dsimp only at hSw); go_simp; (try with_reducible rfl))
          (try simp only [Act.put, List.setIfInBounds_toArray, List.set_cons_zero, List.set_cons_succ])
          refine M_step 13 rfl (by kernel_rfl) (fun K hK => ?_)
          have hend := h7.fin rfl hdn1 (by omega) (by omega); obtain ⟨b0, b1, b2, b3⟩ := (h7.D _ rfl).1; have zb := (h7.D _ rfl).1.lt; (try simp only [World.size_alloc, World.size_drew] at b0 b1 b2 b3 zb hend); have HEND := Lib.hid hend; clear hend; go_simp; refine hK.out _ _ (fun e => by cases e) ?_; clear hK K
          refine M_done (by kernel_rfl) ?_ _
          clear hT0 b0 b1 b2 b3 zb
          go_wp2_with fail
          go_meet
          first | exact HEND.out | (have h := HEND.out; rw [set_new2] at h; exact h) | exact wend_drew HEND.out
        ·go_simp; have h5 := h4.allocD; have hT5 := TC.out _ h5.bl; refine hK.out _ _ (fun _ => hT5) ?_; clear hK K
         refine M_step 9 rfl (by kernel_rfl) (fun K hK => ?_)
         go_simp; have h6 := h5.allocX; have hT6 := TC.out _ h6.bl; refine hK.out _ _ (fun _ => hT6) ?_; clear hK K
         refine M_step 10 rfl (by kernel_rfl) (fun K hK => ?_)
         obtain ⟨vT, W7, hrun10, h7⟩ := h6.appS (c := 1) (h6.X _ rfl).1 (by omega) 23; obtain ⟨cg, ccap, rfl⟩ := own_some (h7.S _ _ _ rfl).1 (h7.S _ _ _ rfl).2; refine step_app_run rfl (.tmp 23) (.tmp 25) 23 rfl _ _ (by simp [Act.eval]; first | done | rfl) (by simp [Act.eval]; first | done | rfl) _ W7 hrun10 ?_; have hT7 := TC.out _ h7.bl; refine hK.out _ _ (fun _ => hT7) ?_; clear hK K
         refine M_take (v := ?_) 11 rfl (by kernel_rfl) (by assumption) (fun _ _ _ h => h) (Or.inl ⟨by rfl, ?_⟩) ?_
         rotate_left
         ·(intro w hSw; (try dsimp only at hSw); go_simp; (try with_reducible rfl))
         (try simp only [Act.put, List.setIfInBounds_toArray, List.set_cons_zero, List.set_cons_succ])
         refine M_step 13 rfl (by kernel_rfl) (fun K hK => ?_)
         have hend := h7.fin rfl hdn1 (by omega) (by omega); obtain ⟨b0, b1, b2, b3⟩ := (h7.D _ rfl).1; have zb := (h7.D _ rfl).1.lt; (try simp only [World.size_alloc, World.size_drew] at b0 b1 b2 b3 zb hend); have HEND := Lib.hid hend; clear hend; go_simp; refine hK.out _ _ (fun e => by cases e) ?_; clear hK K
         refine M_done (by kernel_rfl) ?_ _
         clear hT0 b0 b1 b2 b3 zb
         go_wp2_with fail
         go_meet
         first | exact HEND.out | (have h := HEND.out; rw [set_new2] at h; exact h) | exact wend_drew HEND.out
       ·go_simp; have h4 := h3.allocX; have hT4 := TC.out _ h4.bl; refine hK.out _ _ (fun _ => hT4) ?_; clear hK K
        refine M_fork 7 12 rfl rfl (by kernel_rfl) (fun K hK => ?_) (fun K hK => ?_)
        ·obtain ⟨vS, W5, hrun7, h5⟩ := h4.appS (c := d.sc) (DD2.out _ h4.bl).2 (by omega) 23; rw [Nat.zero_add, List.nil_append] at h5; obtain ⟨g7, cap7, rfl⟩ := own_some (h5.S _ _ _ rfl).1 (h5.S _ _ _ rfl).2; refine step_app_run rfl (.tmp 20) (.tmp 22) 23 rfl _ _ (by simp [Act.eval]; first | done | rfl) (by simp [Act.eval]; first | done | rfl) _ W5 hrun7 ?_; have hT5 := TC.out _ h5.bl; refine hK.out _ _ (fun _ => hT5) ?_; clear hK K
         refine M_fork 10 12 rfl rfl (by kernel_rfl) (fun K hK => ?_) (fun K hK => ?_)
         ·obtain ⟨vT, W6, hrun10, h6⟩ := h5.appS (c := 1) (h5.X _ rfl).1 (by omega) 23; obtain ⟨cg, ccap, rfl⟩ := own_some (h6.S _ _ _ rfl).1 (h6.S _ _ _ rfl).2; refine step_app_run rfl (.tmp 23) (.tmp 25) 23 rfl _ _ (by simp [Act.eval]; first | done | rfl) (by simp [Act.eval]; first | done | rfl) _ W6 hrun10 ?_; have hT6 := TC.out _ h6.bl; refine hK.out _ _ (fun _ => hT6) ?_; clear hK K
          refine M_take (v := ?_) 11 rfl (by kernel_rfl) (by assumption) (fun _ _ _ h => h) (Or.inl ⟨by rfl, ?_⟩) ?_
          rotate_left
          ·(intro w hSw; (try dsimp only at hSw); go_simp; (try with_reducible rfl))
          (try simp only [Act.put, List.setIfInBounds_toArray, List.set_cons_zero, List.set_cons_succ])
          refine M_step 12 rfl (by kernel_rfl) (fun K hK => ?_)
          go_simp; have h7 := h6.allocD; have hT7 := TC.out _ h7.bl; refine hK.out _ _ (fun _ => hT7) ?_; clear hK K
          refine M_step 13 rfl (by kernel_rfl) (fun K hK => ?_)
          have hend := h7.fin rfl hdn1 (by omega) (by omega); obtain ⟨b0, b1, b2, b3⟩ := (h7.D _ rfl).1; have zb := (h7.D _ rfl).1.lt; (try simp only [World.size_alloc, World.size_drew] at b0 b1 b2 b3 zb hend); have HEND := Lib.hid hend; clear hend; go_simp; refine hK.out _ _ (fun e => by cases e) ?_; clear hK K
          refine M_done (by kernel_rfl) ?_ _
          clear hT0 b0 b1 b2 b3 zb
          go_wp2_with fail
          go_meet
          first | exact HEND.out | (have h := HEND.out; rw [set_new2] at h; exact h) | exact wend_drew HEND.out
         ·go_simp; have h6 := h5.allocD; have hT6 := TC.out _ h6.bl; refine hK.out _ _ (fun _ => hT6) ?_; clear hK K
          refine M_step 10 rfl (by kernel_rfl) (fun K hK => ?_)
          obtain ⟨vT, W7, hrun10, h7⟩ := h6.appS (c := 1) (h6.X _ rfl).1 (by omega) 23; obtain ⟨cg, ccap, rfl⟩ := own_some (h7.S _ _ _ rfl).1 (h7.S _ _ _ rfl).2; refine step_app_run rfl (.tmp 23) (.tmp 25) 23 rfl _ _ (by simp [Act.eval]; first | done | rfl) (by simp [Act.eval]; first | done | rfl) _ W7 hrun10 ?_; have hT7 := TC.out _ h7.bl; refine hK.out _ _ (fun _ => hT7) ?_; clear hK K
          refine M_take (v := ?_) 11 rfl (by kernel_rfl) (by assumption) (fun _ _ _ h => h) (Or.inl ⟨by rfl, ?_⟩) ?_
          rotate_left
          ·(intro w hSw; (try dsimp only at hSw); go_simp; (try with_reducible rfl))
          (try simp only [Act.put, List.setIfInBounds_toArray, List.set_cons_zero, List.set_cons_succ])
          refine M_step 13 rfl (by kernel_rfl) (fun K hK => ?_)
          have hend := h7.fin rfl hdn1 (by omega) (by omega); obtain ⟨b0, b1, b2, b3⟩ := (h7.D _ rfl).1; have zb := (h7.D _ rfl).1.lt; (try simp only [World.size_alloc, World.size_drew] at b0 b1 b2 b3 zb hend); have HEND := Lib.hid hend; clear hend; go_simp; refine hK.out _ _ (fun e => by cases e) ?_; clear hK K
          refine M_done (by kernel_rfl) ?_ _
          clear hT0 b0 b1 b2 b3 zb
          go_wp2_with fail
          go_meet
          first | exact HEND.out | (have h := HEND.out; rw [set_new2] at h; exact h) | exact wend_drew HEND.out
        ·go_simp; have h5 := h4.allocD; have hT5 := TC.out _ h5.bl; refine hK.out _ _ (fun _ => hT5) ?_; clear hK K
         refine M_step 7 rfl (by kernel_rfl) (fun K hK => ?_)
         obtain ⟨vS, W6, hrun7, h6⟩ := h5.appS (c := d.sc) (DD2.out _ h5.bl).2 (by omega) 23; rw [Nat.zero_add, List.nil_append] at h6; obtain ⟨g7, cap7, rfl⟩ := own_some (h6.S _ _ _ rfl).1 (h6.S _ _ _ rfl).2; refine step_app_run rfl (.tmp 20) (.tmp 22) 23 rfl _ _ (by simp [Act.eval]; first | done | rfl) (by simp [Act.eval]; first | done | rfl) _ W6 hrun7 ?_; have hT6 := TC.out _ h6.bl; refine hK.out _ _ (fun _ => hT6) ?_; clear hK K
         refine M_step 10 rfl (by kernel_rfl) (fun K hK => ?_)
         obtain ⟨vT, W7, hrun10, h7⟩ := h6.appS (c := 1) (h6.X _ rfl).1 (by omega) 23; obtain ⟨cg, ccap, rfl⟩ := own_some (h7.S _ _ _ rfl).1 (h7.S _ _ _ rfl).2; refine step_app_run rfl (.tmp 23) (.tmp 25) 23 rfl _ _ (by simp [Act.eval]; first | done | rfl) (by simp [Act.eval]; first | done | rfl) _ W7 hrun10 ?_; have hT7 := TC.out _ h7.bl; refine hK.out _ _ (fun _ => hT7) ?_; clear hK K
         refine M_take (v := ?_) 11 rfl (by kernel_rfl) (by assumption) (fun _ _ _ h => h) (Or.inl ⟨by rfl, ?_⟩) ?_
         rotate_left
         ·(intro w hSw; (try dsimp only at hSw); go_simp; (try with_reducible rfl))
         (try simp only [Act.put, List.setIfInBounds_toArray, List.set_cons_zero, List.set_cons_succ])
         refine M_step 13 rfl (by kernel_rfl) (fun K hK => ?_)
         have hend := h7.fin rfl hdn1 (by omega) (by omega); obtain ⟨b0, b1, b2, b3⟩ := (h7.D _ rfl).1; have zb := (h7.D _ rfl).1.lt; (try simp only [World.size_alloc, World.size_drew] at b0 b1 b2 b3 zb hend); have HEND := Lib.hid hend; clear hend; go_simp; refine hK.out _ _ (fun e => by cases e) ?_; clear hK K
         refine M_done (by kernel_rfl) ?_ _
         clear hT0 b0 b1 b2 b3 zb
         go_wp2_with fail
         go_meet
         first | exact HEND.out | (have h := HEND.out; rw [set_new2] at h; exact h) | exact wend_drew HEND.out
       ·go_simp; have h4 := h3.allocD; have hT4 := TC.out _ h4.bl; refine hK.out _ _ (fun _ => hT4) ?_; clear hK K
        refine M_fork 7 9 rfl rfl (by kernel_rfl) (fun K hK => ?_) (fun K hK => ?_)
        ·obtain ⟨vS, W5, hrun7, h5⟩ := h4.appS (c := d.sc) (DD2.out _ h4.bl).2 (by omega) 23; rw [Nat.zero_add, List.nil_append] at h5; obtain ⟨g7, cap7, rfl⟩ := own_some (h5.S _ _ _ rfl).1 (h5.S _ _ _ rfl).2; refine step_app_run rfl (.tmp 20) (.tmp 22) 23 rfl _ _ (by simp [Act.eval]; first | done | rfl) (by simp [Act.eval]; first | done | rfl) _ W5 hrun7 ?_; have hT5 := TC.out _ h5.bl; refine hK.out _ _ (fun _ => hT5) ?_; clear hK K
         refine M_step 9 rfl (by kernel_rfl) (fun K hK => ?_)
         go_simp; have h6 := h5.allocX; have hT6 := TC.out _ h6.bl; refine hK.out _ _ (fun _ => hT6) ?_; clear hK K
         refine M_step 10 rfl (by kernel_rfl) (fun K hK => ?_)
         obtain ⟨vT, W7, hrun10, h7⟩ := h6.appS (c := 1) (h6.X _ rfl).1 (by omega) 23; obtain ⟨cg, ccap, rfl⟩ := own_some (h7.S _ _ _ rfl).1 (h7.S _ _ _ rfl).2; refine step_app_run rfl (.tmp 23) (.tmp 25) 23 rfl _ _ (by simp [Act.eval]; first | done | rfl) (by simp [Act.eval]; first | done | rfl) _ W7 hrun10 ?_; have hT7 := TC.out _ h7.bl; refine hK.out _ _ (fun _ => hT7) ?_; clear hK K
         refine M_take (v := ?_) 11 rfl (by kernel_rfl) (by assumption) (fun _ _ _ h => h) (Or.inl ⟨by rfl, ?_⟩) ?_
         rotate_left
         ·(intro w hSw; (try dsimp only at hSw); go_simp; (try with_reducible rfl))
         (try simp only [Act.put, List.setIfInBounds_toArray, List.set_cons_zero, List.set_cons_succ])
         refine M_step 13 rfl (by kernel_rfl) (fun K hK => ?_)
         have hend := h7.fin rfl hdn1 (by omega) (by omega); obtain ⟨b0, b1, b2, b3⟩ := (h7.D _ rfl).1; have zb := (h7.D _ rfl).1.lt; (try simp only [World.size_alloc, World.size_drew] at b0 b1 b2 b3 zb hend); have HEND := Lib.hid hend; clear hend; go_simp; refine hK.out _ _ (fun e => by cases e) ?_; clear hK K
         refine M_done (by kernel_rfl) ?_ _
         clear hT0 b0 b1 b2 b3 zb
         go_wp2_with fail
         go_meet
         first | exact HEND.out | (have h := HEND.out; rw [set_new2] at h; exact h) | exact wend_drew HEND.out
        ·go_simp; have h5 := h4.allocX; have hT5 := TC.out _ h5.bl; refine hK.out _ _ (fun _ => hT5) ?_; clear hK K
         refine M_step 7 rfl (by kernel_rfl) (fun K hK => ?_)
         obtain ⟨vS, W6, hrun7, h6⟩ := h5.appS (c := d.sc) (DD2.out _ h5.bl).2 (by omega) 23; rw [Nat.zero_add, List.nil_append] at h6; obtain ⟨g7, cap7, rfl⟩ := own_some (h6.S _ _ _ rfl).1 (h6.S _ _ _ rfl).2; refine step_app_run rfl (.tmp 20) (.tmp 22) 23 rfl _ _ (by simp [Act.eval]; first | done | rfl) (by simp [Act.eval]; first | done | rfl) _ W6 hrun7 ?_; have hT6 := TC.out _ h6.bl; refine hK.out _ _ (fun _ => hT6) ?_; clear hK K
         refine M_step 10 rfl (by kernel_rfl) (fun K hK => ?_)
         obtain ⟨vT, W7, hrun10, h7⟩ := h6.appS (c := 1) (h6.X _ rfl).1 (by omega) 23; obtain ⟨cg, ccap, rfl⟩ := own_some (h7.S _ _ _ rfl).1 (h7.S _ _ _ rfl).2; refine step_app_run rfl (.tmp 23) (.tmp 25) 23 rfl _ _ (by simp [Act.eval]; first | done | rfl) (by simp [Act.eval]; first | done | rfl) _ W7 hrun10 ?_; have hT7 := TC.out _ h7.bl; refine hK.out _ _ (fun _ => hT7) ?_; clear hK K
         refine M_take (v := ?_) 11 rfl (by kernel_rfl) (by assumption) (fun _ _ _ h => h) (Or.inl ⟨by rfl, ?_⟩) ?_
         rotate_left
         ·(intro w hSw; (try dsimp only at hSw); go_simp; (try with_reducible rfl))
         (try simp only [Act.put, List.setIfInBounds_toArray, List.set_cons_zero, List.set_cons_succ])
         refine M_step 13 rfl (by kernel_rfl) (fun K hK => ?_)
         have hend := h7.fin rfl hdn1 (by omega) (by omega); obtain ⟨b0, b1, b2, b3⟩ := (h7.D _ rfl).1; have zb := (h7.D _ rfl).1.lt; (try simp only [World.size_alloc, World.size_drew] at b0 b1 b2 b3 zb hend); have HEND := Lib.hid hend; clear hend; go_simp; refine hK.out _ _ (fun e => by cases e) ?_; clear hK K
         refine M_done (by kernel_rfl) ?_ _
         clear hT0 b0 b1 b2 b3 zb
         go_wp2_with fail
         go_meet
         first | exact HEND.out | (have h := HEND.out; rw [set_new2] at h; exact h) | exact wend_drew HEND.out
      ·go_simp; have h3 := h2.allocX; have hT3 := TC.out _ h3.bl; refine hK.out _ _ (fun _ => hT3) ?_; clear hK K
       refine M_fork 3 12 rfl rfl (by kernel_rfl) (fun K hK => ?_) (fun K hK => ?_)
       ·obtain ⟨vR, W4, hrun, h4⟩ := h3.appR (c := d.rc) (DD2.out _ h3.bl).1 (by omega) 22; obtain ⟨g, cap, rfl⟩ := own_some (h4.R _ _ _ rfl).1 (h4.R _ _ _ rfl).2; refine step_app_run rfl (.tmp 16) (.tmp 18) 22 rfl _ _ (by simp [Act.eval]; first | done | rfl) (by simp [Act.eval]; first | done | rfl) _ W4 hrun ?_; have hT4 := TC.out _ h4.bl; refine hK.out _ _ (fun _ => hT4) ?_; clear hK K
        refine M_fork 7 12 rfl rfl (by kernel_rfl) (fun K hK => ?_) (fun K hK => ?_)
        ·obtain ⟨vS, W5, hrun7, h5⟩ := h4.appS (c := d.sc) (DD2.out _ h4.bl).2 (by omega) 23; rw [Nat.zero_add, List.nil_append] at h5; obtain ⟨g7, cap7, rfl⟩ := own_some (h5.S _ _ _ rfl).1 (h5.S _ _ _ rfl).2; refine step_app_run rfl (.tmp 20) (.tmp 22) 23 rfl _ _ (by simp [Act.eval]; first | done | rfl) (by simp [Act.eval]; first | done | rfl) _ W5 hrun7 ?_; have hT5 := TC.out _ h5.bl; refine hK.out _ _ (fun _ => hT5) ?_; clear hK K
         refine M_fork 10 12 rfl rfl (by kernel_rfl) (fun K hK => ?_) (fun K hK => ?_)
         ·obtain ⟨vT, W6, hrun10, h6⟩ := h5.appS (c := 1) (h5.X _ rfl).1 (by omega) 23; obtain ⟨cg, ccap, rfl⟩ := own_some (h6.S _ _ _ rfl).1 (h6.S _ _ _ rfl).2; refine step_app_run rfl (.tmp 23) (.tmp 25) 23 rfl _ _ (by simp [Act.eval]; first | done | rfl) (by simp [Act.eval]; first | done | rfl) _ W6 hrun10 ?_; have hT6 := TC.out _ h6.bl; refine hK.out _ _ (fun _ => hT6) ?_; clear hK K
          refine M_take (v := ?_) 11 rfl (by kernel_rfl) (by assumption) (fun _ _ _ h => h) (Or.inl ⟨by rfl, ?_⟩) ?_
          rotate_left
          ·(intro w hSw; (try dsimp only at hSw); go_simp; (try with_reducible rfl))
          (try simp only [Act.put, List.setIfInBounds_toArray, List.set_cons_zero, List.set_cons_succ])
          refine M_step 12 rfl (by kernel_rfl) (fun K hK => ?_)
          go_simp; have h7 := h6.allocD; have hT7 := TC.out _ h7.bl; refine hK.out _ _ (fun _ => hT7) ?_; clear hK K
          refine M_step 13 rfl (by kernel_rfl) (fun K hK => ?_)
          have hend := h7.fin rfl hdn1 (by omega) (by omega); obtain ⟨b0, b1, b2, b3⟩ := (h7.D _ rfl).1; have zb := (h7.D _ rfl).1.lt; (try simp only [World.size_alloc, World.size_drew] at b0 b1 b2 b3 zb hend); have HEND := Lib.hid hend; clear hend; go_simp; refine hK.out _ _ (fun e => by cases e) ?_; clear hK K
          refine M_done (by kernel_rfl) ?_ _
          clear hT0 b0 b1 b2 b3 zb
          go_wp2_with fail
          go_meet
          first | exact HEND.out | (have h := HEND.out; rw [set_new2] at h; exact h) | exact wend_drew HEND.out
         ·go_simp; have h6 := h5.allocD; have hT6 := TC.out _ h6.bl; refine hK.out _ _ (fun _ => hT6) ?_; clear hK K
          refine M_step 10 rfl (by kernel_rfl) (fun K hK => ?_)
          obtain ⟨vT, W7, hrun10, h7⟩ := h6.appS (c := 1) (h6.X _ rfl).1 (by omega) 23; obtain ⟨cg, ccap, rfl⟩ := own_some (h7.S _ _ _ rfl).1 (h7.S _ _ _ rfl).2; refine step_app_run rfl (.tmp 23) (.tmp 25) 23 rfl _ _ (by simp [Act.eval]; first | done | rfl) (by simp [Act.eval]; first | done | rfl) _ W7 hrun10 ?_; have hT7 := TC.out _ h7.bl; refine hK.out _ _ (fun _ => hT7) ?_; clear hK K
          refine M_take (v := ?_) 11 rfl (by kernel_rfl) (by assumption) (fun _ _ _ h => h) (Or.inl ⟨by rfl, ?_⟩) ?_
          rotate_left
          ·(intro w hSw; (try dsimp only at hSw); go_simp; (try with_reducible rfl))
          (try simp only [Act.put, List.setIfInBounds_toArray, List.set_cons_zero, List.set_cons_succ])
          refine M_step 13 rfl (by kernel_rfl) (fun K hK => ?_)
          have hend := h7.fin rfl hdn1 (by omega) (by omega); obtain ⟨b0, b1, b2, b3⟩ := (h7.D _ rfl).1; have zb := (h7.D _ rfl).1.lt; (try simp only [World.size_alloc, World.size_drew] at b0 b1 b2 b3 zb hend); have HEND := Lib.hid hend; clear hend; go_simp; refine hK.out _ _ (fun e => by cases e) ?_; clear hK K
          refine M_done (by kernel_rfl) ?_ _
          clear hT0 b0 b1 b2 b3 zb
          go_wp2_with fail
          go_meet
          first | exact HEND.out | (have h := HEND.out; rw [set_new2] at h; exact h) | exact wend_drew HEND.out
        ·go_simp; have h5 := h4.allocD; have hT5 := TC.out _ h5.bl; refine hK.out _ _ (fun _ => hT5) ?_; clear hK K
         refine M_step 7 rfl (by kernel_rfl) (fun K hK => ?_)
         obtain ⟨vS, W6, hrun7, h6⟩ := h5.appS (c := d.sc) (DD2.out _ h5.bl).2 (by omega) 23; rw [Nat.zero_add, List.nil_append] at h6; obtain ⟨g7, cap7, rfl⟩ := own_some (h6.S _ _ _ rfl).1 (h6.S _ _ _ rfl).2; refine step_app_run rfl (.tmp 20) (.tmp 22) 23 rfl _ _ (by simp [Act.eval]; first | done | rfl) (by simp [Act.eval]; first | done | rfl) _ W6 hrun7 ?_; have hT6 := TC.out _ h6.bl; refine hK.out _ _ (fun _ => hT6) ?_; clear hK K
         refine M_step 10 rfl (by kernel_rfl) (fun K hK => ?_)
         obtain ⟨vT, W7, hrun10, h7⟩ := h6.appS (c := 1) (h6.X _ rfl).1 (by omega) 23; obtain ⟨cg, ccap, rfl⟩ := own_some (h7.S _ _ _ rfl).1 (h7.S _ _ _ rfl).2; refine step_app_run rfl (.tmp 23) (.tmp 25) 23 rfl _ _ (by simp [Act.eval]; first | done | rfl) (by simp [Act.eval]; first | done | rfl) _ W7 hrun10 ?_; have hT7 := TC.out _ h7.bl; refine hK.out _ _ (fun _ => hT7) ?_; clear hK K
         refine M_take (v := ?_) 11 rfl (by kernel_rfl) (by assumption) (fun _ _ _ h => h) (Or.inl ⟨by rfl, ?_⟩) ?_
         rotate_left
         ·(intro w hSw; (try dsimp only at hSw); go_simp; (try with_reducible rfl))
         (try simp only [Act.put, List.setIfInBounds_toArray, List.set_cons_zero, List.set_cons_succ])
         refine M_step 13 rfl (by kernel_rfl) (fun K hK => ?_)
         have hend := h7.fin rfl hdn1 (by omega) (by omega); obtain ⟨b0, b1, b2, b3⟩ := (h7.D _ rfl).1; have zb := (h7.D _ rfl).1.lt; (try simp only [World.size_alloc, World.size_drew] at b0 b1 b2 b3 zb hend); have HEND := Lib.hid hend; clear hend; go_simp; refine hK.out _ _ (fun e => by cases e) ?_; clear hK K
         refine M_done (by kernel_rfl) ?_ _
         clear hT0 b0 b1 b2 b3 zb
         go_wp2_with fail
         go_meet
         first | exact HEND.out | (have h := HEND.out; rw [set_new2] at h; exact h) | exact wend_drew HEND.out
       ·go_simp; have h4 := h3.allocD; have hT4 := TC.out _ h4.bl; refine hK.out _ _ (fun _ => hT4) ?_; clear hK K
        refine M_step 3 rfl (by kernel_rfl) (fun K hK => ?_)
        obtain ⟨vR, W5, hrun, h5⟩ := h4.appR (c := d.rc) (DD2.out _ h4.bl).1 (by omega) 22; obtain ⟨g, cap, rfl⟩ := own_some (h5.R _ _ _ rfl).1 (h5.R _ _ _ rfl).2; refine step_app_run rfl (.tmp 16) (.tmp 18) 22 rfl _ _ (by simp [Act.eval]; first | done | rfl) (by simp [Act.eval]; first | done | rfl) _ W5 hrun ?_; have hT5 := TC.out _ h5.bl; refine hK.out _ _ (fun _ => hT5) ?_; clear hK K
        refine M_step 7 rfl (by kernel_rfl) (fun K hK => ?_)
        obtain ⟨vS, W6, hrun7, h6⟩ := h5.appS (c := d.sc) (DD2.out _ h5.bl).2 (by omega) 23; rw [Nat.zero_add, List.nil_append] at h6; obtain ⟨g7, cap7, rfl⟩ := own_some (h6.S _ _ _ rfl).1 (h6.S _ _ _ rfl).2; refine step_app_run rfl (.tmp 20) (.tmp 22) 23 rfl _ _ (by simp [Act.eval]; first | done | rfl) (by simp [Act.eval]; first | done | rfl) _ W6 hrun7 ?_; have hT6 := TC.out _ h6.bl; refine hK.out _ _ (fun _ => hT6) ?_; clear hK K
        refine M_step 10 rfl (by kernel_rfl) (fun K hK => ?_)
        obtain ⟨vT, W7, hrun10, h7⟩ := h6.appS (c := 1) (h6.X _ rfl).1 (by omega) 23; obtain ⟨cg, ccap, rfl⟩ := own_some (h7.S _ _ _ rfl).1 (h7.S _ _ _ rfl).2; refine step_app_run rfl (.tmp 23) (.tmp 25) 23 rfl _ _ (by simp [Act.eval]; first | done | rfl) (by simp [Act.eval]; first | done | rfl) _ W7 hrun10 ?_; have hT7 := TC.out _ h7.bl; refine hK.out _ _ (fun _ => hT7) ?_; clear hK K
        refine M_take (v := ?_) 11 rfl (by kernel_rfl) (by assumption) (fun _ _ _ h => h) (Or.inl ⟨by rfl, ?_⟩) ?_
        rotate_left
        ·(intro w hSw; (try dsimp only at hSw); go_simp; (try with_reducible rfl))
        (try simp only [Act.put, List.setIfInBounds_toArray, List.set_cons_zero, List.set_cons_succ])
        refine M_step 13 rfl (by kernel_rfl) (fun K hK => ?_)
        have hend := h7.fin rfl hdn1 (by omega) (by omega); obtain ⟨b0, b1, b2, b3⟩ := (h7.D _ rfl).1; have zb := (h7.D _ rfl).1.lt; (try simp only [World.size_alloc, World.size_drew] at b0 b1 b2 b3 zb hend); have HEND := Lib.hid hend; clear hend; go_simp; refine hK.out _ _ (fun e => by cases e) ?_; clear hK K
        refine M_done (by kernel_rfl) ?_ _
        clear hT0 b0 b1 b2 b3 zb
        go_wp2_with fail
        go_meet
        first | exact HEND.out | (have h := HEND.out; rw [set_new2] at h; exact h) | exact wend_drew HEND.out
      ·go_simp; have h3 := h2.allocD; have hT3 := TC.out _ h3.bl; refine hK.out _ _ (fun _ => hT3) ?_; clear hK K
       refine M_fork 3 9 rfl rfl (by kernel_rfl) (fun K hK => ?_) (fun K hK => ?_)
       ·obtain ⟨vR, W4, hrun, h4⟩ := h3.appR (c := d.rc) (DD2.out _ h3.bl).1 (by omega) 22; obtain ⟨g, cap, rfl⟩ := own_some (h4.R _ _ _ rfl).1 (h4.R _ _ _ rfl).2; refine step_app_run rfl (.tmp 16) (.tmp 18) 22 rfl _ _ (by simp [Act.eval]; first | done | rfl) (by simp [Act.eval]; first | done | rfl) _ W4 hrun ?_; have hT4 := TC.out _ h4.bl; refine hK.out _ _ (fun _ => hT4) ?_; clear hK K
        refine M_fork 7 9 rfl rfl (by kernel_rfl) (fun K hK => ?_) (fun K hK => ?_)
        ·obtain ⟨vS, W5, hrun7, h5⟩ := h4.appS (c := d.sc) (DD2.out _ h4.bl).2 (by omega) 23; rw [Nat.zero_add, List.nil_append] at h5; obtain ⟨g7, cap7, rfl⟩ := own_some (h5.S _ _ _ rfl).1 (h5.S _ _ _ rfl).2; refine step_app_run rfl (.tmp 20) (.tmp 22) 23 rfl _ _ (by simp [Act.eval]; first | done | rfl) (by simp [Act.eval]; first | done | rfl) _ W5 hrun7 ?_; have hT5 := TC.out _ h5.bl; refine hK.out _ _ (fun _ => hT5) ?_; clear hK K
         refine M_step 9 rfl (by kernel_rfl) (fun K hK => ?_)
         go_simp; have h6 := h5.allocX; have hT6 := TC.out _ h6.bl; refine hK.out _ _ (fun _ => hT6) ?_; clear hK K
         refine M_step 10 rfl (by kernel_rfl) (fun K hK => ?_)
         obtain ⟨vT, W7, hrun10, h7⟩ := h6.appS (c := 1) (h6.X _ rfl).1 (by omega) 23; obtain ⟨cg, ccap, rfl⟩ := own_some (h7.S _ _ _ rfl).1 (h7.S _ _ _ rfl).2; refine step_app_run rfl (.tmp 23) (.tmp 25) 23 rfl _ _ (by simp [Act.eval]; first | done | rfl) (by simp [Act.eval]; first | done | rfl) _ W7 hrun10 ?_; have hT7 := TC.out _ h7.bl; refine hK.out _ _ (fun _ => hT7) ?_; clear hK K
         refine M_take (v := ?_) 11 rfl (by kernel_rfl) (by assumption) (fun _ _ _ h => h) (Or.inl ⟨by rfl, ?_⟩) ?_
         rotate_left
         ·(intro w hSw; (try dsimp only at hSw); go_simp; (try with_reducible rfl))
         (try simp only [Act.put, List.setIfInBounds_toArray, List.set_cons_zero, List.set_cons_succ])
         refine M_step 13 rfl (by kernel_rfl) (fun K hK => ?_)
         have hend := h7.fin rfl hdn1 (by omega) (by omega); obtain ⟨b0, b1, b2, b3⟩ := (h7.D _ rfl).1; have zb := (h7.D _ rfl).1.lt; (try simp only [World.size_alloc, World.size_drew] at b0 b1 b2 b3 zb hend); have HEND := Lib.hid hend; clear hend; go_simp; refine hK.out _ _ (fun e => by cases e) ?_; clear hK K
         refine M_done (by kernel_rfl) ?_ _
         clear hT0 b0 b1 b2 b3 zb
         go_wp2_with fail
         go_meet
         first | exact HEND.out | (have h := HEND.out; rw [set_new2] at h; exact h) | exact wend_drew HEND.out
        ·go_simp; have h5 := h4.allocX; have hT5 := TC.out _ h5.bl; refine hK.out _ _ (fun _ => hT5) ?_; clear hK K
         refine M_step 7 rfl (by kernel_rfl) (fun K hK => ?_)
         obtain ⟨vS, W6, hrun7, h6⟩ := h5.appS (c := d.sc) (DD2.out _ h5.bl).2 (by omega) 23; rw [Nat.zero_add, List.nil_append] at h6; obtain ⟨g7, cap7, rfl⟩ := own_some (h6.S _ _ _ rfl).1 (h6.S _ _ _ rfl).2; refine step_app_run rfl (.tmp 20) (.tmp 22) 23 rfl _ _ (by simp [Act.eval]; first | done | rfl) (by simp [Act.eval]; first | done | rfl) _ W6 hrun7 ?_; have hT6 := TC.out _ h6.bl; refine hK.out _ _ (fun _ => hT6) ?_; clear hK K
         refine M_step 10 rfl (by kernel_rfl) (fun K hK => ?_)
         obtain ⟨vT, W7, hrun10, h7⟩ := h6.appS (c := 1) (h6.X _ rfl).1 (by omega) 23; obtain ⟨cg, ccap, rfl⟩ := own_some (h7.S _ _ _ rfl).1 (h7.S _ _ _ rfl).2; refine step_app_run rfl (.tmp 23) (.tmp 25) 23 rfl _ _ (by simp [Act.eval]; first | done | rfl) (by simp [Act.eval]; first | done | rfl) _ W7 hrun10 ?_; have hT7 := TC.out _ h7.bl; refine hK.out _ _ (fun _ => hT7) ?_; clear hK K
         refine M_take (v := ?_) 11 rfl (by kernel_rfl) (by assumption) (fun _ _ _ h => h) (Or.inl ⟨by rfl, ?_⟩) ?_
         rotate_left
         ·(intro w hSw; (try dsimp only at hSw); go_simp; (try with_reducible rfl))
         (try simp only [Act.put, List.setIfInBounds_toArray, List.set_cons_zero, List.set_cons_succ])
         refine M_step 13 rfl (by kernel_rfl) (fun K hK => ?_)
         have hend := h7.fin rfl hdn1 (by omega) (by omega); obtain ⟨b0, b1, b2, b3⟩ := (h7.D _ rfl).1; have zb := (h7.D _ rfl).1.lt; (try simp only [World.size_alloc, World.size_drew] at b0 b1 b2 b3 zb hend); have HEND := Lib.hid hend; clear hend; go_simp; refine hK.out _ _ (fun e => by cases e) ?_; clear hK K
         refine M_done (by kernel_rfl) ?_ _
         clear hT0 b0 b1 b2 b3 zb
         go_wp2_with fail
         go_meet
         first | exact HEND.out | (have h := HEND.out; rw [set_new2] at h; exact h) | exact wend_drew HEND.out
       ·go_simp; have h4 := h3.allocX; have hT4 := TC.out _ h4.bl; refine hK.out _ _ (fun _ => hT4) ?_; clear hK K
        refine M_step 3 rfl (by kernel_rfl) (fun K hK => ?_)
        obtain ⟨vR, W5, hrun, h5⟩ := h4.appR (c := d.rc) (DD2.out _ h4.bl).1 (by omega) 22; obtain ⟨g, cap, rfl⟩ := own_some (h5.R _ _ _ rfl).1 (h5.R _ _ _ rfl).2; refine step_app_run rfl (.tmp 16) (.tmp 18) 22 rfl _ _ (by simp [Act.eval]; first | done | rfl) (by simp [Act.eval]; first | done | rfl) _ W5 hrun ?_; have hT5 := TC.out _ h5.bl; refine hK.out _ _ (fun _ => hT5) ?_; clear hK K
        refine M_step 7 rfl (by kernel_rfl) (fun K hK => ?_)
        obtain ⟨vS, W6, hrun7, h6⟩ := h5.appS (c := d.sc) (DD2.out _ h5.bl).2 (by omega) 23; rw [Nat.zero_add, List.nil_append] at h6; obtain ⟨g7, cap7, rfl⟩ := own_some (h6.S _ _ _ rfl).1 (h6.S _ _ _ rfl).2; refine step_app_run rfl (.tmp 20) (.tmp 22) 23 rfl _ _ (by simp [Act.eval]; first | done | rfl) (by simp [Act.eval]; first | done | rfl) _ W6 hrun7 ?_; have hT6 := TC.out _ h6.bl; refine hK.out _ _ (fun _ => hT6) ?_; clear hK K
        refine M_step 10 rfl (by kernel_rfl) (fun K hK => ?_)
        obtain ⟨vT, W7, hrun10, h7⟩ := h6.appS (c := 1) (h6.X _ rfl).1 (by omega) 23; obtain ⟨cg, ccap, rfl⟩ := own_some (h7.S _ _ _ rfl).1 (h7.S _ _ _ rfl).2; refine step_app_run rfl (.tmp 23) (.tmp 25) 23 rfl _ _ (by simp [Act.eval]; first | done | rfl) (by simp [Act.eval]; first | done | rfl) _ W7 hrun10 ?_; have hT7 := TC.out _ h7.bl; refine hK.out _ _ (fun _ => hT7) ?_; clear hK K
        refine M_take (v := ?_) 11 rfl (by kernel_rfl) (by assumption) (fun _ _ _ h => h) (Or.inl ⟨by rfl, ?_⟩) ?_
        rotate_left
        ·(intro w hSw; (try dsimp only at hSw); go_simp; (try with_reducible rfl))
        (try simp only [Act.put, List.setIfInBounds_toArray, List.set_cons_zero, List.set_cons_succ])
        refine M_step 13 rfl (by kernel_rfl) (fun K hK => ?_)
        have hend := h7.fin rfl hdn1 (by omega) (by omega); obtain ⟨b0, b1, b2, b3⟩ := (h7.D _ rfl).1; have zb := (h7.D _ rfl).1.lt; (try simp only [World.size_alloc, World.size_drew] at b0 b1 b2 b3 zb hend); have HEND := Lib.hid hend; clear hend; go_simp; refine hK.out _ _ (fun e => by cases e) ?_; clear hK K
        refine M_done (by kernel_rfl) ?_ _
        clear hT0 b0 b1 b2 b3 zb
        go_wp2_with fail
        go_meet
        first | exact HEND.out | (have h := HEND.out; rw [set_new2] at h; exact h) | exact wend_drew HEND.out
     ·go_simp; have h2 := h1.allocX; have hT2 := TC.out _ h2.bl; refine hK.out _ _ (fun _ => hT2) ?_; clear hK K
      refine M_fork 0 12 rfl rfl (by kernel_rfl) (fun K hK => ?_) (fun K hK => ?_)
      ·go_simp; have h3 := h2.allocR; have hT3 := TC.out _ h3.bl; refine hK.out _ _ (fun _ => hT3) ?_; clear hK K
       refine M_fork 3 12 rfl rfl (by kernel_rfl) (fun K hK => ?_) (fun K hK => ?_)
       ·obtain ⟨vR, W4, hrun, h4⟩ := h3.appR (c := d.rc) (DD2.out _ h3.bl).1 (by omega) 22; obtain ⟨g, cap, rfl⟩ := own_some (h4.R _ _ _ rfl).1 (h4.R _ _ _ rfl).2; refine step_app_run rfl (.tmp 16) (.tmp 18) 22 rfl _ _ (by simp [Act.eval]; first | done | rfl) (by simp [Act.eval]; first | done | rfl) _ W4 hrun ?_; have hT4 := TC.out _ h4.bl; refine hK.out _ _ (fun _ => hT4) ?_; clear hK K
        refine M_fork 7 12 rfl rfl (by kernel_rfl) (fun K hK => ?_) (fun K hK => ?_)
        ·obtain ⟨vS, W5, hrun7, h5⟩ := h4.appS (c := d.sc) (DD2.out _ h4.bl).2 (by omega) 23; rw [Nat.zero_add, List.nil_append] at h5; obtain ⟨g7, cap7, rfl⟩ := own_some (h5.S _ _ _ rfl).1 (h5.S _ _ _ rfl).2; refine step_app_run rfl (.tmp 20) (.tmp 22) 23 rfl _ _ (by simp [Act.eval]; first | done | rfl) (by simp [Act.eval]; first | done | rfl) _ W5 hrun7 ?_; have hT5 := TC.out _ h5.bl; refine hK.out _ _ (fun _ => hT5) ?_; clear hK K
         refine M_fork 10 12 rfl rfl (by kernel_rfl) (fun K hK => ?_) (fun K hK => ?_)
         ·obtain ⟨vT, W6, hrun10, h6⟩ := h5.appS (c := 1) (h5.X _ rfl).1 (by omega) 23; obtain ⟨cg, ccap, rfl⟩ := own_some (h6.S _ _ _ rfl).1 (h6.S _ _ _ rfl).2; refine step_app_run rfl (.tmp 23) (.tmp 25) 23 rfl _ _ (by simp [Act.eval]; first | done | rfl) (by simp [Act.eval]; first | done | rfl) _ W6 hrun10 ?_; have hT6 := TC.out _ h6.bl; refine hK.out _ _ (fun _ => hT6) ?_; clear hK K
          refine M_take (v := ?_) 11 rfl (by kernel_rfl) (by assumption) (fun _ _ _ h => h) (Or.inl ⟨by rfl, ?_⟩) ?_
          rotate_left
          ·(intro w hSw; (try dsimp only at hSw); go_simp; (try with_reducible rfl))
          (try simp only [Act.put, List.setIfInBounds_toArray, List.set_cons_zero, List.set_cons_succ])
          refine M_step 12 rfl (by kernel_rfl) (fun K hK => ?_)
          go_simp; have h7 := h6.allocD; have hT7 := TC.out _ h7.bl; refine hK.out _ _ (fun _ => hT7) ?_; clear hK K
          refine M_step 13 rfl (by kernel_rfl) (fun K hK => ?_)
          have hend := h7.fin rfl hdn1 (by omega) (by omega); obtain ⟨b0, b1, b2, b3⟩ := (h7.D _ rfl).1; have zb := (h7.D _ rfl).1.lt; (try simp only [World.size_alloc, World.size_drew] at b0 b1 b2 b3 zb hend); have HEND := Lib.hid hend; clear hend; go_simp; refine hK.out _ _ (fun e => by cases e) ?_; clear hK K
          refine M_done (by kernel_rfl) ?_ _
          clear hT0 b0 b1 b2 b3 zb
          go_wp2_with fail
          go_meet
          first | exact HEND.out | (have h := HEND.out; rw [set_new2] at h; exact h) | exact wend_drew HEND.out
         ·go_simp; have h6 := h5.allocD; have hT6 := TC.out _ h6.bl; refine hK.out _ _ (fun _ => hT6) ?_; clear hK K
          refine M_step 10 rfl (by kernel_rfl) (fun K hK => ?_)
          obtain ⟨vT, W7, hrun10, h7⟩ := h6.appS (c := 1) (h6.X _ rfl).1 (by omega) 23; obtain ⟨cg, ccap, rfl⟩ := own_some (h7.S _ _ _ rfl).1 (h7.S _ _ _ rfl).2; refine step_app_run rfl (.tmp 23) (.tmp 25) 23 rfl _ _ (by simp [Act.eval]; first | done | rfl) (by simp [Act.eval]; first | done | rfl) _ W7 hrun10 ?_; have hT7 := TC.out _ h7.bl; refine hK.out _ _ (fun _ => hT7) ?_; clear hK K
          refine M_take (v := ?_) 11 rfl (by kernel_rfl) (by assumption) (fun _ _ _ h => h) (Or.inl ⟨by rfl, ?_⟩) ?_
          rotate_left
          ·(intro w hSw; (try dsimp only at hSw); go_simp; (try with_reducible rfl))
          (try simp only [Act.put, List.setIfInBounds_toArray, List.set_cons_zero, List.set_cons_succ])
          refine M_step 13 rfl (by kernel_rfl) (fun K hK => ?_)
          have hend := h7.fin rfl hdn1 (by omega) (by omega); obtain ⟨b0, b1, b2, b3⟩ := (h7.D _ rfl).1; have zb := (h7.D _ rfl).1.lt; (try simp only [World.size_alloc, World.size_drew] at b0 b1 b2 b3 zb hend); have HEND := Lib.hid hend; clear hend; go_simp; refine hK.out _ _ (fun e => by cases e) ?_; clear hK K
          refine M_done (by kernel_rfl) ?_ _
          clear hT0 b0 b1 b2 b3 zb
          go_wp2_with fail
          go_meet
          first | exact HEND.out | (have h := HEND.out; rw [set_new2] at h; exact h) | exact wend_drew HEND.out
        ·go_simp; have h5 := h4.allocD; have hT5 := TC.out _ h5.bl; refine hK.out _ _ (fun _ => hT5) ?_; clear hK K
         refine M_step 7 rfl (by kernel_rfl) (fun K hK => ?_)
         obtain ⟨vS, W6, hrun7, h6⟩ := h5.appS (c := d.sc) (DD2.out _ h5.bl).2 (by omega) 23; rw [Nat.zero_add, List.nil_append] at h6; obtain ⟨g7, cap7, rfl⟩ := own_some (h6.S _ _ _ rfl).1 (h6.S _ _ _ rfl).2; refine step_app_run rfl (.tmp 20) (.tmp 22) 23 rfl _ _ (by simp [Act.eval]; first | done | rfl) (by simp [Act.eval]; first | done | rfl) _ W6 hrun7 ?_; have hT6 := TC.out _ h6.bl; refine hK.out _ _ (fun _ => hT6) ?_; clear hK K
         refine M_step 10 rfl (by kernel_rfl) (fun K hK => ?_)
         obtain ⟨vT, W7, hrun10, h7⟩ := h6.appS (c := 1) (h6.X _ rfl).1 (by omega) 23; obtain ⟨cg, ccap, rfl⟩ := own_some (h7.S _ _ _ rfl).1 (h7.S _ _ _ rfl).2; refine step_app_run rfl (.tmp 23) (.tmp 25) 23 rfl _ _ (by simp [Act.eval]; first | done | rfl) (by simp [Act.eval]; first | done | rfl) _ W7 hrun10 ?_; have hT7 := TC.out _ h7.bl; refine hK.out _ _ (fun _ => hT7) ?_; clear hK K
         refine M_take (v := ?_) 11 rfl (by kernel_rfl) (by assumption) (fun _ _ _ h => h) (Or.inl ⟨by rfl, ?_⟩) ?_
         rotate_left
         ·(intro w hSw; (try dsimp only at hSw); go_simp; (try with_reducible rfl))
         (try simp only [Act.put, List.setIfInBounds_toArray, List.set_cons_zero, List.set_cons_succ])
         refine M_step 13 rfl (by kernel_rfl) (fun K hK => ?_)
         have hend := h7.fin rfl hdn1 (by omega) (by omega); obtain ⟨b0, b1, b2, b3⟩ := (h7.D _ rfl).1; have zb := (h7.D _ rfl).1.lt; (try simp only [World.size_alloc, World.size_drew] at b0 b1 b2 b3 zb hend); have HEND := Lib.hid hend; clear hend; go_simp; refine hK.out _ _ (fun e => by cases e) ?_; clear hK K
         refine M_done (by kernel_rfl) ?_ _
         clear hT0 b0 b1 b2 b3 zb
         go_wp2_with fail
         go_meet
         first | exact HEND.out | (have h := HEND.out; rw [set_new2] at h; exact h) | exact wend_drew HEND.out
       ·go_simp; have h4 := h3.allocD; have hT4 := TC.out _ h4.bl; refine hK.out _ _ (fun _ => hT4) ?_; clear hK K
        refine M_step 3 rfl (by kernel_rfl) (fun K hK => ?_)
        obtain ⟨vR, W5, hrun, h5⟩ := h4.appR (c := d.rc) (DD2.out _ h4.bl).1 (by omega) 22; obtain ⟨g, cap, rfl⟩ := own_some (h5.R _ _ _ rfl).1 (h5.R _ _ _ rfl).2; refine step_app_run rfl (.tmp 16) (.tmp 18) 22 rfl _ _ (by simp [Act.eval]; first | done | rfl) (by simp [Act.eval]; first | done | rfl) _ W5 hrun ?_; have hT5 := TC.out _ h5.bl; refine hK.out _ _ (fun _ => hT5) ?_; clear hK K
        refine M_step 7 rfl (by kernel_rfl) (fun K hK => ?_)
        obtain ⟨vS, W6, hrun7, h6⟩ := h5.appS (c := d.sc) (DD2.out _ h5.bl).2 (by omega) 23; rw [Nat.zero_add, List.nil_append] at h6; obtain ⟨g7, cap7, rfl⟩ := own_some (h6.S _ _ _ rfl).1 (h6.S _ _ _ rfl).2; refine step_app_run rfl (.tmp 20) (.tmp 22) 23 rfl _ _ (by simp [Act.eval]; first | done | rfl) (by simp [Act.eval]; first | done | rfl) _ W6 hrun7 ?_; have hT6 := TC.out _ h6.bl; refine hK.out _ _ (fun _ => hT6) ?_; clear hK K
        refine M_step 10 rfl (by kernel_rfl) (fun K hK => ?_)
        obtain ⟨vT, W7, hrun10, h7⟩ := h6.appS (c := 1) (h6.X _ rfl).1 (by omega) 23; obtain ⟨cg, ccap, rfl⟩ := own_some (h7.S _ _ _ rfl).1 (h7.S _ _ _ rfl).2; refine step_app_run rfl (.tmp 23) (.tmp 25) 23 rfl _ _ (by simp [Act.eval]; first | done | rfl) (by simp [Act.eval]; first | done | rfl) _ W7 hrun10 ?_; have hT7 := TC.out _ h7.bl; refine hK.out _ _ (fun _ => hT7) ?_; clear hK K
        refine M_take (v := ?_) 11 rfl (by kernel_rfl) (by assumption) (fun _ _ _ h => h) (Or.inl ⟨by rfl, ?_⟩) ?_
        rotate_left
        ·(intro w hSw; (try dsimp only at hSw); go_simp; (try with_reducible rfl))
        (try simp only [Act.put, List.setIfInBounds_toArray, List.set_cons_zero, List.set_cons_succ])
        refine M_step 13 rfl (by kernel_rfl) (fun K hK => ?_)
        have hend := h7.fin rfl hdn1 (by omega) (by omega); obtain ⟨b0, b1, b2, b3⟩ := (h7.D _ rfl).1; have zb := (h7.D _ rfl).1.lt; (try simp only [World.size_alloc, World.size_drew] at b0 b1 b2 b3 zb hend); have HEND := Lib.hid hend; clear hend; go_simp; refine hK.out _ _ (fun e => by cases e) ?_; clear hK K
        refine M_done (by kernel_rfl) ?_ _
        clear hT0 b0 b1 b2 b3 zb
        go_wp2_with fail
        go_meet
        first | exact HEND.out | (have h := HEND.out; rw [set_new2] at h; exact h) | exact wend_drew HEND.out
      ·go_simp; have h3 := h2.allocD; have hT3 := TC.out _ h3.bl; refine hK.out _ _ (fun _ => hT3) ?_; clear hK K
       refine M_step 0 rfl (by kernel_rfl) (fun K hK => ?_)
       go_simp; have h4 := h3.allocR; have hT4 := TC.out _ h4.bl; refine hK.out _ _ (fun _ => hT4) ?_; clear hK K
       refine M_step 3 rfl (by kernel_rfl) (fun K hK => ?_)
       obtain ⟨vR, W5, hrun, h5⟩ := h4.appR (c := d.rc) (DD2.out _ h4.bl).1 (by omega) 22; obtain ⟨g, cap, rfl⟩ := own_some (h5.R _ _ _ rfl).1 (h5.R _ _ _ rfl).2; refine step_app_run rfl (.tmp 16) (.tmp 18) 22 rfl _ _ (by simp [Act.eval]; first | done | rfl) (by simp [Act.eval]; first | done | rfl) _ W5 hrun ?_; have hT5 := TC.out _ h5.bl; refine hK.out _ _ (fun _ => hT5) ?_; clear hK K
       refine M_step 7 rfl (by kernel_rfl) (fun K hK => ?_)
       obtain ⟨vS, W6, hrun7, h6⟩ := h5.appS (c := d.sc) (DD2.out _ h5.bl).2 (by omega) 23; rw [Nat.zero_add, List.nil_append] at h6; obtain ⟨g7, cap7, rfl⟩ := own_some (h6.S _ _ _ rfl).1 (h6.S _ _ _ rfl).2; refine step_app_run rfl (.tmp 20) (.tmp 22) 23 rfl _ _ (by simp [Act.eval]; first | done | rfl) (by simp [Act.eval]; first | done | rfl) _ W6 hrun7 ?_; have hT6 := TC.out _ h6.bl; refine hK.out _ _ (fun _ => hT6) ?_; clear hK K
       refine M_step 10 rfl (by kernel_rfl) (fun K hK => ?_)
       obtain ⟨vT, W7, hrun10, h7⟩ := h6.appS (c := 1) (h6.X _ rfl).1 (by omega) 23; obtain ⟨cg, ccap, rfl⟩ := own_some (h7.S _ _ _ rfl).1 (h7.S _ _ _ rfl).2; refine step_app_run rfl (.tmp 23) (.tmp 25) 23 rfl _ _ (by simp [Act.eval]; first | done | rfl) (by simp [Act.eval]; first | done | rfl) _ W7 hrun10 ?_; have hT7 := TC.out _ h7.bl; refine hK.out _ _ (fun _ => hT7) ?_; clear hK K
       refine M_take (v := ?_) 11 rfl (by kernel_rfl) (by assumption) (fun _ _ _ h => h) (Or.inl ⟨by rfl, ?_⟩) ?_
       rotate_left
       ·(intro w hSw; (try dsimp only at hSw); go_simp; (try with_reducible rfl))
       (try simp only [Act.put, List.setIfInBounds_toArray, List.set_cons_zero, List.set_cons_succ])
       refine M_step 13 rfl (by kernel_rfl) (fun K hK => ?_)
       have hend := h7.fin rfl hdn1 (by omega) (by omega); obtain ⟨b0, b1, b2, b3⟩ := (h7.D _ rfl).1; have zb := (h7.D _ rfl).1.lt; (try simp only [World.size_alloc, World.size_drew] at b0 b1 b2 b3 zb hend); have HEND := Lib.hid hend; clear hend; go_simp; refine hK.out _ _ (fun e => by cases e) ?_; clear hK K
       refine M_done (by kernel_rfl) ?_ _
       clear hT0 b0 b1 b2 b3 zb
       go_wp2_with fail
       go_meet
       first | exact HEND.out | (have h := HEND.out; rw [set_new2] at h; exact h) | exact wend_drew HEND.out
     ·go_simp; have h2 := h1.allocD; have hT2 := TC.out _ h2.bl; refine hK.out _ _ (fun _ => hT2) ?_; clear hK K
      refine M_fork 0 9 rfl rfl (by kernel_rfl) (fun K hK => ?_) (fun K hK => ?_)
      ·go_simp; have h3 := h2.allocR; have hT3 := TC.out _ h3.bl; refine hK.out _ _ (fun _ => hT3) ?_; clear hK K
       refine M_fork 3 9 rfl rfl (by kernel_rfl) (fun K hK => ?_) (fun K hK => ?_)
       ·obtain ⟨vR, W4, hrun, h4⟩ := h3.appR (c := d.rc) (DD2.out _ h3.bl).1 (by omega) 22; obtain ⟨g, cap, rfl⟩ := own_some (h4.R _ _ _ rfl).1 (h4.R _ _ _ rfl).2; refine step_app_run rfl (.tmp 16) (.tmp 18) 22 rfl _ _ (by simp [Act.eval]; first | done | rfl) (by simp [Act.eval]; first | done | rfl) _ W4 hrun ?_; have hT4 := TC.out _ h4.bl; refine hK.out _ _ (fun _ => hT4) ?_; clear hK K
        refine M_fork 7 9 rfl rfl (by kernel_rfl) (fun K hK => ?_) (fun K hK => ?_)
        ·obtain ⟨vS, W5, hrun7, h5⟩ := h4.appS (c := d.sc) (DD2.out _ h4.bl).2 (by omega) 23; rw [Nat.zero_add, List.nil_append] at h5; obtain ⟨g7, cap7, rfl⟩ := own_some (h5.S _ _ _ rfl).1 (h5.S _ _ _ rfl).2; refine step_app_run rfl (.tmp 20) (.tmp 22) 23 rfl _ _ (by simp [Act.eval]; first | done | rfl) (by simp [Act.eval]; first | done | rfl) _ W5 hrun7 ?_; have hT5 := TC.out _ h5.bl; refine hK.out _ _ (fun _ => hT5) ?_; clear hK K
         refine M_step 9 rfl (by kernel_rfl) (fun K hK => ?_)
         go_simp; have h6 := h5.allocX; have hT6 := TC.out _ h6.bl; refine hK.out _ _ (fun _ => hT6) ?_; clear hK K
         refine M_step 10 rfl (by kernel_rfl) (fun K hK => ?_)
         obtain ⟨vT, W7, hrun10, h7⟩ := h6.appS (c := 1) (h6.X _ rfl).1 (by omega) 23; obtain ⟨cg, ccap, rfl⟩ := own_some (h7.S _ _ _ rfl).1 (h7.S _ _ _ rfl).2; refine step_app_run rfl (.tmp 23) (.tmp 25) 23 rfl _ _ (by simp [Act.eval]; first | done | rfl) (by simp [Act.eval]; first | done | rfl) _ W7 hrun10 ?_; have hT7 := TC.out _ h7.bl; refine hK.out _ _ (fun _ => hT7) ?_; clear hK K
         refine M_take (v := ?_) 11 rfl (by kernel_rfl) (by assumption) (fun _ _ _ h => h) (Or.inl ⟨by rfl, ?_⟩) ?_
         rotate_left
         ·(intro w hSw; (try dsimp only at hSw); go_simp; (try with_reducible rfl))
         (try simp only [Act.put, List.setIfInBounds_toArray, List.set_cons_zero, List.set_cons_succ])
         refine M_step 13 rfl (by kernel_rfl) (fun K hK => ?_)
         have hend := h7.fin rfl hdn1 (by omega) (by omega); obtain ⟨b0, b1, b2, b3⟩ := (h7.D _ rfl).1; have zb := (h7.D _ rfl).1.lt; (try simp only [World.size_alloc, World.size_drew] at b0 b1 b2 b3 zb hend); have HEND := Lib.hid hend; clear hend; go_simp; refine hK.out _ _ (fun e => by cases e) ?_; clear hK K
         refine M_done (by kernel_rfl) ?_ _
         clear hT0 b0 b1 b2 b3 zb
         go_wp2_with fail
         go_meet
         first | exact HEND.out | (have h := HEND.out; rw [set_new2] at h; exact h) | exact wend_drew HEND.out
        ·go_simp; have h5 := h4.allocX; have hT5 := TC.out _ h5.bl; refine hK.out _ _ (fun _ => hT5) ?_; clear hK K
         refine M_step 7 rfl (by kernel_rfl) (fun K hK => ?_)
         obtain ⟨vS, W6, hrun7, h6⟩ := h5.appS (c := d.sc) (DD2.out _ h5.bl).2 (by omega) 23; rw [Nat.zero_add, List.nil_append] at h6; obtain ⟨g7, cap7, rfl⟩ := own_some (h6.S _ _ _ rfl).1 (h6.S _ _ _ rfl).2; refine step_app_run rfl (.tmp 20) (.tmp 22) 23 rfl _ _ (by simp [Act.eval]; first | done | rfl) (by simp [Act.eval]; first | done | rfl) _ W6 hrun7 ?_; have hT6 := TC.out _ h6.bl; refine hK.out _ _ (fun _ => hT6) ?_; clear hK K
         refine M_step 10 rfl (by kernel_rfl) (fun K hK => ?_)
         obtain ⟨vT, W7, hrun10, h7⟩ := h6.appS (c := 1) (h6.X _ rfl).1 (by omega) 23; obtain ⟨cg, ccap, rfl⟩ := own_some (h7.S _ _ _ rfl).1 (h7.S _ _ _ rfl).2; refine step_app_run rfl (.tmp 23) (.tmp 25) 23 rfl _ _ (by simp [Act.eval]; first | done | rfl) (by simp [Act.eval]; first | done | rfl) _ W7 hrun10 ?_; have hT7 := TC.out _ h7.bl; refine hK.out _ _ (fun _ => hT7) ?_; clear hK K
         refine M_take (v := ?_) 11 rfl (by kernel_rfl) (by assumption) (fun _ _ _ h => h) (Or.inl ⟨by rfl, ?_⟩) ?_
         rotate_left
         ·(intro w hSw; (try dsimp only at hSw); go_simp; (try with_reducible rfl))
         (try simp only [Act.put, List.setIfInBounds_toArray, List.set_cons_zero, List.set_cons_succ])
         refine M_step 13 rfl (by kernel_rfl) (fun K hK => ?_)
         have hend := h7.fin rfl hdn1 (by omega) (by omega); obtain ⟨b0, b1, b2, b3⟩ := (h7.D _ rfl).1; have zb := (h7.D _ rfl).1.lt; (try simp only [World.size_alloc, World.size_drew] at b0 b1 b2 b3 zb hend); have HEND := Lib.hid hend; clear hend; go_simp; refine hK.out _ _ (fun e => by cases e) ?_; clear hK K
         refine M_done (by kernel_rfl) ?_ _
         clear hT0 b0 b1 b2 b3 zb
         go_wp2_with fail
         go_meet
         first | exact HEND.out | (have h := HEND.out; rw [set_new2] at h; exact h) | exact wend_drew HEND.out
       ·go_simp; have h4 := h3.allocX; have hT4 := TC.out _ h4.bl; refine hK.out _ _ (fun _ => hT4) ?_; clear hK K
        refine M_step 3 rfl (by kernel_rfl) (fun K hK => ?_)
        obtain ⟨vR, W5, hrun, h5⟩ := h4.appR (c := d.rc) (DD2.out _ h4.bl).1 (by omega) 22; obtain ⟨g, cap, rfl⟩ := own_some (h5.R _ _ _ rfl).1 (h5.R _ _ _ rfl).2; refine step_app_run rfl (.tmp 16) (.tmp 18) 22 rfl _ _ (by simp [Act.eval]; first | done | rfl) (by simp [Act.eval]; first | done | rfl) _ W5 hrun ?_; have hT5 := TC.out _ h5.bl; refine hK.out _ _ (fun _ => hT5) ?_; clear hK K
        refine M_step 7 rfl (by kernel_rfl) (fun K hK => ?_)
        obtain ⟨vS, W6, hrun7, h6⟩ := h5.appS (c := d.sc) (DD2.out _ h5.bl).2 (by omega) 23; rw [Nat.zero_add, List.nil_append] at h6; obtain ⟨g7, cap7, rfl⟩ := own_some (h6.S _ _ _ rfl).1 (h6.S _ _ _ rfl).2; refine step_app_run rfl (.tmp 20) (.tmp 22) 23 rfl _ _ (by simp [Act.eval]; first | done | rfl) (by simp [Act.eval]; first | done | rfl) _ W6 hrun7 ?_; have hT6 := TC.out _ h6.bl; refine hK.out _ _ (fun _ => hT6) ?_; clear hK K
        refine M_step 10 rfl (by kernel_rfl) (fun K hK => ?_)
        obtain ⟨vT, W7, hrun10, h7⟩ := h6.appS (c := 1) (h6.X _ rfl).1 (by omega) 23; obtain ⟨cg, ccap, rfl⟩ := own_some (h7.S _ _ _ rfl).1 (h7.S _ _ _ rfl).2; refine step_app_run rfl (.tmp 23) (.tmp 25) 23 rfl _ _ (by simp [Act.eval]; first | done | rfl) (by simp [Act.eval]; first | done | rfl) _ W7 hrun10 ?_; have hT7 := TC.out _ h7.bl; refine hK.out _ _ (fun _ => hT7) ?_; clear hK K
        refine M_take (v := ?_) 11 rfl (by kernel_rfl) (by assumption) (fun _ _ _ h => h) (Or.inl ⟨by rfl, ?_⟩) ?_
        rotate_left
        ·(intro w hSw; (try dsimp only at hSw); go_simp; (try with_reducible rfl))
        (try simp only [Act.put, List.setIfInBounds_toArray, List.set_cons_zero, List.set_cons_succ])
        refine M_step 13 rfl (by kernel_rfl) (fun K hK => ?_)
        have hend := h7.fin rfl hdn1 (by omega) (by omega); obtain ⟨b0, b1, b2, b3⟩ := (h7.D _ rfl).1; have zb := (h7.D _ rfl).1.lt; (try simp only [World.size_alloc, World.size_drew] at b0 b1 b2 b3 zb hend); have HEND := Lib.hid hend; clear hend; go_simp; refine hK.out _ _ (fun e => by cases e) ?_; clear hK K
        refine M_done (by kernel_rfl) ?_ _
        clear hT0 b0 b1 b2 b3 zb
        go_wp2_with fail
        go_meet
        first | exact HEND.out | (have h := HEND.out; rw [set_new2] at h; exact h) | exact wend_drew HEND.out
      ·go_simp; have h3 := h2.allocX; have hT3 := TC.out _ h3.bl; refine hK.out _ _ (fun _ => hT3) ?_; clear hK K
       refine M_step 0 rfl (by kernel_rfl) (fun K hK => ?_)
       go_simp; have h4 := h3.allocR; have hT4 := TC.out _ h4.bl; refine hK.out _ _ (fun _ => hT4) ?_; clear hK K
       refine M_step 3 rfl (by kernel_rfl) (fun K hK => ?_)
       obtain ⟨vR, W5, hrun, h5⟩ := h4.appR (c := d.rc) (DD2.out _ h4.bl).1 (by omega) 22; obtain ⟨g, cap, rfl⟩ := own_some (h5.R _ _ _ rfl).1 (h5.R _ _ _ rfl).2; refine step_app_run rfl (.tmp 16) (.tmp 18) 22 rfl _ _ (by simp [Act.eval]; first | done | rfl) (by simp [Act.eval]; first | done | rfl) _ W5 hrun ?_; have hT5 := TC.out _ h5.bl; refine hK.out _ _ (fun _ => hT5) ?_; clear hK K
       refine M_step 7 rfl (by kernel_rfl) (fun K hK => ?_)
       obtain ⟨vS, W6, hrun7, h6⟩ := h5.appS (c := d.sc) (DD2.out _ h5.bl).2 (by omega) 23; rw [Nat.zero_add, List.nil_append] at h6; obtain ⟨g7, cap7, rfl⟩ := own_some (h6.S _ _ _ rfl).1 (h6.S _ _ _ rfl).2; refine step_app_run rfl (.tmp 20) (.tmp 22) 23 rfl _ _ (by simp [Act.eval]; first | done | rfl) (by simp [Act.eval]; first | done | rfl) _ W6 hrun7 ?_; have hT6 := TC.out _ h6.bl; refine hK.out _ _ (fun _ => hT6) ?_; clear hK K
       refine M_step 10 rfl (by kernel_rfl) (fun K hK => ?_)
       obtain ⟨vT, W7, hrun10, h7⟩ := h6.appS (c := 1) (h6.X _ rfl).1 (by omega) 23; obtain ⟨cg, ccap, rfl⟩ := own_some (h7.S _ _ _ rfl).1 (h7.S _ _ _ rfl).2; refine step_app_run rfl (.tmp 23) (.tmp 25) 23 rfl _ _ (by simp [Act.eval]; first | done | rfl) (by simp [Act.eval]; first | done | rfl) _ W7 hrun10 ?_; have hT7 := TC.out _ h7.bl; refine hK.out _ _ (fun _ => hT7) ?_; clear hK K
       refine M_take (v := ?_) 11 rfl (by kernel_rfl) (by assumption) (fun _ _ _ h => h) (Or.inl ⟨by rfl, ?_⟩) ?_
       rotate_left
       ·(intro w hSw; (try dsimp only at hSw); go_simp; (try with_reducible rfl))
       (try simp only [Act.put, List.setIfInBounds_toArray, List.set_cons_zero, List.set_cons_succ])
       refine M_step 13 rfl (by kernel_rfl) (fun K hK => ?_)
       have hend := h7.fin rfl hdn1 (by omega) (by omega); obtain ⟨b0, b1, b2, b3⟩ := (h7.D _ rfl).1; have zb := (h7.D _ rfl).1.lt; (try simp only [World.size_alloc, World.size_drew] at b0 b1 b2 b3 zb hend); have HEND := Lib.hid hend; clear hend; go_simp; refine hK.out _ _ (fun e => by cases e) ?_; clear hK K
       refine M_done (by kernel_rfl) ?_ _
       clear hT0 b0 b1 b2 b3 zb
       go_wp2_with fail
       go_meet
       first | exact HEND.out | (have h := HEND.out; rw [set_new2] at h; exact h) | exact wend_drew HEND.out
    ·go_simp; have h1 := h0.allocX; have hT1 := TC.out _ h1.bl; refine hK.out _ _ (fun _ => hT1) ?_; clear hK K
     refine M_fork3 0 4 12 rfl rfl rfl (by kernel_rfl) (fun K hK => ?_) (fun K hK => ?_) (fun K hK => ?_)
     ·go_simp; have h2 := h1.allocR; have hT2 := TC.out _ h2.bl; refine hK.out _ _ (fun _ => hT2) ?_; clear hK K
      refine M_fork3 3 4 12 rfl rfl rfl (by kernel_rfl) (fun K hK => ?_) (fun K hK => ?_) (fun K hK => ?_)
      ·obtain ⟨vR, W3, hrun, h3⟩ := h2.appR (c := d.rc) (DD2.out _ h2.bl).1 (by omega) 22; obtain ⟨g, cap, rfl⟩ := own_some (h3.R _ _ _ rfl).1 (h3.R _ _ _ rfl).2; refine step_app_run rfl (.tmp 16) (.tmp 18) 22 rfl _ _ (by simp [Act.eval]; first | done | rfl) (by simp [Act.eval]; first | done | rfl) _ W3 hrun ?_; have hT3 := TC.out _ h3.bl; refine hK.out _ _ (fun _ => hT3) ?_; clear hK K
       refine M_fork 4 12 rfl rfl (by kernel_rfl) (fun K hK => ?_) (fun K hK => ?_)
       ·go_simp; have h4 := h3.allocS; have hT4 := TC.out _ h4.bl; refine hK.out _ _ (fun _ => hT4) ?_; clear hK K
        refine M_fork 7 12 rfl rfl (by kernel_rfl) (fun K hK => ?_) (fun K hK => ?_)
        ·obtain ⟨vS, W5, hrun7, h5⟩ := h4.appS (c := d.sc) (DD2.out _ h4.bl).2 (by omega) 23; rw [Nat.zero_add, List.nil_append] at h5; obtain ⟨g7, cap7, rfl⟩ := own_some (h5.S _ _ _ rfl).1 (h5.S _ _ _ rfl).2; refine step_app_run rfl (.tmp 20) (.tmp 22) 23 rfl _ _ (by simp [Act.eval]; first | done | rfl) (by simp [Act.eval]; first | done | rfl) _ W5 hrun7 ?_; have hT5 := TC.out _ h5.bl; refine hK.out _ _ (fun _ => hT5) ?_; clear hK K
         refine M_fork 10 12 rfl rfl (by kernel_rfl) (fun K hK => ?_) (fun K hK => ?_)
         ·obtain ⟨vT, W6, hrun10, h6⟩ := h5.appS (c := 1) (h5.X _ rfl).1 (by omega) 23; obtain ⟨cg, ccap, rfl⟩ := own_some (h6.S _ _ _ rfl).1 (h6.S _ _ _ rfl).2; refine step_app_run rfl (.tmp 23) (.tmp 25) 23 rfl _ _ (by simp [Act.eval]; first | done | rfl) (by simp [Act.eval]; first | done | rfl) _ W6 hrun10 ?_; have hT6 := TC.out _ h6.bl; refine hK.out _ _ (fun _ => hT6) ?_; clear hK K
          refine M_take (v := ?_) 11 rfl (by kernel_rfl) (by assumption) (fun _ _ _ h => h) (Or.inl ⟨by rfl, ?_⟩) ?_
          rotate_left
          ·(intro w hSw; (try dsimp only at hSw); go_simp; (try with_reducible rfl))
          (try simp only [Act.put, List.setIfInBounds_toArray, List.set_cons_zero, List.set_cons_succ])
          refine M_step 12 rfl (by kernel_rfl) (fun K hK => ?_)
          go_simp; have h7 := h6.allocD; have hT7 := TC.out _ h7.bl; refine hK.out _ _ (fun _ => hT7) ?_; clear hK K
          refine M_step 13 rfl (by kernel_rfl) (fun K hK => ?_)
          have hend := h7.fin rfl hdn1 (by omega) (by omega); obtain ⟨b0, b1, b2, b3⟩ := (h7.D _ rfl).1; have zb := (h7.D _ rfl).1.lt; (try simp only [World.size_alloc, World.size_drew] at b0 b1 b2 b3 zb hend); have HEND := Lib.hid hend; clear hend; go_simp; refine hK.out _ _ (fun e => by cases e) ?_; clear hK K
          refine M_done (by kernel_rfl) ?_ _
          clear hT0 b0 b1 b2 b3 zb
          go_wp2_with fail
          go_meet
          first | exact HEND.out | (have h := HEND.out; rw [set_new2] at h; exact h) | exact wend_drew HEND.out
         ·go_simp; have h6 := h5.allocD; have hT6 := TC.out _ h6.bl; refine hK.out _ _ (fun _ => hT6) ?_; clear hK K
          refine M_step 10 rfl (by kernel_rfl) (fun K hK => ?_)
          obtain ⟨vT, W7, hrun10, h7⟩ := h6.appS (c := 1) (h6.X _ rfl).1 (by omega) 23; obtain ⟨cg, ccap, rfl⟩ := own_some (h7.S _ _ _ rfl).1 (h7.S _ _ _ rfl).2; refine step_app_run rfl (.tmp 23) (.tmp 25) 23 rfl _ _ (by simp [Act.eval]; first | done | rfl) (by simp [Act.eval]; first | done | rfl) _ W7 hrun10 ?_; have hT7 := TC.out _ h7.bl; refine hK.out _ _ (fun _ => hT7) ?_; clear hK K
          refine M_take (v := ?_) 11 rfl (by kernel_rfl) (by assumption) (fun _ _ _ h => h) (Or.inl ⟨by rfl, ?_⟩) ?_
          rotate_left
          ·(intro w hSw; (try dsimp only at hSw); go_simp; (try with_reducible rfl))
          (try simp only [Act.put, List.setIfInBounds_toArray, List.set_cons_zero, List.set_cons_succ])
          refine M_step 13 rfl (by kernel_rfl) (fun K hK => ?_)
          have hend := h7.fin rfl hdn1 (by omega) (by omega); obtain ⟨b0, b1, b2, b3⟩ := (h7.D _ rfl).1; have zb := (h7.D _ rfl).1.lt; (try simp only [World.size_alloc, World.size_drew] at b0 b1 b2 b3 zb hend); have HEND := Lib.hid hend; clear hend; go_simp; refine hK.out _ _ (fun e => by cases e) ?_; clear hK K
          refine M_done (by kernel_rfl) ?_ _
          clear hT0 b0 b1 b2 b3 zb
          go_wp2_with fail
          go_meet
          first | exact HEND.out | (have h := HEND.out; rw [set_new2] at h; exact h) | exact wend_drew HEND.out
        ·go_simp; have h5 := h4.allocD; have hT5 := TC.out _ h5.bl; refine hK.out _ _ (fun _ => hT5) ?_; clear hK K
         refine M_step 7 rfl (by kernel_rfl) (fun K hK => ?_)
         obtain ⟨vS, W6, hrun7, h6⟩ := h5.appS (c := d.sc) (DD2.out _ h5.bl).2 (by omega) 23; rw [Nat.zero_add, List.nil_append] at h6; obtain ⟨g7, cap7, rfl⟩ := own_some (h6.S _ _ _ rfl).1 (h6.S _ _ _ rfl).2; refine step_app_run rfl (.tmp 20) (.tmp 22) 23 rfl _ _ (by simp [Act.eval]; first | done | rfl) (by simp [Act.eval]; first | done | rfl) _ W6 hrun7 ?_; have hT6 := TC.out _ h6.bl; refine hK.out _ _ (fun _ => hT6) ?_; clear hK K
         refine M_step 10 rfl (by kernel_rfl) (fun K hK => ?_)
         obtain ⟨vT, W7, hrun10, h7⟩ := h6.appS (c := 1) (h6.X _ rfl).1 (by omega) 23; obtain ⟨cg, ccap, rfl⟩ := own_some (h7.S _ _ _ rfl).1 (h7.S _ _ _ rfl).2; refine step_app_run rfl (.tmp 23) (.tmp 25) 23 rfl _ _ (by simp [Act.eval]; first | done | rfl) (by simp [Act.eval]; first | done | rfl) _ W7 hrun10 ?_; have hT7 := TC.out _ h7.bl; refine hK.out _ _ (fun _ => hT7) ?_; clear hK K
         refine M_take (v := ?_) 11 rfl (by kernel_rfl) (by assumption) (fun _ _ _ h => h) (Or.inl ⟨by rfl, ?_⟩) ?_
         rotate_left
         ·(intro w hSw; (try dsimp only at hSw); go_simp; (try with_reducible rfl))
         (try simp only [Act.put, List.setIfInBounds_toArray, List.set_cons_zero, List.set_cons_succ])
         refine M_step 13 rfl (by kernel_rfl) (fun K hK => ?_)
         have hend := h7.fin rfl hdn1 (by omega) (by omega); obtain ⟨b0, b1, b2, b3⟩ := (h7.D _ rfl).1; have zb := (h7.D _ rfl).1.lt; (try simp only [World.size_alloc, World.size_drew] at b0 b1 b2 b3 zb hend); have HEND := Lib.hid hend; clear hend; go_simp; refine hK.out _ _ (fun e => by cases e) ?_; clear hK K
         refine M_done (by kernel_rfl) ?_ _
         clear hT0 b0 b1 b2 b3 zb
         go_wp2_with fail
         go_meet
         first | exact HEND.out | (have h := HEND.out; rw [set_new2] at h; exact h) | exact wend_drew HEND.out
       ·go_simp; have h4 := h3.allocD; have hT4 := TC.out _ h4.bl; refine hK.out _ _ (fun _ => hT4) ?_; clear hK K
        refine M_step 4 rfl (by kernel_rfl) (fun K hK => ?_)
        go_simp; have h5 := h4.allocS; have hT5 := TC.out _ h5.bl; refine hK.out _ _ (fun _ => hT5) ?_; clear hK K
        refine M_step 7 rfl (by kernel_rfl) (fun K hK => ?_)
        obtain ⟨vS, W6, hrun7, h6⟩ := h5.appS (c := d.sc) (DD2.out _ h5.bl).2 (by omega) 23; rw [Nat.zero_add, List.nil_append] at h6; obtain ⟨g7, cap7, rfl⟩ := own_some (h6.S _ _ _ rfl).1 (h6.S _ _ _ rfl).2; refine step_app_run rfl (.tmp 20) (.tmp 22) 23 rfl _ _ (by simp [Act.eval]; first | done | rfl) (by simp [Act.eval]; first | done | rfl) _ W6 hrun7 ?_; have hT6 := TC.out _ h6.bl; refine hK.out _ _ (fun _ => hT6) ?_; clear hK K
        refine M_step 10 rfl (by kernel_rfl) (fun K hK => ?_)
        obtain ⟨vT, W7, hrun10, h7⟩ := h6.appS (c := 1) (h6.X _ rfl).1 (by omega) 23; obtain ⟨cg, ccap, rfl⟩ := own_some (h7.S _ _ _ rfl).1 (h7.S _ _ _ rfl).2; refine step_app_run rfl (.tmp 23) (.tmp 25) 23 rfl _ _ (by simp [Act.eval]; first | done | rfl) (by simp [Act.eval]; first | done | rfl) _ W7 hrun10 ?_; have hT7 := TC.out _ h7.bl; refine hK.out _ _ (fun _ => hT7) ?_; clear hK K
        refine M_take (v := ?_) 11 rfl (by kernel_rfl) (by assumption) (fun _ _ _ h => h) (Or.inl ⟨by rfl, ?_⟩) ?_
        rotate_left
        ·(intro w hSw; (try dsimp only at hSw); go_simp; (try with_reducible rfl))
        (try simp only [Act.put, List.setIfInBounds_toArray, List.set_cons_zero, List.set_cons_succ])
        refine M_step 13 rfl (by kernel_rfl) (fun K hK => ?_)
        have hend := h7.fin rfl hdn1 (by omega) (by omega); obtain ⟨b0, b1, b2, b3⟩ := (h7.D _ rfl).1; have zb := (h7.D _ rfl).1.lt; (try simp only [World.size_alloc, World.size_drew] at b0 b1 b2 b3 zb hend); have HEND := Lib.hid hend; clear hend; go_simp; refine hK.out _ _ (fun e => by cases e) ?_; clear hK K
        refine M_done (by kernel_rfl) ?_ _
        clear hT0 b0 b1 b2 b3 zb
        go_wp2_with fail
        go_meet
        first | exact HEND.out | (have h := HEND.out; rw [set_new2] at h; exact h) | exact wend_drew HEND.out
      ·go_simp; have h3 := h2.allocS; have hT3 := TC.out _ h3.bl; refine hK.out _ _ (fun _ => hT3) ?_; clear hK K
       refine M_fork 3 12 rfl rfl (by kernel_rfl) (fun K hK => ?_) (fun K hK => ?_)
       ·obtain ⟨vR, W4, hrun, h4⟩ := h3.appR (c := d.rc) (DD2.out _ h3.bl).1 (by omega) 22; obtain ⟨g, cap, rfl⟩ := own_some (h4.R _ _ _ rfl).1 (h4.R _ _ _ rfl).2; refine step_app_run rfl (.tmp 16) (.tmp 18) 22 rfl _ _ (by simp [Act.eval]; first | done | rfl) (by simp [Act.eval]; first | done | rfl) _ W4 hrun ?_; have hT4 := TC.out _ h4.bl; refine hK.out _ _ (fun _ => hT4) ?_; clear hK K
        refine M_fork 7 12 rfl rfl (by kernel_rfl) (fun K hK => ?_) (fun K hK => ?_)
        ·obtain ⟨vS, W5, hrun7, h5⟩ := h4.appS (c := d.sc) (DD2.out _ h4.bl).2 (by omega) 23; rw [Nat.zero_add, List.nil_append] at h5; obtain ⟨g7, cap7, rfl⟩ := own_some (h5.S _ _ _ rfl).1 (h5.S _ _ _ rfl).2; refine step_app_run rfl (.tmp 20) (.tmp 22) 23 rfl _ _ (by simp [Act.eval]; first | done | rfl) (by simp [Act.eval]; first | done | rfl) _ W5 hrun7 ?_; have hT5 := TC.out _ h5.bl; refine hK.out _ _ (fun _ => hT5) ?_; clear hK K
         refine M_fork 10 12 rfl rfl (by kernel_rfl) (fun K hK => ?_) (fun K hK => ?_)
         ·obtain ⟨vT, W6, hrun10, h6⟩ := h5.appS (c := 1) (h5.X _ rfl).1 (by omega) 23; obtain ⟨cg, ccap, rfl⟩ := own_some (h6.S _ _ _ rfl).1 (h6.S _ _ _ rfl).2; refine step_app_run rfl (.tmp 23) (.tmp 25) 23 rfl _ _ (by simp [Act.eval]; first | done | rfl) (by simp [Act.eval]; first | done | rfl) _ W6 hrun10 ?_; have hT6 := TC.out _ h6.bl; refine hK.out _ _ (fun _ => hT6) ?_; clear hK K
          refine M_take (v := ?_) 11 rfl (by kernel_rfl) (by assumption) (fun _ _ _ h => h) (Or.inl ⟨by rfl, ?_⟩) ?_
          rotate_left
          ·(intro w hSw; (try dsimp only at hSw); go_simp; (try with_reducible rfl))
          (try simp only [Act.put, List.setIfInBounds_toArray, List.set_cons_zero, List.set_cons_succ])
          refine M_step 12 rfl (by kernel_rfl) (fun K hK => ?_)
          go_simp; have h7 := h6.allocD; have hT7 := TC.out _ h7.bl; refine hK.out _ _ (fun _ => hT7) ?_; clear hK K
          refine M_step 13 rfl (by kernel_rfl) (fun K hK => ?_)
          have hend := h7.fin rfl hdn1 (by omega) (by omega); obtain ⟨b0, b1, b2, b3⟩ := (h7.D _ rfl).1; have zb := (h7.D _ rfl).1.lt; (try simp only [World.size_alloc, World.size_drew] at b0 b1 b2 b3 zb hend); have HEND := Lib.hid hend; clear hend; go_simp; refine hK.out _ _ (fun e => by cases e) ?_; clear hK K
          refine M_done (by kernel_rfl) ?_ _
          clear hT0 b0 b1 b2 b3 zb
          go_wp2_with fail
          go_meet
          first | exact HEND.out | (have h := HEND.out; rw [set_new2] at h; exact h) | exact wend_drew HEND.out
         ·go_simp; have h6 := h5.allocD; have hT6 := TC.out _ h6.bl; refine hK.out _ _ (fun _ => hT6) ?_; clear hK K
          refine M_step 10 rfl (by kernel_rfl) (fun K hK => ?_)
          obtain ⟨vT, W7, hrun10, h7⟩ := h6.appS (c := 1) (h6.X _ rfl).1 (by omega) 23; obtain ⟨cg, ccap, rfl⟩ := own_some (h7.S _ _ _ rfl).1 (h7.S _ _ _ rfl).2; refine step_app_run rfl (.tmp 23) (.tmp 25) 23 rfl _ _ (by simp [Act.eval]; first | done | rfl) (by simp [Act.eval]; first | done | rfl) _ W7 hrun10 ?_; have hT7 := TC.out _ h7.bl; refine hK.out _ _ (fun _ => hT7) ?_; clear hK K
          refine M_take (v := ?_) 11 rfl (by kernel_rfl) (by assumption) (fun _ _ _ h => h) (Or.inl ⟨by rfl, ?_⟩) ?_
          rotate_left
          ·(intro w hSw; (try dsimp only at hSw); go_simp; (try with_reducible rfl))
          (try simp only [Act.put, List.setIfInBounds_toArray, List.set_cons_zero, List.set_cons_succ])
          refine M_step 13 rfl (by kernel_rfl) (fun K hK => ?_)
          have hend := h7.fin rfl hdn1 (by omega) (by omega); obtain ⟨b0, b1, b2, b3⟩ := (h7.D _ rfl).1; have zb := (h7.D _ rfl).1.lt; (try simp only [World.size_alloc, World.size_drew] at b0 b1 b2 b3 zb hend); have HEND := Lib.hid hend; clear hend; go_simp; refine hK.out _ _ (fun e => by cases e) ?_; clear hK K
          refine M_done (by kernel_rfl) ?_ _
          clear hT0 b0 b1 b2 b3 zb
          go_wp2_with fail
          go_meet
          first | exact HEND.out | (have h := HEND.out; rw [set_new2] at h; exact h) | exact wend_drew HEND.out
        ·go_simp; have h5 := h4.allocD; have hT5 := TC.out _ h5.bl; refine hK.out _ _ (fun _ => hT5) ?_; clear hK K
         refine M_step 7 rfl (by kernel_rfl) (fun K hK => ?_)
         obtain ⟨vS, W6, hrun7, h6⟩ := h5.appS (c := d.sc) (DD2.out _ h5.bl).2 (by omega) 23; rw [Nat.zero_add, List.nil_append] at h6; obtain ⟨g7, cap7, rfl⟩ := own_some (h6.S _ _ _ rfl).1 (h6.S _ _ _ rfl).2; refine step_app_run rfl (.tmp 20) (.tmp 22) 23 rfl _ _ (by simp [Act.eval]; first | done | rfl) (by simp [Act.eval]; first | done | rfl) _ W6 hrun7 ?_; have hT6 := TC.out _ h6.bl; refine hK.out _ _ (fun _ => hT6) ?_; clear hK K
         refine M_step 10 rfl (by kernel_rfl) (fun K hK => ?_)
         obtain ⟨vT, W7, hrun10, h7⟩ := h6.appS (c := 1) (h6.X _ rfl).1 (by omega) 23; obtain ⟨cg, ccap, rfl⟩ := own_some (h7.S _ _ _ rfl).1 (h7.S _ _ _ rfl).2; refine step_app_run rfl (.tmp 23) (.tmp 25) 23 rfl _ _ (by simp [Act.eval]; first | done | rfl) (by simp [Act.eval]; first | done | rfl) _ W7 hrun10 ?_; have hT7 := TC.out _ h7.bl; refine hK.out _ _ (fun _ => hT7) ?_; clear hK K
         refine M_take (v := ?_) 11 rfl (by kernel_rfl) (by assumption) (fun _ _ _ h => h) (Or.inl ⟨by rfl, ?_⟩) ?_
         rotate_left
         ·(intro w hSw; (try dsimp only at hSw); go_simp; (try with_reducible rfl))
         (try simp only [Act.put, List.setIfInBounds_toArray, List.set_cons_zero, List.set_cons_succ])
         refine M_step 13 rfl (by kernel_rfl) (fun K hK => ?_)
         have hend := h7.fin rfl hdn1 (by omega) (by omega); obtain ⟨b0, b1, b2, b3⟩ := (h7.D _ rfl).1; have zb := (h7.D _ rfl).1.lt; (try simp only [World.size_alloc, World.size_drew] at b0 b1 b2 b3 zb hend); have HEND := Lib.hid hend; clear hend; go_simp; refine hK.out _ _ (fun e => by cases e) ?_; clear hK K
         refine M_done (by kernel_rfl) ?_ _
         clear hT0 b0 b1 b2 b3 zb
         go_wp2_with fail
         go_meet
         first | exact HEND.out | (have h := HEND.out; rw [set_new2] at h; exact h) | exact wend_drew HEND.out
       ·go_simp; have h4 := h3.allocD; have hT4 := TC.out _ h4.bl; refine hK.out _ _ (fun _ => hT4) ?_; clear hK K
        refine M_step 3 rfl (by kernel_rfl) (fun K hK => ?_)
        obtain ⟨vR, W5, hrun, h5⟩ := h4.appR (c := d.rc) (DD2.out _ h4.bl).1 (by omega) 22; obtain ⟨g, cap, rfl⟩ := own_some (h5.R _ _ _ rfl).1 (h5.R _ _ _ rfl).2; refine step_app_run rfl (.tmp 16) (.tmp 18) 22 rfl _ _ (by simp [Act.eval]; first | done | rfl) (by simp [Act.eval]; first | done | rfl) _ W5 hrun ?_; have hT5 := TC.out _ h5.bl; refine hK.out _ _ (fun _ => hT5) ?_; clear hK K
        refine M_step 7 rfl (by kernel_rfl) (fun K hK => ?_)
        obtain ⟨vS, W6, hrun7, h6⟩ := h5.appS (c := d.sc) (DD2.out _ h5.bl).2 (by omega) 23; rw [Nat.zero_add, List.nil_append] at h6; obtain ⟨g7, cap7, rfl⟩ := own_some (h6.S _ _ _ rfl).1 (h6.S _ _ _ rfl).2; refine step_app_run rfl (.tmp 20) (.tmp 22) 23 rfl _ _ (by simp [Act.eval]; first | done | rfl) (by simp [Act.eval]; first | done | rfl) _ W6 hrun7 ?_; have hT6 := TC.out _ h6.bl; refine hK.out _ _ (fun _ => hT6) ?_; clear hK K
        refine M_step 10 rfl (by kernel_rfl) (fun K hK => ?_)
        obtain ⟨vT, W7, hrun10, h7⟩ := h6.appS (c := 1) (h6.X _ rfl).1 (by omega) 23; obtain ⟨cg, ccap, rfl⟩ := own_some (h7.S _ _ _ rfl).1 (h7.S _ _ _ rfl).2; refine step_app_run rfl (.tmp 23) (.tmp 25) 23 rfl _ _ (by simp [Act.eval]; first | done | rfl) (by simp [Act.eval]; first | done | rfl) _ W7 hrun10 ?_; have hT7 := TC.out _ h7.bl; refine hK.out _ _ (fun _ => hT7) ?_; clear hK K
        refine M_take (v := ?_) 11 rfl (by kernel_rfl) (by assumption) (fun _ _ _ h => h) (Or.inl ⟨by rfl, ?_⟩) ?_
        rotate_left
        ·(intro w hSw; (try dsimp only at hSw); go_simp; (try with_reducible rfl))
        (try simp only [Act.put, List.setIfInBounds_toArray, List.set_cons_zero, List.set_cons_succ])
        refine M_step 13 rfl (by kernel_rfl) (fun K hK => ?_)
        have hend := h7.fin rfl hdn1 (by omega) (by omega); obtain ⟨b0, b1, b2, b3⟩ := (h7.D _ rfl).1; have zb := (h7.D _ rfl).1.lt; (try simp only [World.size_alloc, World.size_drew] at b0 b1 b2 b3 zb hend); have HEND := Lib.hid hend; clear hend; go_simp; refine hK.out _ _ (fun e => by cases e) ?_; clear hK K
        refine M_done (by kernel_rfl) ?_ _
        clear hT0 b0 b1 b2 b3 zb
        go_wp2_with fail
        go_meet
        first | exact HEND.out | (have h := HEND.out; rw [set_new2] at h; exact h) | exact wend_drew HEND.out
      ·go_simp; have h3 := h2.allocD; have hT3 := TC.out _ h3.bl; refine hK.out _ _ (fun _ => hT3) ?_; clear hK K
       refine M_fork 3 4 rfl rfl (by kernel_rfl) (fun K hK => ?_) (fun K hK => ?_)
       ·obtain ⟨vR, W4, hrun, h4⟩ := h3.appR (c := d.rc) (DD2.out _ h3.bl).1 (by omega) 22; obtain ⟨g, cap, rfl⟩ := own_some (h4.R _ _ _ rfl).1 (h4.R _ _ _ rfl).2; refine step_app_run rfl (.tmp 16) (.tmp 18) 22 rfl _ _ (by simp [Act.eval]; first | done | rfl) (by simp [Act.eval]; first | done | rfl) _ W4 hrun ?_; have hT4 := TC.out _ h4.bl; refine hK.out _ _ (fun _ => hT4) ?_; clear hK K
        refine M_step 4 rfl (by kernel_rfl) (fun K hK => ?_)
        go_simp; have h5 := h4.allocS; have hT5 := TC.out _ h5.bl; refine hK.out _ _ (fun _ => hT5) ?_; clear hK K
        refine M_step 7 rfl (by kernel_rfl) (fun K hK => ?_)
        obtain ⟨vS, W6, hrun7, h6⟩ := h5.appS (c := d.sc) (DD2.out _ h5.bl).2 (by omega) 23; rw [Nat.zero_add, List.nil_append] at h6; obtain ⟨g7, cap7, rfl⟩ := own_some (h6.S _ _ _ rfl).1 (h6.S _ _ _ rfl).2; refine step_app_run rfl (.tmp 20) (.tmp 22) 23 rfl _ _ (by simp [Act.eval]; first | done | rfl) (by simp [Act.eval]; first | done | rfl) _ W6 hrun7 ?_; have hT6 := TC.out _ h6.bl; refine hK.out _ _ (fun _ => hT6) ?_; clear hK K
        refine M_step 10 rfl (by kernel_rfl) (fun K hK => ?_)
        obtain ⟨vT, W7, hrun10, h7⟩ := h6.appS (c := 1) (h6.X _ rfl).1 (by omega) 23; obtain ⟨cg, ccap, rfl⟩ := own_some (h7.S _ _ _ rfl).1 (h7.S _ _ _ rfl).2; refine step_app_run rfl (.tmp 23) (.tmp 25) 23 rfl _ _ (by simp [Act.eval]; first | done | rfl) (by simp [Act.eval]; first | done | rfl) _ W7 hrun10 ?_; have hT7 := TC.out _ h7.bl; refine hK.out _ _ (fun _ => hT7) ?_; clear hK K
        refine M_take (v := ?_) 11 rfl (by kernel_rfl) (by assumption) (fun _ _ _ h => h) (Or.inl ⟨by rfl, ?_⟩) ?_
        rotate_left
        ·(intro w hSw; (try dsimp only at hSw); go_simp; (try with_reducible rfl))
        (try simp only [Act.put, List.setIfInBounds_toArray, List.set_cons_zero, List.set_cons_succ])
        refine M_step 13 rfl (by kernel_rfl) (fun K hK => ?_)
        have hend := h7.fin rfl hdn1 (by omega) (by omega); obtain ⟨b0, b1, b2, b3⟩ := (h7.D _ rfl).1; have zb := (h7.D _ rfl).1.lt; (try simp only [World.size_alloc, World.size_drew] at b0 b1 b2 b3 zb hend); have HEND := Lib.hid hend; clear hend; go_simp; refine hK.out _ _ (fun e => by cases e) ?_; clear hK K
        refine M_done (by kernel_rfl) ?_ _
        clear hT0 b0 b1 b2 b3 zb
        go_wp2_with fail
        go_meet
        first | exact HEND.out | (have h := HEND.out; rw [set_new2] at h; exact h) | exact wend_drew HEND.out
       ·go_simp; have h4 := h3.allocS; have hT4 := TC.out _ h4.bl; refine hK.out _ _ (fun _ => hT4) ?_; clear hK K
        refine M_step 3 rfl (by kernel_rfl) (fun K hK => ?_)
        obtain ⟨vR, W5, hrun, h5⟩ := h4.appR (c := d.rc) (DD2.out _ h4.bl).1 (by omega) 22; obtain ⟨g, cap, rfl⟩ := own_some (h5.R _ _ _ rfl).1 (h5.R _ _ _ rfl).2; refine step_app_run rfl (.tmp 16) (.tmp 18) 22 rfl _ _ (by simp [Act.eval]; first | done | rfl) (by simp [Act.eval]; first | done | rfl) _ W5 hrun ?_; have hT5 := TC.out _ h5.bl; refine hK.out _ _ (fun _ => hT5) ?_; clear hK K
        refine M_step 7 rfl (by kernel_rfl) (fun K hK => ?_)
        obtain ⟨vS, W6, hrun7, h6⟩ := h5.appS (c := d.sc) (DD2.out _ h5.bl).2 (by omega) 23; rw [Nat.zero_add, List.nil_append] at h6; obtain ⟨g7, cap7, rfl⟩ := own_some (h6.S _ _ _ rfl).1 (h6.S _ _ _ rfl).2; refine step_app_run rfl (.tmp 20) (.tmp 22) 23 rfl _ _ (by simp [Act.eval]; first | done | rfl) (by simp [Act.eval]; first | done | rfl) _ W6 hrun7 ?_; have hT6 := TC.out _ h6.bl; refine hK.out _ _ (fun _ => hT6) ?_; clear hK K
        refine M_step 10 rfl (by kernel_rfl) (fun K hK => ?_)
        obtain ⟨vT, W7, hrun10, h7⟩ := h6.appS (c := 1) (h6.X _ rfl).1 (by omega) 23; obtain ⟨cg, ccap, rfl⟩ := own_some (h7.S _ _ _ rfl).1 (h7.S _ _ _ rfl).2; refine step_app_run rfl (.tmp 23) (.tmp 25) 23 rfl _ _ (by simp [Act.eval]; first | done | rfl) (by simp [Act.eval]; first | done | rfl) _ W7 hrun10 ?_; have hT7 := TC.out _ h7.bl; refine hK.out _ _ (fun _ => hT7) ?_; clear hK K
        refine M_take (v := ?_) 11 rfl (by kernel_rfl) (by assumption) (fun _ _ _ h => h) (Or.inl ⟨by rfl, ?_⟩) ?_
        rotate_left
        ·(intro w hSw; (try dsimp only at hSw); go_simp; (try with_reducible rfl))
        (try simp only [Act.put, List.setIfInBounds_toArray, List.set_cons_zero, List.set_cons_succ])
        refine M_step 13 rfl (by kernel_rfl) (fun K hK => ?_)
        have hend := h7.fin rfl hdn1 (by omega) (by omega); obtain ⟨b0, b1, b2, b3⟩ := (h7.D _ rfl).1; have zb := (h7.D _ rfl).1.lt; (try simp only [World.size_alloc, World.size_drew] at b0 b1 b2 b3 zb hend); have HEND := Lib.hid hend; clear hend; go_simp; refine hK.out _ _ (fun e => by cases e) ?_; clear hK K
        refine M_done (by kernel_rfl) ?_ _
        clear hT0 b0 b1 b2 b3 zb
        go_wp2_with fail
        go_meet
        first | exact HEND.out | (have h := HEND.out; rw [set_new2] at h; exact h) | exact wend_drew HEND.out
     ·go_simp; have h2 := h1.allocS; have hT2 := TC.out _ h2.bl; refine hK.out _ _ (fun _ => hT2) ?_; clear hK K
      refine M_fork 0 12 rfl rfl (by kernel_rfl) (fun K hK => ?_) (fun K hK => ?_)
      ·go_simp; have h3 := h2.allocR; have hT3 := TC.out _ h3.bl; refine hK.out _ _ (fun _ => hT3) ?_; clear hK K
       refine M_fork 3 12 rfl rfl (by kernel_rfl) (fun K hK => ?_) (fun K hK => ?_)
       ·obtain ⟨vR, W4, hrun, h4⟩ := h3.appR (c := d.rc) (DD2.out _ h3.bl).1 (by omega) 22; obtain ⟨g, cap, rfl⟩ := own_some (h4.R _ _ _ rfl).1 (h4.R _ _ _ rfl).2; refine step_app_run rfl (.tmp 16) (.tmp 18) 22 rfl _ _ (by simp [Act.eval]; first | done | rfl) (by simp [Act.eval]; first | done | rfl) _ W4 hrun ?_; have hT4 := TC.out _ h4.bl; refine hK.out _ _ (fun _ => hT4) ?_; clear hK K
        refine M_fork 7 12 rfl rfl (by kernel_rfl) (fun K hK => ?_) (fun K hK => ?_)
        ·obtain ⟨vS, W5, hrun7, h5⟩ := h4.appS (c := d.sc) (DD2.out _ h4.bl).2 (by omega) 23; rw [Nat.zero_add, List.nil_append] at h5; obtain ⟨g7, cap7, rfl⟩ := own_some (h5.S _ _ _ rfl).1 (h5.S _ _ _ rfl).2; refine step_app_run rfl (.tmp 20) (.tmp 22) 23 rfl _ _ (by simp [Act.eval]; first | done | rfl) (by simp [Act.eval]; first | done | rfl) _ W5 hrun7 ?_; have hT5 := TC.out _ h5.bl; refine hK.out _ _ (fun _ => hT5) ?_; clear hK K
         refine M_fork 10 12 rfl rfl (by kernel_rfl) (fun K hK => ?_) (fun K hK => ?_)
         ·obtain ⟨vT, W6, hrun10, h6⟩ := h5.appS (c := 1) (h5.X _ rfl).1 (by omega) 23; obtain ⟨cg, ccap, rfl⟩ := own_some (h6.S _ _ _ rfl).1 (h6.S _ _ _ rfl).2; refine step_app_run rfl (.tmp 23) (.tmp 25) 23 rfl _ _ (by simp [Act.eval]; first | done | rfl) (by simp [Act.eval]; first | done | rfl) _ W6 hrun10 ?_; have hT6 := TC.out _ h6.bl; refine hK.out _ _ (fun _ => hT6) ?_; clear hK K
          refine M_take (v := ?_) 11 rfl (by kernel_rfl) (by assumption) (fun _ _ _ h => h) (Or.inl ⟨by rfl, ?_⟩) ?_
          rotate_left
          ·(intro w hSw; (try dsimp only at hSw); go_simp; (try with_reducible rfl))
          (try simp only [Act.put, List.setIfInBounds_toArray, List.set_cons_zero, List.set_cons_succ])
          refine M_step 12 rfl (by kernel_rfl) (fun K hK => ?_)
          go_simp; have h7 := h6.allocD; have hT7 := TC.out _ h7.bl; refine hK.out _ _ (fun _ => hT7) ?_; clear hK K
          refine M_step 13 rfl (by kernel_rfl) (fun K hK => ?_)
          have hend := h7.fin rfl hdn1 (by omega) (by omega); obtain ⟨b0, b1, b2, b3⟩ := (h7.D _ rfl).1; have zb := (h7.D _ rfl).1.lt; (try simp only [World.size_alloc, World.size_drew] at b0 b1 b2 b3 zb hend); have HEND := Lib.hid hend; clear hend; go_simp; refine hK.out _ _ (fun e => by cases e) ?_; clear hK K
          refine M_done (by kernel_rfl) ?_ _
          clear hT0 b0 b1 b2 b3 zb
          go_wp2_with fail
          go_meet
          first | exact HEND.out | (have h := HEND.out; rw [set_new2] at h; exact h) | exact wend_drew HEND.out
         ·go_simp; have h6 := h5.allocD; have hT6 := TC.out _ h6.bl; refine hK.out _ _ (fun _ => hT6) ?_; clear hK K
          refine M_step 10 rfl (by kernel_rfl) (fun K hK => ?_)
          obtain ⟨vT, W7, hrun10, h7⟩ := h6.appS (c := 1) (h6.X _ rfl).1 (by omega) 23; obtain ⟨cg, ccap, rfl⟩ := own_some (h7.S _ _ _ rfl).1 (h7.S _ _ _ rfl).2; refine step_app_run rfl (.tmp 23) (.tmp 25) 23 rfl _ _ (by simp [Act.eval]; first | done | rfl) (by simp [Act.eval]; first | done | rfl) _ W7 hrun10 ?_; have hT7 := TC.out _ h7.bl; refine hK.out _ _ (fun _ => hT7) ?_; clear hK K
          refine M_take (v := ?_) 11 rfl (by kernel_rfl) (by assumption) (fun _ _ _ h => h) (Or.inl ⟨by rfl, ?_⟩) ?_
          rotate_left
          ·(intro w hSw; (try dsimp only at hSw); go_simp; (try with_reducible rfl))
          (try simp only [Act.put, List.setIfInBounds_toArray, List.set_cons_zero, List.set_cons_succ])
          refine M_step 13 rfl (by kernel_rfl) (fun K hK => ?_)
          have hend := h7.fin rfl hdn1 (by omega) (by omega); obtain ⟨b0, b1, b2, b3⟩ := (h7.D _ rfl).1; have zb := (h7.D _ rfl).1.lt; (try simp only [World.size_alloc, World.size_drew] at b0 b1 b2 b3 zb hend); have HEND := Lib.hid hend; clear hend; go_simp; refine hK.out _ _ (fun e => by cases e) ?_; clear hK K
          refine M_done (by kernel_rfl) ?_ _
          clear hT0 b0 b1 b2 b3 zb
          go_wp2_with fail
          go_meet
          first | exact HEND.out | (have h := HEND.out; rw [set_new2] at h; exact h) | exact wend_drew HEND.out
        ·go_simp; have h5 := h4.allocD; have hT5 := TC.out _ h5.bl; refine hK.out _ _ (fun _ => hT5) ?_; clear hK K
         refine M_step 7 rfl (by kernel_rfl) (fun K hK => ?_)
         obtain ⟨vS, W6, hrun7, h6⟩ := h5.appS (c := d.sc) (DD2.out _ h5.bl).2 (by omega) 23; rw [Nat.zero_add, List.nil_append] at h6; obtain ⟨g7, cap7, rfl⟩ := own_some (h6.S _ _ _ rfl).1 (h6.S _ _ _ rfl).2; refine step_app_run rfl (.tmp 20) (.tmp 22) 23 rfl _ _ (by simp [Act.eval]; first | done | rfl) (by simp [Act.eval]; first | done | rfl) _ W6 hrun7 ?_; have hT6 := TC.out _ h6.bl; refine hK.out _ _ (fun _ => hT6) ?_; clear hK K
         refine M_step 10 rfl (by kernel_rfl) (fun K hK => ?_)
         obtain ⟨vT, W7, hrun10, h7⟩ := h6.appS (c := 1) (h6.X _ rfl).1 (by omega) 23; obtain ⟨cg, ccap, rfl⟩ := own_some (h7.S _ _ _ rfl).1 (h7.S _ _ _ rfl).2; refine step_app_run rfl (.tmp 23) (.tmp 25) 23 rfl _ _ (by simp [Act.eval]; first | done | rfl) (by simp [Act.eval]; first | done | rfl) _ W7 hrun10 ?_; have hT7 := TC.out _ h7.bl; refine hK.out _ _ (fun _ => hT7) ?_; clear hK K
         refine M_take (v := ?_) 11 rfl (by kernel_rfl) (by assumption) (fun _ _ _ h => h) (Or.inl ⟨by rfl, ?_⟩) ?_
         rotate_left
         ·(intro w hSw; (try dsimp only at hSw); go_simp; (try with_reducible rfl))
         (try simp only [Act.put, List.setIfInBounds_toArray, List.set_cons_zero, List.set_cons_succ])
         refine M_step 13 rfl (by kernel_rfl) (fun K hK => ?_)
         have hend := h7.fin rfl hdn1 (by omega) (by omega); obtain ⟨b0, b1, b2, b3⟩ := (h7.D _ rfl).1; have zb := (h7.D _ rfl).1.lt; (try simp only [World.size_alloc, World.size_drew] at b0 b1 b2 b3 zb hend); have HEND := Lib.hid hend; clear hend; go_simp; refine hK.out _ _ (fun e => by cases e) ?_; clear hK K
         refine M_done (by kernel_rfl) ?_ _
         clear hT0 b0 b1 b2 b3 zb
         go_wp2_with fail
         go_meet
         first | exact HEND.out | (have h := HEND.out; rw [set_new2] at h; exact h) | exact wend_drew HEND.out
       ·go_simp; have h4 := h3.allocD; have hT4 := TC.out _ h4.bl; refine hK.out _ _ (fun _ => hT4) ?_; clear hK K
        refine M_step 3 rfl (by kernel_rfl) (fun K hK => ?_)
        obtain ⟨vR, W5, hrun, h5⟩ := h4.appR (c := d.rc) (DD2.out _ h4.bl).1 (by omega) 22; obtain ⟨g, cap, rfl⟩ := own_some (h5.R _ _ _ rfl).1 (h5.R _ _ _ rfl).2; refine step_app_run rfl (.tmp 16) (.tmp 18) 22 rfl _ _ (by simp [Act.eval]; first | done | rfl) (by simp [Act.eval]; first | done | rfl) _ W5 hrun ?_; have hT5 := TC.out _ h5.bl; refine hK.out _ _ (fun _ => hT5) ?_; clear hK K
        refine M_step 7 rfl (by kernel_rfl) (fun K hK => ?_)
        obtain ⟨vS, W6, hrun7, h6⟩ := h5.appS (c := d.sc) (DD2.out _ h5.bl).2 (by omega) 23; rw [Nat.zero_add, List.nil_append] at h6; obtain ⟨g7, cap7, rfl⟩ := own_some (h6.S _ _ _ rfl).1 (h6.S _ _ _ rfl).2; refine step_app_run rfl (.tmp 20) (.tmp 22) 23 rfl _ _ (by simp [Act.eval]; first | done | rfl) (by simp [Act.eval]; first | done | rfl) _ W6 hrun7 ?_; have hT6 := TC.out _ h6.bl; refine hK.out _ _ (fun _ => hT6) ?_; clear hK K
        refine M_step 10 rfl (by kernel_rfl) (fun K hK => ?_)
        obtain ⟨vT, W7, hrun10, h7⟩ := h6.appS (c := 1) (h6.X _ rfl).1 (by omega) 23; obtain ⟨cg, ccap, rfl⟩ := own_some (h7.S _ _ _ rfl).1 (h7.S _ _ _ rfl).2; refine step_app_run rfl (.tmp 23) (.tmp 25) 23 rfl _ _ (by simp [Act.eval]; first | done | rfl) (by simp [Act.eval]; first | done | rfl) _ W7 hrun10 ?_; have hT7 := TC.out _ h7.bl; refine hK.out _ _ (fun _ => hT7) ?_; clear hK K
        refine M_take (v := ?_) 11 rfl (by kernel_rfl) (by assumption) (fun _ _ _ h => h) (Or.inl ⟨by rfl, ?_⟩) ?_
        rotate_left
        ·(intro w hSw; (try dsimp only at hSw); go_simp; (try with_reducible rfl))
        (try simp only [Act.put, List.setIfInBounds_toArray, List.set_cons_zero, List.set_cons_succ])
        refine M_step 13 rfl (by kernel_rfl) (fun K hK => ?_)
        have hend := h7.fin rfl hdn1 (by omega) (by omega); obtain ⟨b0, b1, b2, b3⟩ := (h7.D _ rfl).1; have zb := (h7.D _ rfl).1.lt; (try simp only [World.size_alloc, World.size_drew] at b0 b1 b2 b3 zb hend); have HEND := Lib.hid hend; clear hend; go_simp; refine hK.out _ _ (fun e => by cases e) ?_; clear hK K
        refine M_done (by kernel_rfl) ?_ _
        clear hT0 b0 b1 b2 b3 zb
        go_wp2_with fail
        go_meet
        first | exact HEND.out | (have h := HEND.out; rw [set_new2] at h; exact h) | exact wend_drew HEND.out
      ·go_simp; have h3 := h2.allocD; have hT3 := TC.out _ h3.bl; refine hK.out _ _ (fun _ => hT3) ?_; clear hK K
       refine M_step 0 rfl (by kernel_rfl) (fun K hK => ?_)
       go_simp; have h4 := h3.allocR; have hT4 := TC.out _ h4.bl; refine hK.out _ _ (fun _ => hT4) ?_; clear hK K
       refine M_step 3 rfl (by kernel_rfl) (fun K hK => ?_)
       obtain ⟨vR, W5, hrun, h5⟩ := h4.appR (c := d.rc) (DD2.out _ h4.bl).1 (by omega) 22; obtain ⟨g, cap, rfl⟩ := own_some (h5.R _ _ _ rfl).1 (h5.R _ _ _ rfl).2; refine step_app_run rfl (.tmp 16) (.tmp 18) 22 rfl _ _ (by simp [Act.eval]; first | done | rfl) (by simp [Act.eval]; first | done | rfl) _ W5 hrun ?_; have hT5 := TC.out _ h5.bl; refine hK.out _ _ (fun _ => hT5) ?_; clear hK K
       refine M_step 7 rfl (by kernel_rfl) (fun K hK => ?_)
       obtain ⟨vS, W6, hrun7, h6⟩ := h5.appS (c := d.sc) (DD2.out _ h5.bl).2 (by omega) 23; rw [Nat.zero_add, List.nil_append] at h6; obtain ⟨g7, cap7, rfl⟩ := own_some (h6.S _ _ _ rfl).1 (h6.S _ _ _ rfl).2; refine step_app_run rfl (.tmp 20) (.tmp 22) 23 rfl _ _ (by simp [Act.eval]; first | done | rfl) (by simp [Act.eval]; first | done | rfl) _ W6 hrun7 ?_; have hT6 := TC.out _ h6.bl; refine hK.out _ _ (fun _ => hT6) ?_; clear hK K
       refine M_step 10 rfl (by kernel_rfl) (fun K hK => ?_)
       obtain ⟨vT, W7, hrun10, h7⟩ := h6.appS (c := 1) (h6.X _ rfl).1 (by omega) 23; obtain ⟨cg, ccap, rfl⟩ := own_some (h7.S _ _ _ rfl).1 (h7.S _ _ _ rfl).2; refine step_app_run rfl (.tmp 23) (.tmp 25) 23 rfl _ _ (by simp [Act.eval]; first | done | rfl) (by simp [Act.eval]; first | done | rfl) _ W7 hrun10 ?_; have hT7 := TC.out _ h7.bl; refine hK.out _ _ (fun _ => hT7) ?_; clear hK K
       refine M_take (v := ?_) 11 rfl (by kernel_rfl) (by assumption) (fun _ _ _ h => h) (Or.inl ⟨by rfl, ?_⟩) ?_
       rotate_left
       ·(intro w hSw; (try dsimp only at hSw); go_simp; (try with_reducible rfl))
       (try simp only [Act.put, List.setIfInBounds_toArray, List.set_cons_zero, List.set_cons_succ])
       refine M_step 13 rfl (by kernel_rfl) (fun K hK => ?_)
       have hend := h7.fin rfl hdn1 (by omega) (by omega); obtain ⟨b0, b1, b2, b3⟩ := (h7.D _ rfl).1; have zb := (h7.D _ rfl).1.lt; (try simp only [World.size_alloc, World.size_drew] at b0 b1 b2 b3 zb hend); have HEND := Lib.hid hend; clear hend; go_simp; refine hK.out _ _ (fun e => by cases e) ?_; clear hK K
       refine M_done (by kernel_rfl) ?_ _
       clear hT0 b0 b1 b2 b3 zb
       go_wp2_with fail
       go_meet
       first | exact HEND.out | (have h := HEND.out; rw [set_new2] at h; exact h) | exact wend_drew HEND.out
     ·go_simp; have h2 := h1.allocD; have hT2 := TC.out _ h2.bl; refine hK.out _ _ (fun _ => hT2) ?_; clear hK K
      refine M_fork 0 4 rfl rfl (by kernel_rfl) (fun K hK => ?_) (fun K hK => ?_)
      ·go_simp; have h3 := h2.allocR; have hT3 := TC.out _ h3.bl; refine hK.out _ _ (fun _ => hT3) ?_; clear hK K
       refine M_fork 3 4 rfl rfl (by kernel_rfl) (fun K hK => ?_) (fun K hK => ?_)
       ·obtain ⟨vR, W4, hrun, h4⟩ := h3.appR (c := d.rc) (DD2.out _ h3.bl).1 (by omega) 22; obtain ⟨g, cap, rfl⟩ := own_some (h4.R _ _ _ rfl).1 (h4.R _ _ _ rfl).2; refine step_app_run rfl (.tmp 16) (.tmp 18) 22 rfl _ _ (by simp [Act.eval]; first | done | rfl) (by simp [Act.eval]; first | done | rfl) _ W4 hrun ?_; have hT4 := TC.out _ h4.bl; refine hK.out _ _ (fun _ => hT4) ?_; clear hK K
        refine M_step 4 rfl (by kernel_rfl) (fun K hK => ?_)
        go_simp; have h5 := h4.allocS; have hT5 := TC.out _ h5.bl; refine hK.out _ _ (fun _ => hT5) ?_; clear hK K
        refine M_step 7 rfl (by kernel_rfl) (fun K hK => ?_)
        obtain ⟨vS, W6, hrun7, h6⟩ := h5.appS (c := d.sc) (DD2.out _ h5.bl).2 (by omega) 23; rw [Nat.zero_add, List.nil_append] at h6; obtain ⟨g7, cap7, rfl⟩ := own_some (h6.S _ _ _ rfl).1 (h6.S _ _ _ rfl).2; refine step_app_run rfl (.tmp 20) (.tmp 22) 23 rfl _ _ (by simp [Act.eval]; first | done | rfl) (by simp [Act.eval]; first | done | rfl) _ W6 hrun7 ?_; have hT6 := TC.out _ h6.bl; refine hK.out _ _ (fun _ => hT6) ?_; clear hK K
        refine M_step 10 rfl (by kernel_rfl) (fun K hK => ?_)
        obtain ⟨vT, W7, hrun10, h7⟩ := h6.appS (c := 1) (h6.X _ rfl).1 (by omega) 23; obtain ⟨cg, ccap, rfl⟩ := own_some (h7.S _ _ _ rfl).1 (h7.S _ _ _ rfl).2; refine step_app_run rfl (.tmp 23) (.tmp 25) 23 rfl _ _ (by simp [Act.eval]; first | done | rfl) (by simp [Act.eval]; first | done | rfl) _ W7 hrun10 ?_; have hT7 := TC.out _ h7.bl; refine hK.out _ _ (fun _ => hT7) ?_; clear hK K
        refine M_take (v := ?_) 11 rfl (by kernel_rfl) (by assumption) (fun _ _ _ h => h) (Or.inl ⟨by rfl, ?_⟩) ?_
        rotate_left
        ·(intro w hSw; (try dsimp only at hSw); go_simp; (try with_reducible rfl))
        (try simp only [Act.put, List.setIfInBounds_toArray, List.set_cons_zero, List.set_cons_succ])
        refine M_step 13 rfl (by kernel_rfl) (fun K hK => ?_)
        have hend := h7.fin rfl hdn1 (by omega) (by omega); obtain ⟨b0, b1, b2, b3⟩ := (h7.D _ rfl).1; have zb := (h7.D _ rfl).1.lt; (try simp only [World.size_alloc, World.size_drew] at b0 b1 b2 b3 zb hend); have HEND := Lib.hid hend; clear hend; go_simp; refine hK.out _ _ (fun e => by cases e) ?_; clear hK K
        refine M_done (by kernel_rfl) ?_ _
        clear hT0 b0 b1 b2 b3 zb
        go_wp2_with fail
        go_meet
        first | exact HEND.out | (have h := HEND.out; rw [set_new2] at h; exact h) | exact wend_drew HEND.out
       ·go_simp; have h4 := h3.allocS; have hT4 := TC.out _ h4.bl; refine hK.out _ _ (fun _ => hT4) ?_; clear hK K
        refine M_step 3 rfl (by kernel_rfl) (fun K hK => ?_)
        obtain ⟨vR, W5, hrun, h5⟩ := h4.appR (c := d.rc) (DD2.out _ h4.bl).1 (by omega) 22; obtain ⟨g, cap, rfl⟩ := own_some (h5.R _ _ _ rfl).1 (h5.R _ _ _ rfl).2; refine step_app_run rfl (.tmp 16) (.tmp 18) 22 rfl _ _ (by simp [Act.eval]; first | done | rfl) (by simp [Act.eval]; first | done | rfl) _ W5 hrun ?_; have hT5 := TC.out _ h5.bl; refine hK.out _ _ (fun _ => hT5) ?_; clear hK K
        refine M_step 7 rfl (by kernel_rfl) (fun K hK => ?_)
        obtain ⟨vS, W6, hrun7, h6⟩ := h5.appS (c := d.sc) (DD2.out _ h5.bl).2 (by omega) 23; rw [Nat.zero_add, List.nil_append] at h6; obtain ⟨g7, cap7, rfl⟩ := own_some (h6.S _ _ _ rfl).1 (h6.S _ _ _ rfl).2; refine step_app_run rfl (.tmp 20) (.tmp 22) 23 rfl _ _ (by simp [Act.eval]; first | done | rfl) (by simp [Act.eval]; first | done | rfl) _ W6 hrun7 ?_; have hT6 := TC.out _ h6.bl; refine hK.out _ _ (fun _ => hT6) ?_; clear hK K
        refine M_step 10 rfl (by kernel_rfl) (fun K hK => ?_)
        obtain ⟨vT, W7, hrun10, h7⟩ := h6.appS (c := 1) (h6.X _ rfl).1 (by omega) 23; obtain ⟨cg, ccap, rfl⟩ := own_some (h7.S _ _ _ rfl).1 (h7.S _ _ _ rfl).2; refine step_app_run rfl (.tmp 23) (.tmp 25) 23 rfl _ _ (by simp [Act.eval]; first | done | rfl) (by simp [Act.eval]; first | done | rfl) _ W7 hrun10 ?_; have hT7 := TC.out _ h7.bl; refine hK.out _ _ (fun _ => hT7) ?_; clear hK K
        refine M_take (v := ?_) 11 rfl (by kernel_rfl) (by assumption) (fun _ _ _ h => h) (Or.inl ⟨by rfl, ?_⟩) ?_
        rotate_left
        ·(intro w hSw; (try dsimp only at hSw); go_simp; (try with_reducible rfl))
        (try simp only [Act.put, List.setIfInBounds_toArray, List.set_cons_zero, List.set_cons_succ])
        refine M_step 13 rfl (by kernel_rfl) (fun K hK => ?_)
        have hend := h7.fin rfl hdn1 (by omega) (by omega); obtain ⟨b0, b1, b2, b3⟩ := (h7.D _ rfl).1; have zb := (h7.D _ rfl).1.lt; (try simp only [World.size_alloc, World.size_drew] at b0 b1 b2 b3 zb hend); have HEND := Lib.hid hend; clear hend; go_simp; refine hK.out _ _ (fun e => by cases e) ?_; clear hK K
        refine M_done (by kernel_rfl) ?_ _
        clear hT0 b0 b1 b2 b3 zb
        go_wp2_with fail
        go_meet
        first | exact HEND.out | (have h := HEND.out; rw [set_new2] at h; exact h) | exact wend_drew HEND.out
      ·go_simp; have h3 := h2.allocS; have hT3 := TC.out _ h3.bl; refine hK.out _ _ (fun _ => hT3) ?_; clear hK K
       refine M_step 0 rfl (by kernel_rfl) (fun K hK => ?_)
       go_simp; have h4 := h3.allocR; have hT4 := TC.out _ h4.bl; refine hK.out _ _ (fun _ => hT4) ?_; clear hK K
       refine M_step 3 rfl (by kernel_rfl) (fun K hK => ?_)
       obtain ⟨vR, W5, hrun, h5⟩ := h4.appR (c := d.rc) (DD2.out _ h4.bl).1 (by omega) 22; obtain ⟨g, cap, rfl⟩ := own_some (h5.R _ _ _ rfl).1 (h5.R _ _ _ rfl).2; refine step_app_run rfl (.tmp 16) (.tmp 18) 22 rfl _ _ (by simp [Act.eval]; first | done | rfl) (by simp [Act.eval]; first | done | rfl) _ W5 hrun ?_; have hT5 := TC.out _ h5.bl; refine hK.out _ _ (fun _ => hT5) ?_; clear hK K
       refine M_step 7 rfl (by kernel_rfl) (fun K hK => ?_)
       obtain ⟨vS, W6, hrun7, h6⟩ := h5.appS (c := d.sc) (DD2.out _ h5.bl).2 (by omega) 23; rw [Nat.zero_add, List.nil_append] at h6; obtain ⟨g7, cap7, rfl⟩ := own_some (h6.S _ _ _ rfl).1 (h6.S _ _ _ rfl).2; refine step_app_run rfl (.tmp 20) (.tmp 22) 23 rfl _ _ (by simp [Act.eval]; first | done | rfl) (by simp [Act.eval]; first | done | rfl) _ W6 hrun7 ?_; have hT6 := TC.out _ h6.bl; refine hK.out _ _ (fun _ => hT6) ?_; clear hK K
       refine M_step 10 rfl (by kernel_rfl) (fun K hK => ?_)
       obtain ⟨vT, W7, hrun10, h7⟩ := h6.appS (c := 1) (h6.X _ rfl).1 (by omega) 23; obtain ⟨cg, ccap, rfl⟩ := own_some (h7.S _ _ _ rfl).1 (h7.S _ _ _ rfl).2; refine step_app_run rfl (.tmp 23) (.tmp 25) 23 rfl _ _ (by simp [Act.eval]; first | done | rfl) (by simp [Act.eval]; first | done | rfl) _ W7 hrun10 ?_; have hT7 := TC.out _ h7.bl; refine hK.out _ _ (fun _ => hT7) ?_; clear hK K
       refine M_take (v := ?_) 11 rfl (by kernel_rfl) (by assumption) (fun _ _ _ h => h) (Or.inl ⟨by rfl, ?_⟩) ?_
       rotate_left
       ·(intro w hSw; (try dsimp only at hSw); go_simp; (try with_reducible rfl))
       (try simp only [Act.put, List.setIfInBounds_toArray, List.set_cons_zero, List.set_cons_succ])
       refine M_step 13 rfl (by kernel_rfl) (fun K hK => ?_)
       have hend := h7.fin rfl hdn1 (by omega) (by omega); obtain ⟨b0, b1, b2, b3⟩ := (h7.D _ rfl).1; have zb := (h7.D _ rfl).1.lt; (try simp only [World.size_alloc, World.size_drew] at b0 b1 b2 b3 zb hend); have HEND := Lib.hid hend; clear hend; go_simp; refine hK.out _ _ (fun e => by cases e) ?_; clear hK K
       refine M_done (by kernel_rfl) ?_ _
       clear hT0 b0 b1 b2 b3 zb
       go_wp2_with fail
       go_meet
       first | exact HEND.out | (have h := HEND.out; rw [set_new2] at h; exact h) | exact wend_drew HEND.out
    ·go_simp; have h1 := h0.allocD; have hT1 := TC.out _ h1.bl; refine hK.out _ _ (fun _ => hT1) ?_; clear hK K
     refine M_fork3 0 4 9 rfl rfl rfl (by kernel_rfl) (fun K hK => ?_) (fun K hK => ?_) (fun K hK => ?_)
     ·go_simp; have h2 := h1.allocR; have hT2 := TC.out _ h2.bl; refine hK.out _ _ (fun _ => hT2) ?_; clear hK K
      refine M_fork3 3 4 9 rfl rfl rfl (by kernel_rfl) (fun K hK => ?_) (fun K hK => ?_) (fun K hK => ?_)
      ·obtain ⟨vR, W3, hrun, h3⟩ := h2.appR (c := d.rc) (DD2.out _ h2.bl).1 (by omega) 22; obtain ⟨g, cap, rfl⟩ := own_some (h3.R _ _ _ rfl).1 (h3.R _ _ _ rfl).2; refine step_app_run rfl (.tmp 16) (.tmp 18) 22 rfl _ _ (by simp [Act.eval]; first | done | rfl) (by simp [Act.eval]; first | done | rfl) _ W3 hrun ?_; have hT3 := TC.out _ h3.bl; refine hK.out _ _ (fun _ => hT3) ?_; clear hK K
       refine M_fork 4 9 rfl rfl (by kernel_rfl) (fun K hK => ?_) (fun K hK => ?_)
       ·go_simp; have h4 := h3.allocS; have hT4 := TC.out _ h4.bl; refine hK.out _ _ (fun _ => hT4) ?_; clear hK K
        refine M_fork 7 9 rfl rfl (by kernel_rfl) (fun K hK => ?_) (fun K hK => ?_)
        ·obtain ⟨vS, W5, hrun7, h5⟩ := h4.appS (c := d.sc) (DD2.out _ h4.bl).2 (by omega) 23; rw [Nat.zero_add, List.nil_append] at h5; obtain ⟨g7, cap7, rfl⟩ := own_some (h5.S _ _ _ rfl).1 (h5.S _ _ _ rfl).2; refine step_app_run rfl (.tmp 20) (.tmp 22) 23 rfl _ _ (by simp [Act.eval]; first | done | rfl) (by simp [Act.eval]; first | done | rfl) _ W5 hrun7 ?_; have hT5 := TC.out _ h5.bl; refine hK.out _ _ (fun _ => hT5) ?_; clear hK K
         refine M_step 9 rfl (by kernel_rfl) (fun K hK => ?_)
         go_simp; have h6 := h5.allocX; have hT6 := TC.out _ h6.bl; refine hK.out _ _ (fun _ => hT6) ?_; clear hK K
         refine M_step 10 rfl (by kernel_rfl) (fun K hK => ?_)
         obtain ⟨vT, W7, hrun10, h7⟩ := h6.appS (c := 1) (h6.X _ rfl).1 (by omega) 23; obtain ⟨cg, ccap, rfl⟩ := own_some (h7.S _ _ _ rfl).1 (h7.S _ _ _ rfl).2; refine step_app_run rfl (.tmp 23) (.tmp 25) 23 rfl _ _ (by simp [Act.eval]; first | done | rfl) (by simp [Act.eval]; first | done | rfl) _ W7 hrun10 ?_; have hT7 := TC.out _ h7.bl; refine hK.out _ _ (fun _ => hT7) ?_; clear hK K
         refine M_take (v := ?_) 11 rfl (by kernel_rfl) (by assumption) (fun _ _ _ h => h) (Or.inl ⟨by rfl, ?_⟩) ?_
         rotate_left
         ·(intro w hSw; (try dsimp only at hSw); go_simp; (try with_reducible rfl))
         (try simp only [Act.put, List.setIfInBounds_toArray, List.set_cons_zero, List.set_cons_succ])
         refine M_step 13 rfl (by kernel_rfl) (fun K hK => ?_)
         have hend := h7.fin rfl hdn1 (by omega) (by omega); obtain ⟨b0, b1, b2, b3⟩ := (h7.D _ rfl).1; have zb := (h7.D _ rfl).1.lt; (try simp only [World.size_alloc, World.size_drew] at b0 b1 b2 b3 zb hend); have HEND := Lib.hid hend; clear hend; go_simp; refine hK.out _ _ (fun e => by cases e) ?_; clear hK K
         refine M_done (by kernel_rfl) ?_ _
         clear hT0 b0 b1 b2 b3 zb
         go_wp2_with fail
         go_meet
         first | exact HEND.out | (have h := HEND.out; rw [set_new2] at h; exact h) | exact wend_drew HEND.out
        ·go_simp; have h5 := h4.allocX; have hT5 := TC.out _ h5.bl; refine hK.out _ _ (fun _ => hT5) ?_; clear hK K
         refine M_step 7 rfl (by kernel_rfl) (fun K hK => ?_)
         obtain ⟨vS, W6, hrun7, h6⟩ := h5.appS (c := d.sc) (DD2.out _ h5.bl).2 (by omega) 23; rw [Nat.zero_add, List.nil_append] at h6; obtain ⟨g7, cap7, rfl⟩ := own_some (h6.S _ _ _ rfl).1 (h6.S _ _ _ rfl).2; refine step_app_run rfl (.tmp 20) (.tmp 22) 23 rfl _ _ (by simp [Act.eval]; first | done | rfl) (by simp [Act.eval]; first | done | rfl) _ W6 hrun7 ?_; have hT6 := TC.out _ h6.bl; refine hK.out _ _ (fun _ => hT6) ?_; clear hK K
         refine M_step 10 rfl (by kernel_rfl) (fun K hK => ?_)
         obtain ⟨vT, W7, hrun10, h7⟩ := h6.appS (c := 1) (h6.X _ rfl).1 (by omega) 23; obtain ⟨cg, ccap, rfl⟩ := own_some (h7.S _ _ _ rfl).1 (h7.S _ _ _ rfl).2; refine step_app_run rfl (.tmp 23) (.tmp 25) 23 rfl _ _ (by simp [Act.eval]; first | done | rfl) (by simp [Act.eval]; first | done | rfl) _ W7 hrun10 ?_; have hT7 := TC.out _ h7.bl; refine hK.out _ _ (fun _ => hT7) ?_; clear hK K
         refine M_take (v := ?_) 11 rfl (by kernel_rfl) (by assumption) (fun _ _ _ h => h) (Or.inl ⟨by rfl, ?_⟩) ?_
         rotate_left
         ·(intro w hSw; (try dsimp only at hSw); go_simp; (try with_reducible rfl))
         (try simp only [Act.put, List.setIfInBounds_toArray, List.set_cons_zero, List.set_cons_succ])
         refine M_step 13 rfl (by kernel_rfl) (fun K hK => ?_)
         have hend := h7.fin rfl hdn1 (by omega) (by omega); obtain ⟨b0, b1, b2, b3⟩ := (h7.D _ rfl).1; have zb := (h7.D _ rfl).1.lt; (try simp only [World.size_alloc, World.size_drew] at b0 b1 b2 b3 zb hend); have HEND := Lib.hid hend; clear hend; go_simp; refine hK.out _ _ (fun e => by cases e) ?_; clear hK K
         refine M_done (by kernel_rfl) ?_ _
         clear hT0 b0 b1 b2 b3 zb
         go_wp2_with fail
         go_meet
         first | exact HEND.out | (have h := HEND.out; rw [set_new2] at h; exact h) | exact wend_drew HEND.out
       ·go_simp; have h4 := h3.allocX; have hT4 := TC.out _ h4.bl; refine hK.out _ _ (fun _ => hT4) ?_; clear hK K
        refine M_step 4 rfl (by kernel_rfl) (fun K hK => ?_)
        go_simp; have h5 := h4.allocS; have hT5 := TC.out _ h5.bl; refine hK.out _ _ (fun _ => hT5) ?_; clear hK K
        refine M_step 7 rfl (by kernel_rfl) (fun K hK => ?_)
        obtain ⟨vS, W6, hrun7, h6⟩ := h5.appS (c := d.sc) (DD2.out _ h5.bl).2 (by omega) 23; rw [Nat.zero_add, List.nil_append] at h6; obtain ⟨g7, cap7, rfl⟩ := own_some (h6.S _ _ _ rfl).1 (h6.S _ _ _ rfl).2; refine step_app_run rfl (.tmp 20) (.tmp 22) 23 rfl _ _ (by simp [Act.eval]; first | done | rfl) (by simp [Act.eval]; first | done | rfl) _ W6 hrun7 ?_; have hT6 := TC.out _ h6.bl; refine hK.out _ _ (fun _ => hT6) ?_; clear hK K
        refine M_step 10 rfl (by kernel_rfl) (fun K hK => ?_)
        obtain ⟨vT, W7, hrun10, h7⟩ := h6.appS (c := 1) (h6.X _ rfl).1 (by omega) 23; obtain ⟨cg, ccap, rfl⟩ := own_some (h7.S _ _ _ rfl).1 (h7.S _ _ _ rfl).2; refine step_app_run rfl (.tmp 23) (.tmp 25) 23 rfl _ _ (by simp [Act.eval]; first | done | rfl) (by simp [Act.eval]; first | done | rfl) _ W7 hrun10 ?_; have hT7 := TC.out _ h7.bl; refine hK.out _ _ (fun _ => hT7) ?_; clear hK K
        refine M_take (v := ?_) 11 rfl (by kernel_rfl) (by assumption) (fun _ _ _ h => h) (Or.inl ⟨by rfl, ?_⟩) ?_
        rotate_left
        ·(intro w hSw; (try dsimp only at hSw); go_simp; (try with_reducible rfl))
        (try simp only [Act.put, List.setIfInBounds_toArray, List.set_cons_zero, List.set_cons_succ])
        refine M_step 13 rfl (by kernel_rfl) (fun K hK => ?_)
        have hend := h7.fin rfl hdn1 (by omega) (by omega); obtain ⟨b0, b1, b2, b3⟩ := (h7.D _ rfl).1; have zb := (h7.D _ rfl).1.lt; (try simp only [World.size_alloc, World.size_drew] at b0 b1 b2 b3 zb hend); have HEND := Lib.hid hend; clear hend; go_simp; refine hK.out _ _ (fun e => by cases e) ?_; clear hK K
        refine M_done (by kernel_rfl) ?_ _
        clear hT0 b0 b1 b2 b3 zb
        go_wp2_with fail
        go_meet
        first | exact HEND.out | (have h := HEND.out; rw [set_new2] at h; exact h) | exact wend_drew HEND.out
      ·go_simp; have h3 := h2.allocS; have hT3 := TC.out _ h3.bl; refine hK.out _ _ (fun _ => hT3) ?_; clear hK K
       refine M_fork 3 9 rfl rfl (by kernel_rfl) (fun K hK => ?_) (fun K hK => ?_)
       ·obtain ⟨vR, W4, hrun, h4⟩ := h3.appR (c := d.rc) (DD2.out _ h3.bl).1 (by omega) 22; obtain ⟨g, cap, rfl⟩ := own_some (h4.R _ _ _ rfl).1 (h4.R _ _ _ rfl).2; refine step_app_run rfl (.tmp 16) (.tmp 18) 22 rfl _ _ (by simp [Act.eval]; first | done | rfl) (by simp [Act.eval]; first | done | rfl) _ W4 hrun ?_; have hT4 := TC.out _ h4.bl; refine hK.out _ _ (fun _ => hT4) ?_; clear hK K
        refine M_fork 7 9 rfl rfl (by kernel_rfl) (fun K hK => ?_) (fun K hK => ?_)
        ·obtain ⟨vS, W5, hrun7, h5⟩ := h4.appS (c := d.sc) (DD2.out _ h4.bl).2 (by omega) 23; rw [Nat.zero_add, List.nil_append] at h5; obtain ⟨g7, cap7, rfl⟩ := own_some (h5.S _ _ _ rfl).1 (h5.S _ _ _ rfl).2; refine step_app_run rfl (.tmp 20) (.tmp 22) 23 rfl _ _ (by simp [Act.eval]; first | done | rfl) (by simp [Act.eval]; first | done | rfl) _ W5 hrun7 ?_; have hT5 := TC.out _ h5.bl; refine hK.out _ _ (fun _ => hT5) ?_; clear hK K
         refine M_step 9 rfl (by kernel_rfl) (fun K hK => ?_)
         go_simp; have h6 := h5.allocX; have hT6 := TC.out _ h6.bl; refine hK.out _ _ (fun _ => hT6) ?_; clear hK K
         refine M_step 10 rfl (by kernel_rfl) (fun K hK => ?_)
         obtain ⟨vT, W7, hrun10, h7⟩ := h6.appS (c := 1) (h6.X _ rfl).1 (by omega) 23; obtain ⟨cg, ccap, rfl⟩ := own_some (h7.S _ _ _ rfl).1 (h7.S _ _ _ rfl).2; refine step_app_run rfl (.tmp 23) (.tmp 25) 23 rfl _ _ (by simp [Act.eval]; first | done | rfl) (by simp [Act.eval]; first | done | rfl) _ W7 hrun10 ?_; have hT7 := TC.out _ h7.bl; refine hK.out _ _ (fun _ => hT7) ?_; clear hK K
         refine M_take (v := ?_) 11 rfl (by kernel_rfl) (by assumption) (fun _ _ _ h => h) (Or.inl ⟨by rfl, ?_⟩) ?_
         rotate_left
         ·(intro w hSw; (try dsimp only at hSw); go_simp; (try with_reducible rfl))
         (try simp only [Act.put, List.setIfInBounds_toArray, List.set_cons_zero, List.set_cons_succ])
         refine M_step 13 rfl (by kernel_rfl) (fun K hK => ?_)
         have hend := h7.fin rfl hdn1 (by omega) (by omega); obtain ⟨b0, b1, b2, b3⟩ := (h7.D _ rfl).1; have zb := (h7.D _ rfl).1.lt; (try simp only [World.size_alloc, World.size_drew] at b0 b1 b2 b3 zb hend); have HEND := Lib.hid hend; clear hend; go_simp; refine hK.out _ _ (fun e => by cases e) ?_; clear hK K
         refine M_done (by kernel_rfl) ?_ _
         clear hT0 b0 b1 b2 b3 zb
         go_wp2_with fail
         go_meet
         first | exact HEND.out | (have h := HEND.out; rw [set_new2] at h; exact h) | exact wend_drew HEND.out
        ·go_simp; have h5 := h4.allocX; have hT5 := TC.out _ h5.bl; refine hK.out _ _ (fun _ => hT5) ?_; clear hK K
         refine M_step 7 rfl (by kernel_rfl) (fun K hK => ?_)
         obtain ⟨vS, W6, hrun7, h6⟩ := h5.appS (c := d.sc) (DD2.out _ h5.bl).2 (by omega) 23; rw [Nat.zero_add, List.nil_append] at h6; obtain ⟨g7, cap7, rfl⟩ := own_some (h6.S _ _ _ rfl).1 (h6.S _ _ _ rfl).2; refine step_app_run rfl (.tmp 20) (.tmp 22) 23 rfl _ _ (by simp [Act.eval]; first | done | rfl) (by simp [Act.eval]; first | done | rfl) _ W6 hrun7 ?_; have hT6 := TC.out _ h6.bl; refine hK.out _ _ (fun _ => hT6) ?_; clear hK K
         refine M_step 10 rfl (by kernel_rfl) (fun K hK => ?_)
         obtain ⟨vT, W7, hrun10, h7⟩ := h6.appS (c := 1) (h6.X _ rfl).1 (by omega) 23; obtain ⟨cg, ccap, rfl⟩ := own_some (h7.S _ _ _ rfl).1 (h7.S _ _ _ rfl).2; refine step_app_run rfl (.tmp 23) (.tmp 25) 23 rfl _ _ (by simp [Act.eval]; first | done | rfl) (by simp [Act.eval]; first | done | rfl) _ W7 hrun10 ?_; have hT7 := TC.out _ h7.bl; refine hK.out _ _ (fun _ => hT7) ?_; clear hK K
         refine M_take (v := ?_) 11 rfl (by kernel_rfl) (by assumption) (fun _ _ _ h => h) (Or.inl ⟨by rfl, ?_⟩) ?_
         rotate_left
         ·(intro w hSw; (try dsimp only at hSw); go_simp; (try with_reducible rfl))
         (try simp only [Act.put, List.setIfInBounds_toArray, List.set_cons_zero, List.set_cons_succ])
         refine M_step 13 rfl (by kernel_rfl) (fun K hK => ?_)
         have hend := h7.fin rfl hdn1 (by omega) (by omega); obtain ⟨b0, b1, b2, b3⟩ := (h7.D _ rfl).1; have zb := (h7.D _ rfl).1.lt; (try simp only [World.size_alloc, World.size_drew] at b0 b1 b2 b3 zb hend); have HEND := Lib.hid hend; clear hend; go_simp; refine hK.out _ _ (fun e => by cases e) ?_; clear hK K
         refine M_done (by kernel_rfl) ?_ _
         clear hT0 b0 b1 b2 b3 zb
         go_wp2_with fail
         go_meet
         first | exact HEND.out | (have h := HEND.out; rw [set_new2] at h; exact h) | exact wend_drew HEND.out
       ·go_simp; have h4 := h3.allocX; have hT4 := TC.out _ h4.bl; refine hK.out _ _ (fun _ => hT4) ?_; clear hK K
        refine M_step 3 rfl (by kernel_rfl) (fun K hK => ?_)
        obtain ⟨vR, W5, hrun, h5⟩ := h4.appR (c := d.rc) (DD2.out _ h4.bl).1 (by omega) 22; obtain ⟨g, cap, rfl⟩ := own_some (h5.R _ _ _ rfl).1 (h5.R _ _ _ rfl).2; refine step_app_run rfl (.tmp 16) (.tmp 18) 22 rfl _ _ (by simp [Act.eval]; first | done | rfl) (by simp [Act.eval]; first | done | rfl) _ W5 hrun ?_; have hT5 := TC.out _ h5.bl; refine hK.out _ _ (fun _ => hT5) ?_; clear hK K
        refine M_step 7 rfl (by kernel_rfl) (fun K hK => ?_)
        obtain ⟨vS, W6, hrun7, h6⟩ := h5.appS (c := d.sc) (DD2.out _ h5.bl).2 (by omega) 23; rw [Nat.zero_add, List.nil_append] at h6; obtain ⟨g7, cap7, rfl⟩ := own_some (h6.S _ _ _ rfl).1 (h6.S _ _ _ rfl).2; refine step_app_run rfl (.tmp 20) (.tmp 22) 23 rfl _ _ (by simp [Act.eval]; first | done | rfl) (by simp [Act.eval]; first | done | rfl) _ W6 hrun7 ?_; have hT6 := TC.out _ h6.bl; refine hK.out _ _ (fun _ => hT6) ?_; clear hK K
        refine M_step 10 rfl (by kernel_rfl) (fun K hK => ?_)
        obtain ⟨vT, W7, hrun10, h7⟩ := h6.appS (c := 1) (h6.X _ rfl).1 (by omega) 23; obtain ⟨cg, ccap, rfl⟩ := own_some (h7.S _ _ _ rfl).1 (h7.S _ _ _ rfl).2; refine step_app_run rfl (.tmp 23) (.tmp 25) 23 rfl _ _ (by simp [Act.eval]; first | done | rfl) (by simp [Act.eval]; first | done | rfl) _ W7 hrun10 ?_; have hT7 := TC.out _ h7.bl; refine hK.out _ _ (fun _ => hT7) ?_; clear hK K
        refine M_take (v := ?_) 11 rfl (by kernel_rfl) (by assumption) (fun _ _ _ h => h) (Or.inl ⟨by rfl, ?_⟩) ?_
        rotate_left
        ·(intro w hSw; (try dsimp only at hSw); go_simp; (try with_reducible rfl))
        (try simp only [Act.put, List.setIfInBounds_toArray, List.set_cons_zero, List.set_cons_succ])
        refine M_step 13 rfl (by kernel_rfl) (fun K hK => ?_)
        have hend := h7.fin rfl hdn1 (by omega) (by omega); obtain ⟨b0, b1, b2, b3⟩ := (h7.D _ rfl).1; have zb := (h7.D _ rfl).1.lt; (try simp only [World.size_alloc, World.size_drew] at b0 b1 b2 b3 zb hend); have HEND := Lib.hid hend; clear hend; go_simp; refine hK.out _ _ (fun e => by cases e) ?_; clear hK K
        refine M_done (by kernel_rfl) ?_ _
        clear hT0 b0 b1 b2 b3 zb
        go_wp2_with fail
        go_meet
        first | exact HEND.out | (have h := HEND.out; rw [set_new2] at h; exact h) | exact wend_drew HEND.out
      ·go_simp; have h3 := h2.allocX; have hT3 := TC.out _ h3.bl; refine hK.out _ _ (fun _ => hT3) ?_; clear hK K
       refine M_fork 3 4 rfl rfl (by kernel_rfl) (fun K hK => ?_) (fun K hK => ?_)
       ·obtain ⟨vR, W4, hrun, h4⟩ := h3.appR (c := d.rc) (DD2.out _ h3.bl).1 (by omega) 22; obtain ⟨g, cap, rfl⟩ := own_some (h4.R _ _ _ rfl).1 (h4.R _ _ _ rfl).2; refine step_app_run rfl (.tmp 16) (.tmp 18) 22 rfl _ _ (by simp [Act.eval]; first | done | rfl) (by simp [Act.eval]; first | done | rfl) _ W4 hrun ?_; have hT4 := TC.out _ h4.bl; refine hK.out _ _ (fun _ => hT4) ?_; clear hK K
        refine M_step 4 rfl (by kernel_rfl) (fun K hK => ?_)
        go_simp; have h5 := h4.allocS; have hT5 := TC.out _ h5.bl; refine hK.out _ _ (fun _ => hT5) ?_; clear hK K
        refine M_step 7 rfl (by kernel_rfl) (fun K hK => ?_)
        obtain ⟨vS, W6, hrun7, h6⟩ := h5.appS (c := d.sc) (DD2.out _ h5.bl).2 (by omega) 23; rw [Nat.zero_add, List.nil_append] at h6; obtain ⟨g7, cap7, rfl⟩ := own_some (h6.S _ _ _ rfl).1 (h6.S _ _ _ rfl).2; refine step_app_run rfl (.tmp 20) (.tmp 22) 23 rfl _ _ (by simp [Act.eval]; first | done | rfl) (by simp [Act.eval]; first | done | rfl) _ W6 hrun7 ?_; have hT6 := TC.out _ h6.bl; refine hK.out _ _ (fun _ => hT6) ?_; clear hK K
        refine M_step 10 rfl (by kernel_rfl) (fun K hK => ?_)
        obtain ⟨vT, W7, hrun10, h7⟩ := h6.appS (c := 1) (h6.X _ rfl).1 (by omega) 23; obtain ⟨cg, ccap, rfl⟩ := own_some (h7.S _ _ _ rfl).1 (h7.S _ _ _ rfl).2; refine step_app_run rfl (.tmp 23) (.tmp 25) 23 rfl _ _ (by simp [Act.eval]; first | done | rfl) (by simp [Act.eval]; first | done | rfl) _ W7 hrun10 ?_; have hT7 := TC.out _ h7.bl; refine hK.out _ _ (fun _ => hT7) ?_; clear hK K
        refine M_take (v := ?_) 11 rfl (by kernel_rfl) (by assumption) (fun _ _ _ h => h) (Or.inl ⟨by rfl, ?_⟩) ?_
        rotate_left
        ·(intro w hSw; (try dsimp only at hSw); go_simp; (try with_reducible rfl))
        (try simp only [Act.put, List.setIfInBounds_toArray, List.set_cons_zero, List.set_cons_succ])
        refine M_step 13 rfl (by kernel_rfl) (fun K hK => ?_)
        have hend := h7.fin rfl hdn1 (by omega) (by omega); obtain ⟨b0, b1, b2, b3⟩ := (h7.D _ rfl).1; have zb := (h7.D _ rfl).1.lt; (try simp only [World.size_alloc, World.size_drew] at b0 b1 b2 b3 zb hend); have HEND := Lib.hid hend; clear hend; go_simp; refine hK.out _ _ (fun e => by cases e) ?_; clear hK K
        refine M_done (by kernel_rfl) ?_ _
        clear hT0 b0 b1 b2 b3 zb
        go_wp2_with fail
        go_meet
        first | exact HEND.out | (have h := HEND.out; rw [set_new2] at h; exact h) | exact wend_drew HEND.out
       ·go_simp; have h4 := h3.allocS; have hT4 := TC.out _ h4.bl; refine hK.out _ _ (fun _ => hT4) ?_; clear hK K
        refine M_step 3 rfl (by kernel_rfl) (fun K hK => ?_)
        obtain ⟨vR, W5, hrun, h5⟩ := h4.appR (c := d.rc) (DD2.out _ h4.bl).1 (by omega) 22; obtain ⟨g, cap, rfl⟩ := own_some (h5.R _ _ _ rfl).1 (h5.R _ _ _ rfl).2; refine step_app_run rfl (.tmp 16) (.tmp 18) 22 rfl _ _ (by simp [Act.eval]; first | done | rfl) (by simp [Act.eval]; first | done | rfl) _ W5 hrun ?_; have hT5 := TC.out _ h5.bl; refine hK.out _ _ (fun _ => hT5) ?_; clear hK K
        refine M_step 7 rfl (by kernel_rfl) (fun K hK => ?_)
        obtain ⟨vS, W6, hrun7, h6⟩ := h5.appS (c := d.sc) (DD2.out _ h5.bl).2 (by omega) 23; rw [Nat.zero_add, List.nil_append] at h6; obtain ⟨g7, cap7, rfl⟩ := own_some (h6.S _ _ _ rfl).1 (h6.S _ _ _ rfl).2; refine step_app_run rfl (.tmp 20) (.tmp 22) 23 rfl _ _ (by simp [Act.eval]; first | done | rfl) (by simp [Act.eval]; first | done | rfl) _ W6 hrun7 ?_; have hT6 := TC.out _ h6.bl; refine hK.out _ _ (fun _ => hT6) ?_; clear hK K
        refine M_step 10 rfl (by kernel_rfl) (fun K hK => ?_)
        obtain ⟨vT, W7, hrun10, h7⟩ := h6.appS (c := 1) (h6.X _ rfl).1 (by omega) 23; obtain ⟨cg, ccap, rfl⟩ := own_some (h7.S _ _ _ rfl).1 (h7.S _ _ _ rfl).2; refine step_app_run rfl (.tmp 23) (.tmp 25) 23 rfl _ _ (by simp [Act.eval]; first | done | rfl) (by simp [Act.eval]; first | done | rfl) _ W7 hrun10 ?_; have hT7 := TC.out _ h7.bl; refine hK.out _ _ (fun _ => hT7) ?_; clear hK K
        refine M_take (v := ?_) 11 rfl (by kernel_rfl) (by assumption) (fun _ _ _ h => h) (Or.inl ⟨by rfl, ?_⟩) ?_
        rotate_left
        ·(intro w hSw; (try dsimp only at hSw); go_simp; (try with_reducible rfl))
        (try simp only [Act.put, List.setIfInBounds_toArray, List.set_cons_zero, List.set_cons_succ])
        refine M_step 13 rfl (by kernel_rfl) (fun K hK => ?_)
        have hend := h7.fin rfl hdn1 (by omega) (by omega); obtain ⟨b0, b1, b2, b3⟩ := (h7.D _ rfl).1; have zb := (h7.D _ rfl).1.lt; (try simp only [World.size_alloc, World.size_drew] at b0 b1 b2 b3 zb hend); have HEND := Lib.hid hend; clear hend; go_simp; refine hK.out _ _ (fun e => by cases e) ?_; clear hK K
        refine M_done (by kernel_rfl) ?_ _
        clear hT0 b0 b1 b2 b3 zb
        go_wp2_with fail
        go_meet
        first | exact HEND.out | (have h := HEND.out; rw [set_new2] at h; exact h) | exact wend_drew HEND.out
     ·go_simp; have h2 := h1.allocS; have hT2 := TC.out _ h2.bl; refine hK.out _ _ (fun _ => hT2) ?_; clear hK K
      refine M_fork 0 9 rfl rfl (by kernel_rfl) (fun K hK => ?_) (fun K hK => ?_)
      ·go_simp; have h3 := h2.allocR; have hT3 := TC.out _ h3.bl; refine hK.out _ _ (fun _ => hT3) ?_; clear hK K
       refine M_fork 3 9 rfl rfl (by kernel_rfl) (fun K hK => ?_) (fun K hK => ?_)
       ·obtain ⟨vR, W4, hrun, h4⟩ := h3.appR (c := d.rc) (DD2.out _ h3.bl).1 (by omega) 22; obtain ⟨g, cap, rfl⟩ := own_some (h4.R _ _ _ rfl).1 (h4.R _ _ _ rfl).2; refine step_app_run rfl (.tmp 16) (.tmp 18) 22 rfl _ _ (by simp [Act.eval]; first | done | rfl) (by simp [Act.eval]; first | done | rfl) _ W4 hrun ?_; have hT4 := TC.out _ h4.bl; refine hK.out _ _ (fun _ => hT4) ?_; clear hK K
        refine M_fork 7 9 rfl rfl (by kernel_rfl) (fun K hK => ?_) (fun K hK => ?_)
        ·obtain ⟨vS, W5, hrun7, h5⟩ := h4.appS (c := d.sc) (DD2.out _ h4.bl).2 (by omega) 23; rw [Nat.zero_add, List.nil_append] at h5; obtain ⟨g7, cap7, rfl⟩ := own_some (h5.S _ _ _ rfl).1 (h5.S _ _ _ rfl).2; refine step_app_run rfl (.tmp 20) (.tmp 22) 23 rfl _ _ (by simp [Act.eval]; first | done | rfl) (by simp [Act.eval]; first | done | rfl) _ W5 hrun7 ?_; have hT5 := TC.out _ h5.bl; refine hK.out _ _ (fun _ => hT5) ?_; clear hK K
         refine M_step 9 rfl (by kernel_rfl) (fun K hK => ?_)
         go_simp; have h6 := h5.allocX; have hT6 := TC.out _ h6.bl; refine hK.out _ _ (fun _ => hT6) ?_; clear hK K
         refine M_step 10 rfl (by kernel_rfl) (fun K hK => ?_)
         obtain ⟨vT, W7, hrun10, h7⟩ := h6.appS (c := 1) (h6.X _ rfl).1 (by omega) 23; obtain ⟨cg, ccap, rfl⟩ := own_some (h7.S _ _ _ rfl).1 (h7.S _ _ _ rfl).2; refine step_app_run rfl (.tmp 23) (.tmp 25) 23 rfl _ _ (by simp [Act.eval]; first | done | rfl) (by simp [Act.eval]; first | done | rfl) _ W7 hrun10 ?_; have hT7 := TC.out _ h7.bl; refine hK.out _ _ (fun _ => hT7) ?_; clear hK K
         refine M_take (v := ?_) 11 rfl (by kernel_rfl) (by assumption) (fun _ _ _ h => h) (Or.inl ⟨by rfl, ?_⟩) ?_
         rotate_left
         ·(intro w hSw; (try dsimp only at hSw); go_simp; (try with_reducible rfl))
         (try simp only [Act.put, List.setIfInBounds_toArray, List.set_cons_zero, List.set_cons_succ])
         refine M_step 13 rfl (by kernel_rfl) (fun K hK => ?_)
         have hend := h7.fin rfl hdn1 (by omega) (by omega); obtain ⟨b0, b1, b2, b3⟩ := (h7.D _ rfl).1; have zb := (h7.D _ rfl).1.lt; (try simp only [World.size_alloc, World.size_drew] at b0 b1 b2 b3 zb hend); have HEND := Lib.hid hend; clear hend; go_simp; refine hK.out _ _ (fun e => by cases e) ?_; clear hK K
         refine M_done (by kernel_rfl) ?_ _
         clear hT0 b0 b1 b2 b3 zb
         go_wp2_with fail
         go_meet
         first | exact HEND.out | (have h := HEND.out; rw [set_new2] at h; exact h) | exact wend_drew HEND.out
        ·go_simp; have h5 := h4.allocX; have hT5 := TC.out _ h5.bl; refine hK.out _ _ (fun _ => hT5) ?_; clear hK K
         refine M_step 7 rfl (by kernel_rfl) (fun K hK => ?_)
         obtain ⟨vS, W6, hrun7, h6⟩ := h5.appS (c := d.sc) (DD2.out _ h5.bl).2 (by omega) 23; rw [Nat.zero_add, List.nil_append] at h6; obtain ⟨g7, cap7, rfl⟩ := own_some (h6.S _ _ _ rfl).1 (h6.S _ _ _ rfl).2; refine step_app_run rfl (.tmp 20) (.tmp 22) 23 rfl _ _ (by simp [Act.eval]; first | done | rfl) (by simp [Act.eval]; first | done | rfl) _ W6 hrun7 ?_; have hT6 := TC.out _ h6.bl; refine hK.out _ _ (fun _ => hT6) ?_; clear hK K
         refine M_step 10 rfl (by kernel_rfl) (fun K hK => ?_)
         obtain ⟨vT, W7, hrun10, h7⟩ := h6.appS (c := 1) (h6.X _ rfl).1 (by omega) 23; obtain ⟨cg, ccap, rfl⟩ := own_some (h7.S _ _ _ rfl).1 (h7.S _ _ _ rfl).2; refine step_app_run rfl (.tmp 23) (.tmp 25) 23 rfl _ _ (by simp [Act.eval]; first | done | rfl) (by simp [Act.eval]; first | done | rfl) _ W7 hrun10 ?_; have hT7 := TC.out _ h7.bl; refine hK.out _ _ (fun _ => hT7) ?_; clear hK K
         refine M_take (v := ?_) 11 rfl (by kernel_rfl) (by assumption) (fun _ _ _ h => h) (Or.inl ⟨by rfl, ?_⟩) ?_
         rotate_left
         ·(intro w hSw; (try dsimp only at hSw); go_simp; (try with_reducible rfl))
         (try simp only [Act.put, List.setIfInBounds_toArray, List.set_cons_zero, List.set_cons_succ])
         refine M_step 13 rfl (by kernel_rfl) (fun K hK => ?_)
         have hend := h7.fin rfl hdn1 (by omega) (by omega); obtain ⟨b0, b1, b2, b3⟩ := (h7.D _ rfl).1; have zb := (h7.D _ rfl).1.lt; (try simp only [World.size_alloc, World.size_drew] at b0 b1 b2 b3 zb hend); have HEND := Lib.hid hend; clear hend; go_simp; refine hK.out _ _ (fun e => by cases e) ?_; clear hK K
         refine M_done (by kernel_rfl) ?_ _
         clear hT0 b0 b1 b2 b3 zb
         go_wp2_with fail
         go_meet
         first | exact HEND.out | (have h := HEND.out; rw [set_new2] at h; exact h) | exact wend_drew HEND.out
       ·go_simp; have h4 := h3.allocX; have hT4 := TC.out _ h4.bl; refine hK.out _ _ (fun _ => hT4) ?_; clear hK K
        refine M_step 3 rfl (by kernel_rfl) (fun K hK => ?_)
        obtain ⟨vR, W5, hrun, h5⟩ := h4.appR (c := d.rc) (DD2.out _ h4.bl).1 (by omega) 22; obtain ⟨g, cap, rfl⟩ := own_some (h5.R _ _ _ rfl).1 (h5.R _ _ _ rfl).2; refine step_app_run rfl (.tmp 16) (.tmp 18) 22 rfl _ _ (by simp [Act.eval]; first | done | rfl) (by simp [Act.eval]; first | done | rfl) _ W5 hrun ?_; have hT5 := TC.out _ h5.bl; refine hK.out _ _ (fun _ => hT5) ?_; clear hK K
        refine M_step 7 rfl (by kernel_rfl) (fun K hK => ?_)
        obtain ⟨vS, W6, hrun7, h6⟩ := h5.appS (c := d.sc) (DD2.out _ h5.bl).2 (by omega) 23; rw [Nat.zero_add, List.nil_append] at h6; obtain ⟨g7, cap7, rfl⟩ := own_some (h6.S _ _ _ rfl).1 (h6.S _ _ _ rfl).2; refine step_app_run rfl (.tmp 20) (.tmp 22) 23 rfl _ _ (by simp [Act.eval]; first | done | rfl) (by simp [Act.eval]; first | done | rfl) _ W6 hrun7 ?_; have hT6 := TC.out _ h6.bl; refine hK.out _ _ (fun _ => hT6) ?_; clear hK K
        refine M_step 10 rfl (by kernel_rfl) (fun K hK => ?_)
        obtain ⟨vT, W7, hrun10, h7⟩ := h6.appS (c := 1) (h6.X _ rfl).1 (by omega) 23; obtain ⟨cg, ccap, rfl⟩ := own_some (h7.S _ _ _ rfl).1 (h7.S _ _ _ rfl).2; refine step_app_run rfl (.tmp 23) (.tmp 25) 23 rfl _ _ (by simp [Act.eval]; first | done | rfl) (by simp [Act.eval]; first | done | rfl) _ W7 hrun10 ?_; have hT7 := TC.out _ h7.bl; refine hK.out _ _ (fun _ => hT7) ?_; clear hK K
        refine M_take (v := ?_) 11 rfl (by kernel_rfl) (by assumption) (fun _ _ _ h => h) (Or.inl ⟨by rfl, ?_⟩) ?_
        rotate_left
        ·(intro w hSw; (try dsimp only at hSw); go_simp; (try with_reducible rfl))
        (try simp only [Act.put, List.setIfInBounds_toArray, List.set_cons_zero, List.set_cons_succ])
        refine M_step 13 rfl (by kernel_rfl) (fun K hK => ?_)
        have hend := h7.fin rfl hdn1 (by omega) (by omega); obtain ⟨b0, b1, b2, b3⟩ := (h7.D _ rfl).1; have zb := (h7.D _ rfl).1.lt; (try simp only [World.size_alloc, World.size_drew] at b0 b1 b2 b3 zb hend); have HEND := Lib.hid hend; clear hend; go_simp; refine hK.out _ _ (fun e => by cases e) ?_; clear hK K
        refine M_done (by kernel_rfl) ?_ _
        clear hT0 b0 b1 b2 b3 zb
        go_wp2_with fail
        go_meet
        first | exact HEND.out | (have h := HEND.out; rw [set_new2] at h; exact h) | exact wend_drew HEND.out
      ·go_simp; have h3 := h2.allocX; have hT3 := TC.out _ h3.bl; refine hK.out _ _ (fun _ => hT3) ?_; clear hK K
       refine M_step 0 rfl (by kernel_rfl) (fun K hK => ?_)
       go_simp; have h4 := h3.allocR; have hT4 := TC.out _ h4.bl; refine hK.out _ _ (fun _ => hT4) ?_; clear hK K
       refine M_step 3 rfl (by kernel_rfl) (fun K hK => ?_)
       obtain ⟨vR, W5, hrun, h5⟩ := h4.appR (c := d.rc) (DD2.out _ h4.bl).1 (by omega) 22; obtain ⟨g, cap, rfl⟩ := own_some (h5.R _ _ _ rfl).1 (h5.R _ _ _ rfl).2; refine step_app_run rfl (.tmp 16) (.tmp 18) 22 rfl _ _ (by simp [Act.eval]; first | done | rfl) (by simp [Act.eval]; first | done | rfl) _ W5 hrun ?_; have hT5 := TC.out _ h5.bl; refine hK.out _ _ (fun _ => hT5) ?_; clear hK K
       refine M_step 7 rfl (by kernel_rfl) (fun K hK => ?_)
       obtain ⟨vS, W6, hrun7, h6⟩ := h5.appS (c := d.sc) (DD2.out _ h5.bl).2 (by omega) 23; rw [Nat.zero_add, List.nil_append] at h6; obtain ⟨g7, cap7, rfl⟩ := own_some (h6.S _ _ _ rfl).1 (h6.S _ _ _ rfl).2; refine step_app_run rfl (.tmp 20) (.tmp 22) 23 rfl _ _ (by simp [Act.eval]; first | done | rfl) (by simp [Act.eval]; first | done | rfl) _ W6 hrun7 ?_; have hT6 := TC.out _ h6.bl; refine hK.out _ _ (fun _ => hT6) ?_; clear hK K
       refine M_step 10 rfl (by kernel_rfl) (fun K hK => ?_)
       obtain ⟨vT, W7, hrun10, h7⟩ := h6.appS (c := 1) (h6.X _ rfl).1 (by omega) 23; obtain ⟨cg, ccap, rfl⟩ := own_some (h7.S _ _ _ rfl).1 (h7.S _ _ _ rfl).2; refine step_app_run rfl (.tmp 23) (.tmp 25) 23 rfl _ _ (by simp [Act.eval]; first | done | rfl) (by simp [Act.eval]; first | done | rfl) _ W7 hrun10 ?_; have hT7 := TC.out _ h7.bl; refine hK.out _ _ (fun _ => hT7) ?_; clear hK K
       refine M_take (v := ?_) 11 rfl (by kernel_rfl) (by assumption) (fun _ _ _ h => h) (Or.inl ⟨by rfl, ?_⟩) ?_
       rotate_left
       ·(intro w hSw; (try dsimp only at hSw); go_simp; (try with_reducible rfl))
       (try simp only [Act.put, List.setIfInBounds_toArray, List.set_cons_zero, List.set_cons_succ])
       refine M_step 13 rfl (by kernel_rfl) (fun K hK => ?_)
       have hend := h7.fin rfl hdn1 (by omega) (by omega); obtain ⟨b0, b1, b2, b3⟩ := (h7.D _ rfl).1; have zb := (h7.D _ rfl).1.lt; (try simp only [World.size_alloc, World.size_drew] at b0 b1 b2 b3 zb hend); have HEND := Lib.hid hend; clear hend; go_simp; refine hK.out _ _ (fun e => by cases e) ?_; clear hK K
       refine M_done (by kernel_rfl) ?_ _
       clear hT0 b0 b1 b2 b3 zb
       go_wp2_with fail
       go_meet
       first | exact HEND.out | (have h := HEND.out; rw [set_new2] at h; exact h) | exact wend_drew HEND.out
     ·go_simp; have h2 := h1.allocX; have hT2 := TC.out _ h2.bl; refine hK.out _ _ (fun _ => hT2) ?_; clear hK K
      refine M_fork 0 4 rfl rfl (by kernel_rfl) (fun K hK => ?_) (fun K hK => ?_)
      ·go_simp; have h3 := h2.allocR; have hT3 := TC.out _ h3.bl; refine hK.out _ _ (fun _ => hT3) ?_; clear hK K
       refine M_fork 3 4 rfl rfl (by kernel_rfl) (fun K hK => ?_) (fun K hK => ?_)
       ·obtain ⟨vR, W4, hrun, h4⟩ := h3.appR (c := d.rc) (DD2.out _ h3.bl).1 (by omega) 22; obtain ⟨g, cap, rfl⟩ := own_some (h4.R _ _ _ rfl).1 (h4.R _ _ _ rfl).2; refine step_app_run rfl (.tmp 16) (.tmp 18) 22 rfl _ _ (by simp [Act.eval]; first | done | rfl) (by simp [Act.eval]; first | done | rfl) _ W4 hrun ?_; have hT4 := TC.out _ h4.bl; refine hK.out _ _ (fun _ => hT4) ?_; clear hK K
        refine M_step 4 rfl (by kernel_rfl) (fun K hK => ?_)
        go_simp; have h5 := h4.allocS; have hT5 := TC.out _ h5.bl; refine hK.out _ _ (fun _ => hT5) ?_; clear hK K
        refine M_step 7 rfl (by kernel_rfl) (fun K hK => ?_)
        obtain ⟨vS, W6, hrun7, h6⟩ := h5.appS (c := d.sc) (DD2.out _ h5.bl).2 (by omega) 23; rw [Nat.zero_add, List.nil_append] at h6; obtain ⟨g7, cap7, rfl⟩ := own_some (h6.S _ _ _ rfl).1 (h6.S _ _ _ rfl).2; refine step_app_run rfl (.tmp 20) (.tmp 22) 23 rfl _ _ (by simp [Act.eval]; first | done | rfl) (by simp [Act.eval]; first | done | rfl) _ W6 hrun7 ?_; have hT6 := TC.out _ h6.bl; refine hK.out _ _ (fun _ => hT6) ?_; clear hK K
        refine M_step 10 rfl (by kernel_rfl) (fun K hK => ?_)
        obtain ⟨vT, W7, hrun10, h7⟩ := h6.appS (c := 1) (h6.X _ rfl).1 (by omega) 23; obtain ⟨cg, ccap, rfl⟩ := own_some (h7.S _ _ _ rfl).1 (h7.S _ _ _ rfl).2; refine step_app_run rfl (.tmp 23) (.tmp 25) 23 rfl _ _ (by simp [Act.eval]; first | done | rfl) (by simp [Act.eval]; first | done | rfl) _ W7 hrun10 ?_; have hT7 := TC.out _ h7.bl; refine hK.out _ _ (fun _ => hT7) ?_; clear hK K
        refine M_take (v := ?_) 11 rfl (by kernel_rfl) (by assumption) (fun _ _ _ h => h) (Or.inl ⟨by rfl, ?_⟩) ?_
        rotate_left
        ·(intro w hSw; (try dsimp only at hSw); go_simp; (try with_reducible rfl))
        (try simp only [Act.put, List.setIfInBounds_toArray, List.set_cons_zero, List.set_cons_succ])
        refine M_step 13 rfl (by kernel_rfl) (fun K hK => ?_)
        have hend := h7.fin rfl hdn1 (by omega) (by omega); obtain ⟨b0, b1, b2, b3⟩ := (h7.D _ rfl).1; have zb := (h7.D _ rfl).1.lt; (try simp only [World.size_alloc, World.size_drew] at b0 b1 b2 b3 zb hend); have HEND := Lib.hid hend; clear hend; go_simp; refine hK.out _ _ (fun e => by cases e) ?_; clear hK K
        refine M_done (by kernel_rfl) ?_ _
        clear hT0 b0 b1 b2 b3 zb
        go_wp2_with fail
        go_meet
        first | exact HEND.out | (have h := HEND.out; rw [set_new2] at h; exact h) | exact wend_drew HEND.out
       ·go_simp; have h4 := h3.allocS; have hT4 := TC.out _ h4.bl; refine hK.out _ _ (fun _ => hT4) ?_; clear hK K
        refine M_step 3 rfl (by kernel_rfl) (fun K hK => ?_)
        obtain ⟨vR, W5, hrun, h5⟩ := h4.appR (c := d.rc) (DD2.out _ h4.bl).1 (by omega) 22; obtain ⟨g, cap, rfl⟩ := own_some (h5.R _ _ _ rfl).1 (h5.R _ _ _ rfl).2; refine step_app_run rfl (.tmp 16) (.tmp 18) 22 rfl _ _ (by simp [Act.eval]; first | done | rfl) (by simp [Act.eval]; first | done | rfl) _ W5 hrun ?_; have hT5 := TC.out _ h5.bl; refine hK.out _ _ (fun _ => hT5) ?_; clear hK K
        refine M_step 7 rfl (by kernel_rfl) (fun K hK => ?_)
        obtain ⟨vS, W6, hrun7, h6⟩ := h5.appS (c := d.sc) (DD2.out _ h5.bl).2 (by omega) 23; rw [Nat.zero_add, List.nil_append] at h6; obtain ⟨g7, cap7, rfl⟩ := own_some (h6.S _ _ _ rfl).1 (h6.S _ _ _ rfl).2; refine step_app_run rfl (.tmp 20) (.tmp 22) 23 rfl _ _ (by simp [Act.eval]; first | done | rfl) (by simp [Act.eval]; first | done | rfl) _ W6 hrun7 ?_; have hT6 := TC.out _ h6.bl; refine hK.out _ _ (fun _ => hT6) ?_; clear hK K
        refine M_step 10 rfl (by kernel_rfl) (fun K hK => ?_)
        obtain ⟨vT, W7, hrun10, h7⟩ := h6.appS (c := 1) (h6.X _ rfl).1 (by omega) 23; obtain ⟨cg, ccap, rfl⟩ := own_some (h7.S _ _ _ rfl).1 (h7.S _ _ _ rfl).2; refine step_app_run rfl (.tmp 23) (.tmp 25) 23 rfl _ _ (by simp [Act.eval]; first | done | rfl) (by simp [Act.eval]; first | done | rfl) _ W7 hrun10 ?_; have hT7 := TC.out _ h7.bl; refine hK.out _ _ (fun _ => hT7) ?_; clear hK K
        refine M_take (v := ?_) 11 rfl (by kernel_rfl) (by assumption) (fun _ _ _ h => h) (Or.inl ⟨by rfl, ?_⟩) ?_
        rotate_left
        ·(intro w hSw; (try dsimp only at hSw); go_simp; (try with_reducible rfl))
        (try simp only [Act.put, List.setIfInBounds_toArray, List.set_cons_zero, List.set_cons_succ])
        refine M_step 13 rfl (by kernel_rfl) (fun K hK => ?_)
        have hend := h7.fin rfl hdn1 (by omega) (by omega); obtain ⟨b0, b1, b2, b3⟩ := (h7.D _ rfl).1; have zb := (h7.D _ rfl).1.lt; (try simp only [World.size_alloc, World.size_drew] at b0 b1 b2 b3 zb hend); have HEND := Lib.hid hend; clear hend; go_simp; refine hK.out _ _ (fun e => by cases e) ?_; clear hK K
        refine M_done (by kernel_rfl) ?_ _
        clear hT0 b0 b1 b2 b3 zb
        go_wp2_with fail
        go_meet
        first | exact HEND.out | (have h := HEND.out; rw [set_new2] at h; exact h) | exact wend_drew HEND.out
      ·go_simp; have h3 := h2.allocS; have hT3 := TC.out _ h3.bl; refine hK.out _ _ (fun _ => hT3) ?_; clear hK K
       refine M_step 0 rfl (by kernel_rfl) (fun K hK => ?_)
       go_simp; have h4 := h3.allocR; have hT4 := TC.out _ h4.bl; refine hK.out _ _ (fun _ => hT4) ?_; clear hK K
       refine M_step 3 rfl (by kernel_rfl) (fun K hK => ?_)
       obtain ⟨vR, W5, hrun, h5⟩ := h4.appR (c := d.rc) (DD2.out _ h4.bl).1 (by omega) 22; obtain ⟨g, cap, rfl⟩ := own_some (h5.R _ _ _ rfl).1 (h5.R _ _ _ rfl).2; refine step_app_run rfl (.tmp 16) (.tmp 18) 22 rfl _ _ (by simp [Act.eval]; first | done | rfl) (by simp [Act.eval]; first | done | rfl) _ W5 hrun ?_; have hT5 := TC.out _ h5.bl; refine hK.out _ _ (fun _ => hT5) ?_; clear hK K
       refine M_step 7 rfl (by kernel_rfl) (fun K hK => ?_)
       obtain ⟨vS, W6, hrun7, h6⟩ := h5.appS (c := d.sc) (DD2.out _ h5.bl).2 (by omega) 23; rw [Nat.zero_add, List.nil_append] at h6; obtain ⟨g7, cap7, rfl⟩ := own_some (h6.S _ _ _ rfl).1 (h6.S _ _ _ rfl).2; refine step_app_run rfl (.tmp 20) (.tmp 22) 23 rfl _ _ (by simp [Act.eval]; first | done | rfl) (by simp [Act.eval]; first | done | rfl) _ W6 hrun7 ?_; have hT6 := TC.out _ h6.bl; refine hK.out _ _ (fun _ => hT6) ?_; clear hK K
       refine M_step 10 rfl (by kernel_rfl) (fun K hK => ?_)
       obtain ⟨vT, W7, hrun10, h7⟩ := h6.appS (c := 1) (h6.X _ rfl).1 (by omega) 23; obtain ⟨cg, ccap, rfl⟩ := own_some (h7.S _ _ _ rfl).1 (h7.S _ _ _ rfl).2; refine step_app_run rfl (.tmp 23) (.tmp 25) 23 rfl _ _ (by simp [Act.eval]; first | done | rfl) (by simp [Act.eval]; first | done | rfl) _ W7 hrun10 ?_; have hT7 := TC.out _ h7.bl; refine hK.out _ _ (fun _ => hT7) ?_; clear hK K
       refine M_take (v := ?_) 11 rfl (by kernel_rfl) (by assumption) (fun _ _ _ h => h) (Or.inl ⟨by rfl, ?_⟩) ?_
       rotate_left
       ·(intro w hSw; (try dsimp only at hSw); go_simp; (try with_reducible rfl))
       (try simp only [Act.put, List.setIfInBounds_toArray, List.set_cons_zero, List.set_cons_succ])
       refine M_step 13 rfl (by kernel_rfl) (fun K hK => ?_)
       have hend := h7.fin rfl hdn1 (by omega) (by omega); obtain ⟨b0, b1, b2, b3⟩ := (h7.D _ rfl).1; have zb := (h7.D _ rfl).1.lt; (try simp only [World.size_alloc, World.size_drew] at b0 b1 b2 b3 zb hend); have HEND := Lib.hid hend; clear hend; go_simp; refine hK.out _ _ (fun e => by cases e) ?_; clear hK K
       refine M_done (by kernel_rfl) ?_ _
       clear hT0 b0 b1 b2 b3 zb
       go_wp2_with fail
       go_meet
       first | exact HEND.out | (have h := HEND.out; rw [set_new2] at h; exact h) | exact wend_drew HEND.out
   case rest =>
    obtain ⟨bb, g, cap, cg, ccap, rfl, bx, hbb, hg, hcg, hSp, hTr, hbl⟩ := hcut
    have BX := Lib.hid bx
    have R := Lib.hid (R.out.up hbl)
    have D := Lib.hid (nextB D.out hbl)
    have HSV := Lib.hid hSp
    have HCV := Lib.hid hTr
    have HG := Lib.hid hg
    have HCG := Lib.hid hcg
    clear bx hbb hg hcg hSp hTr hbl x0 x1 s0 s1 s2 zP zS r0 r1 r2 r3
    obtain ⟨b0, b1, b2, b3⟩ := BX.out
    have zb := BX.out.lt
    obtain ⟨E2, hE2, hEE⟩ : ∃ E2 : Int, ((E2 = 0 ∧ DrOk (wnd d (p0, p1, p2) (some ⟨g, 0, none⟩) cap (some ⟨cg, 0, none⟩) ccap)) ∨ (E2 = 20 ∧ ¬ DrOk (wnd d (p0, p1, p2) (some ⟨g, 0, none⟩) cap (some ⟨cg, 0, none⟩) ccap))) ∧ ((E2 = 20 ∧ E = 1) ∨ (E2 = 0 ∧ E = 0)) := by
     rcases HE3.out with ⟨h, h2⟩ | ⟨h, h2⟩
     ·exact ⟨20, .inr ⟨rfl, fun k => h2 ((wok_iff _ _ _ _ _ _).1 k)⟩, .inl ⟨rfl, h⟩⟩
     ·exact ⟨0, .inl ⟨rfl, (wok_iff _ _ _ _ _ _).2 h2⟩, .inr ⟨rfl, h⟩⟩
    have K2 := Lib.hid (RCheck_any (wnd d (p0, p1, p2) (some ⟨g, 0, none⟩) cap (some ⟨cg, 0, none⟩) ccap) E2 wc ⟨HSV.out, HCV.out⟩ hE2)
    have HEE := Lib.hid hEE
    clear hE2 hEE
    go_wp2_with fail
    refine K2.out.mono ?_
    rintro e w4 ⟨rfl, hb⟩
    have J := Lib.hid hb
    have D := Lib.hid (nextB D.out hb)
    have R := Lib.hid (R.out.up hb)
    have BX := Lib.hid (BX.out.up hb)
    have HSV := Lib.hid ((HSV.out.up hb (Nat.le_refl _)).more hb.size)
    have HCV := Lib.hid ((HCV.out.up hb (Nat.le_refl _)).more hb.size)
    have hz2 : w.heap.size + 1 + 1 < w2.heap.size := zR
    clear hb b0 b1 b2 b3 zb zR
    obtain ⟨b0, b1, b2, b3⟩ := BX.out
    have zb := BX.out.lt
    obtain ⟨r0, r1, r2, r3⟩ := R.out
    have zR := R.out.lt
    rcases HEE.out with ⟨rfl, rfl⟩ | ⟨rfl, rfl⟩
    ·have hq := R.out.store (.slice none 0 0) (.slice none 0 0)
     have hfb : Below w.heap.size w ((w4.setCell ⟨w.heap.size + 1 + 1, 0, none⟩ (.slice none 0 0)).setCell ⟨w.heap.size + 1 + 1, 1, none⟩ (.slice none 0 0)) := set1 (set1 D.out (by omega) _ _) (by omega) _ _
     have HQ := Lib.hid hq
     have HFB := Lib.hid hfb
     clear hq hfb
     go_wp2_with fail
     obtain ⟨wf, hwf⟩ : ∃ wf : World, wf = ((w4.setCell ⟨w.heap.size + 1 + 1, 0, none⟩ (.slice none 0 0)).setCell ⟨w.heap.size + 1 + 1, 1, none⟩ (.slice none 0 0)) := ⟨_, rfl⟩
     have HF2 := HFB.out
     have HQ2 := HQ.out
     rw [← hwf] at HF2 HQ2 ⊢
     obtain ⟨q0, q1, _, _⟩ := HQ2
     exact bodyPost_ret (v := .tuple #[.agg #[.slice none 0 0, .slice none 0 0], .int .i64 1]) (by simp [results, Try.results30, go_sem, q0, q1]) rfl ⟨HF2, .inl ⟨by omega, rfl⟩⟩

    ·have hq := R.out.store (.slice (some ⟨g, 0, none⟩) d.n cap) (.slice (some ⟨cg, 0, none⟩) (d.m + 1) ccap)
     have hfb : Below w.heap.size w ((w4.setCell ⟨w.heap.size + 1 + 1, 0, none⟩ (.slice (some ⟨g, 0, none⟩) d.n cap)).setCell ⟨w.heap.size + 1 + 1, 1, none⟩ (.slice (some ⟨cg, 0, none⟩) (d.m + 1) ccap)) := set1 (set1 D.out (by omega) _ _) (by omega) _ _
     have hg2 : g ≠ w.heap.size + 1 + 1 := by have := HG.out; omega
     have hc2 : cg ≠ w.heap.size + 1 + 1 := by have := HCG.out; omega
     have hdr : DrIn (wnd d (p0, p1, p2) (some ⟨g, 0, none⟩) cap (some ⟨cg, 0, none⟩) ccap) ((w4.setCell ⟨w.heap.size + 1 + 1, 0, none⟩ (.slice (some ⟨g, 0, none⟩) d.n cap)).setCell ⟨w.heap.size + 1 + 1, 1, none⟩ (.slice (some ⟨cg, 0, none⟩) (d.m + 1) ccap)).heap.size ((w4.setCell ⟨w.heap.size + 1 + 1, 0, none⟩ (.slice (some ⟨g, 0, none⟩) d.n cap)).setCell ⟨w.heap.size + 1 + 1, 1, none⟩ (.slice (some ⟨cg, 0, none⟩) (d.m + 1) ccap)) := by
      rw [World.size_setCell, World.size_setCell]
      exact ⟨(HSV.out.oth hg2).oth hg2, (HCV.out.oth hc2).oth hc2⟩
     have HQ := Lib.hid hq
     have HFB := Lib.hid hfb
     have HDR := Lib.hid hdr
     clear hq hfb hdr hg2 hc2
     go_wp2_with fail
     obtain ⟨wf, hwf⟩ : ∃ wf : World, wf = ((w4.setCell ⟨w.heap.size + 1 + 1, 0, none⟩ (.slice (some ⟨g, 0, none⟩) d.n cap)).setCell ⟨w.heap.size + 1 + 1, 1, none⟩ (.slice (some ⟨cg, 0, none⟩) (d.m + 1) ccap)) := ⟨_, rfl⟩
     have HF2 := HFB.out
     have HQ2 := HQ.out
     have HD2 := HDR.out
     rw [← hwf] at HF2 HQ2 HD2 ⊢
     obtain ⟨q0, q1, _, _⟩ := HQ2
     exact bodyPost_ret (v := .tuple #[(wnd d (p0, p1, p2) (some ⟨g, 0, none⟩) cap (some ⟨cg, 0, none⟩) ccap).v, .int .i64 0]) (by simp [results, Try.results30, go_sem, q0, q1]) rfl ⟨HF2, .inr ⟨rfl, _, _, _, _, rfl, HD2⟩⟩
 ·obtain rfl : E = 20 := by
   rcases HE.out with ⟨h, _⟩ | ⟨_, h, _⟩ | ⟨_, h, _⟩ | ⟨_, h, _⟩
   ·exact h
   ·exact absurd h hnd
   ·exact absurd h hnd
   ·exact absurd h hnd
  clear hnd
  have hq := R.out.store (.slice none 0 0) (.slice none 0 0)
  have hfb : Below w.heap.size w ((w2.setCell ⟨w.heap.size + 1 + 1, 0, none⟩ (.slice none 0 0)).setCell ⟨w.heap.size + 1 + 1, 1, none⟩ (.slice none 0 0)) := set1 (set1 D.out (by omega) _ _) (by omega) _ _
  have HQ := Lib.hid hq
  have HFB := Lib.hid hfb
  clear hq hfb
  go_wp2_with fail
  obtain ⟨wf, hwf⟩ : ∃ wf : World, wf = ((w2.setCell ⟨w.heap.size + 1 + 1, 0, none⟩ (.slice none 0 0)).setCell ⟨w.heap.size + 1 + 1, 1, none⟩ (.slice none 0 0)) := ⟨_, rfl⟩
  have HF2 := HFB.out
  have HQ2 := HQ.out
  rw [← hwf] at HF2 HQ2 ⊢
  obtain ⟨q0, q1, _, _⟩ := HQ2
  exact bodyPost_ret (v := .tuple #[.agg #[.slice none 0 0, .slice none 0 0], .int .i64 20]) (by simp [results, Try.results30, go_sem, q0, q1]) rfl ⟨HF2, .inl ⟨by omega, rfl⟩⟩
end Go.Proofs.Ytpikaohodieeaaa
