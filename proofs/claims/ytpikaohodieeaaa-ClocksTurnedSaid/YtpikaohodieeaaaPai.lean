import Derived.Test.YtpikaohodieeaaaSe3
import Derived.Maps.OwnIn
namespace Go.Proofs.Ytpikaohodieeaaa
open Go.RowKit
set_option linter.unusedSimpArgs false
set_option linter.unusedVariables false
attribute [local go_sem] Oper.semAt_some
/-- one mark, two marks -/
def one3 (F : Nat → Int × Int × Int) (i : Nat) : Nat → Int × Int × Int := fun _ => F i
def two3 (F : Nat → Int × Int × Int) (i j : Nat) : Nat → Int × Int × Int := fun k => if k = 0 then F i else F j
/-- the marks that are contradictions alone, among the first i -/
def sgL (al : Nat → Bool) (i : Nat) : List (List Int) := ((List.range i).filter fun j => !al j).map fun (j : Nat) => [(j : Int)]
/-- whether a pair is a contradiction -/
def pass (al : Nat → Bool) (pr : Nat → Nat → Bool) (s : List Int) : Bool := al (s.getD 0 0).toNat && (al (s.getD 1 0).toNat && !pr (s.getD 0 0).toNat (s.getD 1 0).toNat)
/-- the pairs that are, among the first k -/
def prL (al : Nat → Bool) (pr : Nat → Nat → Bool) (m k : Nat) : List (List Int) := ((ext m 2 0).take k).filter (pass al pr)
/-- all -/
def conL (R0 : Bool) (al : Nat → Bool) (pr : Nat → Nat → Bool) (m : Nat) : List (List Int) := if R0 = true then sgL al m ++ prL al pr m (ext m 2 0).length else [[]]
theorem sgL_t {al : Nat → Bool} {i : Nat} (h : al i = true) : sgL al (i + 1) = sgL al i := by
  unfold sgL
  rw [List.range_succ, List.filter_append]
  simp [h]
theorem sgL_f {al : Nat → Bool} {i : Nat} (h : al i = false) : sgL al (i + 1) = sgL al i ++ [[(i : Int)]] := by
  unfold sgL
  rw [List.range_succ, List.filter_append]
  simp [h]
theorem sgL_pre (al : Nat → Bool) {i j : Nat} (h : i ≤ j) (k : Nat) (x : List Int) (hk : (sgL al i)[k]? = some x) : (sgL al j)[k]? = some x := by
  induction j with
  | zero => obtain rfl : i = 0 := by omega
            exact hk
  | succ j ih =>
    by_cases e : i = j + 1
    · subst e; exact hk
    · have h1 := ih (by omega)
      cases ha : al j with
      | true => rw [sgL_t ha]; exact h1
      | false => rw [sgL_f ha, List.getElem?_append_left (List.getElem?_eq_some_iff.1 h1).1]; exact h1
theorem con_sg {R0 : Bool} {al : Nat → Bool} {pr : Nat → Nat → Bool} {m i : Nat} (h0 : R0 = true) (h : al i = false) (hi : i < m) : (conL R0 al pr m)[(sgL al i).length]? = some [(i : Int)] := by
  have h1 : (sgL al (i + 1))[(sgL al i).length]? = some [(i : Int)] := by rw [sgL_f h, List.getElem?_append_right (Nat.le_refl _), Nat.sub_self]; rfl
  have h2 := sgL_pre al (show i + 1 ≤ m by omega) _ _ h1
  unfold conL
  rw [if_pos h0, List.getElem?_append_left (List.getElem?_eq_some_iff.1 h2).1]
  exact h2
theorem prL_t {al : Nat → Bool} {pr : Nat → Nat → Bool} {m k : Nat} {s : List Int} (hs : (ext m 2 0)[k]? = some s) (h : pass al pr s = true) : prL al pr m (k + 1) = prL al pr m k ++ [s] := by
  unfold prL
  rw [List.take_add_one, hs, List.filter_append]
  simp [h]
theorem prL_f {al : Nat → Bool} {pr : Nat → Nat → Bool} {m k : Nat} {s : List Int} (hs : (ext m 2 0)[k]? = some s) (h : pass al pr s = false) : prL al pr m (k + 1) = prL al pr m k := by
  unfold prL
  rw [List.take_add_one, hs, List.filter_append]
  simp [h]
theorem prL_pre (al : Nat → Bool) (pr : Nat → Nat → Bool) (m : Nat) {i j : Nat} (h : i ≤ j) (hj : j ≤ (ext m 2 0).length) (k : Nat) (x : List Int) (hk : (prL al pr m i)[k]? = some x) : (prL al pr m j)[k]? = some x := by
  induction j with
  | zero => obtain rfl : i = 0 := by omega
            exact hk
  | succ j ih =>
    by_cases e : i = j + 1
    · subst e; exact hk
    · have h1 := ih (by omega) (by omega)
      have hs : (ext m 2 0)[j]? = some (ext m 2 0)[j] := List.getElem?_eq_getElem (by omega)
      cases hp : pass al pr (ext m 2 0)[j] with
      | true => rw [prL_t hs hp, List.getElem?_append_left (List.getElem?_eq_some_iff.1 h1).1]; exact h1
      | false => rw [prL_f hs hp]; exact h1
theorem con_pr {R0 : Bool} {al : Nat → Bool} {pr : Nat → Nat → Bool} {m k : Nat} {s : List Int} (h0 : R0 = true) (hs : (ext m 2 0)[k]? = some s) (h : pass al pr s = true) : (conL R0 al pr m)[(sgL al m).length + (prL al pr m k).length]? = some s := by
  have hk := (List.getElem?_eq_some_iff.1 hs).1
  have h1 : (prL al pr m (k + 1))[(prL al pr m k).length]? = some s := by rw [prL_t hs h, List.getElem?_append_right (Nat.le_refl _), Nat.sub_self]; rfl
  have h2 := prL_pre al pr m (show k + 1 ≤ (ext m 2 0).length by omega) (Nat.le_refl _) _ _ h1
  unfold conL
  rw [if_pos h0, List.getElem?_append_right (by omega), Nat.add_sub_cancel_left]
  exact h2
theorem con_len {R0 : Bool} {al : Nat → Bool} {pr : Nat → Nat → Bool} {m : Nat} (h0 : R0 = true) : (conL R0 al pr m).length = (sgL al m).length + (prL al pr m (ext m 2 0).length).length := by
  unfold conL
  rw [if_pos h0, List.length_append]
theorem ext_two {m : Nat} {s : List Int} (h : s ∈ ext m 2 0) : ∃ i j : Nat, s = [(i : Int), (j : Int)] ∧ i < j ∧ j < m := by
  simp only [ext, List.mem_flatMap, List.mem_map, List.mem_range, List.mem_singleton] at h
  obtain ⟨i, hi, s1, ⟨j, hj, s2, rfl, rfl⟩, rfl⟩ := h
  exact ⟨0 + i, 0 + i + 1 + j, rfl, by omega, by omega⟩
/-- a block of truth values, known whole -/
structure BlR (g n : Nat) (Z : Nat → Bool) (w : World) : Prop where
  lt : g < w.heap.size
  c : ∀ i, i < n → w.cell? ⟨g, i, none⟩ = some (.bool (Z i))
  f : ∀ o, w.frozen? ⟨g, o, none⟩ = false
  obj : ∃ o : Obj, w.heap[g]? = some o ∧ o.isCells = true
theorem BlR.up {g n : Nat} {Z : Nat → Bool} {w w' : World} (h : BlR g n Z w) (hb : Below w.heap.size w w') : BlR g n Z w' :=
  ⟨Nat.lt_of_lt_of_le h.lt hb.size, fun i hi => cell_up hb h.lt (h.c i hi), fun o => low_frozen hb h.lt (h.f o), by obtain ⟨o, h1, h2⟩ := h.obj; exact ⟨o, (hb.block _ h.lt).trans h1, h2⟩⟩
theorem BlR.kp {g n : Nat} {Z : Nat → Bool} {w w' : World} {B : Nat} {O : Nat → Prop} (h : BlR g n Z w) (hk : KpO B O w w') (hx : g < B ∨ O g) : BlR g n Z w' := by
  obtain ⟨o, h1, h2⟩ := h.obj
  have h3 := hk.block _ o h1 h2 hx
  refine ⟨Nat.lt_of_lt_of_le h.lt hk.size, fun i hi => hk.cell hx (h.c i hi), fun p => ?_, o, h3, h2⟩
  have h6 := h.f p
  simp only [World.frozen?, h1] at h6
  simp only [World.frozen?, h3]
  exact h6
theorem BlR.set {g n k : Nat} {Z : Nat → Bool} {w : World} {x : Bool} (h : BlR g n Z w) (hk : k < n) : BlR g n (fun i => if i = k then x else Z i) (w.setCell ⟨g, k, none⟩ (.bool x)) := by
  have hc : ∀ i, i < n → (w.setCell ⟨g, k, none⟩ (.bool x)).cell? ⟨g, i, none⟩ = some (.bool (if i = k then x else Z i)) := fun i hi => by
    have e := h.c i hi
    have e2 := h.c k hk
    by_cases hik : i = k
    · subst hik; rw [if_pos rfl]; go_simp
    · rw [if_neg hik]; go_simp
  refine ⟨by have := h.lt; go_simp, hc, fun o => by rw [World.frozen?_setCell]; exact h.f o, ?_⟩
  obtain ⟨o, h1, h2⟩ := cells_of_cell (hc k hk)
  exact ⟨o, h1, h2⟩
theorem BlR.same {g n : Nat} {Z Z' : Nat → Bool} {w : World} (h : BlR g n Z w) (e : ∀ i, i < n → Z i = Z' i) : BlR g n Z' w := ⟨h.lt, fun i hi => by rw [← e i hi]; exact h.c i hi, h.f, h.obj⟩
theorem BlR.new (w : World) (n : Nat) : BlR w.heap.size n (fun _ => false) (w.alloc (.cells (madeCells #[.bool false] n) 4)) := by
  have hh : (w.alloc (.cells (madeCells #[.bool false] n) 4)).heap[w.heap.size]? = some (.cells (madeCells #[.bool false] n) 4 (0, 0)) := World.alloc_heap_new w _
  refine ⟨by simp, fun i hi => ?_, fun o => ?_, _, hh, rfl⟩
  · simp only [World.cell?, hh]
    simp [madeCells, hi, Nat.mod_one]
  · simp only [World.frozen?, hh]
    simp
theorem Try.infoBool : (Try.prog.info? 4).map (fun i => (i.zero, i.size, i.bytes)) = some (some (.bool false), 1, 1) := by kernel_rfl
theorem run_make_bools (n : Nat) (hn : n ≤ 1000) (w : World) :
    (Instr.makeSlice 125 (.int .i64 (n : Int)) (.int .i64 (n : Int))).run Try.prog w = .ok (.slice (some ⟨w.heap.size, 0, none⟩) n n) (w.alloc (.cells (madeCells #[.bool false] n) 4)) := by
  obtain ⟨i0, hi0, hz0, hz1, hz2⟩ := info_parts Try.infoBool
  have hr := run_make (P := Try.prog) (w := w) 125 4 i0 _ Try.underlying125 hi0 hz0 .i64 .i64 n n (by omega) (by omega) (by rw [hz2]; omega) (by omega)
  rw [hz1] at hr
  simp only [Int.toNat_natCast, Nat.mul_one] at hr
  exact hr
/-- what the iterator reads: the gaps, the marks, and the boxes that lead there -/
structure GmIn (g n gc : Nat) (G : Nat → Int × Int) (MA : Option Addr) (m mc : Nat) (F : Nat → Int × Int × Int) (bg bm B : Nat) (V : World) : Prop where
  sp : SpR g n G V
  tr : TrsIn MA m F B V
  g : V.cell? ⟨bg, 0, none⟩ = some (.slice (some ⟨g, 0, none⟩) n gc)
  m : V.cell? ⟨bm, 0, none⟩ = some (.slice MA m mc)
theorem GmIn.up {g n gc : Nat} {G : Nat → Int × Int} {MA : Option Addr} {m mc : Nat} {F : Nat → Int × Int × Int} {bg bm B : Nat} {V V' : World} (h : GmIn g n gc G MA m mc F bg bm B V) (hb : Below V.heap.size V V') (hB : B ≤ V.heap.size) : GmIn g n gc G MA m mc F bg bm B V' :=
  ⟨h.sp.up hb, h.tr.up hb hB, cell_of hb h.g, cell_of hb h.m⟩
theorem KpO.cellA {B : Nat} {O : Nat → Prop} {W W' : World} (h : KpO B O W W') {a : Addr} {v : Value} (hx : a.block < B ∨ O a.block) (hc : W.cell? a = some v) : W'.cell? a = some v := by
  obtain ⟨ob, h1, h2⟩ := cells_of_cell hc
  have h3 := h.block a.block ob h1 h2 hx
  rw [← hc]
  simp only [World.cell?, h1, h3]
theorem GmIn.kp {g n gc : Nat} {G : Nat → Int × Int} {MA : Option Addr} {m mc : Nat} {F : Nat → Int × Int × Int} {bg bm B : Nat} {V V' : World} {C O : Nat → Prop} (h : GmIn g n gc G MA m mc F bg bm B V) (hk : KpO 0 (fun r => C r ∨ O r) V V') (hg : C g) (h1 : C bg) (h2 : C bm) (h3 : ∀ a, MA = some a → 0 < m → a.block < B → C a.block) (hn : 1 ≤ n) : GmIn g n gc G MA m mc F bg bm B V' := by
  have hc : ∀ r, C r → r < 0 ∨ (C r ∨ O r) := fun r hr => .inr (.inl hr)
  refine ⟨⟨Nat.lt_of_lt_of_le h.sp.lt hk.size, fun i hi => hk.cell (hc _ hg) (h.sp.c0 i hi), fun i hi => hk.cell (hc _ hg) (h.sp.c1 i hi), fun o => (hk.frozen (hc _ hg) (h.sp.c0 0 hn) o).trans (h.sp.f o)⟩, ⟨h.tr.1, fun i hi => ?_⟩, hk.cell (hc _ h1) h.g, hk.cell (hc _ h2) h.m⟩
  obtain ⟨a, e, hl, x0, x1, x2⟩ := h.tr.2 i hi
  exact ⟨a, e, hl, hk.cellA (hc _ (by simp only [add_block]; exact h3 a e (by omega) hl)) x0, hk.cellA (hc _ (by simp only [add_block]; exact h3 a e (by omega) hl)) x1, hk.cellA (hc _ (by simp only [add_block]; exact h3 a e (by omega) hl)) x2⟩
end Go.Proofs.Ytpikaohodieeaaa
namespace Go.Proofs.Ytpikaohodieeaaa
open Go.RowKit
set_option linter.unusedSimpArgs false
set_option linter.unusedVariables false
attribute [local go_sem] Oper.semAt_some
theorem eg_con : ∀ args w, (callFunc 117 args).run Try.prog w = .ok (.enter 117 args) w := enters_of Try.func117 (by kernel_rfl) rfl
theorem contradictions_any (A B : Value) (w : World) (hA : ∃ a n c, A = .slice a n c) (hB : ∃ a n c, B = .slice a n c) :
    Calls Try.prog 104 #[A, B] w fun e w' => e = .returned (.func (.func 117) #[] #[.pointer (some ⟨w.heap.size, 0, none⟩), .pointer (some ⟨w.heap.size + 1, 0, none⟩)]) ∧ w' = (w.alloc (.cells #[A] 22)).alloc (.cells #[B] 26) := by
  obtain ⟨a, n, c, rfl⟩ := hA
  obtain ⟨a2, n2, c2, rfl⟩ := hB
  go_enter Try.func104, Try.ntmps104
  go_wp2
  go_ret
  exact ⟨rfl, rfl⟩
/-- the boxes of the iterator: its yield function, and what is possible alone -/
structure ConI (yb ar ab l m : Nat) (z : Nat → Bool) (V : World) : Prop where
  y : V.cell? ⟨yb, 0, none⟩ = some (.func (.yield l) #[] #[])
  a : V.cell? ⟨ab, 0, none⟩ = some (.slice (some ⟨ar, 0, none⟩) m m)
  r : BlR ar m z V
theorem ConI.up {yb ar ab l m : Nat} {z : Nat → Bool} {V V' : World} (h : ConI yb ar ab l m z V) (hb : Below V.heap.size V V') : ConI yb ar ab l m z V' := ⟨cell_of hb h.y, cell_of hb h.a, h.r.up hb⟩
theorem ConI.kp {yb ar ab l m : Nat} {z : Nat → Bool} {V V' : World} {B : Nat} {O : Nat → Prop} (h : ConI yb ar ab l m z V) (hk : KpO B O V V') (h1 : yb < B ∨ O yb) (h2 : ar < B ∨ O ar) (h3 : ab < B ∨ O ab) : ConI yb ar ab l m z V' := ⟨hk.cell h1 h.y, hk.cell h3 h.a, h.r.kp hk h2⟩
theorem KpO.flat {B : Nat} {O : Nat → Prop} {V V' : World} (h : KpO B O V V') : KpO 0 (fun r => r < B ∨ O r) V V' := ⟨h.size, fun b o hb ho hx => h.block b o hb ho (hx.resolve_left (by omega))⟩
theorem RlS.grow {B0 : Nat} {x : List Int} {v : Array Value} {O : Nat → Prop} {W W' : World} {row : Option Nat} (h : RlS B0 x v O W) (hg : W.grownBy W' row) (hr : ∀ r, row = some r → ∃ o : Obj, W.heap[r]? = some o ∧ o.isCells = false) : RlS B0 x v O W' := by
  obtain ⟨A, c, rfl, h1⟩ := h
  refine ⟨A, c, rfl, fun i hi => ?_⟩
  obtain ⟨b, e, hl, hO, hB, hc, hT⟩ := h1 i hi
  have hrow : some b ≠ row := fun e => by
    obtain ⟨o, e1, e2⟩ := hr b e.symm
    obtain ⟨o', e3, e4⟩ := cells_of_cell hc
    simp only at e3
    rw [e1] at e3
    cases e3
    rw [e2] at e4
    cases e4
  exact ⟨b, e, Nat.lt_of_lt_of_le hl hg.size, hO, hB, cell_row hg hl hrow hc, hT.1.row hg hrow, hT.2⟩
theorem RlS.size {B0 : Nat} {x : List Int} {v : Array Value} {O : Nat → Prop} {W : World} (h : RlS B0 x v O W) : v.size = 1 := by
  obtain ⟨A, c, rfl, h1⟩ := h
  rfl
/-- only ends on its way -/
def onlyN (Q : Exit → Act → World → Prop) : Exit → Act → World → Prop
  | .normal, a, w => Q .normal a w
  | _, _, _ => False
theorem wpIn_onlyN {F : Fence} {n : Nat} {P : Program} {c : Code} {Q : Exit → Act → World → Prop} {a : Act} {w : World} (h : c.wpIn F n P (onlyN Q) a w) : c.wpIn F n P Q a w := wpIn_mono h (by intro e a w h; cases e <;> first | exact h | exact h.elim)
section
variable {F : Fence} {n : Nat} {P : Program} {α : Type}
/-- rangeListO where the round's parameter is put into the variable q -/
theorem rangeListO1 (q : Tmp) {g : Operand} {ps : Array Tmp} {assign body : Code} {Q : Exit → Act → World → Prop} {a : Act} {w : World}
    (hro : F.round = none) (hn : 1 ≤ n) {gf : Nat} {lb : Array Value} (hg : a.eval g = .func (.func gf) #[] lb) (hF : F.fn gf) (eg : ∀ args w, (callFunc gf args).run P w = .ok (.enter gf args) w)
    {C : Nat → Prop} {Rl : α → Array Value → (Nat → Prop) → World → Prop} {L : List α} {w0 : World} (hseq : YieldsO F (n - 1) P gf lb C Rl L w0) (hb0 : Below w0.heap.size w0 w) (hps : ∀ x v O W, Rl x v O W → v.size = ps.size)
    (hRl : ∀ x v O W W' row, Rl x v O W → W.grownBy W' row → (∀ r, row = some r → ∃ o : Obj, W.heap[r]? = some o ∧ o.isCells = false) → Rl x v O W')
    (I : Nat → (Nat → Prop) → World → Prop) (Ix : Code → Nat → (Nat → Prop) → World → Prop) (hI : AbO w.heap.size I) (hIx : ∀ c, AbO w.heap.size (Ix c)) (h0 : I 0 (fun _ => False) w)
    (hassign : ∀ (l : Nat) (x : α) (v : Array Value) (O : Nat → Prop) (W : World) (K : Act → World → Prop), Rl x v O W → (∀ a', a' = { tmps := ((ps.zip v).foldl (fun t (p, v) => t.setIfInBounds p v) a.tmps).setIfInBounds q (v.getD 0 undef), defers := [] } → K a' W) →
      assign.wpIn (F.inRound l) (n - 1 - 1) P (Exit.then K (fun _ _ _ => False)) { tmps := (ps.zip v).foldl (fun t (p, v) => t.setIfInBounds p v) a.tmps, defers := [] } W)
    (hbody : ∀ (l k : Nat) (x : α) (v : Array Value) (O : Nat → Prop) (W : World), L[k]? = some x → Rl x v O W → I k O W → (∀ r, O r → w.heap.size + 2 ≤ r ∧ r < W.heap.size) → body.wpIn (F.inRound l) (n - 1 - 1) P (goesO w.heap.size C O I Ix k W) { tmps := ((ps.zip v).foldl (fun t (p, v) => t.setIfInBounds p v) a.tmps).setIfInBounds q (v.getD 0 undef), defers := [] } W)
    (hdone : ∀ (D : Nat) (O : Nat → Prop) (W : World), w.heap.size ≤ D → I L.length O W → W.heap[D]? = some (.deferred (some [])) → Q .normal { a with defers := { target := .collected D, args := #[] } :: a.defers } W)
    (hstop : ∀ (D : Nat) (c : Code) (k : Nat) (O : Nat → Prop) (W : World), w.heap.size ≤ D → k < L.length → Ix c k O W → W.heap[D]? = some (.deferred (some [])) → c.wpIn F n P Q { a with defers := { target := .collected D, args := #[] } :: a.defers } W) :
    (Code.rangeFunc g ps assign body).wpIn F n P Q a w :=
  rangeListO hro hn hg hF eg hseq hb0 hps hRl I Ix hI hIx h0 (fun v a' _ => a' = { tmps := ((ps.zip v).foldl (fun t (p, v) => t.setIfInBounds p v) a.tmps).setIfInBounds q (v.getD 0 undef), defers := [] }) (fun _ _ _ _ _ _ h _ _ => h)
    (fun l k x v O W K hx hR hi ho hK => hassign l x v O W K hR fun a' e => hK a' W (Below.refl _ _) hR e)
    (fun l k x v O a' W hx hR hi ho e => by subst e; exact hbody l k x v O W hx hR hi ho) hdone hstop
end
theorem cellA_of {V V' : World} {p : Addr} {v : Value} (hb : Below V.heap.size V V') (h : V.cell? p = some v) : V'.cell? p = some v := (hb.cell (World.block_lt_of_cell? _ _ h)).trans h
theorem GmIn.low {g n gc : Nat} {G : Nat → Int × Int} {MA : Option Addr} {m mc : Nat} {F : Nat → Int × Int × Int} {bg bm B : Nat} {V V' : World} (h : GmIn g n gc G MA m mc F bg bm B V) (hb : Below B V V') (hg : g < B) (h1 : bg < B) (h2 : bm < B) : GmIn g n gc G MA m mc F bg bm B V' :=
  ⟨⟨Nat.lt_of_lt_of_le h.sp.lt hb.size, fun i hi => low_cell hb hg (h.sp.c0 i hi), fun i hi => low_cell hb hg (h.sp.c1 i hi), fun o => low_frozen hb hg (h.sp.f o)⟩, h.tr.up hb (Nat.le_refl _), low_cell hb h1 h.g, low_cell hb h2 h.m⟩
set_option maxRecDepth 100000 in
set_option maxHeartbeats 4000000 in
theorem con_yieldsC (C : Nat → Prop) (g n gc : Nat) (G : Nat → Int × Int) (MA : Option Addr) (m mc : Nat) (F : Nat → Int × Int × Int) (R0 : Bool) (al : Nat → Bool) (pr : Nat → Nat → Bool) (bg bm mm : Nat) (w : World)
    (hCg : C g) (hCbg : C bg) (hCbm : C bm) (hCm : ∀ a, MA = some a → 0 < m → a.block < w.heap.size → C a.block) (hin : GmIn g n gc G MA m mc F bg bm w.heap.size w) (hg : GpOk n G) (hk : MkOk n m F) (hm0 : m ≤ 1000)
    (hR0 : R0 = true ↔ ∃ T, Rdg n G 0 F T) (hal : ∀ i, i < m → (al i = true ↔ ∃ T, Rdg n G 1 (one3 F i) T)) (hpr : ∀ i j, i < m → j < m → (pr i j = true ↔ ∃ T, Rdg n G 2 (two3 F i j) T)) :
    YieldsO Fence.wide mm Try.prog 117 #[.pointer (some ⟨bg, 0, none⟩), .pointer (some ⟨bm, 0, none⟩)] C (RlS w.heap.size) (conL R0 al pr m) w := fun l J Jx W hW hA hAx hY h0 => by
  have hs0 := hW.size
  have HCM := Lib.hid hCm
  clear hCm
  have hiW := (hin.up hW (Nat.le_refl _))
  have zg : g < w.heap.size := hin.sp.lt
  have zbg : bg < w.heap.size := World.block_lt_of_cell? _ _ hin.g
  have zbm : bm < w.heap.size := World.block_lt_of_cell? _ _ hin.m
  have HIN := Lib.hid hiW
  have HG := Lib.hid hg
  have HK := Lib.hid hk
  have HR0 := Lib.hid hR0
  have HAL := Lib.hid hal
  have HPR := Lib.hid hpr
  have HA := Lib.hid hA
  have HAX := Lib.hid hAx
  have HY : Hid (∀ k x v O W1, (conL R0 al pr m)[k]? = some x → RlS w.heap.size x v O W1 → J k O W1 → YieldAt Fence.wide 8 Try.prog l v W1 fun en W' => KeepsFrom W.heap.size W1 W' ∧ KpO 0 (fun r => C r ∨ O r) W1 W' ∧ ((en = .returned (.bool true) ∧ J (k + 1) O W') ∨ (en = .returned (.bool false) ∧ Jx k O W'))) := Lib.hid fun k x v O W1 hx hr hJ => by
    obtain ⟨fn, tmps, assign, body, hy, hR⟩ := hY k x v O W1 hx hr hJ
    exact ⟨fn, tmps, assign, body, hy, RoundIn.any0 hR⟩
  have H0 := Lib.hid h0
  have x1 := hiW.g
  have x2 := hiW.m
  have zb1 : bg < W.heap.size := by omega
  have zb2 : bm < W.heap.size := by omega
  clear hin hiW hY h0 hA hAx hR0 hal hpr hg hk
  refine callsIn_wide.2 ((callsIn_wide (n := 10)).1 ?_)
  refine callsIn_of_wp_marks Try.func117 rfl trivial ?_ rfl
  simp only [Try.ntmps117, List.size_toArray, List.length_cons, List.length_nil, Nat.reduceAdd, Nat.reduceSub, Array.replicate_succ, Array.replicate_zero, List.push_toArray, List.append_toArray, List.nil_append, List.cons_append]
  gi_wp2
  obtain ⟨W1, hW1⟩ : ∃ W1 : World, W1 = W.alloc (.cells #[.func (.yield l) #[] #[]] 124) := ⟨_, rfl⟩
  rw [← hW1]
  have hb1 : Below W.heap.size W W1 := by rw [hW1]; exact box1 _ _
  have hy1 : W1.cell? ⟨W.heap.size, 0, none⟩ = some (.func (.yield l) #[] #[]) := by rw [hW1]; go_simp
  have HB1 := Lib.hid hb1
  have HY1 := Lib.hid hy1
  have hs1 := hb1.size
  clear hW1 x1 x2
  refine ⟨trivial, (callsIn_wide.2 (agree_any g n gc G none 0 0 F W1 R0 ((HIN.out.up hb1 hs0).sp) ⟨by omega, fun i hi => absurd hi (by omega)⟩ HG.out (fun i hi => absurd hi (by omega)) HR0.out)).mono ?_⟩
  rintro en W2 ⟨rfl, hb2'⟩
  have hb2 : Below W.heap.size W W2 := hb1.trans (hb2'.mono hs1)
  have hI2 := HIN.out.up hb2 hs0
  have hy2 := cell_of hb2' hy1
  have HB2 := Lib.hid hb2
  have hs2 : W1.heap.size ≤ W2.heap.size := hb2'.size
  have hs2' := hb2.size
  have zy : W.heap.size < W2.heap.size := World.block_lt_of_cell? _ _ hy2
  have HI2 := Lib.hid hI2
  have x2 := hI2.m
  clear hb2' hb1 hy1 hb2 hI2
  cases R0 with
  | false =>
    have hcon : conL false al pr m = [[]] := rfl
    rw [hcon] at HY
    gi_wp2
    have hJ2 : J 0 (fun r => r = W.heap.size) W2 := HA.out.below H0.out HB2.out (fun r h => .inr (by omega))
    obtain ⟨fn, tmps, assign, body, hy, hR⟩ := HY.out 0 [] #[.slice none 0 0] _ W2 rfl ⟨none, 0, rfl, fun i hi => absurd hi (by simp)⟩ hJ2
    rw [hy]
    go_simp
    refine RoundIn.mono (RoundIn.any0 hR) ?_
    rintro en V6 ⟨hkf, hkp, hE⟩
    have hfin : ∃ O, J (conL false al pr m).length O V6 ∨ ∃ k, k < (conL false al pr m).length ∧ Jx k O V6 := by
      rw [hcon]
      rcases hE with ⟨_, h1⟩ | ⟨_, h1⟩
      · exact ⟨_, .inl h1⟩
      · exact ⟨_, .inr ⟨0, by simp, h1⟩⟩
    have HF := Lib.hid hfin
    obtain ⟨bb, rfl⟩ : ∃ bb, en = .returned (.bool bb) := by
      rcases hE with ⟨h, _⟩ | ⟨h, _⟩
      · exact ⟨true, h⟩
      · exact ⟨false, h⟩
    clear hE hfin hkf hkp hy hR hJ2
    gi_wp2
    exact ⟨.tuple #[], results_none (by rfl) _ _ _, ⟨_, rfl⟩, HF.out⟩
  | true =>
    have hmk := run_make_bools m hm0 W2
    have hmm : (0 : Int) ≤ (m : Int) := by omega
    have zb3 : bm < W2.heap.size := by omega
    gi_wp2
    obtain ⟨W3, hW3⟩ : ∃ W3 : World, W3 = (W2.alloc (.cells (madeCells #[.bool false] m) 4)).alloc (.cells #[.slice (some ⟨W2.heap.size, 0, none⟩) m m] 125) := ⟨_, rfl⟩
    rw [← hW3]
    have hb3 : Below W2.heap.size W2 W3 := by rw [hW3]; exact ((Below.refl _ _).alloc (Nat.le_refl _) _).alloc (by simp only [World.size_alloc]; omega) _
    have hs3 : W3.heap.size = W2.heap.size + 2 := by rw [hW3]; simp only [World.size_alloc]
    have hC3 : ConI W.heap.size W2.heap.size (W2.heap.size + 1) l m (fun _ => false) W3 := by
      refine ⟨cell_of hb3 hy2, by rw [hW3]; go_simp, ?_⟩
      rw [hW3]
      exact (BlR.new W2 m).up ((Below.refl _ _).alloc (Nat.le_refl _) _)
    obtain ⟨ar, har⟩ : ∃ ar, ar = W2.heap.size := ⟨_, rfl⟩
    rw [← har] at hC3 ⊢
    obtain ⟨ab, hab⟩ : ∃ ab, ab = ar + 1 := ⟨_, rfl⟩
    rw [← hab] at hC3 ⊢
    have hJ3 : J 0 (fun r => r = W.heap.size ∨ r = ar ∨ r = ab) W3 := HA.out.below H0.out (HB2.out.trans (hb3.mono hs2')) (fun r h => .inr (by omega))
    have HI3 := Lib.hid (HI2.out.up hb3 (by omega))
    have HST : Hid (∃ z, ConI W.heap.size ar ab l m z W3 ∧ (∀ j, j < 0 → z j = al j) ∧ GmIn g n gc G MA m mc F bg bm w.heap.size W3 ∧ J (sgL al 0).length (fun r => r = W.heap.size ∨ r = ar ∨ r = ab) W3 ∧ W3.heap.size ≤ W3.heap.size) := Lib.hid ⟨_, hC3, fun j h => absurd h (by omega), HI3.out, hJ3, Nat.le_refl _⟩
    have z1 : ar < W3.heap.size := by omega
    have z2 : ab < W3.heap.size := by omega
    have z3 : W.heap.size < W3.heap.size := by omega
    have d1 : W.heap.size < ar := by omega
    have d2 : ar < ab := by omega
    clear har hab hs3 hW3 hmk hb3 hC3 hJ3 hy2 x2
    gi_loopw [20] (fun v wr => ∃ i : Nat, v = .int .i64 (i : Int) ∧ i ≤ m ∧ Hid (∃ z, ConI W.heap.size ar ab l m z wr ∧ (∀ j, j < i → z j = al j) ∧ GmIn g n gc G MA m mc F bg bm w.heap.size wr ∧ J (sgL al i).length (fun r => r = W.heap.size ∨ r = ar ∨ r = ab) wr ∧ W3.heap.size ≤ wr.heap.size)) (fun v _ => m + 1 - (intOf v).toNat)
    case atStart => exact ⟨0, rfl, Nat.zero_le _, HST⟩
    case round =>
      obtain ⟨i, rfl, hi, hR⟩ := hrel
      obtain ⟨z, hC, hz, hI, hJ, hs⟩ := hR.out
      have HC := Lib.hid hC
      have HZ := Lib.hid hz
      have HI := Lib.hid hI
      have HJ := Lib.hid hJ
      by_cases hlt : i < m
      · have hI2 := hI.tr.2 i hlt
        have c1 := hC.y
        have c2 := hC.a
        have c3 := hC.r.c i hlt
        have c4 := hI.g
        have c5 := hI.m
        have c6 := hC.r.f i
        obtain ⟨a, rfl, hal, f0, f1, f2⟩ := hI2
        obtain ⟨x0, y0, y1, hF⟩ : ∃ a b c, F i = (a, b, c) := ⟨_, _, _, rfl⟩
        rw [hF] at f0 f1 f2
        simp only at f0 f1 f2
        have HF := Lib.hid hF
        have hki : (i : Int) < (m : Int) := by omega
        have hk0 : (0 : Int) ≤ (i : Int) := by omega
        have z4 : ab < wr.heap.size := by omega
        have z5 : ar < wr.heap.size := by omega
        have z6 : bg < wr.heap.size := by omega
        have z7 : bm < wr.heap.size := by omega
        have z8 : W.heap.size < wr.heap.size := by omega
        have z9 : a.block < wr.heap.size := by omega
        have w1 : IntKind.i64.wrap ((i : Int) + 1) = (i : Int) + 1 := IntWalk.i64_in _ (by omega)
        clear hC hI hJ hR hF hz
        gi_wp2
        obtain ⟨V1, hV1⟩ : ∃ V1 : World, V1 = wr.alloc (.cells #[.int .i64 x0, .int .i64 y0, .int .i64 y1] 33) := ⟨_, rfl⟩
        rw [← hV1]
        obtain ⟨mb, hmb⟩ : ∃ mb, mb = wr.heap.size := ⟨_, rfl⟩
        rw [← hmb]
        have hbV1 : Below wr.heap.size wr V1 := by rw [hV1]; exact box1 _ _
        have q0 : V1.cell? ⟨mb, 0, none⟩ = some (.int .i64 x0) := by rw [hV1, hmb]; go_simp
        have q1 : V1.cell? ⟨mb, 1, none⟩ = some (.int .i64 y0) := by rw [hV1, hmb]; go_simp
        have q2 : V1.cell? ⟨mb, 2, none⟩ = some (.int .i64 y1) := by rw [hV1, hmb]; go_simp
        have p1 := cell_of hbV1 c2
        have p2 := cell_of hbV1 c4
        have HBV1 := Lib.hid hbV1
        have hsV1 := hbV1.size
        have zmb : mb < V1.heap.size := World.block_lt_of_cell? _ _ q0
        have HMB := Lib.hid hmb
        clear hmb hV1 c1 c2 c3 c4 c5 c6 f0 f1 f2 hbV1
        refine wpIn_onlyN ?_
        refine wpIn_region_M [7] (fun w' => w'.cell? ⟨ab, 0, none⟩ = some (.slice (some ⟨ar, 0, none⟩) m m) ∧ w'.cell? ⟨bg, 0, none⟩ = some (.slice (some ⟨g, 0, none⟩) n gc) ∧ w'.cell? ⟨mb, 0, none⟩ = some (.int .i64 x0) ∧ w'.cell? ⟨mb, 1, none⟩ = some (.int .i64 y0) ∧ w'.cell? ⟨mb, 2, none⟩ = some (.int .i64 y1)) (by kernel_rfl) (by kernel_rfl) (by kernel_rfl) (by (try dsimp only); (repeat' apply And.intro); all_goals first | assumption | (go_simp; done)) (fun hT0 => ?_)
        refine MI_take (v := ?_) 0 rfl (by kernel_rfl) (by assumption) (fun _ _ _ h => h) (Or.inl ⟨by rfl, ?_⟩) (fun _ => rfl) ?_
        rotate_left
        · (intro w hSw; (try dsimp only at hSw); go_simp; (try with_reducible rfl))
        (try simp only [Act.put, List.setIfInBounds_toArray, List.set_cons_zero, List.set_cons_succ])
        refine MI_take (v := ?_) 1 rfl (by kernel_rfl) (by assumption) (fun _ _ _ h => h) (Or.inl ⟨by rfl, ?_⟩) (fun _ => rfl) ?_
        rotate_left
        · (intro w hSw; (try dsimp only at hSw); go_simp; (try with_reducible rfl))
        (try simp only [Act.put, List.setIfInBounds_toArray, List.set_cons_zero, List.set_cons_succ])
        refine MI_take (v := ?_) 2 rfl (by kernel_rfl) (by assumption) (fun _ _ _ h => h) (Or.inl ⟨by rfl, ?_⟩) (fun _ => rfl) ?_
        rotate_left
        · (intro w hSw; (try dsimp only at hSw); go_simp; (try with_reducible rfl))
        (try simp only [Act.put, List.setIfInBounds_toArray, List.set_cons_zero, List.set_cons_succ])
        refine MI_take (v := ?_) 3 rfl (by kernel_rfl) (by assumption) (fun _ _ _ h => h) (Or.inl ⟨by rfl, ?_⟩) (fun _ => rfl) ?_
        rotate_left
        · (intro w hSw; (try dsimp only at hSw); go_simp; (try with_reducible rfl))
        (try simp only [Act.put, List.setIfInBounds_toArray, List.set_cons_zero, List.set_cons_succ])
        refine MI_step 4 rfl (by kernel_rfl) (fun K hK => ?_)
        go_simp
        obtain ⟨V2, hV2⟩ : ∃ V2 : World, V2 = (V1.alloc (.cells #[.int .i64 x0, .int .i64 y0, .int .i64 y1] 33)).drew := ⟨_, rfl⟩
        rw [← hV2]
        obtain ⟨sb, hsb⟩ : ∃ sb, sb = V1.heap.size := ⟨_, rfl⟩
        rw [← hsb]
        have hbV2 : Below V1.heap.size V1 V2 := by rw [hV2]; exact (box1 _ _).drew
        have r0 : V2.cell? ⟨sb, 0, none⟩ = some (.int .i64 x0) := by rw [hV2, hsb]; go_simp
        have r1 : V2.cell? ⟨sb, 1, none⟩ = some (.int .i64 y0) := by rw [hV2, hsb]; go_simp
        have r2 : V2.cell? ⟨sb, 2, none⟩ = some (.int .i64 y1) := by rw [hV2, hsb]; go_simp
        have hT2 : (fun w' => w'.cell? ⟨ab, 0, none⟩ = some (.slice (some ⟨ar, 0, none⟩) m m) ∧ w'.cell? ⟨bg, 0, none⟩ = some (.slice (some ⟨g, 0, none⟩) n gc) ∧ w'.cell? ⟨mb, 0, none⟩ = some (.int .i64 x0) ∧ w'.cell? ⟨mb, 1, none⟩ = some (.int .i64 y0) ∧ w'.cell? ⟨mb, 2, none⟩ = some (.int .i64 y1)) V2 := ⟨cell_of hbV2 p1, cell_of hbV2 p2, cell_of hbV2 q0, cell_of hbV2 q1, cell_of hbV2 q2⟩
        have HR0 := Lib.hid r0
        have HR1 := Lib.hid r1
        have HR2 := Lib.hid r2
        have HBV2 := Lib.hid hbV2
        have hsV2 := hbV2.size
        have zsb : sb < V2.heap.size := World.block_lt_of_cell? _ _ r0
        have HSB := Lib.hid hsb
        clear hsb hV2 r0 r1 r2 hbV2
        refine hK.out _ _ (fun _ => hT2) ?_
        clear hK K
        (try simp only [Act.put, List.setIfInBounds_toArray, List.set_cons_zero, List.set_cons_succ])
        refine MI_step 5 rfl (by kernel_rfl) (fun K hK => ?_)
        go_simp
        have hb5 : Below wr.heap.size wr V2 := HBV1.out.trans (HBV2.out.mono hsV1)
        have hgm := HI.out.up hb5 (by omega)
        have htr : TrsIn (some ⟨sb, 0, none⟩) 1 (one3 F i) V2.heap.size V2 := ⟨by omega, fun k hk => by
            obtain rfl : k = 0 := by omega
            refine ⟨⟨sb, 0, none⟩, rfl, zsb, ?_, ?_, ?_⟩
            · rw [show (one3 F i 0) = (x0, y0, y1) from HF.out]; exact HR0.out
            · rw [show (one3 F i 0) = (x0, y0, y1) from HF.out]; exact HR1.out
            · rw [show (one3 F i 0) = (x0, y0, y1) from HF.out]; exact HR2.out⟩
        have hAG := agree_any g n gc G (some ⟨sb, 0, none⟩) 1 1 (one3 F i) V2 (al i) hgm.sp htr HG.out (fun k _ => HK.out i hlt) (HAL.out i hlt)
        clear hgm htr
        refine ⟨trivial, (callsIn_wide.2 hAG).mono ?_⟩
        rintro en V3 ⟨rfl, hb3⟩
        obtain ⟨t0, t1, t2, t3, t4⟩ := hT2
        have hT3 : (fun w' => w'.cell? ⟨ab, 0, none⟩ = some (.slice (some ⟨ar, 0, none⟩) m m) ∧ w'.cell? ⟨bg, 0, none⟩ = some (.slice (some ⟨g, 0, none⟩) n gc) ∧ w'.cell? ⟨mb, 0, none⟩ = some (.int .i64 x0) ∧ w'.cell? ⟨mb, 1, none⟩ = some (.int .i64 y0) ∧ w'.cell? ⟨mb, 2, none⟩ = some (.int .i64 y1)) V3 := ⟨cell_of hb3 t0, cell_of hb3 t1, cell_of hb3 t2, cell_of hb3 t3, cell_of hb3 t4⟩
        have HB3 := Lib.hid (hb5.trans (hb3.mono hb5.size))
        have hC3 := HC.out.up HB3.out
        have c3 := hC3.r.c i hlt
        have c6 := hC3.r.f i
        have z5' : ar < V3.heap.size := hC3.r.lt
        clear hb5 hb3 hAG t0 t1 t2 t3 t4 hC3
        refine hK.out _ _ (fun _ => hT3) ?_
        clear hK K
        (try simp only [Act.put, List.setIfInBounds_toArray, List.set_cons_zero, List.set_cons_succ])
        refine MI_take (v := ?_) 6 rfl (by kernel_rfl) (by assumption) (fun _ _ _ h => h) (Or.inl ⟨by rfl, ?_⟩) (fun _ => rfl) ?_
        rotate_left
        · (intro w hSw; (try dsimp only at hSw); go_simp; (try with_reducible rfl))
        (try simp only [Act.put, List.setIfInBounds_toArray, List.set_cons_zero, List.set_cons_succ])
        refine MI_step 7 rfl (by kernel_rfl) (fun K hK => ?_)
        go_simp
        obtain ⟨V4, hV4⟩ : ∃ V4 : World, V4 = V3.setCell ⟨ar, i, none⟩ (.bool (al i)) := ⟨_, rfl⟩
        rw [← hV4]
        have hC4 : ConI W.heap.size ar ab l m (fun k => if k = i then al i else z k) V4 := by
          have h := HC.out.up HB3.out
          rw [hV4]
          exact ⟨cell_ne h.y (show W.heap.size ≠ ar by omega), cell_ne h.a (show ab ≠ ar by omega), h.r.set hlt⟩
        have hI4 : GmIn g n gc G (some a) m mc F bg bm w.heap.size V4 := by rw [hV4]; exact (HI.out.up HB3.out (by omega)).low (set1 (Below.refl _ _) (by omega) _ _) zg zbg zbm
        have hJ4 : J (sgL al i).length (fun r => r = W.heap.size ∨ r = ar ∨ r = ab) V4 := by
          rw [hV4]
          exact HA.out _ _ _ _ _ _ (HA.out.below HJ.out HB3.out (fun r h => .inl h)) (grown_set1 _ _ _ _) (fun r e' => by cases e'; exact .inl (.inr (.inl rfl))) (fun r h => .inl h)
        have hs4 : W3.heap.size ≤ V4.heap.size := by
          have h := HB3.out.size
          rw [hV4]; go_simp; omega
        have HC4 := Lib.hid hC4
        have HI4 := Lib.hid hI4
        have HJ4 := Lib.hid hJ4
        clear hC4 hI4 hJ4 hV4 hT3 c3 c6
        refine hK.out _ _ (fun e => by cases e) ?_
        clear hK K
        (try simp only [Act.put, List.setIfInBounds_toArray, List.set_cons_zero, List.set_cons_succ])
        refine MI_done (by kernel_rfl) ?_ _

        simp only [onlyN]
        have c1 := HC4.out.y
        have c2 := HC4.out.a
        have c3 := HC4.out.r.c i hlt
        simp only [if_true] at c3
        have y4 : W.heap.size < V4.heap.size := by omega
        have y5 : ar < V4.heap.size := by omega
        have y6 : ab < V4.heap.size := by omega
        have hZ4 : ∀ j, j < i + 1 → (fun k => if k = i then al i else z k) j = al j := fun j hj => by
          by_cases e : j = i
          · subst e; simp
          · simp only [if_neg e]; exact HZ.out j (by omega)
        have HZ4 := Lib.hid hZ4
        clear hZ4 p1 p2 q0 q1 q2
        cases hai : al i with
        | true =>
          rw [hai] at c3
          have hq := sgL_t hai
          have HFI : Hid (∃ z, ConI W.heap.size ar ab l m z V4 ∧ (∀ j, j < i + 1 → z j = al j) ∧ GmIn g n gc G (some a) m mc F bg bm w.heap.size V4 ∧ J (sgL al (i + 1)).length (fun r => r = W.heap.size ∨ r = ar ∨ r = ab) V4 ∧ W3.heap.size ≤ V4.heap.size) := Lib.hid ⟨_, HC4.out, HZ4.out, HI4.out, by rw [hq]; exact HJ4.out, hs4⟩
          clear hai hq
          gi_wp2
          refine ⟨fun f hf => (by cases hf), ?_⟩
          gi_wp2
          go_roundw
          case rel => exact ⟨i + 1, by go_num, by omega, HFI⟩
          case measure => simp [intOf]; omega
        | false =>
          rw [hai] at c3
          have hq := sgL_f hai
          have hat := con_sg (R0 := true) (pr := pr) rfl hai hlt
          have HQ := Lib.hid hq
          have HAT := Lib.hid hat
          clear hai hq hat
          gi_wp2
          obtain ⟨V5, hV5⟩ : ∃ V5 : World, V5 = V4.alloc (.cells #[.int .i64 (i : Int)] 3) := ⟨_, rfl⟩
          rw [← hV5]
          obtain ⟨xb, hxb⟩ : ∃ xb, xb = V4.heap.size := ⟨_, rfl⟩
          rw [← hxb]
          have hb5 : Below V4.heap.size V4 V5 := by rw [hV5]; exact box1 _ _
          have e0 : V5.cell? ⟨xb, 0, none⟩ = some (.int .i64 (i : Int)) := by rw [hV5, hxb]; go_simp
          have ht0 : isInts V5 xb := by rw [hV5, hxb]; exact ⟨_, _, World.alloc_heap_new _ _⟩
          have zxb : xb < V5.heap.size := World.block_lt_of_cell? _ _ e0
          have hRl : RlS w.heap.size [(i : Int)] #[.slice (some ⟨xb, 0, none⟩) 1 1] (fun r => r = W.heap.size ∨ r = ar ∨ r = ab) V5 := by
            refine ⟨some ⟨xb, 0, none⟩, 1, rfl, fun k hk => ⟨xb, rfl, zxb, by omega, by omega, ?_, ht0, Nat.le_refl _⟩⟩
            obtain rfl : k = 0 := by simpa using hk
            exact e0
          have hJ5 := HA.out.below HJ4.out hb5 (O' := fun r => r = W.heap.size ∨ r = ar ∨ r = ab) (fun r h => .inl h)
          obtain ⟨fn, tmps, assign, body, hy, hR⟩ := HY.out _ _ _ _ V5 HAT.out hRl hJ5
          have HC5 := Lib.hid (HC4.out.up hb5)
          have HI5 := Lib.hid (HI4.out.up hb5 (by omega))
          have hs5 := hb5.size
          rw [hy]
          clear hxb hV5 hRl hJ5 hb5 e0
          go_simp
          refine RoundIn.mono (RoundIn.any0 hR) ?_
          rintro en V6 ⟨hkf, hkp, hE⟩
          have hC6 := HC5.out.kp hkp (.inr (.inr (.inl rfl))) (.inr (.inr (.inr (.inl rfl)))) (.inr (.inr (.inr (.inr rfl))))
          have hI6 := HI5.out.kp hkp hCg hCbg hCbm HCM.out HG.out.1
          have hs6 := hkp.size
          rcases hE with ⟨rfl, hJ6⟩ | ⟨rfl, hJ6⟩
          · have HFI : Hid (∃ z, ConI W.heap.size ar ab l m z V6 ∧ (∀ j, j < i + 1 → z j = al j) ∧ GmIn g n gc G (some a) m mc F bg bm w.heap.size V6 ∧ J (sgL al (i + 1)).length (fun r => r = W.heap.size ∨ r = ar ∨ r = ab) V6 ∧ W3.heap.size ≤ V6.heap.size) := Lib.hid ⟨_, hC6, HZ4.out, hI6, by rw [HQ.out, List.length_append]; exact hJ6, by omega⟩
            clear hC6 hI6 hJ6 hkf hkp hR hy
            gi_wp2
            go_roundw
            case rel => exact ⟨i + 1, by go_num, by omega, HFI⟩
            case measure => simp [intOf]; omega
          · have HFI : Hid (∃ O, J (conL true al pr m).length O V6 ∨ ∃ k, k < (conL true al pr m).length ∧ Jx k O V6) := Lib.hid ⟨_, .inr ⟨_, (List.getElem?_eq_some_iff.1 HAT.out).1, hJ6⟩⟩
            clear hC6 hI6 hJ6 hkf hkp hR hy
            gi_wp2
            exact ⟨.tuple #[], results_none (by rfl) _ _ _, ⟨_, rfl⟩, HFI.out⟩
      · obtain rfl : m = i := by omega
        have c5 := hI.m
        have hki : ¬ (m : Int) < (m : Int) := by omega
        have z7 : bm < wr.heap.size := by omega
        have hCa : ConI W.heap.size ar ab l m al wr := ⟨hC.y, hC.a, hC.r.same (fun j hj => hz j hj)⟩
        have HCA := Lib.hid hCa
        clear hC hI hJ hR hz hlt hCa HC HZ
        gi_wp2
        refine ⟨trivial, (callsIn_wide.2 (sets_any m 2 wr)).mono ?_⟩
        rintro en V1 ⟨rfl, hV1⟩
        have hb1 : Below wr.heap.size wr V1 := by rw [hV1]; exact box2 _ _ _
        have s1 : V1.cell? ⟨wr.heap.size + 1, 0, none⟩ = some (.int .i64 ((2 : Nat) : Int)) := by rw [hV1]; go_simp
        have s2 : V1.cell? ⟨wr.heap.size, 0, none⟩ = some (.int .i64 (m : Int)) := by rw [hV1]; go_simp
        have hz1 : V1.heap.size = wr.heap.size + 2 := by rw [hV1]; simp only [World.size_alloc]
        obtain ⟨bc, hbc⟩ : ∃ bc, bc = wr.heap.size := ⟨_, rfl⟩
        obtain ⟨bs, hbs⟩ : ∃ bs, bs = wr.heap.size + 1 := ⟨_, rfl⟩
        rw [← hbs] at s1
        rw [← hbc] at s2
        rw [← hbs, ← hbc]
        have hsy := sets_yields m 2 bs bc 9 V1 s1 s2 hm0 (by omega)
        have hJ1 : J ((sgL al m).length + (prL al pr m 0).length) (fun r => (r = W.heap.size ∨ r = ar ∨ r = ab ∨ r = bs ∨ r = bc) ∨ False) V1 := by
          have h := HA.out.below HJ.out hb1 (O' := fun r => (r = W.heap.size ∨ r = ar ∨ r = ab ∨ r = bs ∨ r = bc) ∨ False) (fun r h => by
            rcases h with (h | h | h | h | h) | h
            · exact .inl (.inl h)
            · exact .inl (.inr (.inl h))
            · exact .inl (.inr (.inr h))
            · exact .inr (by omega)
            · exact .inr (by omega)
            · exact h.elim)
          exact h
        have HJ1 := Lib.hid hJ1
        have HC1 := Lib.hid (HCA.out.up hb1)
        have HI1 := Lib.hid (HI.out.up hb1 (by omega))
        have g1 : W.heap.size < V1.heap.size := by omega
        have g2 : ar < V1.heap.size := by omega
        have g3 : ab < V1.heap.size := by omega
        have g4 : w.heap.size ≤ V1.heap.size := by omega
        have g5 : bs < V1.heap.size := by omega
        have g6 : bc < V1.heap.size := by omega
        have HSY := Lib.hid hsy
        clear hV1 s1 s2 hbc hbs hz1 hJ1 hsy hb1 c5
        gi_wp2
        refine rangeListO1 7 rfl (by omega) (gf := 129) (lb := #[.pointer (some ⟨bs, 0, none⟩), .pointer (some ⟨bc, 0, none⟩)]) rfl trivial eg_sets HSY.out (Below.refl _ _) (fun x v O V h => h.size) (fun x v O V V' row h hg hr => h.grow hg hr)
          (fun k O V => (∀ r, O r → V1.heap.size ≤ r) ∧ V1.heap.size ≤ V.heap.size ∧ ConI W.heap.size ar ab l m al V ∧ GmIn g n gc G MA m mc F bg bm w.heap.size V ∧ J ((sgL al m).length + (prL al pr m k).length) (fun r => (r = W.heap.size ∨ r = ar ∨ r = ab ∨ r = bs ∨ r = bc) ∨ O r) V)
          (fun cd k O V => cd = .ret ∧ (∀ r, O r → V1.heap.size ≤ r) ∧ V1.heap.size ≤ V.heap.size ∧ ∃ k', k' < (conL true al pr m).length ∧ Jx k' (fun r => (r = W.heap.size ∨ r = ar ∨ r = ab ∨ r = bs ∨ r = bc) ∨ O r) V) ?hI ?hIx ⟨fun r h => h.elim, Nat.le_refl _, HC1.out, HI1.out, HJ1.out⟩ ?assign ?body ?done ?stop
        case hI =>
          rintro k O V V' row O' ⟨a1, a2, a3, a4, a5⟩ hg hr hO
          have hrw : ∀ r, row = some r → V1.heap.size ≤ r := fun r e => (hr r e).elim (a1 r) (fun h => h.1)
          have hkp : KpO V1.heap.size (fun _ => False) V V' := KpO.grown hg (fun r e h => by have := hrw r e; rcases h with h | h; omega; exact h)
          refine ⟨fun r h => (hO r h).elim (a1 r) (fun h => Nat.le_trans a2 h.1), Nat.le_trans a2 hg.size, a3.kp hkp (.inl g1) (.inl g2) (.inl g3), a4.kp hkp.flat (Nat.lt_of_lt_of_le zg g4) (Nat.lt_of_lt_of_le zbg g4) (Nat.lt_of_lt_of_le zbm g4) (fun a _ _ h => Nat.lt_of_lt_of_le h g4) HG.out.1, ?_⟩
          exact HA.out _ _ _ _ _ _ a5 hg (fun r e => (hr r e).imp .inr fun h => ⟨by omega, h.2⟩) (fun r h => h.elim (fun h => .inl (.inl h)) (fun h => (hO r h).imp .inr id))
        case hIx =>
          rintro cd k O V V' row O' ⟨a1, a2, a3, k', a4, a5⟩ hg hr hO
          refine ⟨a1, fun r h => (hO r h).elim (a2 r) (fun h => Nat.le_trans a3 h.1), Nat.le_trans a3 hg.size, k', a4, ?_⟩
          exact HAX.out _ _ _ _ _ _ a5 hg (fun r e => (hr r e).imp .inr fun h => ⟨by omega, h.2⟩) (fun r h => h.elim (fun h => .inl (.inl h)) (fun h => (hO r h).imp .inr id))
        case done =>
          rintro D O V hD ⟨a1, a2, a3, a4, a5⟩ hDD
          clear HSY
          gi_wp2
          refine ⟨by simp, .inl ⟨_, _, rfl, run_takeDeferred hDD, ?_⟩⟩
          exact ⟨.tuple #[], results_none (by rfl) _ _ _, ⟨_, rfl⟩, _, .inl (by rw [con_len rfl]; exact HA.out.put _ a5 (by omega) hDD rfl)⟩
        case stop =>
          rintro D cd k O V hD hk ⟨rfl, a1, a2, k', a3, a4⟩ hDD
          clear HSY
          gi_wp2
          refine ⟨by simp, .inl ⟨_, _, rfl, run_takeDeferred hDD, ?_⟩⟩
          exact ⟨.tuple #[], results_none (by rfl) _ _ _, ⟨_, rfl⟩, _, .inr ⟨k', a3, HAX.out.put _ a4 (by omega) hDD rfl⟩⟩
        case assign =>
          rintro l2 x v O V K hR hK
          obtain ⟨A, c, rfl, h1⟩ := hR
          clear h1
          gi_wp2
        case body =>
          rintro l2 k x v O V hx hR ⟨a1, a2, a3, a4, a5⟩ ho
          obtain ⟨i, j, rfl, hij, hjm⟩ := ext_two (List.mem_of_getElem? hx)
          have hR0 := hR
          obtain ⟨A, c, rfl, h1⟩ := hR
          obtain ⟨b, rfl, hbV, hbO, hbB, e0, hbT⟩ := h1 0 (by simp)
          have HBT := Lib.hid hbT
          obtain ⟨b', hbb, _, _, _, e1, _⟩ := h1 1 (by simp)
          obtain rfl : b = b' := by injection hbb with h; injection h
          simp only [List.getD, List.getElem?_cons_zero, List.getElem?_cons_succ, Option.getD_some, List.length_cons, List.length_nil, Nat.reduceAdd] at e0 e1
          have HR0' := Lib.hid hR0
          have HA1 := Lib.hid a1
          have HA3 := Lib.hid a3
          have HA4 := Lib.hid a4
          have HA5 := Lib.hid a5
          have HX := Lib.hid hx
          have q0 : (0 : Int) < 2 := by omega
          clear hbT HSY h1 hbb hR0 a1 a3 a4 a5 hx
          gi_wp2
          refine wpIn_region_M [] (fun w' => w'.cell? ⟨b, 0, none⟩ = some (.int .i64 (i : Int)) ∧ w'.cell? ⟨b, 1, none⟩ = some (.int .i64 (j : Int))) (by kernel_rfl) (by kernel_rfl) (by kernel_rfl) (by (try dsimp only); (repeat' apply And.intro); all_goals first | assumption | (go_simp; done)) (fun hT0 => ?_)
          refine MI_take (v := ?_) 0 rfl (by kernel_rfl) (by assumption) (fun _ _ _ h => h) (Or.inl ⟨by rfl, ?_⟩) (fun _ => rfl) ?_
          rotate_left
          · (intro w hSw; (try dsimp only at hSw); go_simp; (try with_reducible rfl))
          (try simp only [Act.put, List.setIfInBounds_toArray, List.set_cons_zero, List.set_cons_succ])
          refine MI_take (v := ?_) 1 rfl (by kernel_rfl) (by assumption) (fun _ _ _ h => h) (Or.inl ⟨by rfl, ?_⟩) (fun _ => rfl) ?_
          rotate_left
          · (intro w hSw; (try dsimp only at hSw); go_simp; (try with_reducible rfl))
          (try simp only [Act.put, List.setIfInBounds_toArray, List.set_cons_zero, List.set_cons_succ])
          refine MI_take (v := ?_) 2 rfl (by kernel_rfl) (by assumption) (fun _ _ _ h => h) (Or.inl ⟨by rfl, ?_⟩) (fun _ => rfl) ?_
          rotate_left
          · (intro w hSw; (try dsimp only at hSw); go_simp; (try with_reducible rfl))
          (try simp only [Act.put, List.setIfInBounds_toArray, List.set_cons_zero, List.set_cons_succ])
          refine MI_take (v := ?_) 3 rfl (by kernel_rfl) (by assumption) (fun _ _ _ h => h) (Or.inl ⟨by rfl, ?_⟩) (fun _ => rfl) ?_
          rotate_left
          · (intro w hSw; (try dsimp only at hSw); go_simp; (try with_reducible rfl))
          (try simp only [Act.put, List.setIfInBounds_toArray, List.set_cons_zero, List.set_cons_succ])
          refine MI_take (v := ?_) 4 rfl (by kernel_rfl) (by assumption) (fun _ _ _ h => h) (Or.inl ⟨by rfl, ?_⟩) (fun _ => rfl) ?_
          rotate_left
          · (intro w hSw; (try dsimp only at hSw); go_simp; (try with_reducible rfl))
          (try simp only [Act.put, List.setIfInBounds_toArray, List.set_cons_zero, List.set_cons_succ])
          refine MI_take (v := ?_) 5 rfl (by kernel_rfl) (by assumption) (fun _ _ _ h => h) (Or.inl ⟨by rfl, ?_⟩) (fun _ => rfl) ?_
          rotate_left
          · (intro w hSw; (try dsimp only at hSw); go_simp; (try with_reducible rfl))
          (try simp only [Act.put, List.setIfInBounds_toArray, List.set_cons_zero, List.set_cons_succ])
          refine MI_step 6 rfl (by kernel_rfl) (fun K hK => ?_)
          go_simp
          refine hK.out _ _ (fun _ => by assumption) ?_
          clear hK K
          (try simp only [Act.put, List.setIfInBounds_toArray, List.set_cons_zero, List.set_cons_succ])
          refine MI_step 7 rfl (by kernel_rfl) (fun K hK => ?_)
          go_simp
          refine hK.out _ _ (fun _ => by assumption) ?_
          clear hK K
          (try simp only [Act.put, List.setIfInBounds_toArray, List.set_cons_zero, List.set_cons_succ])
          refine MI_done (by kernel_rfl) ?_ _
          obtain ⟨V0, hV0⟩ : ∃ V0 : World, V0 = V.drew := ⟨_, rfl⟩
          rw [← hV0]
          have hb0 : Below V.heap.size V V0 := by rw [hV0]; exact (Below.refl _ _).drew
          have HB0 := Lib.hid hb0
          have hs0' := hb0.size
          have C0 := HA3.out.up hb0
          have I0 := HA4.out.up hb0 (by omega)
          have HC0 := Lib.hid C0
          have HI0 := Lib.hid I0
          obtain ⟨a, rfl, hal, f0, f1, f2⟩ := I0.tr.2 i (by omega)
          obtain ⟨a', haa, hal', f3, f4, f5⟩ := I0.tr.2 j hjm
          obtain rfl : a = a' := by injection haa
          obtain ⟨x0, y0, y1, hF⟩ : ∃ a b c, F i = (a, b, c) := ⟨_, _, _, rfl⟩
          obtain ⟨x3, y3, y4, hF'⟩ : ∃ a b c, F j = (a, b, c) := ⟨_, _, _, rfl⟩
          rw [hF] at f0 f1 f2
          rw [hF'] at f3 f4 f5
          simp only at f0 f1 f2 f3 f4 f5
          have HF := Lib.hid hF
          have HF' := Lib.hid hF'
          have c1 := C0.y
          have c2 := C0.a
          have c3 := C0.r.c i (by omega)
          have c4 := C0.r.c j hjm
          have c5 := I0.g
          have c6 := I0.m
          have i0 : (0 : Int) ≤ (i : Int) := by omega
          have i1 : (i : Int) < (m : Int) := by omega
          have i2 : i < m := by omega
          have j0 : (0 : Int) ≤ (j : Int) := by omega
          have j1 : (j : Int) < (m : Int) := by omega
          have hps : pass al pr [(i : Int), (j : Int)] = (al i && (al j && !pr i j)) := rfl
          have hfin : ∀ V6, pass al pr [(i : Int), (j : Int)] = false → Below V0.heap.size V0 V6 → goesO V1.heap.size (fun r => r = bs ∨ r = bc) O (fun k O V => (∀ r, O r → V1.heap.size ≤ r) ∧ V1.heap.size ≤ V.heap.size ∧ ConI W.heap.size ar ab l m al V ∧ GmIn g n gc G (some a) m mc F bg bm w.heap.size V ∧ J ((sgL al m).length + (prL al pr m k).length) (fun r => (r = W.heap.size ∨ r = ar ∨ r = ab ∨ r = bs ∨ r = bc) ∨ O r) V)
              (fun cd k O V => cd = .ret ∧ (∀ r, O r → V1.heap.size ≤ r) ∧ V1.heap.size ≤ V.heap.size ∧ ∃ k', k' < (conL true al pr m).length ∧ Jx k' (fun r => (r = W.heap.size ∨ r = ar ∨ r = ab ∨ r = bs ∨ r = bc) ∨ O r) V) k V .normal { tmps := #[], defers := [] } V6 := fun V6 hp hb6 => by
            have hb : Below V.heap.size V V6 := HB0.out.trans (hb6.mono hs0')
            refine ⟨keepsFrom_below hb, KpO.of hb, HA1.out, Nat.le_trans a2 hb.size, HA3.out.up hb, HA4.out.up hb (by omega), ?_⟩
            rw [prL_f HX.out hp]
            exact HA.out.below HA5.out hb (fun r h => .inl h)
          have HFN := Lib.hid hfin
          clear hfin hb0 hV0 C0 I0 e0 e1 haa hF hF'
          cases hai : al i with
          | false =>
            rw [hai] at c3
            have hp : pass al pr [(i : Int), (j : Int)] = false := by rw [hps, hai]; rfl
            have HP := Lib.hid hp
            clear hp hps hai
            gi_wp2
            refine wpIn_region_M [] (fun w' => w'.cell? ⟨ab, 0, none⟩ = some (.slice (some ⟨ar, 0, none⟩) m m) ∧ w'.cell? ⟨ar, i, none⟩ = some (.bool false) ∧ w'.cell? ⟨ar, j, none⟩ = some (.bool (al j)) ∧ w'.cell? ⟨bg, 0, none⟩ = some (.slice (some ⟨g, 0, none⟩) n gc) ∧ w'.cell? ⟨bm, 0, none⟩ = some (.slice (some a) m mc) ∧ w'.cell? ⟨W.heap.size, 0, none⟩ = some (.func (.yield l) #[] #[]) ∧ w'.cell? (a.add (i * 3)) = some (.int .i64 x0) ∧ w'.cell? ⟨(a.add (i * 3)).block, (a.add (i * 3)).off + 1, none⟩ = some (.int .i64 y0) ∧ w'.cell? ⟨(a.add (i * 3)).block, (a.add (i * 3)).off + 2, none⟩ = some (.int .i64 y1) ∧ w'.cell? (a.add (j * 3)) = some (.int .i64 x3) ∧ w'.cell? ⟨(a.add (j * 3)).block, (a.add (j * 3)).off + 1, none⟩ = some (.int .i64 y3) ∧ w'.cell? ⟨(a.add (j * 3)).block, (a.add (j * 3)).off + 2, none⟩ = some (.int .i64 y4)) (by kernel_rfl) (by kernel_rfl) (by kernel_rfl) (by (try dsimp only); (repeat' apply And.intro); all_goals first | assumption | (go_simp; done)) (fun hT0 => ?_)
            refine MI_take (v := ?_) 0 rfl (by kernel_rfl) (by assumption) (fun _ _ _ h => h) (Or.inl ⟨by rfl, ?_⟩) (fun _ => rfl) ?_
            rotate_left
            · (intro w hSw; (try dsimp only at hSw); go_simp; (try with_reducible rfl))
            (try simp only [Act.put, List.setIfInBounds_toArray, List.set_cons_zero, List.set_cons_succ])
            refine MI_take (v := ?_) 1 rfl (by kernel_rfl) (by assumption) (fun _ _ _ h => h) (Or.inl ⟨by rfl, ?_⟩) (fun _ => rfl) ?_
            rotate_left
            · (intro w hSw; (try dsimp only at hSw); go_simp; (try with_reducible rfl))
            (try simp only [Act.put, List.setIfInBounds_toArray, List.set_cons_zero, List.set_cons_succ])
            refine MI_take (v := ?_) 2 rfl (by kernel_rfl) (by assumption) (fun _ _ _ h => h) (Or.inl ⟨by rfl, ?_⟩) (fun _ => rfl) ?_
            rotate_left
            · (intro w hSw; (try dsimp only at hSw); go_simp; (try with_reducible rfl))
            (try simp only [Act.put, List.setIfInBounds_toArray, List.set_cons_zero, List.set_cons_succ])
            refine MI_take (v := ?_) 3 rfl (by kernel_rfl) (by assumption) (fun _ _ _ h => h) (Or.inl ⟨by rfl, ?_⟩) (fun _ => rfl) ?_
            rotate_left
            · (intro w hSw; (try dsimp only at hSw); go_simp; (try with_reducible rfl))
            (try simp only [Act.put, List.setIfInBounds_toArray, List.set_cons_zero, List.set_cons_succ])
            refine MI_take (v := ?_) 4 rfl (by kernel_rfl) (by assumption) (fun _ _ _ h => h) (Or.inl ⟨by rfl, ?_⟩) (fun _ => rfl) ?_
            rotate_left
            · (intro w hSw; (try dsimp only at hSw); go_simp; (try with_reducible rfl))
            (try simp only [Act.put, List.setIfInBounds_toArray, List.set_cons_zero, List.set_cons_succ])
            refine MI_take 5 rfl (by kernel_rfl) (by assumption) (fun _ _ _ h => h) (Or.inr ⟨by rfl, rfl⟩) (fun _ => rfl) ?_
            (try simp only [Act.put, List.setIfInBounds_toArray, List.set_cons_zero, List.set_cons_succ])
            refine MI_take 6 rfl (by kernel_rfl) (by assumption) (fun _ _ _ h => h) (Or.inr ⟨by rfl, rfl⟩) (fun _ => rfl) ?_
            (try simp only [Act.put, List.setIfInBounds_toArray, List.set_cons_zero, List.set_cons_succ])
            refine MI_take 7 rfl (by kernel_rfl) (by assumption) (fun _ _ _ h => h) (Or.inr ⟨by rfl, rfl⟩) (fun _ => rfl) ?_
            (try simp only [Act.put, List.setIfInBounds_toArray, List.set_cons_zero, List.set_cons_succ])
            refine MI_take 8 rfl (by kernel_rfl) (by assumption) (fun _ _ _ h => h) (Or.inr ⟨by rfl, rfl⟩) (fun _ => rfl) ?_
            (try simp only [Act.put, List.setIfInBounds_toArray, List.set_cons_zero, List.set_cons_succ])
            refine MI_take (v := ?_) 9 rfl (by kernel_rfl) (by assumption) (fun _ _ _ h => h) (Or.inl ⟨by rfl, ?_⟩) (fun _ => rfl) ?_
            rotate_left
            · (intro w hSw; (try dsimp only at hSw); go_simp; (try with_reducible rfl))
            (try simp only [Act.put, List.setIfInBounds_toArray, List.set_cons_zero, List.set_cons_succ])
            refine MI_take (v := ?_) 10 rfl (by kernel_rfl) (by assumption) (fun _ _ _ h => h) (Or.inl ⟨by rfl, ?_⟩) (fun _ => rfl) ?_
            rotate_left
            · (intro w hSw; (try dsimp only at hSw); go_simp; (try with_reducible rfl))
            (try simp only [Act.put, List.setIfInBounds_toArray, List.set_cons_zero, List.set_cons_succ])
            refine MI_take 11 rfl (by kernel_rfl) (by assumption) (fun _ _ _ h => h) (Or.inr ⟨by rfl, rfl⟩) (fun _ => rfl) ?_
            (try simp only [Act.put, List.setIfInBounds_toArray, List.set_cons_zero, List.set_cons_succ])
            refine MI_take 12 rfl (by kernel_rfl) (by assumption) (fun _ _ _ h => h) (Or.inr ⟨by rfl, rfl⟩) (fun _ => rfl) ?_
            (try simp only [Act.put, List.setIfInBounds_toArray, List.set_cons_zero, List.set_cons_succ])
            refine MI_take 13 rfl (by kernel_rfl) (by assumption) (fun _ _ _ h => h) (Or.inr ⟨by rfl, rfl⟩) (fun _ => rfl) ?_
            (try simp only [Act.put, List.setIfInBounds_toArray, List.set_cons_zero, List.set_cons_succ])
            refine MI_take 14 rfl (by kernel_rfl) (by assumption) (fun _ _ _ h => h) (Or.inr ⟨by rfl, rfl⟩) (fun _ => rfl) ?_
            (try simp only [Act.put, List.setIfInBounds_toArray, List.set_cons_zero, List.set_cons_succ])
            refine MI_take 15 rfl (by kernel_rfl) (by assumption) (fun _ _ _ h => h) (Or.inr ⟨by rfl, rfl⟩) (fun _ => rfl) ?_
            (try simp only [Act.put, List.setIfInBounds_toArray, List.set_cons_zero, List.set_cons_succ])
            refine MI_take 16 rfl (by kernel_rfl) (by assumption) (fun _ _ _ h => h) (Or.inr ⟨by rfl, rfl⟩) (fun _ => rfl) ?_
            (try simp only [Act.put, List.setIfInBounds_toArray, List.set_cons_zero, List.set_cons_succ])
            refine MI_take 17 rfl (by kernel_rfl) (by assumption) (fun _ _ _ h => h) (Or.inr ⟨by rfl, rfl⟩) (fun _ => rfl) ?_
            (try simp only [Act.put, List.setIfInBounds_toArray, List.set_cons_zero, List.set_cons_succ])
            refine MI_take 18 rfl (by kernel_rfl) (by assumption) (fun _ _ _ h => h) (Or.inr ⟨by rfl, rfl⟩) (fun _ => rfl) ?_
            (try simp only [Act.put, List.setIfInBounds_toArray, List.set_cons_zero, List.set_cons_succ])
            refine MI_take 19 rfl (by kernel_rfl) (by assumption) (fun _ _ _ h => h) (Or.inr ⟨by rfl, rfl⟩) (fun _ => rfl) ?_
            (try simp only [Act.put, List.setIfInBounds_toArray, List.set_cons_zero, List.set_cons_succ])
            refine MI_take 20 rfl (by kernel_rfl) (by assumption) (fun _ _ _ h => h) (Or.inr ⟨by rfl, rfl⟩) (fun _ => rfl) ?_
            (try simp only [Act.put, List.setIfInBounds_toArray, List.set_cons_zero, List.set_cons_succ])
            refine MI_step 21 rfl (by kernel_rfl) (fun K hK => ?_)
            go_simp
            refine ⟨trivial, ?_⟩
            refine hK.out _ _ (fun _ => by assumption) ?_
            clear hK K
            (try simp only [Act.put, List.setIfInBounds_toArray, List.set_cons_zero, List.set_cons_succ])
            refine MI_take 22 rfl (by kernel_rfl) (by assumption) (fun _ _ _ h => h) (Or.inr ⟨by rfl, rfl⟩) (fun _ => rfl) ?_
            (try simp only [Act.put, List.setIfInBounds_toArray, List.set_cons_zero, List.set_cons_succ])
            refine MI_take (v := ?_) 23 rfl (by kernel_rfl) (by assumption) (fun _ _ _ h => h) (Or.inl ⟨by rfl, ?_⟩) (fun _ => rfl) ?_
            rotate_left
            · (intro w hSw; (try dsimp only at hSw); go_simp; (try with_reducible rfl))
            (try simp only [Act.put, List.setIfInBounds_toArray, List.set_cons_zero, List.set_cons_succ])
            refine MI_take (v := ?_) 24 rfl (by kernel_rfl) (by assumption) (fun _ _ _ h => h) (Or.inl ⟨by rfl, ?_⟩) (fun _ => rfl) ?_
            rotate_left
            · (intro w hSw; (try dsimp only at hSw); go_simp; (try with_reducible rfl))
            (try simp only [Act.put, List.setIfInBounds_toArray, List.set_cons_zero, List.set_cons_succ])
            refine MI_take 25 rfl (by kernel_rfl) (by assumption) (fun _ _ _ h => h) (Or.inr ⟨by rfl, rfl⟩) (fun _ => rfl) ?_
            (try simp only [Act.put, List.setIfInBounds_toArray, List.set_cons_zero, List.set_cons_succ])
            refine MI_take 26 rfl (by kernel_rfl) (by assumption) (fun _ _ _ h => h) (Or.inr ⟨by rfl, rfl⟩) (fun _ => rfl) ?_
            (try simp only [Act.put, List.setIfInBounds_toArray, List.set_cons_zero, List.set_cons_succ])
            refine MI_take 27 rfl (by kernel_rfl) (by assumption) (fun _ _ _ h => h) (Or.inr ⟨by rfl, rfl⟩) (fun _ => rfl) ?_
            (try simp only [Act.put, List.setIfInBounds_toArray, List.set_cons_zero, List.set_cons_succ])
            refine MI_take 28 rfl (by kernel_rfl) (by assumption) (fun _ _ _ h => h) (Or.inr ⟨by rfl, rfl⟩) (fun _ => rfl) ?_
            (try simp only [Act.put, List.setIfInBounds_toArray, List.set_cons_zero, List.set_cons_succ])
            refine MI_take (v := ?_) 29 rfl (by kernel_rfl) (by assumption) (fun _ _ _ h => h) (Or.inl ⟨by rfl, ?_⟩) (fun _ => rfl) ?_
            rotate_left
            · (intro w hSw; (try dsimp only at hSw); go_simp; (try with_reducible rfl))
            (try simp only [Act.put, List.setIfInBounds_toArray, List.set_cons_zero, List.set_cons_succ])
            refine MI_done (by kernel_rfl) ?_ _
            clear c1 c2 c3 c4 c5 c6 f0 f1 f2 f3 f4 f5
            gi_wp2
            exact HFN.out _ HP.out (Below.refl _ _).drew
          | true =>
            rw [hai] at c3
            cases haj : al j with
            | false =>
              rw [haj] at c4
              have hp : pass al pr [(i : Int), (j : Int)] = false := by rw [hps, hai, haj]; rfl
              have HP := Lib.hid hp
              clear hp hps hai haj
              gi_wp2
              refine wpIn_region_M [] (fun w' => w'.cell? ⟨ab, 0, none⟩ = some (.slice (some ⟨ar, 0, none⟩) m m) ∧ w'.cell? ⟨ar, i, none⟩ = some (.bool true) ∧ w'.cell? ⟨ar, j, none⟩ = some (.bool false) ∧ w'.cell? ⟨bg, 0, none⟩ = some (.slice (some ⟨g, 0, none⟩) n gc) ∧ w'.cell? ⟨bm, 0, none⟩ = some (.slice (some a) m mc) ∧ w'.cell? ⟨W.heap.size, 0, none⟩ = some (.func (.yield l) #[] #[]) ∧ w'.cell? (a.add (i * 3)) = some (.int .i64 x0) ∧ w'.cell? ⟨(a.add (i * 3)).block, (a.add (i * 3)).off + 1, none⟩ = some (.int .i64 y0) ∧ w'.cell? ⟨(a.add (i * 3)).block, (a.add (i * 3)).off + 2, none⟩ = some (.int .i64 y1) ∧ w'.cell? (a.add (j * 3)) = some (.int .i64 x3) ∧ w'.cell? ⟨(a.add (j * 3)).block, (a.add (j * 3)).off + 1, none⟩ = some (.int .i64 y3) ∧ w'.cell? ⟨(a.add (j * 3)).block, (a.add (j * 3)).off + 2, none⟩ = some (.int .i64 y4)) (by kernel_rfl) (by kernel_rfl) (by kernel_rfl) (by (try dsimp only); (repeat' apply And.intro); all_goals first | assumption | (go_simp; done)) (fun hT0 => ?_)
              refine MI_take (v := ?_) 0 rfl (by kernel_rfl) (by assumption) (fun _ _ _ h => h) (Or.inl ⟨by rfl, ?_⟩) (fun _ => rfl) ?_
              rotate_left
              · (intro w hSw; (try dsimp only at hSw); go_simp; (try with_reducible rfl))
              (try simp only [Act.put, List.setIfInBounds_toArray, List.set_cons_zero, List.set_cons_succ])
              refine MI_take (v := ?_) 1 rfl (by kernel_rfl) (by assumption) (fun _ _ _ h => h) (Or.inl ⟨by rfl, ?_⟩) (fun _ => rfl) ?_
              rotate_left
              · (intro w hSw; (try dsimp only at hSw); go_simp; (try with_reducible rfl))
              (try simp only [Act.put, List.setIfInBounds_toArray, List.set_cons_zero, List.set_cons_succ])
              refine MI_take (v := ?_) 2 rfl (by kernel_rfl) (by assumption) (fun _ _ _ h => h) (Or.inl ⟨by rfl, ?_⟩) (fun _ => rfl) ?_
              rotate_left
              · (intro w hSw; (try dsimp only at hSw); go_simp; (try with_reducible rfl))
              (try simp only [Act.put, List.setIfInBounds_toArray, List.set_cons_zero, List.set_cons_succ])
              refine MI_take (v := ?_) 3 rfl (by kernel_rfl) (by assumption) (fun _ _ _ h => h) (Or.inl ⟨by rfl, ?_⟩) (fun _ => rfl) ?_
              rotate_left
              · (intro w hSw; (try dsimp only at hSw); go_simp; (try with_reducible rfl))
              (try simp only [Act.put, List.setIfInBounds_toArray, List.set_cons_zero, List.set_cons_succ])
              refine MI_take (v := ?_) 4 rfl (by kernel_rfl) (by assumption) (fun _ _ _ h => h) (Or.inl ⟨by rfl, ?_⟩) (fun _ => rfl) ?_
              rotate_left
              · (intro w hSw; (try dsimp only at hSw); go_simp; (try with_reducible rfl))
              (try simp only [Act.put, List.setIfInBounds_toArray, List.set_cons_zero, List.set_cons_succ])
              refine MI_take (v := ?_) 5 rfl (by kernel_rfl) (by assumption) (fun _ _ _ h => h) (Or.inl ⟨by rfl, ?_⟩) (fun _ => rfl) ?_
              rotate_left
              · (intro w hSw; (try dsimp only at hSw); go_simp; (try with_reducible rfl))
              (try simp only [Act.put, List.setIfInBounds_toArray, List.set_cons_zero, List.set_cons_succ])
              refine MI_take (v := ?_) 6 rfl (by kernel_rfl) (by assumption) (fun _ _ _ h => h) (Or.inl ⟨by rfl, ?_⟩) (fun _ => rfl) ?_
              rotate_left
              · (intro w hSw; (try dsimp only at hSw); go_simp; (try with_reducible rfl))
              (try simp only [Act.put, List.setIfInBounds_toArray, List.set_cons_zero, List.set_cons_succ])
              refine MI_take (v := ?_) 7 rfl (by kernel_rfl) (by assumption) (fun _ _ _ h => h) (Or.inl ⟨by rfl, ?_⟩) (fun _ => rfl) ?_
              rotate_left
              · (intro w hSw; (try dsimp only at hSw); go_simp; (try with_reducible rfl))
              (try simp only [Act.put, List.setIfInBounds_toArray, List.set_cons_zero, List.set_cons_succ])
              refine MI_take (v := ?_) 8 rfl (by kernel_rfl) (by assumption) (fun _ _ _ h => h) (Or.inl ⟨by rfl, ?_⟩) (fun _ => rfl) ?_
              rotate_left
              · (intro w hSw; (try dsimp only at hSw); go_simp; (try with_reducible rfl))
              (try simp only [Act.put, List.setIfInBounds_toArray, List.set_cons_zero, List.set_cons_succ])
              refine MI_take (v := ?_) 9 rfl (by kernel_rfl) (by assumption) (fun _ _ _ h => h) (Or.inl ⟨by rfl, ?_⟩) (fun _ => rfl) ?_
              rotate_left
              · (intro w hSw; (try dsimp only at hSw); go_simp; (try with_reducible rfl))
              (try simp only [Act.put, List.setIfInBounds_toArray, List.set_cons_zero, List.set_cons_succ])
              refine MI_take (v := ?_) 10 rfl (by kernel_rfl) (by assumption) (fun _ _ _ h => h) (Or.inl ⟨by rfl, ?_⟩) (fun _ => rfl) ?_
              rotate_left
              · (intro w hSw; (try dsimp only at hSw); go_simp; (try with_reducible rfl))
              (try simp only [Act.put, List.setIfInBounds_toArray, List.set_cons_zero, List.set_cons_succ])
              refine MI_take 11 rfl (by kernel_rfl) (by assumption) (fun _ _ _ h => h) (Or.inr ⟨by rfl, rfl⟩) (fun _ => rfl) ?_
              (try simp only [Act.put, List.setIfInBounds_toArray, List.set_cons_zero, List.set_cons_succ])
              refine MI_take 12 rfl (by kernel_rfl) (by assumption) (fun _ _ _ h => h) (Or.inr ⟨by rfl, rfl⟩) (fun _ => rfl) ?_
              (try simp only [Act.put, List.setIfInBounds_toArray, List.set_cons_zero, List.set_cons_succ])
              refine MI_take 13 rfl (by kernel_rfl) (by assumption) (fun _ _ _ h => h) (Or.inr ⟨by rfl, rfl⟩) (fun _ => rfl) ?_
              (try simp only [Act.put, List.setIfInBounds_toArray, List.set_cons_zero, List.set_cons_succ])
              refine MI_take 14 rfl (by kernel_rfl) (by assumption) (fun _ _ _ h => h) (Or.inr ⟨by rfl, rfl⟩) (fun _ => rfl) ?_
              (try simp only [Act.put, List.setIfInBounds_toArray, List.set_cons_zero, List.set_cons_succ])
              refine MI_take 15 rfl (by kernel_rfl) (by assumption) (fun _ _ _ h => h) (Or.inr ⟨by rfl, rfl⟩) (fun _ => rfl) ?_
              (try simp only [Act.put, List.setIfInBounds_toArray, List.set_cons_zero, List.set_cons_succ])
              refine MI_take 16 rfl (by kernel_rfl) (by assumption) (fun _ _ _ h => h) (Or.inr ⟨by rfl, rfl⟩) (fun _ => rfl) ?_
              (try simp only [Act.put, List.setIfInBounds_toArray, List.set_cons_zero, List.set_cons_succ])
              refine MI_take 17 rfl (by kernel_rfl) (by assumption) (fun _ _ _ h => h) (Or.inr ⟨by rfl, rfl⟩) (fun _ => rfl) ?_
              (try simp only [Act.put, List.setIfInBounds_toArray, List.set_cons_zero, List.set_cons_succ])
              refine MI_take 18 rfl (by kernel_rfl) (by assumption) (fun _ _ _ h => h) (Or.inr ⟨by rfl, rfl⟩) (fun _ => rfl) ?_
              (try simp only [Act.put, List.setIfInBounds_toArray, List.set_cons_zero, List.set_cons_succ])
              refine MI_take 19 rfl (by kernel_rfl) (by assumption) (fun _ _ _ h => h) (Or.inr ⟨by rfl, rfl⟩) (fun _ => rfl) ?_
              (try simp only [Act.put, List.setIfInBounds_toArray, List.set_cons_zero, List.set_cons_succ])
              refine MI_take 20 rfl (by kernel_rfl) (by assumption) (fun _ _ _ h => h) (Or.inr ⟨by rfl, rfl⟩) (fun _ => rfl) ?_
              (try simp only [Act.put, List.setIfInBounds_toArray, List.set_cons_zero, List.set_cons_succ])
              refine MI_step 21 rfl (by kernel_rfl) (fun K hK => ?_)
              go_simp
              refine ⟨trivial, ?_⟩
              refine hK.out _ _ (fun _ => by assumption) ?_
              clear hK K
              (try simp only [Act.put, List.setIfInBounds_toArray, List.set_cons_zero, List.set_cons_succ])
              refine MI_take 22 rfl (by kernel_rfl) (by assumption) (fun _ _ _ h => h) (Or.inr ⟨by rfl, rfl⟩) (fun _ => rfl) ?_
              (try simp only [Act.put, List.setIfInBounds_toArray, List.set_cons_zero, List.set_cons_succ])
              refine MI_take (v := ?_) 23 rfl (by kernel_rfl) (by assumption) (fun _ _ _ h => h) (Or.inl ⟨by rfl, ?_⟩) (fun _ => rfl) ?_
              rotate_left
              · (intro w hSw; (try dsimp only at hSw); go_simp; (try with_reducible rfl))
              (try simp only [Act.put, List.setIfInBounds_toArray, List.set_cons_zero, List.set_cons_succ])
              refine MI_take (v := ?_) 24 rfl (by kernel_rfl) (by assumption) (fun _ _ _ h => h) (Or.inl ⟨by rfl, ?_⟩) (fun _ => rfl) ?_
              rotate_left
              · (intro w hSw; (try dsimp only at hSw); go_simp; (try with_reducible rfl))
              (try simp only [Act.put, List.setIfInBounds_toArray, List.set_cons_zero, List.set_cons_succ])
              refine MI_take 25 rfl (by kernel_rfl) (by assumption) (fun _ _ _ h => h) (Or.inr ⟨by rfl, rfl⟩) (fun _ => rfl) ?_
              (try simp only [Act.put, List.setIfInBounds_toArray, List.set_cons_zero, List.set_cons_succ])
              refine MI_take 26 rfl (by kernel_rfl) (by assumption) (fun _ _ _ h => h) (Or.inr ⟨by rfl, rfl⟩) (fun _ => rfl) ?_
              (try simp only [Act.put, List.setIfInBounds_toArray, List.set_cons_zero, List.set_cons_succ])
              refine MI_take 27 rfl (by kernel_rfl) (by assumption) (fun _ _ _ h => h) (Or.inr ⟨by rfl, rfl⟩) (fun _ => rfl) ?_
              (try simp only [Act.put, List.setIfInBounds_toArray, List.set_cons_zero, List.set_cons_succ])
              refine MI_take 28 rfl (by kernel_rfl) (by assumption) (fun _ _ _ h => h) (Or.inr ⟨by rfl, rfl⟩) (fun _ => rfl) ?_
              (try simp only [Act.put, List.setIfInBounds_toArray, List.set_cons_zero, List.set_cons_succ])
              refine MI_take (v := ?_) 29 rfl (by kernel_rfl) (by assumption) (fun _ _ _ h => h) (Or.inl ⟨by rfl, ?_⟩) (fun _ => rfl) ?_
              rotate_left
              · (intro w hSw; (try dsimp only at hSw); go_simp; (try with_reducible rfl))
              (try simp only [Act.put, List.setIfInBounds_toArray, List.set_cons_zero, List.set_cons_succ])
              refine MI_done (by kernel_rfl) ?_ _
              clear c1 c2 c3 c4 c5 c6 f0 f1 f2 f3 f4 f5
              gi_wp2
              exact HFN.out _ HP.out (Below.refl _ _).drew
            | true =>
              rw [haj] at c4
              have hPR := HPR.out i j i2 hjm
              cases hpij : pr i j with
              | true =>
                have hp : pass al pr [(i : Int), (j : Int)] = false := by rw [hps, hai, haj, hpij]; rfl
                rw [hpij] at hPR
                have HPR2 := Lib.hid hPR
                have HP := Lib.hid hp
                clear hp hps hai haj hpij hPR
                gi_wp2
                refine wpIn_region_M [] (fun w' => w'.cell? ⟨ab, 0, none⟩ = some (.slice (some ⟨ar, 0, none⟩) m m) ∧ w'.cell? ⟨ar, i, none⟩ = some (.bool true) ∧ w'.cell? ⟨ar, j, none⟩ = some (.bool true) ∧ w'.cell? ⟨bg, 0, none⟩ = some (.slice (some ⟨g, 0, none⟩) n gc) ∧ w'.cell? ⟨bm, 0, none⟩ = some (.slice (some a) m mc) ∧ w'.cell? ⟨W.heap.size, 0, none⟩ = some (.func (.yield l) #[] #[]) ∧ w'.cell? (a.add (i * 3)) = some (.int .i64 x0) ∧ w'.cell? ⟨(a.add (i * 3)).block, (a.add (i * 3)).off + 1, none⟩ = some (.int .i64 y0) ∧ w'.cell? ⟨(a.add (i * 3)).block, (a.add (i * 3)).off + 2, none⟩ = some (.int .i64 y1) ∧ w'.cell? (a.add (j * 3)) = some (.int .i64 x3) ∧ w'.cell? ⟨(a.add (j * 3)).block, (a.add (j * 3)).off + 1, none⟩ = some (.int .i64 y3) ∧ w'.cell? ⟨(a.add (j * 3)).block, (a.add (j * 3)).off + 2, none⟩ = some (.int .i64 y4)) (by kernel_rfl) (by kernel_rfl) (by kernel_rfl) (by (try dsimp only); (repeat' apply And.intro); all_goals first | assumption | (go_simp; done)) (fun hT0 => ?_)
                refine MI_take (v := ?_) 0 rfl (by kernel_rfl) (by assumption) (fun _ _ _ h => h) (Or.inl ⟨by rfl, ?_⟩) (fun _ => rfl) ?_
                rotate_left
                · (intro w hSw; (try dsimp only at hSw); go_simp; (try with_reducible rfl))
                (try simp only [Act.put, List.setIfInBounds_toArray, List.set_cons_zero, List.set_cons_succ])
                refine MI_take (v := ?_) 1 rfl (by kernel_rfl) (by assumption) (fun _ _ _ h => h) (Or.inl ⟨by rfl, ?_⟩) (fun _ => rfl) ?_
                rotate_left
                · (intro w hSw; (try dsimp only at hSw); go_simp; (try with_reducible rfl))
                (try simp only [Act.put, List.setIfInBounds_toArray, List.set_cons_zero, List.set_cons_succ])
                refine MI_take (v := ?_) 2 rfl (by kernel_rfl) (by assumption) (fun _ _ _ h => h) (Or.inl ⟨by rfl, ?_⟩) (fun _ => rfl) ?_
                rotate_left
                · (intro w hSw; (try dsimp only at hSw); go_simp; (try with_reducible rfl))
                (try simp only [Act.put, List.setIfInBounds_toArray, List.set_cons_zero, List.set_cons_succ])
                refine MI_take (v := ?_) 3 rfl (by kernel_rfl) (by assumption) (fun _ _ _ h => h) (Or.inl ⟨by rfl, ?_⟩) (fun _ => rfl) ?_
                rotate_left
                · (intro w hSw; (try dsimp only at hSw); go_simp; (try with_reducible rfl))
                (try simp only [Act.put, List.setIfInBounds_toArray, List.set_cons_zero, List.set_cons_succ])
                refine MI_take (v := ?_) 4 rfl (by kernel_rfl) (by assumption) (fun _ _ _ h => h) (Or.inl ⟨by rfl, ?_⟩) (fun _ => rfl) ?_
                rotate_left
                · (intro w hSw; (try dsimp only at hSw); go_simp; (try with_reducible rfl))
                (try simp only [Act.put, List.setIfInBounds_toArray, List.set_cons_zero, List.set_cons_succ])
                refine MI_take (v := ?_) 5 rfl (by kernel_rfl) (by assumption) (fun _ _ _ h => h) (Or.inl ⟨by rfl, ?_⟩) (fun _ => rfl) ?_
                rotate_left
                · (intro w hSw; (try dsimp only at hSw); go_simp; (try with_reducible rfl))
                (try simp only [Act.put, List.setIfInBounds_toArray, List.set_cons_zero, List.set_cons_succ])
                refine MI_take (v := ?_) 6 rfl (by kernel_rfl) (by assumption) (fun _ _ _ h => h) (Or.inl ⟨by rfl, ?_⟩) (fun _ => rfl) ?_
                rotate_left
                · (intro w hSw; (try dsimp only at hSw); go_simp; (try with_reducible rfl))
                (try simp only [Act.put, List.setIfInBounds_toArray, List.set_cons_zero, List.set_cons_succ])
                refine MI_take (v := ?_) 7 rfl (by kernel_rfl) (by assumption) (fun _ _ _ h => h) (Or.inl ⟨by rfl, ?_⟩) (fun _ => rfl) ?_
                rotate_left
                · (intro w hSw; (try dsimp only at hSw); go_simp; (try with_reducible rfl))
                (try simp only [Act.put, List.setIfInBounds_toArray, List.set_cons_zero, List.set_cons_succ])
                refine MI_take (v := ?_) 8 rfl (by kernel_rfl) (by assumption) (fun _ _ _ h => h) (Or.inl ⟨by rfl, ?_⟩) (fun _ => rfl) ?_
                rotate_left
                · (intro w hSw; (try dsimp only at hSw); go_simp; (try with_reducible rfl))
                (try simp only [Act.put, List.setIfInBounds_toArray, List.set_cons_zero, List.set_cons_succ])
                refine MI_take (v := ?_) 9 rfl (by kernel_rfl) (by assumption) (fun _ _ _ h => h) (Or.inl ⟨by rfl, ?_⟩) (fun _ => rfl) ?_
                rotate_left
                · (intro w hSw; (try dsimp only at hSw); go_simp; (try with_reducible rfl))
                (try simp only [Act.put, List.setIfInBounds_toArray, List.set_cons_zero, List.set_cons_succ])
                refine MI_take (v := ?_) 10 rfl (by kernel_rfl) (by assumption) (fun _ _ _ h => h) (Or.inl ⟨by rfl, ?_⟩) (fun _ => rfl) ?_
                rotate_left
                · (intro w hSw; (try dsimp only at hSw); go_simp; (try with_reducible rfl))
                (try simp only [Act.put, List.setIfInBounds_toArray, List.set_cons_zero, List.set_cons_succ])
                refine MI_take (v := ?_) 11 rfl (by kernel_rfl) (by assumption) (fun _ _ _ h => h) (Or.inl ⟨by rfl, ?_⟩) (fun _ => rfl) ?_
                rotate_left
                · (intro w hSw; (try dsimp only at hSw); go_simp; (try with_reducible rfl))
                (try simp only [Act.put, List.setIfInBounds_toArray, List.set_cons_zero, List.set_cons_succ])
                refine MI_take (v := ?_) 12 rfl (by kernel_rfl) (by assumption) (fun _ _ _ h => h) (Or.inl ⟨by rfl, ?_⟩) (fun _ => rfl) ?_
                rotate_left
                · (intro w hSw; (try dsimp only at hSw); go_simp; (try with_reducible rfl))
                (try simp only [Act.put, List.setIfInBounds_toArray, List.set_cons_zero, List.set_cons_succ])
                refine MI_take (v := ?_) 13 rfl (by kernel_rfl) (by assumption) (fun _ _ _ h => h) (Or.inl ⟨by rfl, ?_⟩) (fun _ => rfl) ?_
                rotate_left
                · (intro w hSw; (try dsimp only at hSw); go_simp; (try with_reducible rfl))
                (try simp only [Act.put, List.setIfInBounds_toArray, List.set_cons_zero, List.set_cons_succ])
                refine MI_take (v := ?_) 14 rfl (by kernel_rfl) (by assumption) (fun _ _ _ h => h) (Or.inl ⟨by rfl, ?_⟩) (fun _ => rfl) ?_
                rotate_left
                · (intro w hSw; (try dsimp only at hSw); go_simp; (try with_reducible rfl))
                (try simp only [Act.put, List.setIfInBounds_toArray, List.set_cons_zero, List.set_cons_succ])
                refine MI_take (v := ?_) 15 rfl (by kernel_rfl) (by assumption) (fun _ _ _ h => h) (Or.inl ⟨by rfl, ?_⟩) (fun _ => rfl) ?_
                rotate_left
                · (intro w hSw; (try dsimp only at hSw); go_simp; (try with_reducible rfl))
                (try simp only [Act.put, List.setIfInBounds_toArray, List.set_cons_zero, List.set_cons_succ])
                refine MI_take (v := ?_) 16 rfl (by kernel_rfl) (by assumption) (fun _ _ _ h => h) (Or.inl ⟨by rfl, ?_⟩) (fun _ => rfl) ?_
                rotate_left
                · (intro w hSw; (try dsimp only at hSw); go_simp; (try with_reducible rfl))
                (try simp only [Act.put, List.setIfInBounds_toArray, List.set_cons_zero, List.set_cons_succ])
                refine MI_take (v := ?_) 17 rfl (by kernel_rfl) (by assumption) (fun _ _ _ h => h) (Or.inl ⟨by rfl, ?_⟩) (fun _ => rfl) ?_
                rotate_left
                · (intro w hSw; (try dsimp only at hSw); go_simp; (try with_reducible rfl))
                (try simp only [Act.put, List.setIfInBounds_toArray, List.set_cons_zero, List.set_cons_succ])
                refine MI_take (v := ?_) 18 rfl (by kernel_rfl) (by assumption) (fun _ _ _ h => h) (Or.inl ⟨by rfl, ?_⟩) (fun _ => rfl) ?_
                rotate_left
                · (intro w hSw; (try dsimp only at hSw); go_simp; (try with_reducible rfl))
                (try simp only [Act.put, List.setIfInBounds_toArray, List.set_cons_zero, List.set_cons_succ])
                refine MI_take (v := ?_) 19 rfl (by kernel_rfl) (by assumption) (fun _ _ _ h => h) (Or.inl ⟨by rfl, ?_⟩) (fun _ => rfl) ?_
                rotate_left
                · (intro w hSw; (try dsimp only at hSw); go_simp; (try with_reducible rfl))
                (try simp only [Act.put, List.setIfInBounds_toArray, List.set_cons_zero, List.set_cons_succ])
                refine MI_step 20 rfl (by kernel_rfl) (fun K hK => ?_)
                go_simp
                obtain ⟨V2, hV2⟩ : ∃ V2 : World, V2 = (V0.alloc (.cells #[.int .i64 x0, .int .i64 y0, .int .i64 y1, .int .i64 x3, .int .i64 y3, .int .i64 y4] 33)).drew := ⟨_, rfl⟩
                rw [← hV2]
                obtain ⟨sb, hsb⟩ : ∃ sb, sb = V0.heap.size := ⟨_, rfl⟩
                rw [← hsb]
                have hbV2 : Below V0.heap.size V0 V2 := by rw [hV2]; exact (box1 _ _).drew
                have r0 : V2.cell? ⟨sb, 0, none⟩ = some (.int .i64 x0) := by rw [hV2, hsb]; go_simp
                have r1 : V2.cell? ⟨sb, 1, none⟩ = some (.int .i64 y0) := by rw [hV2, hsb]; go_simp
                have r2 : V2.cell? ⟨sb, 2, none⟩ = some (.int .i64 y1) := by rw [hV2, hsb]; go_simp
                have r3 : V2.cell? ⟨sb, 3, none⟩ = some (.int .i64 x3) := by rw [hV2, hsb]; go_simp
                have r4 : V2.cell? ⟨sb, 4, none⟩ = some (.int .i64 y3) := by rw [hV2, hsb]; go_simp
                have r5 : V2.cell? ⟨sb, 5, none⟩ = some (.int .i64 y4) := by rw [hV2, hsb]; go_simp
                have hT2 : (fun w' => w'.cell? ⟨ab, 0, none⟩ = some (.slice (some ⟨ar, 0, none⟩) m m) ∧ w'.cell? ⟨ar, i, none⟩ = some (.bool true) ∧ w'.cell? ⟨ar, j, none⟩ = some (.bool true) ∧ w'.cell? ⟨bg, 0, none⟩ = some (.slice (some ⟨g, 0, none⟩) n gc) ∧ w'.cell? ⟨bm, 0, none⟩ = some (.slice (some a) m mc) ∧ w'.cell? ⟨W.heap.size, 0, none⟩ = some (.func (.yield l) #[] #[]) ∧ w'.cell? (a.add (i * 3)) = some (.int .i64 x0) ∧ w'.cell? ⟨(a.add (i * 3)).block, (a.add (i * 3)).off + 1, none⟩ = some (.int .i64 y0) ∧ w'.cell? ⟨(a.add (i * 3)).block, (a.add (i * 3)).off + 2, none⟩ = some (.int .i64 y1) ∧ w'.cell? (a.add (j * 3)) = some (.int .i64 x3) ∧ w'.cell? ⟨(a.add (j * 3)).block, (a.add (j * 3)).off + 1, none⟩ = some (.int .i64 y3) ∧ w'.cell? ⟨(a.add (j * 3)).block, (a.add (j * 3)).off + 2, none⟩ = some (.int .i64 y4)) V2 := ⟨cellA_of hbV2 c2, cellA_of hbV2 c3, cellA_of hbV2 c4, cellA_of hbV2 c5, cellA_of hbV2 c6, cellA_of hbV2 c1, cellA_of hbV2 f0, cellA_of hbV2 f1, cellA_of hbV2 f2, cellA_of hbV2 f3, cellA_of hbV2 f4, cellA_of hbV2 f5⟩
                have HR0 := Lib.hid r0
                have HR1 := Lib.hid r1
                have HR2 := Lib.hid r2
                have HR3 := Lib.hid r3
                have HR4 := Lib.hid r4
                have HR5 := Lib.hid r5
                have HBV2 := Lib.hid hbV2
                have zsb : sb < V2.heap.size := World.block_lt_of_cell? _ _ r0
                clear hsb hV2 r0 r1 r2 r3 r4 r5 hbV2
                refine hK.out _ _ (fun _ => hT2) ?_
                clear hK K
                (try simp only [Act.put, List.setIfInBounds_toArray, List.set_cons_zero, List.set_cons_succ])
                refine MI_step 21 rfl (by kernel_rfl) (fun K hK => ?_)
                go_simp
                have hgm := HI0.out.up HBV2.out (by omega)
                have htr : TrsIn (some ⟨sb, 0, none⟩) 2 (two3 F i j) V2.heap.size V2 := ⟨by omega, fun k hk => by
                  by_cases hk0 : k = 0
                  · subst hk0
                    refine ⟨⟨sb, 0, none⟩, rfl, zsb, ?_, ?_, ?_⟩
                    · rw [show (two3 F i j 0) = (x0, y0, y1) from HF.out]; exact HR0.out
                    · rw [show (two3 F i j 0) = (x0, y0, y1) from HF.out]; exact HR1.out
                    · rw [show (two3 F i j 0) = (x0, y0, y1) from HF.out]; exact HR2.out
                  · obtain rfl : k = 1 := by omega
                    refine ⟨⟨sb, 0, none⟩, rfl, zsb, ?_, ?_, ?_⟩
                    · rw [show (two3 F i j 1) = (x3, y3, y4) from HF'.out]; exact HR3.out
                    · rw [show (two3 F i j 1) = (x3, y3, y4) from HF'.out]; exact HR4.out
                    · rw [show (two3 F i j 1) = (x3, y3, y4) from HF'.out]; exact HR5.out⟩
                have hmk2 : MkOk n 2 (two3 F i j) := fun k hk => by
                  by_cases hk0 : k = 0
                  · subst hk0; exact HK.out i i2
                  · obtain rfl : k = 1 := by omega
                    exact HK.out j hjm
                have hAG := agree_any g n gc G (some ⟨sb, 0, none⟩) 2 2 (two3 F i j) V2 true hgm.sp htr HG.out hmk2 ⟨fun _ => HPR2.out.1 (by trivial), fun _ => rfl⟩
                clear hgm htr hmk2
                refine ⟨trivial, (CallsIn.inRound l2 (callsIn_wide.2 hAG)).mono ?_⟩
                rintro en V3 ⟨rfl, hb3⟩
                obtain ⟨t0, t1, t2, t3, t4, t5, t6, t7, t8, t9, t10, t11⟩ := hT2
                have hT3 : (fun w' => w'.cell? ⟨ab, 0, none⟩ = some (.slice (some ⟨ar, 0, none⟩) m m) ∧ w'.cell? ⟨ar, i, none⟩ = some (.bool true) ∧ w'.cell? ⟨ar, j, none⟩ = some (.bool true) ∧ w'.cell? ⟨bg, 0, none⟩ = some (.slice (some ⟨g, 0, none⟩) n gc) ∧ w'.cell? ⟨bm, 0, none⟩ = some (.slice (some a) m mc) ∧ w'.cell? ⟨W.heap.size, 0, none⟩ = some (.func (.yield l) #[] #[]) ∧ w'.cell? (a.add (i * 3)) = some (.int .i64 x0) ∧ w'.cell? ⟨(a.add (i * 3)).block, (a.add (i * 3)).off + 1, none⟩ = some (.int .i64 y0) ∧ w'.cell? ⟨(a.add (i * 3)).block, (a.add (i * 3)).off + 2, none⟩ = some (.int .i64 y1) ∧ w'.cell? (a.add (j * 3)) = some (.int .i64 x3) ∧ w'.cell? ⟨(a.add (j * 3)).block, (a.add (j * 3)).off + 1, none⟩ = some (.int .i64 y3) ∧ w'.cell? ⟨(a.add (j * 3)).block, (a.add (j * 3)).off + 2, none⟩ = some (.int .i64 y4)) V3 := ⟨cellA_of hb3 t0, cellA_of hb3 t1, cellA_of hb3 t2, cellA_of hb3 t3, cellA_of hb3 t4, cellA_of hb3 t5, cellA_of hb3 t6, cellA_of hb3 t7, cellA_of hb3 t8, cellA_of hb3 t9, cellA_of hb3 t10, cellA_of hb3 t11⟩
                have HB3 := Lib.hid (HBV2.out.trans (hb3.mono HBV2.out.size))
                clear hb3 hAG t0 t1 t2 t3 t4 t5 t6 t7 t8 t9 t10 t11
                refine hK.out _ _ (fun _ => hT3) ?_
                clear hK K
                (try simp only [Act.put, List.setIfInBounds_toArray, List.set_cons_zero, List.set_cons_succ])
                refine MI_take (v := ?_) 22 rfl (by kernel_rfl) (by assumption) (fun _ _ _ h => h) (Or.inl ⟨by rfl, ?_⟩) (fun _ => rfl) ?_
                rotate_left
                · (intro w hSw; (try dsimp only at hSw); go_simp; (try with_reducible rfl))
                (try simp only [Act.put, List.setIfInBounds_toArray, List.set_cons_zero, List.set_cons_succ])
                refine MI_take (v := ?_) 23 rfl (by kernel_rfl) (by assumption) (fun _ _ _ h => h) (Or.inl ⟨by rfl, ?_⟩) (fun _ => rfl) ?_
                rotate_left
                · (intro w hSw; (try dsimp only at hSw); go_simp; (try with_reducible rfl))
                (try simp only [Act.put, List.setIfInBounds_toArray, List.set_cons_zero, List.set_cons_succ])
                refine MI_take (v := ?_) 24 rfl (by kernel_rfl) (by assumption) (fun _ _ _ h => h) (Or.inl ⟨by rfl, ?_⟩) (fun _ => rfl) ?_
                rotate_left
                · (intro w hSw; (try dsimp only at hSw); go_simp; (try with_reducible rfl))
                (try simp only [Act.put, List.setIfInBounds_toArray, List.set_cons_zero, List.set_cons_succ])
                refine MI_take 25 rfl (by kernel_rfl) (by assumption) (fun _ _ _ h => h) (Or.inr ⟨by rfl, rfl⟩) (fun _ => rfl) ?_
                (try simp only [Act.put, List.setIfInBounds_toArray, List.set_cons_zero, List.set_cons_succ])
                refine MI_take 26 rfl (by kernel_rfl) (by assumption) (fun _ _ _ h => h) (Or.inr ⟨by rfl, rfl⟩) (fun _ => rfl) ?_
                (try simp only [Act.put, List.setIfInBounds_toArray, List.set_cons_zero, List.set_cons_succ])
                refine MI_take 27 rfl (by kernel_rfl) (by assumption) (fun _ _ _ h => h) (Or.inr ⟨by rfl, rfl⟩) (fun _ => rfl) ?_
                (try simp only [Act.put, List.setIfInBounds_toArray, List.set_cons_zero, List.set_cons_succ])
                refine MI_take 28 rfl (by kernel_rfl) (by assumption) (fun _ _ _ h => h) (Or.inr ⟨by rfl, rfl⟩) (fun _ => rfl) ?_
                (try simp only [Act.put, List.setIfInBounds_toArray, List.set_cons_zero, List.set_cons_succ])
                refine MI_take (v := ?_) 29 rfl (by kernel_rfl) (by assumption) (fun _ _ _ h => h) (Or.inl ⟨by rfl, ?_⟩) (fun _ => rfl) ?_
                rotate_left
                · (intro w hSw; (try dsimp only at hSw); go_simp; (try with_reducible rfl))
                (try simp only [Act.put, List.setIfInBounds_toArray, List.set_cons_zero, List.set_cons_succ])
                refine MI_done (by kernel_rfl) ?_ _
                clear c1 c2 c3 c4 c5 c6 f0 f1 f2 f3 f4 f5
                gi_wp2
                exact HFN.out _ HP.out HB3.out
              | false =>
                have hp : pass al pr [(i : Int), (j : Int)] = true := by rw [hps, hai, haj, hpij]; rfl
                rw [hpij] at hPR
                have HPR2 := Lib.hid hPR
                have HP := Lib.hid hp
                clear hp hps hai haj hpij hPR HFN
                gi_wp2
                refine wpIn_region_M [27, 28, 29] (fun w' => w'.cell? ⟨ab, 0, none⟩ = some (.slice (some ⟨ar, 0, none⟩) m m) ∧ w'.cell? ⟨ar, i, none⟩ = some (.bool true) ∧ w'.cell? ⟨ar, j, none⟩ = some (.bool true) ∧ w'.cell? ⟨bg, 0, none⟩ = some (.slice (some ⟨g, 0, none⟩) n gc) ∧ w'.cell? ⟨bm, 0, none⟩ = some (.slice (some a) m mc) ∧ w'.cell? ⟨W.heap.size, 0, none⟩ = some (.func (.yield l) #[] #[]) ∧ w'.cell? (a.add (i * 3)) = some (.int .i64 x0) ∧ w'.cell? ⟨(a.add (i * 3)).block, (a.add (i * 3)).off + 1, none⟩ = some (.int .i64 y0) ∧ w'.cell? ⟨(a.add (i * 3)).block, (a.add (i * 3)).off + 2, none⟩ = some (.int .i64 y1) ∧ w'.cell? (a.add (j * 3)) = some (.int .i64 x3) ∧ w'.cell? ⟨(a.add (j * 3)).block, (a.add (j * 3)).off + 1, none⟩ = some (.int .i64 y3) ∧ w'.cell? ⟨(a.add (j * 3)).block, (a.add (j * 3)).off + 2, none⟩ = some (.int .i64 y4)) (by kernel_rfl) (by kernel_rfl) (by kernel_rfl) (by (try dsimp only); (repeat' apply And.intro); all_goals first | assumption | (go_simp; done)) (fun hT0 => ?_)
                refine MI_take (v := ?_) 0 rfl (by kernel_rfl) (by assumption) (fun _ _ _ h => h) (Or.inl ⟨by rfl, ?_⟩) (fun _ => rfl) ?_
                rotate_left
                · (intro w hSw; (try dsimp only at hSw); go_simp; (try with_reducible rfl))
                (try simp only [Act.put, List.setIfInBounds_toArray, List.set_cons_zero, List.set_cons_succ])
                refine MI_take (v := ?_) 1 rfl (by kernel_rfl) (by assumption) (fun _ _ _ h => h) (Or.inl ⟨by rfl, ?_⟩) (fun _ => rfl) ?_
                rotate_left
                · (intro w hSw; (try dsimp only at hSw); go_simp; (try with_reducible rfl))
                (try simp only [Act.put, List.setIfInBounds_toArray, List.set_cons_zero, List.set_cons_succ])
                refine MI_take (v := ?_) 2 rfl (by kernel_rfl) (by assumption) (fun _ _ _ h => h) (Or.inl ⟨by rfl, ?_⟩) (fun _ => rfl) ?_
                rotate_left
                · (intro w hSw; (try dsimp only at hSw); go_simp; (try with_reducible rfl))
                (try simp only [Act.put, List.setIfInBounds_toArray, List.set_cons_zero, List.set_cons_succ])
                refine MI_take (v := ?_) 3 rfl (by kernel_rfl) (by assumption) (fun _ _ _ h => h) (Or.inl ⟨by rfl, ?_⟩) (fun _ => rfl) ?_
                rotate_left
                · (intro w hSw; (try dsimp only at hSw); go_simp; (try with_reducible rfl))
                (try simp only [Act.put, List.setIfInBounds_toArray, List.set_cons_zero, List.set_cons_succ])
                refine MI_take (v := ?_) 4 rfl (by kernel_rfl) (by assumption) (fun _ _ _ h => h) (Or.inl ⟨by rfl, ?_⟩) (fun _ => rfl) ?_
                rotate_left
                · (intro w hSw; (try dsimp only at hSw); go_simp; (try with_reducible rfl))
                (try simp only [Act.put, List.setIfInBounds_toArray, List.set_cons_zero, List.set_cons_succ])
                refine MI_take (v := ?_) 5 rfl (by kernel_rfl) (by assumption) (fun _ _ _ h => h) (Or.inl ⟨by rfl, ?_⟩) (fun _ => rfl) ?_
                rotate_left
                · (intro w hSw; (try dsimp only at hSw); go_simp; (try with_reducible rfl))
                (try simp only [Act.put, List.setIfInBounds_toArray, List.set_cons_zero, List.set_cons_succ])
                refine MI_take (v := ?_) 6 rfl (by kernel_rfl) (by assumption) (fun _ _ _ h => h) (Or.inl ⟨by rfl, ?_⟩) (fun _ => rfl) ?_
                rotate_left
                · (intro w hSw; (try dsimp only at hSw); go_simp; (try with_reducible rfl))
                (try simp only [Act.put, List.setIfInBounds_toArray, List.set_cons_zero, List.set_cons_succ])
                refine MI_take (v := ?_) 7 rfl (by kernel_rfl) (by assumption) (fun _ _ _ h => h) (Or.inl ⟨by rfl, ?_⟩) (fun _ => rfl) ?_
                rotate_left
                · (intro w hSw; (try dsimp only at hSw); go_simp; (try with_reducible rfl))
                (try simp only [Act.put, List.setIfInBounds_toArray, List.set_cons_zero, List.set_cons_succ])
                refine MI_take (v := ?_) 8 rfl (by kernel_rfl) (by assumption) (fun _ _ _ h => h) (Or.inl ⟨by rfl, ?_⟩) (fun _ => rfl) ?_
                rotate_left
                · (intro w hSw; (try dsimp only at hSw); go_simp; (try with_reducible rfl))
                (try simp only [Act.put, List.setIfInBounds_toArray, List.set_cons_zero, List.set_cons_succ])
                refine MI_take (v := ?_) 9 rfl (by kernel_rfl) (by assumption) (fun _ _ _ h => h) (Or.inl ⟨by rfl, ?_⟩) (fun _ => rfl) ?_
                rotate_left
                · (intro w hSw; (try dsimp only at hSw); go_simp; (try with_reducible rfl))
                (try simp only [Act.put, List.setIfInBounds_toArray, List.set_cons_zero, List.set_cons_succ])
                refine MI_take (v := ?_) 10 rfl (by kernel_rfl) (by assumption) (fun _ _ _ h => h) (Or.inl ⟨by rfl, ?_⟩) (fun _ => rfl) ?_
                rotate_left
                · (intro w hSw; (try dsimp only at hSw); go_simp; (try with_reducible rfl))
                (try simp only [Act.put, List.setIfInBounds_toArray, List.set_cons_zero, List.set_cons_succ])
                refine MI_take (v := ?_) 11 rfl (by kernel_rfl) (by assumption) (fun _ _ _ h => h) (Or.inl ⟨by rfl, ?_⟩) (fun _ => rfl) ?_
                rotate_left
                · (intro w hSw; (try dsimp only at hSw); go_simp; (try with_reducible rfl))
                (try simp only [Act.put, List.setIfInBounds_toArray, List.set_cons_zero, List.set_cons_succ])
                refine MI_take (v := ?_) 12 rfl (by kernel_rfl) (by assumption) (fun _ _ _ h => h) (Or.inl ⟨by rfl, ?_⟩) (fun _ => rfl) ?_
                rotate_left
                · (intro w hSw; (try dsimp only at hSw); go_simp; (try with_reducible rfl))
                (try simp only [Act.put, List.setIfInBounds_toArray, List.set_cons_zero, List.set_cons_succ])
                refine MI_take (v := ?_) 13 rfl (by kernel_rfl) (by assumption) (fun _ _ _ h => h) (Or.inl ⟨by rfl, ?_⟩) (fun _ => rfl) ?_
                rotate_left
                · (intro w hSw; (try dsimp only at hSw); go_simp; (try with_reducible rfl))
                (try simp only [Act.put, List.setIfInBounds_toArray, List.set_cons_zero, List.set_cons_succ])
                refine MI_take (v := ?_) 14 rfl (by kernel_rfl) (by assumption) (fun _ _ _ h => h) (Or.inl ⟨by rfl, ?_⟩) (fun _ => rfl) ?_
                rotate_left
                · (intro w hSw; (try dsimp only at hSw); go_simp; (try with_reducible rfl))
                (try simp only [Act.put, List.setIfInBounds_toArray, List.set_cons_zero, List.set_cons_succ])
                refine MI_take (v := ?_) 15 rfl (by kernel_rfl) (by assumption) (fun _ _ _ h => h) (Or.inl ⟨by rfl, ?_⟩) (fun _ => rfl) ?_
                rotate_left
                · (intro w hSw; (try dsimp only at hSw); go_simp; (try with_reducible rfl))
                (try simp only [Act.put, List.setIfInBounds_toArray, List.set_cons_zero, List.set_cons_succ])
                refine MI_take (v := ?_) 16 rfl (by kernel_rfl) (by assumption) (fun _ _ _ h => h) (Or.inl ⟨by rfl, ?_⟩) (fun _ => rfl) ?_
                rotate_left
                · (intro w hSw; (try dsimp only at hSw); go_simp; (try with_reducible rfl))
                (try simp only [Act.put, List.setIfInBounds_toArray, List.set_cons_zero, List.set_cons_succ])
                refine MI_take (v := ?_) 17 rfl (by kernel_rfl) (by assumption) (fun _ _ _ h => h) (Or.inl ⟨by rfl, ?_⟩) (fun _ => rfl) ?_
                rotate_left
                · (intro w hSw; (try dsimp only at hSw); go_simp; (try with_reducible rfl))
                (try simp only [Act.put, List.setIfInBounds_toArray, List.set_cons_zero, List.set_cons_succ])
                refine MI_take (v := ?_) 18 rfl (by kernel_rfl) (by assumption) (fun _ _ _ h => h) (Or.inl ⟨by rfl, ?_⟩) (fun _ => rfl) ?_
                rotate_left
                · (intro w hSw; (try dsimp only at hSw); go_simp; (try with_reducible rfl))
                (try simp only [Act.put, List.setIfInBounds_toArray, List.set_cons_zero, List.set_cons_succ])
                refine MI_take (v := ?_) 19 rfl (by kernel_rfl) (by assumption) (fun _ _ _ h => h) (Or.inl ⟨by rfl, ?_⟩) (fun _ => rfl) ?_
                rotate_left
                · (intro w hSw; (try dsimp only at hSw); go_simp; (try with_reducible rfl))
                (try simp only [Act.put, List.setIfInBounds_toArray, List.set_cons_zero, List.set_cons_succ])
                refine MI_step 20 rfl (by kernel_rfl) (fun K hK => ?_)
                go_simp
                obtain ⟨V2, hV2⟩ : ∃ V2 : World, V2 = (V0.alloc (.cells #[.int .i64 x0, .int .i64 y0, .int .i64 y1, .int .i64 x3, .int .i64 y3, .int .i64 y4] 33)).drew := ⟨_, rfl⟩
                rw [← hV2]
                obtain ⟨sb, hsb⟩ : ∃ sb, sb = V0.heap.size := ⟨_, rfl⟩
                rw [← hsb]
                have hbV2 : Below V0.heap.size V0 V2 := by rw [hV2]; exact (box1 _ _).drew
                have r0 : V2.cell? ⟨sb, 0, none⟩ = some (.int .i64 x0) := by rw [hV2, hsb]; go_simp
                have r1 : V2.cell? ⟨sb, 1, none⟩ = some (.int .i64 y0) := by rw [hV2, hsb]; go_simp
                have r2 : V2.cell? ⟨sb, 2, none⟩ = some (.int .i64 y1) := by rw [hV2, hsb]; go_simp
                have r3 : V2.cell? ⟨sb, 3, none⟩ = some (.int .i64 x3) := by rw [hV2, hsb]; go_simp
                have r4 : V2.cell? ⟨sb, 4, none⟩ = some (.int .i64 y3) := by rw [hV2, hsb]; go_simp
                have r5 : V2.cell? ⟨sb, 5, none⟩ = some (.int .i64 y4) := by rw [hV2, hsb]; go_simp
                have hT2 : (fun w' => w'.cell? ⟨ab, 0, none⟩ = some (.slice (some ⟨ar, 0, none⟩) m m) ∧ w'.cell? ⟨ar, i, none⟩ = some (.bool true) ∧ w'.cell? ⟨ar, j, none⟩ = some (.bool true) ∧ w'.cell? ⟨bg, 0, none⟩ = some (.slice (some ⟨g, 0, none⟩) n gc) ∧ w'.cell? ⟨bm, 0, none⟩ = some (.slice (some a) m mc) ∧ w'.cell? ⟨W.heap.size, 0, none⟩ = some (.func (.yield l) #[] #[]) ∧ w'.cell? (a.add (i * 3)) = some (.int .i64 x0) ∧ w'.cell? ⟨(a.add (i * 3)).block, (a.add (i * 3)).off + 1, none⟩ = some (.int .i64 y0) ∧ w'.cell? ⟨(a.add (i * 3)).block, (a.add (i * 3)).off + 2, none⟩ = some (.int .i64 y1) ∧ w'.cell? (a.add (j * 3)) = some (.int .i64 x3) ∧ w'.cell? ⟨(a.add (j * 3)).block, (a.add (j * 3)).off + 1, none⟩ = some (.int .i64 y3) ∧ w'.cell? ⟨(a.add (j * 3)).block, (a.add (j * 3)).off + 2, none⟩ = some (.int .i64 y4)) V2 := ⟨cellA_of hbV2 c2, cellA_of hbV2 c3, cellA_of hbV2 c4, cellA_of hbV2 c5, cellA_of hbV2 c6, cellA_of hbV2 c1, cellA_of hbV2 f0, cellA_of hbV2 f1, cellA_of hbV2 f2, cellA_of hbV2 f3, cellA_of hbV2 f4, cellA_of hbV2 f5⟩
                have HR0 := Lib.hid r0
                have HR1 := Lib.hid r1
                have HR2 := Lib.hid r2
                have HR3 := Lib.hid r3
                have HR4 := Lib.hid r4
                have HR5 := Lib.hid r5
                have HBV2 := Lib.hid hbV2
                have zsb : sb < V2.heap.size := World.block_lt_of_cell? _ _ r0
                clear hsb hV2 r0 r1 r2 r3 r4 r5 hbV2
                refine hK.out _ _ (fun _ => hT2) ?_
                clear hK K
                (try simp only [Act.put, List.setIfInBounds_toArray, List.set_cons_zero, List.set_cons_succ])
                refine MI_step 21 rfl (by kernel_rfl) (fun K hK => ?_)
                go_simp
                have hgm := HI0.out.up HBV2.out (by omega)
                have htr : TrsIn (some ⟨sb, 0, none⟩) 2 (two3 F i j) V2.heap.size V2 := ⟨by omega, fun k hk => by
                  by_cases hk0 : k = 0
                  · subst hk0
                    refine ⟨⟨sb, 0, none⟩, rfl, zsb, ?_, ?_, ?_⟩
                    · rw [show (two3 F i j 0) = (x0, y0, y1) from HF.out]; exact HR0.out
                    · rw [show (two3 F i j 0) = (x0, y0, y1) from HF.out]; exact HR1.out
                    · rw [show (two3 F i j 0) = (x0, y0, y1) from HF.out]; exact HR2.out
                  · obtain rfl : k = 1 := by omega
                    refine ⟨⟨sb, 0, none⟩, rfl, zsb, ?_, ?_, ?_⟩
                    · rw [show (two3 F i j 1) = (x3, y3, y4) from HF'.out]; exact HR3.out
                    · rw [show (two3 F i j 1) = (x3, y3, y4) from HF'.out]; exact HR4.out
                    · rw [show (two3 F i j 1) = (x3, y3, y4) from HF'.out]; exact HR5.out⟩
                have hmk2 : MkOk n 2 (two3 F i j) := fun k hk => by
                  by_cases hk0 : k = 0
                  · subst hk0; exact HK.out i i2
                  · obtain rfl : k = 1 := by omega
                    exact HK.out j hjm
                have hAG := agree_any g n gc G (some ⟨sb, 0, none⟩) 2 2 (two3 F i j) V2 false hgm.sp htr HG.out hmk2 HPR2.out
                clear hgm htr hmk2
                refine ⟨trivial, (CallsIn.inRound l2 (callsIn_wide.2 hAG)).mono ?_⟩
                rintro en V3 ⟨rfl, hb3⟩
                obtain ⟨t0, t1, t2, t3, t4, t5, t6, t7, t8, t9, t10, t11⟩ := hT2
                have hT3 : (fun w' => w'.cell? ⟨ab, 0, none⟩ = some (.slice (some ⟨ar, 0, none⟩) m m) ∧ w'.cell? ⟨ar, i, none⟩ = some (.bool true) ∧ w'.cell? ⟨ar, j, none⟩ = some (.bool true) ∧ w'.cell? ⟨bg, 0, none⟩ = some (.slice (some ⟨g, 0, none⟩) n gc) ∧ w'.cell? ⟨bm, 0, none⟩ = some (.slice (some a) m mc) ∧ w'.cell? ⟨W.heap.size, 0, none⟩ = some (.func (.yield l) #[] #[]) ∧ w'.cell? (a.add (i * 3)) = some (.int .i64 x0) ∧ w'.cell? ⟨(a.add (i * 3)).block, (a.add (i * 3)).off + 1, none⟩ = some (.int .i64 y0) ∧ w'.cell? ⟨(a.add (i * 3)).block, (a.add (i * 3)).off + 2, none⟩ = some (.int .i64 y1) ∧ w'.cell? (a.add (j * 3)) = some (.int .i64 x3) ∧ w'.cell? ⟨(a.add (j * 3)).block, (a.add (j * 3)).off + 1, none⟩ = some (.int .i64 y3) ∧ w'.cell? ⟨(a.add (j * 3)).block, (a.add (j * 3)).off + 2, none⟩ = some (.int .i64 y4)) V3 := ⟨cellA_of hb3 t0, cellA_of hb3 t1, cellA_of hb3 t2, cellA_of hb3 t3, cellA_of hb3 t4, cellA_of hb3 t5, cellA_of hb3 t6, cellA_of hb3 t7, cellA_of hb3 t8, cellA_of hb3 t9, cellA_of hb3 t10, cellA_of hb3 t11⟩
                have HB3 := Lib.hid (HBV2.out.trans (hb3.mono HBV2.out.size))
                clear hb3 hAG t0 t1 t2 t3 t4 t5 t6 t7 t8 t9 t10 t11
                refine hK.out _ _ (fun _ => hT3) ?_
                clear hK K
                (try simp only [Act.put, List.setIfInBounds_toArray, List.set_cons_zero, List.set_cons_succ])
                refine MI_take (v := ?_) 22 rfl (by kernel_rfl) (by assumption) (fun _ _ _ h => h) (Or.inl ⟨by rfl, ?_⟩) (fun _ => rfl) ?_
                rotate_left
                · (intro w hSw; (try dsimp only at hSw); go_simp; (try with_reducible rfl))
                (try simp only [Act.put, List.setIfInBounds_toArray, List.set_cons_zero, List.set_cons_succ])
                refine MI_take (v := ?_) 23 rfl (by kernel_rfl) (by assumption) (fun _ _ _ h => h) (Or.inl ⟨by rfl, ?_⟩) (fun _ => rfl) ?_
                rotate_left
                · (intro w hSw; (try dsimp only at hSw); go_simp; (try with_reducible rfl))
                (try simp only [Act.put, List.setIfInBounds_toArray, List.set_cons_zero, List.set_cons_succ])
                refine MI_take (v := ?_) 24 rfl (by kernel_rfl) (by assumption) (fun _ _ _ h => h) (Or.inl ⟨by rfl, ?_⟩) (fun _ => rfl) ?_
                rotate_left
                · (intro w hSw; (try dsimp only at hSw); go_simp; (try with_reducible rfl))
                (try simp only [Act.put, List.setIfInBounds_toArray, List.set_cons_zero, List.set_cons_succ])
                refine MI_take (v := ?_) 25 rfl (by kernel_rfl) (by assumption) (fun _ _ _ h => h) (Or.inl ⟨by rfl, ?_⟩) (fun _ => rfl) ?_
                rotate_left
                · (intro w hSw; (try dsimp only at hSw); go_simp; (try with_reducible rfl))
                (try simp only [Act.put, List.setIfInBounds_toArray, List.set_cons_zero, List.set_cons_succ])
                refine MI_take (v := ?_) 26 rfl (by kernel_rfl) (by assumption) (fun _ _ _ h => h) (Or.inl ⟨by rfl, ?_⟩) (fun _ => rfl) ?_
                rotate_left
                · (intro w hSw; (try dsimp only at hSw); go_simp; (try with_reducible rfl))
                (try simp only [Act.put, List.setIfInBounds_toArray, List.set_cons_zero, List.set_cons_succ])
                refine MI_step 27 rfl (by kernel_rfl) (fun K hK => ?_)
                go_simp
                have hbV3 : Below V.heap.size V V3 := HB0.out.trans (HB3.out.mono hs0')
                have hRl : RlS w.heap.size [(i : Int), (j : Int)] #[.slice (some ⟨b, 0, none⟩) 2 c] (fun r => (r = W.heap.size ∨ r = ar ∨ r = ab ∨ r = bs ∨ r = bc) ∨ O r) V3 := by
                  obtain ⟨A', c', e', h1⟩ := HR0'.out
                  obtain ⟨rfl, rfl⟩ : A' = some ⟨b, 0, none⟩ ∧ c' = c := by injection e' with e'; injection e' with e' _; injection e' with e1 e2 e3; exact ⟨e1.symm, e3.symm⟩
                  refine ⟨some ⟨b, 0, none⟩, c', rfl, fun k hk => ⟨b, rfl, Nat.lt_of_lt_of_le hbV hbV3.size, ?_, by omega, ?_, HBT.out.1.up hbV3, by obtain ⟨_, _, _, _, _, _, _, hle⟩ := h1 k hk; exact hle⟩⟩
                  · rintro (h | h)
                    · omega
                    · exact hbO h
                  · obtain ⟨b', e2, _, _, _, e3, _⟩ := h1 k hk
                    obtain rfl : b = b' := by injection e2 with h; injection h
                    exact cellA_of hbV3 e3
                have hJ3 : J ((sgL al m).length + (prL al pr m k).length) (fun r => (r = W.heap.size ∨ r = ar ∨ r = ab ∨ r = bs ∨ r = bc) ∨ O r) V3 := HA.out.below HA5.out hbV3 (fun r h => .inl h)
                have hat := con_pr (R0 := true) rfl HX.out HP.out
                have HAT := Lib.hid hat
                obtain ⟨fn, tmps, assign, body, hy, hRR⟩ := HY.out _ _ _ _ V3 hat hRl hJ3
                rw [hy]
                clear hat hRl hJ3
                go_simp
                refine RoundIn.mono (RoundIn.any hRR) ?_
                rintro en V6 ⟨hkf, hkp, hE⟩
                obtain ⟨bb, rfl, hDD⟩ : ∃ bb, en = .returned (.bool bb) ∧ ((bb = true ∧ J ((sgL al m).length + (prL al pr m k).length + 1) (fun r => (r = W.heap.size ∨ r = ar ∨ r = ab ∨ r = bs ∨ r = bc) ∨ O r) V6) ∨ (bb = false ∧ Jx ((sgL al m).length + (prL al pr m k).length) (fun r => (r = W.heap.size ∨ r = ar ∨ r = ab ∨ r = bs ∨ r = bc) ∨ O r) V6)) := by
                  rcases hE with ⟨rfl, h1⟩ | ⟨rfl, h1⟩
                  · exact ⟨true, rfl, .inl ⟨rfl, h1⟩⟩
                  · exact ⟨false, rfl, .inr ⟨rfl, h1⟩⟩
                have HK1 : Hid (KeepsFrom V1.heap.size V V6) := Lib.hid ((keepsFrom_below hbV3).trans (keeps_more hkf (by omega)))
                have HK2 : Hid (KpO 0 (fun r => (r = bs ∨ r = bc) ∨ O r) V V6) := Lib.hid ((KpO.of hbV3).trans ⟨hkp.size, fun p o hp ho hx => hkp.block p o hp ho (.inr (.inr (by
                  rcases hx with h | (h | h) | h
                  · omega
                  · exact .inl (.inr (.inr (.inr (.inl h))))
                  · exact .inl (.inr (.inr (.inr (.inr h))))
                  · exact .inr h)))⟩)
                have HK3 := Lib.hid ((HA3.out.up hbV3).kp hkp (.inr (.inr (.inl (.inl rfl)))) (.inr (.inr (.inl (.inr (.inl rfl))))) (.inr (.inr (.inl (.inr (.inr (.inl rfl)))))))
                have HK4 := Lib.hid ((HA4.out.up hbV3 (by omega)).kp hkp hCg hCbg hCbm HCM.out HG.out.1)
                have hs6 : V1.heap.size ≤ V6.heap.size := Nat.le_trans a2 (Nat.le_trans hbV3.size hkp.size)
                have HDD := Lib.hid hDD
                clear hE hDD hkf hkp hRR hy hbV3 hT3
                refine hK.out _ _ (fun e => by cases e) ?_
                clear hK K
                (try simp only [Act.put, List.setIfInBounds_toArray, List.set_cons_zero, List.set_cons_succ])
                refine MI_step 28 rfl (by kernel_rfl) (fun K hK => ?_)
                go_simp
                refine hK.out _ _ (fun e => by cases e) ?_
                clear hK K
                (try simp only [Act.put, List.setIfInBounds_toArray, List.set_cons_zero, List.set_cons_succ])
                refine MI_step 29 rfl (by kernel_rfl) (fun K hK => ?_)
                go_simp
                refine hK.out _ _ (fun e => by cases e) ?_
                clear hK K
                (try simp only [Act.put, List.setIfInBounds_toArray, List.set_cons_zero, List.set_cons_succ])
                refine MI_done (by kernel_rfl) ?_ _
                clear c1 c2 c3 c4 c5 c6 f0 f1 f2 f3 f4 f5
                cases bb with
                | true =>
                  gi_wp2
                  refine ⟨HK1.out, HK2.out, HA1.out, hs6, HK3.out, HK4.out, ?_⟩
                  rw [prL_t HX.out HP.out, List.length_append]
                  rcases HDD.out with ⟨_, h⟩ | ⟨h, _⟩
                  · exact h
                  · cases h
                | false =>
                  gi_wp2
                  refine ⟨HK1.out, HK2.out, rfl, HA1.out, hs6, (sgL al m).length + (prL al pr m k).length, (List.getElem?_eq_some_iff.1 HAT.out).1, ?_⟩
                  rcases HDD.out with ⟨h, _⟩ | ⟨_, h⟩
                  · cases h
                  · exact h
theorem con_yields (g n gc : Nat) (G : Nat → Int × Int) (MA : Option Addr) (m mc : Nat) (F : Nat → Int × Int × Int) (R0 : Bool) (al : Nat → Bool) (pr : Nat → Nat → Bool) (bg bm mm : Nat) (w : World)
    (hin : GmIn g n gc G MA m mc F bg bm w.heap.size w) (hg : GpOk n G) (hk : MkOk n m F) (hm0 : m ≤ 1000)
    (hR0 : R0 = true ↔ ∃ T, Rdg n G 0 F T) (hal : ∀ i, i < m → (al i = true ↔ ∃ T, Rdg n G 1 (one3 F i) T)) (hpr : ∀ i j, i < m → j < m → (pr i j = true ↔ ∃ T, Rdg n G 2 (two3 F i j) T)) :
    YieldsO Fence.wide mm Try.prog 117 #[.pointer (some ⟨bg, 0, none⟩), .pointer (some ⟨bm, 0, none⟩)] (fun r => r < w.heap.size) (RlS w.heap.size) (conL R0 al pr m) w :=
  con_yieldsC (fun r => r < w.heap.size) g n gc G MA m mc F R0 al pr bg bm mm w hin.sp.lt (World.block_lt_of_cell? _ _ hin.g) (World.block_lt_of_cell? _ _ hin.m) (fun a _ _ h => h) hin hg hk hm0 hR0 hal hpr
end Go.Proofs.Ytpikaohodieeaaa
namespace Go.Proofs.Ytpikaohodieeaaa
open Go.RowKit
set_option linter.unusedSimpArgs false
set_option linter.unusedVariables false
attribute [local go_sem] Oper.semAt_some
theorem RlS.row {B0 : Nat} {x : List Int} {v : Array Value} {O O' : Nat → Prop} {W W' : World} {row : Option Nat} (h : RlS B0 x v O W) (hg : W.grownBy W' row) (hne : ∀ b, isInts W b → ¬ O b → some b ≠ row) (hO : ∀ r, O' r → O r ∨ W.heap.size ≤ r) : RlS B0 x v O' W' := by
  obtain ⟨A, c, rfl, h1⟩ := h
  refine ⟨A, c, rfl, fun i hi => ?_⟩
  obtain ⟨b, e, hl, hB1, hB, hc, hT⟩ := h1 i hi
  have hrow := hne b hT.1 hB1
  exact ⟨b, e, Nat.lt_of_lt_of_le hl hg.size, fun h => (hO b h).elim hB1 (fun h => by omega), hB, cell_row hg hl hrow hc, hT.1.row hg hrow, hT.2⟩
theorem isInts.type {W : World} {b : Nat} {cur : Array Value} {t : TypeId} {fz : Nat × Nat} (h : isInts W b) (h2 : W.heap[b]? = some (.cells cur t fz)) : t = 3 := by
  obtain ⟨c2, f2, e⟩ := h
  rw [h2] at e
  injection e with e
  injection e
theorem isInts.cells {W : World} {b : Nat} {o : Obj} (h : isInts W b) (h2 : W.heap[b]? = some o) : o.isCells = true := by
  obtain ⟨c2, f2, e⟩ := h
  rw [h2] at e
  cases e
  rfl
theorem own_obj {w : World} {B n size g : Nat} {e : TypeId} {v : Value} {xs : List Value} (h : w.ownsRow B e size v n xs) (hg : v.ownBlock = some g) : B ≤ g ∧ ∃ cur, w.heap[g]? = some (.cells cur e (0, 0)) := by
  obtain ⟨h0, hx | ⟨g', cap, c2, e1, e2, e3, e4⟩⟩ := h
  · rw [hx.1] at hg; cases hg
  · have : g' = g := by rw [e1] at hg; simpa [Value.ownBlock] using hg
    subst this
    exact ⟨e2, _, e3⟩
/-- the lists gathered so far; the box and the row are not the iterator's -/
structure AcL (B0 : Nat) (w : World) (L : List (List Int)) (v : Value) (k : Nat) (vs : List Value) (O : Nat → Prop) (V : World) : Prop where
  box : Boxed V w.heap.size 68 v
  own : V.ownsRow w.heap.size 29 1 v k vs
  nb : ∀ g, v.ownBlock = some g → ¬ O g
  rows : ∀ i x, i < k → L[i]? = some x → ∃ u, vs[i]? = some u ∧ RlS B0 x #[u] O V
  O : ∀ r, O r → w.heap.size + 1 ≤ r
  bl : Below w.heap.size w V
theorem AcL.kept {B0 : Nat} {w : World} {L : List (List Int)} {B k : Nat} {v : Value} {vs : List Value} {O O' : Nat → Prop} {V V' : World} {row : Option Nat} (h : AcL B0 w L v k vs O V) (hB : w.heap.size + 1 ≤ B) (hg : V.grownBy V' row) (hr : ∀ r, row = some r → O r ∨ (B ≤ r ∧ ∃ o : Obj, V.heap[r]? = some o ∧ o.isCells = false)) (hO : ∀ r, O' r → O r ∨ (V.heap.size ≤ r ∧ r < V'.heap.size)) : AcL B0 w L v k vs O' V' := by
  have hlt := h.box.lt
  have hge : ∀ r, row = some r → w.heap.size + 1 ≤ r := fun r e => (hr r e).elim (h.O r) (fun h => Nat.le_trans hB h.1)
  have hown : v.ownBlock = none ∨ v.ownBlock ≠ row := by
    cases hv : v.ownBlock with
    | none => exact .inl rfl
    | some g =>
      refine .inr fun e => ?_
      obtain ⟨_, cur, h1⟩ := own_obj h.own hv
      rcases hr g e.symm with h2 | ⟨_, o, h2, h3⟩
      · exact h.nb g hv h2
      · rw [h1] at h2; cases h2; cases h3
  refine ⟨h.box.kept hg (fun e => by have := hge _ e.symm; omega), h.own.kept hg hown, fun g hv hg' => ?_, fun i x hi hx => ?_, fun r h' => (hO r h').elim (h.O r) (fun h => by omega), h.bl.grown hg (by omega) (fun r e => by have := hge r e; omega)⟩
  · rcases hO g hg' with h1 | h1
    · exact h.nb g hv h1
    · obtain ⟨_, cur, h2⟩ := own_obj h.own hv
      have := (Array.getElem?_eq_some_iff.1 h2).1
      omega
  · obtain ⟨u, h1, h2⟩ := h.rows i x hi hx
    refine ⟨u, h1, h2.row hg (fun b hb hnO e => ?_) (fun r h => (hO r h).imp id (fun h => h.1))⟩
    rcases hr b e.symm with h3 | ⟨_, o, h3, h4⟩
    · exact hnO h3
    · rw [hb.cells h3] at h4; cases h4
theorem AcL.ab {B0 : Nat} {w : World} {L : List (List Int)} {B : Nat} (hB : w.heap.size + 1 ≤ B) : AbO B (fun k O V => ∃ v vs, AcL B0 w L v k vs O V) := by
  rintro k O V V' row O' ⟨v, vs, h⟩ hg hr hO
  exact ⟨v, vs, h.kept hB hg hr hO⟩
theorem Try.infoInts : (Try.prog.info? 29).map (fun i => (i.zero, i.size, i.bytes)) = some (some (.slice none 0 0), 1, 24) := by kernel_rfl
/-- a list of lists of numbers in memory -/
def LsR (B0 : Nat) (w : World) (L : List (List Int)) (v : Value) (w' : World) : Prop :=
  Below w.heap.size w w' ∧ ∃ vs : List Value, w'.ownsRow w.heap.size 29 1 v L.length vs ∧ ∀ (i : Nat) (x : List Int), L[i]? = some x → ∃ u, vs[i]? = some u ∧ RlS B0 x #[u] (fun _ => False) w'
set_option maxRecDepth 100000 in
set_option maxHeartbeats 2000000 in
theorem appendSeqL_any (L : List (List Int)) (hl : L.length ≤ 2000000) (g B0 : Nat) (lb : Array Value) (C : Nat → Prop) (w : World) (eg : ∀ args w, (callFunc g args).run Try.prog w = .ok (.enter g args) w)
    (hseq : YieldsO Fence.wide 7 Try.prog g lb C (RlS B0) L w) (hC : ∀ r, C r → r < w.heap.size) :
    Calls Try.prog 119 #[.slice none 0 0, .func (.func g) #[] lb] w fun e w' => ∃ v, e = .returned v ∧ LsR B0 w L v w' := by
  obtain ⟨i0, hi, hz0, hz1, hz2⟩ := info_parts Try.infoInts
  have HS := Lib.hid hseq
  clear hseq
  refine (callsIn_wide (n := 8)).1 ?_
  refine callsIn_of_wp_marks Try.func119 rfl trivial ?_ rfl
  simp only [Try.ntmps119, List.size_toArray, List.length_cons, List.length_nil, Nat.reduceAdd, Nat.reduceSub, Array.replicate_succ, Array.replicate_zero, List.push_toArray, List.append_toArray, List.nil_append, List.cons_append]
  gi_wp2
  have hbx : Below w.heap.size w (w.alloc (.cells #[.slice none 0 0] 68)) := box1 _ _
  have hA0 : AcL B0 w L (.slice none 0 0) 0 [] (fun _ => False) (w.alloc (.cells #[.slice none 0 0] 68)) := ⟨Boxed.new _ _ _, World.ownsRow_nil _ _ _ _, fun g h => (by cases h), fun i x h => absurd h (by omega), fun r h => h.elim, hbx⟩
  refine rangeListO1 5 rfl (by omega) (gf := g) (lb := lb) rfl trivial eg HS.out hbx (fun x v O V h => h.size) (fun x v O V V' row h hg hr => h.grow hg hr)
    (fun k O V => ∃ v vs, AcL B0 w L v k vs O V) (fun _ _ _ _ => False) (AcL.ab (by simp)) (fun _ _ _ _ _ _ _ h => h.elim) ⟨_, _, hA0⟩ ?assign ?body ?done ?stop
  case stop => rintro D cd k O V _ _ h; exact h.elim
  case assign =>
    rintro l2 x v O V K hR hK
    obtain ⟨A, c, rfl, h1⟩ := hR
    clear h1 hA0
    gi_wp2
  case body =>
    rintro l2 k x v O V hx hR ⟨va, vs, hA⟩ ho
    have hk : k < L.length := (List.getElem?_eq_some_iff.1 hx).1
    obtain ⟨A, c, rfl, h1⟩ := id hR
    have HR := Lib.hid hR
    have HA := Lib.hid hA
    have HX := Lib.hid hx
    have HO := Lib.hid ho
    have hv := hA.box
    have hrow := hA.own
    have hc := hv.cell
    have hsz := hA.bl.size
    clear hx hR h1 hA ho hA0
    gi_wp2_with (gi_at_builtin; refine wpListIn_append_own_at _ rfl _ _ 68 rfl w.heap.size 29 i0 (.slice none 0 0) 1 24 Try.underlying68 hi hz0 hz1 hz2 rfl (by decide) _ _ _ rfl (hrow.alloc _) ⟨V.heap.size, 0, none⟩ 1 1 [.slice A x.length c] rfl rfl (cell_one_new _ _ _) (by simp [Value.oneCell']) (by unfold maxLen; omega) (by omega) (by simp; omega) ?_; intro v' w1 hown' hgrow _ hat; obtain ⟨g', cap', rfl⟩ := ownsRow_succ hown'; obtain ⟨hv1, hv2, hr2, hk2, hb2⟩ := hv.appended (by decide) hrow hsz (Nat.le_refl _) hown' hgrow; have hc1 := hv1.cell; have hf1 := hv1.frozen)
    have hA := HA.out
    have hown := hA.own
    have hlen : vs.length = k := by have := hown.1; omega
    have hne1 : ∀ b, isInts (V.alloc (.cells #[.slice A x.length c] 29)) b → some b ≠ va.ownBlock := fun b hb e => by
      obtain ⟨_, cur, h2⟩ := own_obj (hown.alloc _) e.symm
      exact absurd (hb.type h2) (by decide)
    have hne2 : ∀ b, isInts w1 b → some b ≠ some w.heap.size := fun b hb e => by
      cases e
      exact absurd (hb.type hv1) (by decide)
    have chain : ∀ x u, RlS B0 x #[u] O V → RlS B0 x #[u] O (w1.setCell ⟨w.heap.size, 0, none⟩ (.slice (some ⟨g', 0, none⟩) (k + 1) cap')) := fun x u h =>
      ((h.row (World.grownBy_alloc V _ none) (fun b _ _ e => by cases e) (fun r h => .inl h)).row hgrow (fun b hb _ => hne1 b hb) (fun r h => .inl h)).row (grownBy_setCell' w1 w.heap.size _) (fun b hb _ => hne2 b hb) (fun r h => .inl h)
    refine ⟨hk2.from _, (KpO.of (box1 V _)).trans ((KpO.grown hgrow (fun r e h => ?_)).trans (KpO.grown (grownBy_setCell' w1 w.heap.size _) (fun r e h => ?_))), _, vs ++ [.slice A x.length c], hv2, hr2, fun g2 h2 hO2 => ?_, fun i y hi2 hy => ?_, hA.O, hA.bl.trans hb2⟩
    · obtain ⟨h3, _⟩ := own_obj hown e
      rcases h with h | h | h
      · omega
      · have := hC r h; omega
      · exact hA.nb r e h
    · cases e
      rcases h with h | h | h
      · omega
      · have := hC _ h; omega
      · have := hA.O _ h; omega
    · rcases hat with h3 | h3
      · exact hA.nb g2 (h3 ▸ h2) hO2
      · rw [h3] at h2
        cases h2
        have := (HO.out _ hO2).2
        simp only [World.size_alloc] at this
        omega
    · by_cases hik : i < k
      · obtain ⟨u, h3, h4⟩ := hA.rows i y hik hy
        exact ⟨u, by rw [List.getElem?_append_left (by omega)]; exact h3, chain _ _ h4⟩
      · obtain rfl : i = k := by omega
        rw [HX.out] at hy
        cases hy
        exact ⟨_, by rw [List.getElem?_append_right (by omega), hlen, Nat.sub_self]; rfl, chain _ _ HR.out⟩
  case done =>
    rintro D O V hD ⟨va, vs, hA⟩ hDD
    have hc := hA.box.cell
    have HA := Lib.hid hA
    clear hA hA0
    gi_wp2
    refine ⟨by simp, .inl ⟨_, _, rfl, run_takeDeferred hDD, ?_⟩⟩
    have hP := HA.out.kept (B := w.heap.size + 1) (O' := fun _ => False) (Nat.le_refl _) (grownBy_putObj' V D (.deferred none)) (fun r e => by cases e; exact .inr ⟨by simp at hD; omega, _, hDD, rfl⟩) (fun r h => h.elim)
    refine ⟨va, ?_, ⟨_, rfl, hP.bl, vs, hP.own, fun i x hx => hP.rows i x (List.getElem?_eq_some_iff.1 hx).1 hx⟩⟩
    simp [results, Try.results119, go_sem]
set_option maxHeartbeats 400000 in
theorem CollectL_any (L : List (List Int)) (hl : L.length ≤ 2000000) (g B0 : Nat) (lb : Array Value) (C : Nat → Prop) (w : World) (eg : ∀ args w, (callFunc g args).run Try.prog w = .ok (.enter g args) w)
    (hseq : YieldsO Fence.wide 7 Try.prog g lb C (RlS B0) L w) (hC : ∀ r, C r → r < w.heap.size) :
    Calls Try.prog 105 #[.func (.func g) #[] lb] w fun e w' => ∃ v, e = .returned v ∧ LsR B0 w L v w' := by
  have K := Lib.hid (appendSeqL_any L hl g B0 lb C w eg hseq hC)
  clear hseq eg
  go_enter Try.func105, Try.ntmps105
  go_wp2_with (go_at_call 119; refine K.out.mono ?_; rintro e w1 ⟨v, rfl, h⟩)
  go_ret
  exact ⟨_, rfl, h⟩
end Go.Proofs.Ytpikaohodieeaaa
namespace Go.Proofs.Ytpikaohodieeaaa
open Go.RowKit
set_option linter.unusedSimpArgs false
set_option linter.unusedVariables false
theorem fm_len {α β : Type} (f : α → List β) (c : Nat) (l : List α) (h : ∀ x ∈ l, (f x).length ≤ c) : (l.flatMap f).length ≤ l.length * c := by
  induction l with
  | nil => simp
  | cons a l ih =>
    have h1 := h a (by simp)
    have h2 := ih (fun x hx => h x (by simp [hx]))
    rw [List.flatMap_cons, List.length_append, List.length_cons, Nat.add_mul]
    omega
theorem ext1_len (c lo : Nat) : (ext c 1 lo).length ≤ c := by
  have h := fm_len (fun j => (ext c 0 (lo + j + 1)).map fun s => ((lo + j : Nat) : Int) :: s) 1 (List.range (c - 0 - lo)) (fun x hx => by simp [ext])
  rw [List.length_range] at h
  rw [ext_succ]
  unfold extJ
  omega
theorem ext2_len (c : Nat) : (ext c 2 0).length ≤ c * c := by
  have h := fm_len (fun j => (ext c 1 (0 + j + 1)).map fun s => ((0 + j : Nat) : Int) :: s) c (List.range (c - 1 - 0)) (fun x hx => by rw [List.length_map]; exact ext1_len c _)
  rw [List.length_range] at h
  rw [ext_succ]
  unfold extJ
  exact Nat.le_trans h (Nat.mul_le_mul_right _ (by omega))
theorem con_max (R0 : Bool) (al : Nat → Bool) (pr : Nat → Nat → Bool) (m : Nat) : (conL R0 al pr m).length ≤ m + m * m + 1 := by
  unfold conL
  split
  · have h1 : (sgL al m).length ≤ m := by
      unfold sgL
      rw [List.length_map]
      exact Nat.le_trans (List.length_filter_le _ _) (by simp)
    have h2 : (prL al pr m (ext m 2 0).length).length ≤ m * m := by
      unfold prL
      refine Nat.le_trans (List.length_filter_le _ _) ?_
      rw [List.take_length]
      exact ext2_len m
    rw [List.length_append]
    omega
  · simp
/-- the minimal contradictions of a drum and marks -/
def ConR (d : Drm) (m : Nat) (F : Nat → Int × Int × Int) (L : List (List Int)) : Prop :=
  ∃ R0 al pr, L = conL R0 al pr m ∧ (R0 = true ↔ ∃ T, Rdg d.n (gapF d) 0 F T) ∧ (∀ i, i < m → (al i = true ↔ ∃ T, Rdg d.n (gapF d) 1 (one3 F i) T)) ∧ (∀ i j, i < m → j < m → (pr i j = true ↔ ∃ T, Rdg d.n (gapF d) 2 (two3 F i j) T))
theorem conR_ex (d : Drm) (m : Nat) (F : Nat → Int × Int × Int) : ∃ L, ConR d m F L := by
  obtain ⟨R0, h0⟩ := bool_of (∃ T, Rdg d.n (gapF d) 0 F T)
  have h1 : ∃ al : Nat → Bool, ∀ i, al i = true ↔ ∃ T, Rdg d.n (gapF d) 1 (one3 F i) T := ⟨fun i => Classical.choose (bool_of (∃ T, Rdg d.n (gapF d) 1 (one3 F i) T)), fun i => Classical.choose_spec (bool_of (∃ T, Rdg d.n (gapF d) 1 (one3 F i) T))⟩
  have h2 : ∃ pr : Nat → Nat → Bool, ∀ i j, pr i j = true ↔ ∃ T, Rdg d.n (gapF d) 2 (two3 F i j) T := ⟨fun i j => Classical.choose (bool_of (∃ T, Rdg d.n (gapF d) 2 (two3 F i j) T)), fun i j => Classical.choose_spec (bool_of (∃ T, Rdg d.n (gapF d) 2 (two3 F i j) T))⟩
  obtain ⟨al, h1⟩ := h1
  obtain ⟨pr, h2⟩ := h2
  exact ⟨_, R0, al, pr, rfl, h0, fun i _ => h1 i, fun i j _ _ => h2 i j⟩
/-- what Pairs answers -/
def PaR (d : Drm) (m : Nat) (F : Nat → Int × Int × Int) (L : List (List Int)) (E : Int) : Prop :=
  ((E = 20 ∨ E = 21) ∧ L = [] ∧ ChR d m F E) ∨ (DrOk d ∧ MksOk d m F ∧ ConR d m F L ∧ E = if L.length = 0 then 3 else 0)
theorem paR_ex (d : Drm) (m : Nat) (F : Nat → Int × Int × Int) : ∃ L E, PaR d m F L E := by
  obtain ⟨E, h⟩ := chR_ex d m F
  have h' := h
  rcases h with ⟨rfl, _⟩ | ⟨rfl, _, _⟩ | ⟨rfl, h1, h2⟩
  · exact ⟨[], 20, .inl ⟨.inl rfl, rfl, h'⟩⟩
  · exact ⟨[], 21, .inl ⟨.inr rfl, rfl, h'⟩⟩
  · obtain ⟨L, hL⟩ := conR_ex d m F
    exact ⟨L, _, .inr ⟨h1, h2, hL, rfl⟩⟩
theorem LsR.more {B0 B1 : Nat} {w w1 w' : World} {L : List (List Int)} {v : Value} (h : LsR B0 w1 L v w') (hb : Below w.heap.size w w1) (hB : B1 ≤ B0) : LsR B1 w L v w' := by
  obtain ⟨h1, vs, h2, h3⟩ := h
  refine ⟨nextB hb h1, vs, ?_, fun i x hx => ?_⟩
  · obtain ⟨e0, e | ⟨g, cap, cur, e1, e2, e3⟩⟩ := h2
    · exact ⟨e0, .inl e⟩
    · exact ⟨e0, .inr ⟨g, cap, cur, e1, Nat.le_trans hb.size e2, e3⟩⟩
  · obtain ⟨u, e1, A, c, e2, e3⟩ := h3 i x hx
    refine ⟨u, e1, A, c, e2, fun j hj => ?_⟩
    obtain ⟨b, f1, f2, f3, f4, f5, f6⟩ := e3 j hj
    exact ⟨b, f1, f2, f3, Nat.le_trans hB f4, f5, f6⟩
theorem LsR.nil {B0 : Nat} {w w' : World} (hb : Below w.heap.size w w') : LsR B0 w [] (.slice none 0 0) w' := ⟨hb, [], World.ownsRow_nil _ _ _ _, fun i x h => by simp at h⟩
theorem LsR.slice {B0 : Nat} {w w' : World} {L : List (List Int)} {v : Value} (h : LsR B0 w L v w') : ∃ A c, v = .slice A L.length c := by
  obtain ⟨h1, vs, ⟨e0, ⟨e1, e2⟩ | ⟨g, cap, cur, e1, e2⟩⟩, h3⟩ := h
  · exact ⟨none, 0, by rw [e2]; exact e1⟩
  · exact ⟨_, _, e1⟩
set_option maxRecDepth 100000 in
set_option maxHeartbeats 1000000 in
theorem Pairs_any (d : Drm) (MA : Option Addr) (m mc : Nat) (F : Nat → Int × Int × Int) (L : List (List Int)) (E : Int) (w : World) (hin : DrIn d w.heap.size w) (hm : TrsIn MA m F w.heap.size w) (hE : PaR d m F L E) :
    Calls Try.prog 59 #[d.v, .slice MA m mc] w fun e w' => ∃ v, e = .returned (.tuple #[v, .int .i64 E]) ∧ LsR w.heap.size w L v w' := by
  obtain ⟨w1, hw1⟩ : ∃ w1 : World, w1 = w.alloc (drO d) := ⟨_, rfl⟩
  have B1 : Below w.heap.size w w1 := by rw [hw1]; exact box1 _ _
  have P1 : HasDr d w.heap.size w1 := by rw [hw1]; exact dr_new w d
  have HB := Lib.hid B1
  have HP := Lib.hid P1
  have HIN := Lib.hid hin
  have HM := Lib.hid hm
  have KC := Lib.hid fun E (h : ChR d m F E) => check_any d MA m mc F E w1 ((hin.up B1 (Nat.le_refl _)).more B1.size) ((hm.up B1 (Nat.le_refl _)).more B1.size) h
  obtain ⟨x0, x1⟩ := P1
  clear hin hm B1
  rcases hE with ⟨hE, rfl, h⟩ | ⟨hd, hk, hc, hE⟩
  · have hne : ¬ E = 0 := by omega
    have hn1 : (E != 0) = true := by simpa using hne
    have H := Lib.hid h
    clear h hE hne
    go_enter Try.func59, Try.ntmps59
    go_wp2_with fail
    rw [← hw1]
    refine (KC.out E H.out).mono ?_
    rintro e w2 ⟨rfl, hb2⟩
    have D2 := Lib.hid (nextB HB.out hb2)
    clear hb2 hw1
    go_wp2_with fail
    go_ret2
    exact ⟨_, rfl, LsR.nil D2.out⟩
  · obtain ⟨R0, al, pr, hL, h0, h1, h2⟩ := hc
    have HL := Lib.hid hL
    have HE := Lib.hid hE
    have HD := Lib.hid hd
    have HK := Lib.hid hk
    have H0 := Lib.hid h0
    have H1 := Lib.hid h1
    have H2 := Lib.hid h2
    have hm64 : m ≤ 64 := hk.1
    have HC : Hid (ChR d m F 0) := Lib.hid (.inr (.inr ⟨rfl, hd, hk⟩))
    clear hd hk hL hE h0 h1 h2
    go_enter Try.func59, Try.ntmps59
    go_wp2_with fail
    rw [← hw1]
    refine (KC.out 0 HC.out).mono ?_
    rintro e w2 ⟨rfl, hb2⟩
    have D2 := Lib.hid (nextB HB.out hb2)
    have P2 := HP.out.up hb2
    clear hb2 hw1 x0 x1
    obtain ⟨x0, x1⟩ := P2
    go_wp2_with fail
    refine (gapsOf_any d w2 ((HIN.out.up D2.out (Nat.le_refl _)).more D2.out.size) HD.out).mono ?_
    rintro e w3 ⟨g, cap, rfl, hg3, hcap3, hS3, hb3⟩
    have D3 := Lib.hid (nextB D2.out hb3)
    have HS3 := Lib.hid hS3
    clear hb3 hS3 hg3 hcap3 x0 x1
    go_wp2_with fail
    refine (contradictions_any (.slice (some ⟨g, 0, none⟩) d.n cap) (.slice MA m mc) w3 ⟨_, _, _, rfl⟩ ⟨_, _, _, rfl⟩).mono ?_
    rintro e w4 ⟨rfl, hw4⟩
    have hb4 : Below w3.heap.size w3 w4 := by rw [hw4]; exact box2 _ _ _
    have t1 : w4.cell? ⟨w3.heap.size, 0, none⟩ = some (.slice (some ⟨g, 0, none⟩) d.n cap) := by rw [hw4]; go_simp
    have t2 : w4.cell? ⟨w3.heap.size + 1, 0, none⟩ = some (.slice MA m mc) := by rw [hw4]; go_simp
    have D4 := Lib.hid (nextB D3.out hb4)
    have hG : GmIn g d.n cap (gapF d) MA m mc F w3.heap.size (w3.heap.size + 1) w4.heap.size w4 := ⟨HS3.out.up hb4, (HM.out.up D4.out (Nat.le_refl _)).more D4.out.size, t1, t2⟩
    have hY := con_yields g d.n cap (gapF d) MA m mc F R0 al pr w3.heap.size (w3.heap.size + 1) 7 w4 hG (gpOk HD.out) (mkOk_of HK.out) (by omega) H0.out H1.out H2.out
    have hmx := con_max R0 al pr m
    have hmm : m * m ≤ 64 * 64 := Nat.mul_le_mul hm64 hm64
    rw [← HL.out] at hY hmx
    have KL := Lib.hid (CollectL_any L (by omega) 117 w4.heap.size _ _ w4 eg_con hY (fun r h => h))
    clear hw4 hb4 t1 t2 hG hY hmx hmm
    go_wp2_with fail
    refine KL.out.mono ?_
    rintro e w5 ⟨v, rfl, hls⟩
    obtain ⟨A, c, rfl⟩ := hls.slice
    have HF := Lib.hid (hls.more (B1 := w.heap.size) D4.out D4.out.size)
    clear hls
    by_cases hz : L.length = 0
    · have hE3 : E = 3 := by rw [HE.out, if_pos hz]
      subst hE3
      have hl0 : L = [] := List.length_eq_zero_iff.1 hz
      have HZ := Lib.hid hl0
      rw [hz]
      clear hz hl0
      go_wp2_with fail
      go_ret2
      refine ⟨_, rfl, ?_⟩
      rw [HZ.out]
      exact LsR.nil HF.out.1
    · have hE0 : E = 0 := by rw [HE.out, if_neg hz]
      subst hE0
      have hz2 : ¬ (L.length : Int) = 0 := by omega
      have hz3 : ((L.length : Int) == 0) = false := by simpa using hz2
      have hz4 : ¬ L = [] := fun h => hz (by rw [h]; rfl)
      go_wp2_with fail
      go_ret2
      exact ⟨_, rfl, HF.out⟩
end Go.Proofs.Ytpikaohodieeaaa
