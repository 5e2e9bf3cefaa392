import Derived.Test.YtmeljcbefnojfaaRdt
namespace Go.Proofs.Ytmeljcbefnojfaa
open Go.RowKit
/-- a value that holds the spans of a list; where there are some, they lie in a block below B or in one of spans -/
def RdU (B : Nat) (v : Value) (L : List (Int × Int)) (w : World) : Prop :=
  ∃ A cap, v = .slice A L.length cap ∧ SpsIn A L.length (fun i => L[i]?.getD (0, 0)) w.heap.size w ∧ (L ≠ [] → ∀ g, v.ownBlock = some g → g < B ∨ ∃ cur f, w.heap[g]? = some (.cells cur 23 f))
theorem RdU.lt {B : Nat} {v : Value} {L : List (Int × Int)} {w : World} (h : RdU B v L w) (hL : L ≠ []) : ∀ g, v.ownBlock = some g → g < w.heap.size := by
  obtain ⟨A, cap, rfl, h1, _⟩ := h
  intro g hg
  obtain ⟨a, rfl, hl, _⟩ := h1.2 0 (by cases L with | nil => exact absurd rfl hL | cons _ _ => simp)
  have : a.block = g := by simpa [Value.ownBlock] using hg
  omega
theorem RdU.grow {B : Nat} {v : Value} {L : List (Int × Int)} {w w1 : World} {r : Option Nat} (h : RdU B v L w) (hg : w.grownBy w1 r) (hne : L ≠ [] → ∀ g, v.ownBlock = some g → some g ≠ r) : RdU B v L w1 := by
  have hlt := fun hL => h.lt hL
  obtain ⟨A, cap, e, h1, h2⟩ := h
  refine ⟨A, cap, e, ⟨h1.1, fun i hi => ?_⟩, fun hL g hv => (h2 hL g hv).imp id fun ⟨cur, f, e'⟩ => ⟨cur, f, (hg.block g (hlt hL g hv) (hne hL g hv)).trans e'⟩⟩
  have hL : L ≠ [] := fun h0 => by subst h0; simp at hi
  obtain ⟨a, e', hl, c0, c1⟩ := h1.2 i hi
  have hb : w1.heap[a.block]? = w.heap[a.block]? := hg.block a.block hl (hne hL a.block (by rw [e, e']; rfl))
  exact ⟨a, e', Nat.lt_of_lt_of_le hl hg.size, (World.cell?_of_block (a := a.add (i * 2)) (by rw [add_block]; exact hb)).trans c0, (World.cell?_of_block (a := ⟨(a.add (i * 2)).block, (a.add (i * 2)).off + 1, none⟩) (by simp only [add_block]; exact hb)).trans c1⟩
theorem RdU.up {B : Nat} {v : Value} {L : List (Int × Int)} {w w' : World} (h : RdU B v L w) (hb : Below w.heap.size w w') : RdU B v L w' := by
  have hlt := fun hL => h.lt hL
  obtain ⟨A, cap, e, h1, h2⟩ := h
  exact ⟨A, cap, e, (h1.up hb (Nat.le_refl _)).more hb.size, fun hL g hv => (h2 hL g hv).imp id fun ⟨cur, f, e'⟩ => ⟨cur, f, (hb.block g (hlt hL g hv)).trans e'⟩⟩
theorem RdU.of {B : Nat} {v : Value} {L : List (Int × Int)} {w : World} (h : RdT B v L w) : RdU B v L w := by
  obtain ⟨h1, h2⟩ := h
  obtain ⟨A, cap, e, hs⟩ := h1.sps
  exact ⟨A, cap, e, hs, fun _ g hg => (h2 g hg).2⟩
theorem RdU.row {B : Nat} {w : World} {A : Option Addr} {n c : Nat} {S : Nat → Int × Int} (h : SpsIn A n S B w) (hB : B ≤ w.heap.size) : RdU B (.slice A n c) (firstK S n) w := by
  have hn : (firstK S n).length = n := firstK_length S n
  refine ⟨A, c, by rw [hn], ?_, fun hL g hg => ?_⟩
  · rw [hn]
    refine ⟨h.1, fun i hi => ?_⟩
    have e : (firstK S n)[i]?.getD (0, 0) = S i := by simp [firstK, hi]
    simp only [e]
    exact (h.more hB).2 i hi
  · have h0 : 0 < n := Nat.pos_of_ne_zero fun e => hL (List.eq_nil_of_length_eq_zero (hn.trans e))
    obtain ⟨a, rfl, hl, _⟩ := h.2 0 h0
    have : a.block = g := by simpa [Value.ownBlock] using hg
    subst this
    exact .inl hl
/-- rows that are being gathered in a slice of the call's own -/
def RowsU (w : World) (Lc : Nat → List (Int × Int)) (k : Nat) (v : Value) (wr : World) : Prop := ∃ xs : List Value, wr.ownsRow (w.heap.size + 3) 52 1 v k xs ∧ ∀ c, c < k → ∃ u, xs[c]? = some u ∧ RdU w.heap.size u (Lc c) wr
theorem RowsU.up {w wr w' : World} {Lc : Nat → List (Int × Int)} {k : Nat} {v : Value} (h : RowsU w Lc k v wr) (hb : Below wr.heap.size wr w') : RowsU w Lc k v w' := by
  obtain ⟨xs, h1, h2⟩ := h
  refine ⟨xs, own_keep2 h1 hb, fun c hc => ?_⟩
  obtain ⟨u, e, hu⟩ := h2 c hc
  exact ⟨u, e, hu.up hb⟩
theorem RowsU.nil (w wr : World) (Lc : Nat → List (Int × Int)) : RowsU w Lc 0 (.slice none 0 0) wr := ⟨[], World.ownsRow_nil wr _ _ 1, fun c hc => absurd hc (by omega)⟩
theorem RowsU.put {w wr w1 : World} {Lc : Nat → List (Int × Int)} {k : Nat} {v v' u : Value} {o : Obj} {xs : List Value} (h1 : wr.ownsRow (w.heap.size + 3) 52 1 v k xs) (h2 : ∀ c, c < k → ∃ u, xs[c]? = some u ∧ RdU w.heap.size u (Lc c) wr) (hu : RdU w.heap.size u (Lc k) wr) (h' : w1.ownsRow (w.heap.size + 3) 52 1 v' (k + 1) (xs ++ [u])) (hg : (wr.alloc o).grownBy w1 v.ownBlock) : RowsU w Lc (k + 1) v' w1 := by
  have hlen : xs.length = k := by have := h1.1; omega
  have hmove : ∀ {z : Value} {L : List (Int × Int)}, RdU w.heap.size z L wr → RdU w.heap.size z L w1 := fun {z L} hz => by
    refine (hz.up (box1 wr o)).grow hg fun hL g hzg e => ?_
    have hl := hz.lt hL g hzg
    obtain ⟨_, _, _, _, h6'⟩ := id hz
    have h6 := h6' hL g hzg
    obtain ⟨_, hx | ⟨r, cap, cur, e1, e2, e3, _⟩⟩ := h1
    · rw [hx.1] at e; simp [Value.ownBlock] at e
    · rw [e1] at e
      have : g = r := by simpa [Value.ownBlock] using e
      subst this
      rcases h6 with h6 | ⟨cur', f, h6⟩
      · omega
      · rw [e3] at h6
        simp at h6
  refine ⟨_, h', fun c hc => ?_⟩
  by_cases hck : c = k
  · subst hck
    exact ⟨u, by rw [List.getElem?_append_right (by omega), hlen, Nat.sub_self]; rfl, hmove hu⟩
  · obtain ⟨z, e, hz⟩ := h2 c (by omega)
    exact ⟨z, by rw [List.getElem?_append_left (by omega)]; exact e, hmove hz⟩
/-- a store to a box, which is no row -/
theorem RowsU.set {w wr : World} {Lc : Nat → List (Int × Int)} {k b : Nat} {v : Value} (h : RowsU w Lc k v wr) (hb : w.heap.size ≤ b ∧ b < w.heap.size + 3) {cur : Array Value} {t : TypeId} {f : Nat × Nat} (ht : wr.heap[b]? = some (.cells cur t f)) (hne : t ≠ 23) (o : Nat) (u : Value) : RowsU w Lc k v (wr.setCell ⟨b, o, none⟩ u) := by
  obtain ⟨xs, h1, h2⟩ := h
  refine ⟨xs, own_setg h1 hb.2 o u, fun c hc => ?_⟩
  obtain ⟨z, e, hz⟩ := h2 c hc
  refine ⟨z, e, hz.grow (grown_set wr b o u) fun hL g hg e => ?_⟩
  cases e
  obtain ⟨_, _, _, _, h6'⟩ := id hz
  rcases h6' hL b hg with h6 | ⟨cur', f', h6⟩
  · omega
  · rw [ht] at h6
    simp at h6
    exact hne h6.2.1
/-- rows that have been gathered read as columns -/
theorem rows_clsu {w wr : World} {Lc : Nat → List (Int × Int)} {n : Nat} {v : Value} (h : RowsU w Lc n v wr) (hn : n ≤ 1000) : ∃ A cap, ∃ X : Cls, v = .slice A n cap ∧ ClsIn A n X wr.heap.size wr ∧ ∀ c, c < n → X.L c = (Lc c).length ∧ firstK (X.S c) (X.L c) = Lc c := by
  obtain ⟨xs, h1, h2⟩ := h
  have each : ∀ c, c < n → ∃ r : Option Addr × Nat × Nat × (Nat → Int × Int), xs[c]? = some (.slice r.1 r.2.1 r.2.2.1) ∧ r.2.1 = (Lc c).length ∧ firstK r.2.2.2 r.2.1 = Lc c ∧ SpsIn r.1 r.2.1 r.2.2.2 wr.heap.size wr := by
    intro c hc
    obtain ⟨u, e, A, cp, rfl, hs, _⟩ := h2 c hc
    refine ⟨(A, (Lc c).length, cp, fun i => (Lc c)[i]?.getD (0, 0)), e, rfl, ?_, hs⟩
    exact ((eq_firstK (Lc c) _ (Lc c).length).1 ⟨rfl, fun _ _ => rfl⟩).symm
  haveI : Inhabited (Option Addr × Nat × Nat × (Nat → Int × Int)) := ⟨(none, 0, 0, fun _ => (0, 0))⟩
  obtain ⟨f, hf⟩ : ∃ f : Nat → Option Addr × Nat × Nat × (Nat → Int × Int), ∀ c, c < n → xs[c]? = some (.slice (f c).1 (f c).2.1 (f c).2.2.1) ∧ (f c).2.1 = (Lc c).length ∧ firstK (f c).2.2.2 (f c).2.1 = Lc c ∧ SpsIn (f c).1 (f c).2.1 (f c).2.2.2 wr.heap.size wr :=
    ⟨fun c => if hc : c < n then Classical.choose (each c hc) else default, fun c hc => by simp only [dif_pos hc]; exact Classical.choose_spec (each c hc)⟩
  obtain ⟨hx, hy | ⟨g, cap, cur, e1, e2, e3, e4, e5, e6, e7⟩⟩ := h1
  · obtain ⟨rfl, h0⟩ := hy
    subst h0
    exact ⟨none, 0, ⟨fun _ => none, fun _ => 0, fun _ => 0, fun _ _ => (0, 0)⟩, rfl, ⟨by omega, fun i hi => absurd hi (by omega)⟩, fun c hc => absurd hc (by omega)⟩
  · subst e1
    refine ⟨_, cap, ⟨fun c => (f c).1, fun c => (f c).2.1, fun c => (f c).2.2.1, fun c => (f c).2.2.2⟩, rfl, ⟨by omega, fun c hc => ?_⟩, fun c hc => ⟨(hf c hc).2.1, (hf c hc).2.2.1⟩⟩
    refine ⟨⟨g, 0, none⟩, rfl, (Array.getElem?_eq_some_iff.1 e3).1, ?_, (hf c hc).2.2.2⟩
    have hxc := (hf c hc).1
    have hcu : cur[c]? = some (.slice (f c).1 (f c).2.1 (f c).2.2.1) := by
      rw [← e7, List.getElem?_take, if_pos (by omega), Array.getElem?_toList] at hxc
      exact hxc
    rw [Addr.add_lit, Nat.zero_add]
    simp [World.cell?, e3, hcu]
end Go.Proofs.Ytmeljcbefnojfaa
