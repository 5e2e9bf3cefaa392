import Derived.Test.YtmeljcbefnojfaaSam
import Derived.Test.YtmeljcbefnojfaaRpt
import Derived.Test.YtmeljcbefnojfaaShr
namespace Go.Proofs.Ytmeljcbefnojfaa
open Go.RowKit
/-- a set with a further span, step by step: what lies out, whether the span does, the span -/
def jstep (st : List (Int × Int) × Bool × Int × Int) (q : Int × Int) : List (Int × Int) × Bool × Int × Int :=
  if q.2 + 1 < st.2.2.1 then (st.1 ++ [q], st.2.1, st.2.2)
  else if st.2.2.2 + 1 < q.1 then ((if st.2.1 then st.1 else st.1 ++ [st.2.2]) ++ [q], true, st.2.2)
  else (st.1, st.2.1, min st.2.2.1 q.1, max st.2.2.2 q.2)
def jst (l : List (Int × Int)) (x : Int × Int) : List (Int × Int) × Bool × Int × Int := l.foldl jstep ([], false, x)
def joinL (l : List (Int × Int)) (x : Int × Int) : List (Int × Int) := if x.2 < x.1 then l else (if (jst l x).2.1 then (jst l x).1 else (jst l x).1 ++ [(jst l x).2.2])
theorem jst_succ {l : List (Int × Int)} {k : Nat} {q x : Int × Int} (h : l[k]? = some q) : jst (l.take (k + 1)) x = jstep (jst (l.take k) x) q := by
  unfold jst
  rw [List.take_add_one, h]
  simp
def Sm (x : Int × Int) : Prop := -1000000000000 ≤ x.1 ∧ x.1 ≤ 1000000000000 ∧ -1000000000000 ≤ x.2 ∧ x.2 ≤ 1000000000000
theorem flatL_snoc (l : List (Int × Int)) (q : Int × Int) : flatL (l ++ [q]) = flatL l ++ [.int .i64 q.1, .int .i64 q.2] := by simp [flatL]
/-- the box of the span, and all below -/
def JC (w : World) (x : Int × Int) (wr : World) : Prop :=
  Below w.heap.size w wr ∧ HasSp x.1 x.2 w.heap.size wr ∧ wr.frozen? ⟨w.heap.size, 0, none⟩ = false ∧ wr.frozen? ⟨w.heap.size, 1, none⟩ = false
theorem JC.lt {w wr : World} {x : Int × Int} (h : JC w x wr) : w.heap.size < wr.heap.size := World.block_lt_of_cell? _ _ h.2.1.1
theorem own_ge {w : World} {B : Nat} {e : TypeId} {size n : Nat} {v : Value} {xs : List Value} (h : w.ownsRow B e size v n xs) (r : Nat) (hr : v.ownBlock = some r) : B ≤ r := by
  obtain ⟨_, hx | ⟨g, cap, cur, e1, e3, _⟩⟩ := h
  · rw [hx.1] at hr; cases hr
  · rw [e1] at hr
    simp [Value.ownBlock] at hr
    omega
theorem JC.grow {w wr w1 : World} {x : Int × Int} {v : Value} {n : Nat} {xs : List Value} {o : Obj} (h : JC w x wr) (hown : wr.ownsRow (w.heap.size + 1) 23 2 v n xs) (hg : (wr.alloc o).grownBy w1 v.ownBlock) : JC w x w1 := by
  have hge := own_ge hown
  have hl := h.lt
  obtain ⟨h1, ⟨h2, h3⟩, h4, h5⟩ := h
  have hb := box1 wr o
  have ne : some w.heap.size ≠ v.ownBlock := fun e => by have := hge _ e.symm; omega
  refine ⟨(h1.alloc h1.size o).grown hg (by simp only [World.size_alloc]; omega) (fun r e => by have := hge r e; omega), ⟨?_, ?_⟩, ?_, ?_⟩
  · exact cell_row hg (by simp only [World.size_alloc]; omega) ne (cell_up hb hl h2)
  · exact cell_row hg (by simp only [World.size_alloc]; omega) ne (cell_up hb hl h3)
  · exact (frozen_row hg (by simp only [World.size_alloc]; omega) ne rfl).trans (frozen_up hb hl h4)
  · exact (frozen_row hg (by simp only [World.size_alloc]; omega) ne rfl).trans (frozen_up hb hl h5)
theorem JC.drewN {w wr : World} {x : Int × Int} (h : JC w x wr) (q : Nat) : JC w x (wr.drewN q) := by
  have hl := h.lt
  have hb : Below wr.heap.size wr (wr.drewN q) := below_drewN (Below.refl _ _) q
  exact ⟨below_drewN h.1 q, h.2.1.up hb hl, frozen_up hb hl h.2.2.1, frozen_up hb hl h.2.2.2⟩
structure JI (w : World) (l : List (Int × Int)) (x : Int × Int) (k : Nat) (vo vp : Value) (wr : World) : Prop where
  put : vp = .bool (jst (l.take k) x).2.1
  jc : JC w (jst (l.take k) x).2.2 wr
  own : wr.ownsRow (w.heap.size + 1) 23 2 vo (jst (l.take k) x).1.length (flatL (jst (l.take k) x).1)
  sm : Sm (jst (l.take k) x).2.2
  len : (jst (l.take k) x).1.length ≤ k + 1 ∧ ((jst (l.take k) x).2.1 = false → (jst (l.take k) x).1.length ≤ k)
theorem JI.app {w wr w1 : World} {l : List (Int × Int)} {x q : Int × Int} {k : Nat} {out : List (Int × Int)} {put : Bool} {y : Int × Int} {vo vp v' : Value} {o : Obj}
    (hst : jst (l.take k) x = (out, put, y)) (hq : l[k]? = some q) (h1 : q.2 + 1 < y.1) (hjc : JC w y wr) (hown : wr.ownsRow (w.heap.size + 1) 23 2 vo out.length (flatL out)) (hsm : Sm y) (hlen : out.length ≤ k + 1 ∧ (put = false → out.length ≤ k)) (hp : vp = .bool put)
    (hg : (wr.alloc o).grownBy w1 vo.ownBlock) (h' : w1.ownsRow (w.heap.size + 1) 23 2 v' (out.length + 1) (flatL out ++ [.int .i64 q.1, .int .i64 q.2])) : JI w l x (k + 1) v' vp w1 := by
  have e : jst (l.take (k + 1)) x = (out ++ [q], put, y) := by rw [jst_succ hq, hst]; simp only [jstep, if_pos h1]
  refine ⟨by rw [e]; exact hp, by rw [e]; exact hjc.grow hown hg, ?_, by rw [e]; exact hsm, ?_⟩
  · rw [e]; simpa [flatL_snoc] using h'
  · rw [e]; simp; exact ⟨by omega, fun hh => hlen.2 hh⟩
/-- the walk of one round ends so -/
theorem JI.of {w w1 : World} {l : List (Int × Int)} {x q : Int × Int} {k : Nat} {out out' : List (Int × Int)} {put put' : Bool} {y y' : Int × Int} {v' : Value}
    (hst : jst (l.take k) x = (out, put, y)) (hq : l[k]? = some q) (he : jstep (out, put, y) q = (out', put', y')) (hjc : JC w y' w1) (hown : w1.ownsRow (w.heap.size + 1) 23 2 v' out'.length (flatL out')) (hsm : Sm y') (hlen : out'.length ≤ k + 1 + 1 ∧ (put' = false → out'.length ≤ k + 1)) : JI w l x (k + 1) v' (.bool put') w1 := by
  have e : jst (l.take (k + 1)) x = (out', put', y') := by rw [jst_succ hq, hst, he]
  exact ⟨by rw [e], by rw [e]; exact hjc, by rw [e]; exact hown, by rw [e]; exact hsm, by rw [e]; exact hlen⟩
theorem own_snoc {w : World} {B : Nat} {v : Value} {l : List (Int × Int)} {q : Int × Int} (h : w.ownsRow B 23 2 v (l.length + 1) (flatL l ++ [.int .i64 q.1, .int .i64 q.2])) : w.ownsRow B 23 2 v (l ++ [q]).length (flatL (l ++ [q])) := by
  simpa [flatL_snoc] using h
def JPost (w : World) (L : List (Int × Int)) (e : Ending) (w' : World) : Prop := ∃ v, e = .returned v ∧ Below w.heap.size w w' ∧ w'.ownsRow (w.heap.size + 1) 23 2 v L.length (flatL L)
theorem news2 {W : World} {b : Nat} {q : Int × Int} (h0 : W.cell? ⟨b, 0, none⟩ = some (.int .i64 q.1)) (h1 : W.cell? ⟨b, 1, none⟩ = some (.int .i64 q.2)) : ∀ j u, ([.int .i64 q.1, .int .i64 q.2] : List Value)[j]? = some u → W.cell? ((⟨b, 0, none⟩ : Addr).add j) = some u := by
  intro j u hj
  match j with
  | 0 => simp at hj; subst hj; exact h0
  | 1 => simp at hj; subst hj; exact h1
  | j + 2 => simp at hj
theorem new2 (W : World) (q : Int × Int) : ∀ j u, ([.int .i64 q.1, .int .i64 q.2] : List Value)[j]? = some u → (W.alloc (.cells #[.int .i64 q.1, .int .i64 q.2] 23)).cell? ((⟨W.heap.size, 0, none⟩ : Addr).add j) = some u := news2 (by go_simp) (by go_simp)
theorem own_up {W W' : World} {B n : Nat} {e : TypeId} {v : Value} {xs : List Value} (h : W.ownsRow B e 2 v n xs) (hb : Below W.heap.size W W') : W'.ownsRow B e 2 v n xs := by
  obtain ⟨h1, h2 | ⟨g, cap, cur, rfl, e3, e4⟩⟩ := id h
  · exact ⟨h1, .inl h2⟩
  · exact ownsRow_keep h hb
theorem grown_set (W : World) (b o : Nat) (u : Value) : W.grownBy (W.setCell ⟨b, o, none⟩ u) (some b) := by
  refine ⟨rfl, rfl, rfl, by simp, fun k hk hne => ?_⟩
  have hne' : b ≠ k := fun e => hne (by rw [e])
  simp only [World.setCell, Array.getElem?_modify, if_neg hne']
theorem own_set {W : World} {B n : Nat} {e : TypeId} {v : Value} {xs : List Value} (h : W.ownsRow B e 2 v n xs) {b : Nat} (hb : b < B) (o : Nat) (u : Value) : (W.setCell ⟨b, o, none⟩ u).ownsRow B e 2 v n xs := by
  refine h.kept (grown_set W b o u) (.inr fun e => ?_)
  have := (h.lt b e).1
  omega
end Go.Proofs.Ytmeljcbefnojfaa
