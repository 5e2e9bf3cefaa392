import Derived.Test.YtmeljcbefnojfaaFew
namespace Go.Proofs.Ytmeljcbefnojfaa
open Go.RowKit
theorem Try.infoInt : (Try.prog.info? 3).map (fun i => (i.zero, i.size, i.bytes)) = some (some (.int .i64 0), 1, 8) := by kernel_rfl
/-- the numbers up to k that a test chooses -/
def selL (f : Nat → Bool) (k : Nat) : List Nat := (List.range k).filter f
theorem selL_yes {f : Nat → Bool} {k : Nat} (h : f k = true) : selL f (k + 1) = selL f k ++ [k] := by simp [selL, List.range_succ, h]
theorem selL_no {f : Nat → Bool} {k : Nat} (h : f k = false) : selL f (k + 1) = selL f k := by simp [selL, List.range_succ, h]
theorem selL_le (f : Nat → Bool) (k : Nat) : (selL f k).length ≤ k := by have := List.length_filter_le f (List.range k); simpa [selL] using this
def intsV (l : List Nat) : List Value := l.map fun (i : Nat) => .int .i64 (i : Int)
theorem intsV_snoc (l : List Nat) (k : Nat) : intsV (l ++ [k]) = intsV l ++ [.int .i64 (k : Int)] := by simp [intsV]
/-- a list of numbers and an error are returned; the list is the call's own -/
def IPost (w : World) (L : List Nat) (E : Int) (e : Ending) (w' : World) : Prop := ∃ v, e = .returned (.tuple #[v, .int .i64 E]) ∧ Below w.heap.size w w' ∧ w'.ownsRow w.heap.size 3 1 v L.length (intsV L)
theorem own_mono {w : World} {B C : Nat} {e : TypeId} {size n : Nat} {v : Value} {xs : List Value} (h : w.ownsRow B e size v n xs) (hC : C ≤ B) : w.ownsRow C e size v n xs := by
  obtain ⟨h0, hx | ⟨g, cap, cur, e1, e3, h4⟩⟩ := h
  · exact ⟨h0, .inl hx⟩
  · exact ⟨h0, .inr ⟨g, cap, cur, e1, by omega, h4⟩⟩
theorem own_keep {W W' : World} {B n size : Nat} {e : TypeId} {v : Value} {xs : List Value} (h : W.ownsRow B e size v n xs) (hb : Below W.heap.size W W') : W'.ownsRow B e size v n xs := by
  obtain ⟨h1, h2 | ⟨g, cap, cur, rfl, e3, e4⟩⟩ := id h
  · exact ⟨h1, .inl h2⟩
  · exact ownsRow_keep h hb
theorem new1 (W : World) (x : Int) : ∀ j u, ([.int .i64 x] : List Value)[j]? = some u → (W.alloc (.cells #[.int .i64 x] 3)).cell? ((⟨W.heap.size, 0, none⟩ : Addr).add j) = some u := by
  intro j u hj
  match j with
  | 0 => cases hj; unfold Addr.add; rw [if_pos rfl]; go_simp
  | j + 1 => simp at hj
structure SelI (w : World) (f : Nat → Bool) (k : Nat) (v : Value) (wr : World) : Prop where
  below : Below w.heap.size w wr
  own : wr.ownsRow (w.heap.size + 1) 3 1 v (selL f k).length (intsV (selL f k))
  box : w.heap.size < wr.heap.size
theorem SelI.app {w wr w1 : World} {f : Nat → Bool} {k : Nat} {v v' : Value} {o : Obj} (h : SelI w f k v wr) (hf : f k = true) (hg : (wr.alloc o).grownBy w1 v.ownBlock)
    (h' : w1.ownsRow (w.heap.size + 1) 3 1 v' ((selL f k).length + 1) (intsV (selL f k) ++ [.int .i64 (k : Int)])) : SelI w f (k + 1) v' w1 := by
  obtain ⟨h1, h2, h3⟩ := h
  refine ⟨?_, ?_, ?_⟩
  · refine (h1.alloc h1.size o).grown hg (by simp only [World.size_alloc]; omega) (fun r e => ?_)
    obtain ⟨_, hx | ⟨g, cap, cur, e1, e3, _⟩⟩ := h2
    · rw [hx.1] at e; cases e
    · rw [e1] at e
      simp [Value.ownBlock] at e
      omega
  · rw [selL_yes hf, intsV_snoc, List.length_append]; exact h'
  · have := hg.size; simp only [World.size_alloc] at this; omega
theorem SelI.skip {w wr : World} {f : Nat → Bool} {k : Nat} {v : Value} (h : SelI w f k v wr) (hf : f k = false) : SelI w f (k + 1) v wr := by
  obtain ⟨h1, h2, h3⟩ := h
  exact ⟨h1, by rw [selL_no hf]; exact h2, h3⟩
end Go.Proofs.Ytmeljcbefnojfaa
