/- What the laws' walks carry: the boxes of a clock and of what is asked. -/
import Derived.Test.YtpikaohodieeaaaQfAwk
namespace Go.Proofs.Ytpikaohodieeaaa
open Go.RowKit
set_option linter.unusedSimpArgs false
set_option linter.unusedVariables false
structure HasCl (c : Clo) (b : Nat) (w : World) : Prop where
  c0 : w.cell? ⟨b, 0, none⟩ = some (.slice c.d.RA c.d.n c.d.rc)
  c1 : w.cell? ⟨b, 1, none⟩ = some (.slice c.d.SA c.d.m c.d.sc)
  c2 : w.cell? ⟨b, 2, none⟩ = some (.slice c.MA c.m c.mc)
theorem HasCl.lt {c : Clo} {b : Nat} {w : World} (h : HasCl c b w) : b < w.heap.size := World.block_lt_of_cell? _ _ h.c0
theorem HasCl.up {c : Clo} {b : Nat} {w w' : World} (h : HasCl c b w) (hb : Below w.heap.size w w') : HasCl c b w' := ⟨cell_up hb h.lt h.c0, cell_up hb h.lt h.c1, cell_up hb h.lt h.c2⟩
theorem cl_new (w : World) (c : Clo) : HasCl c w.heap.size (w.alloc (cloO c)) := ⟨by go_simp, by go_simp, by go_simp⟩
structure HasAk (x : Aks) (b : Nat) (w : World) : Prop where
  c : ∀ i v, x.cs[i]? = some v → w.cell? ⟨b, i, none⟩ = some v
theorem HasAk.lt {x : Aks} {b : Nat} {w : World} (h : HasAk x b w) : b < w.heap.size := World.block_lt_of_cell? _ _ (h.c 0 _ rfl)
theorem HasAk.up {x : Aks} {b : Nat} {w w' : World} (h : HasAk x b w) (hb : Below w.heap.size w w') : HasAk x b w' := ⟨fun i v hv => cell_up hb h.lt (h.c i v hv)⟩
theorem ak_new (w : World) (x : Aks) : HasAk x w.heap.size (w.alloc (askO x)) := ⟨fun i v hv => by
  have hi := (Array.getElem?_eq_some_iff.1 hv).1
  have hi : i < 15 := hi
  match i, hi with
  | 0, _ => cases hv; go_simp
  | 1, _ => cases hv; go_simp
  | 2, _ => cases hv; go_simp
  | 3, _ => cases hv; go_simp
  | 4, _ => cases hv; go_simp
  | 5, _ => cases hv; go_simp
  | 6, _ => cases hv; go_simp
  | 7, _ => cases hv; go_simp
  | 8, _ => cases hv; go_simp
  | 9, _ => cases hv; go_simp
  | 10, _ => cases hv; go_simp
  | 11, _ => cases hv; go_simp
  | 12, _ => cases hv; go_simp
  | 13, _ => cases hv; go_simp
  | 14, _ => cases hv; go_simp⟩
/-- the world behind both boxes -/
abbrev w2b (c : Clo) (x : Aks) (w : World) : World := (w.alloc (cloO c)).alloc (askO x)
theorem w2b_below (c : Clo) (x : Aks) (w : World) : Below w.heap.size w (w2b c x w) := box2 _ _ _
theorem w2b_cl (c : Clo) (x : Aks) (w : World) : HasCl c w.heap.size (w2b c x w) := (cl_new w c).up (box1 _ _)
theorem w2b_ak (c : Clo) (x : Aks) (w : World) : HasAk x (w.heap.size + 1) (w2b c x w) := by
  have h := ak_new (w.alloc (cloO c)) x
  rwa [World.size_alloc] at h
theorem few_ex (c : Clo) : ∃ G : Bool, G = true ↔ Few c := bool_of _
end Go.Proofs.Ytpikaohodieeaaa
