/- What the laws' walks carry: the boxes of a clock and of what is asked. -/
import Derived.Test.YtpikaohodieeaaaAwk
namespace Go.Proofs.Ytpikaohodieeaaa
open Go.RowKit
set_option linter.unusedSimpArgs false
set_option linter.unusedVariables false
structure HasCl (c : Clo) (b : Nat) (w : World) : Prop where
  c0 : w.cell? ⟨b, 0, none⟩ = some (.slice c.d.RA c.d.n c.d.rc)
  c1 : w.cell? ⟨b, 1, none⟩ = some (.slice c.d.SA c.d.m c.d.sc)
  c2 : w.cell? ⟨b, 2, none⟩ = some (.slice c.MA c.m c.mc)
theorem HasCl.lt {c : Clo} {b : Nat} {w : World} (h : HasCl c b w) : b < w.heap.size := World.block_lt_of_cell? _ _ h.c0
theorem HasCl.up {c : Clo} {b : Nat} {w w' : World} (h : HasCl c b w) (hb : Below w.heap.size w w') : HasCl c b w' := ⟨cell_up hb h.lt h.c0, cell_up hb h.lt h.c1, cell_up hb h.lt h.c2⟩
theorem cl_new (w : World) (c : Clo) : HasCl c w.heap.size (w.alloc (cloO c)) := ⟨by go_simp, by go_simp, by go_simp⟩
structure HasAk (x : Aks) (b : Nat) (w : World) : Prop where
  c : ∀ i v, x.cs[i]? = some v → w.cell? ⟨b, i, none⟩ = some v
theorem HasAk.lt {x : Aks} {b : Nat} {w : World} (h : HasAk x b w) : b < w.heap.size := World.block_lt_of_cell? _ _ (h.c 0 _ rfl)
theorem HasAk.up {x : Aks} {b : Nat} {w w' : World} (h : HasAk x b w) (hb : Below w.heap.size w w') : HasAk x b w' := ⟨fun i v hv => cell_up hb h.lt (h.c i v hv)⟩
theorem ak_new (w : World) (x : Aks) : HasAk x w.heap.size (w.alloc (askO x)) := ⟨fun i v hv => by
  have hi := (Array.getElem?_eq_some_iff.1 hv).1
  have hi : i < 15 := hi
  match i, hi with
  | 0, _ => cases hv; go_simp
  | 1, _ => cases hv; go_simp
  | 2, _ => cases hv; go_simp
  | 3, _ => cases hv; go_simp
  | 4, _ => cases hv; go_simp
  | 5, _ => cases hv; go_simp
  | 6, _ => cases hv; go_simp
  | 7, _ => cases hv; go_simp
  | 8, _ => cases hv; go_simp
  | 9, _ => cases hv; go_simp
  | 10, _ => cases hv; go_simp
  | 11, _ => cases hv; go_simp
  | 12, _ => cases hv; go_simp
  | 13, _ => cases hv; go_simp
  | 14, _ => cases hv; go_simp⟩
/-- the world behind both boxes -/
abbrev w2b (c : Clo) (x : Aks) (w : World) : World := (w.alloc (cloO c)).alloc (askO x)
theorem w2b_below (c : Clo) (x : Aks) (w : World) : Below w.heap.size w (w2b c x w) := box2 _ _ _
theorem w2b_cl (c : Clo) (x : Aks) (w : World) : HasCl c w.heap.size (w2b c x w) := (cl_new w c).up (box1 _ _)
theorem w2b_ak (c : Clo) (x : Aks) (w : World) : HasAk x (w.heap.size + 1) (w2b c x w) := by
  have h := ak_new (w.alloc (cloO c)) x
  rwa [World.size_alloc] at h
/-- the box of a pair, stored to -/
theorem Bt.kept {b : Nat} {x y : Int} {W W' : World} {row : Option Nat} (h : Bt b x y W) (hg : W.grownBy W' row) (hne : some b ≠ row) : Bt b x y W' :=
  ⟨cell_row hg h.lt hne h.c0, cell_row hg h.lt hne h.c1, frozen_row hg h.lt hne h.f0, frozen_row hg h.lt hne h.f1⟩
theorem HasCl.low {c : Clo} {b B : Nat} {w w' : World} (h : HasCl c b w) (hb : Below B w w') (hl : b < B) : HasCl c b w' := ⟨low_cell hb hl h.c0, low_cell hb hl h.c1, low_cell hb hl h.c2⟩
theorem HasAk.low {x : Aks} {b B : Nat} {w w' : World} (h : HasAk x b w) (hb : Below B w w') (hl : b < B) : HasAk x b w' := ⟨fun i v hv => low_cell hb hl (h.c i v hv)⟩
theorem few_ex (c : Clo) : ∃ G : Bool, G = true ↔ Few c := bool_of _
/-- a list of numbers in memory -/
def LiR (A : Option Addr) (n : Nat) (Z : Nat → Int) (w : World) : Prop := IntsIn A n Z w.heap.size w
theorem LiR.up {A : Option Addr} {n : Nat} {Z : Nat → Int} {w w' : World} (h : LiR A n Z w) (hb : Below w.heap.size w w') : LiR A n Z w' := (IntsIn.up h hb (Nat.le_refl _)).more hb.size
theorem ear_ok (d : Drm) (MA : Option Addr) (m mc : Nat) (F : Nat → Int × Int × Int) (S : Nat → Int × Int) (w : World) (hin : DrIn d w.heap.size w) (hm : TrsIn MA m F w.heap.size w) (hE : RdR d m F true 0 S) :
    Calls Try.prog 37 #[d.v, .slice MA m mc] w fun e w' => ∃ A k, e = .returned (.tuple #[.slice A (d.n + 1) k, .int .i64 0]) ∧ LiR A (d.n + 1) (fun i => (S i).1) w' ∧ Below w.heap.size w w' := by
  refine (Earliest_any d MA m mc F 0 S w hin hm hE).mono ?_
  rintro e w' ⟨A, q, k, rfl, hq, hi, hb⟩
  obtain rfl : q = d.n + 1 := hq.trans (if_pos rfl)
  exact ⟨A, k, rfl, hi, hb⟩
theorem lat_ok (d : Drm) (MA : Option Addr) (m mc : Nat) (F : Nat → Int × Int × Int) (S : Nat → Int × Int) (w : World) (hin : DrIn d w.heap.size w) (hm : TrsIn MA m F w.heap.size w) (hE : RdR d m F true 0 S) :
    Calls Try.prog 39 #[d.v, .slice MA m mc] w fun e w' => ∃ A k, e = .returned (.tuple #[.slice A (d.n + 1) k, .int .i64 0]) ∧ LiR A (d.n + 1) (fun i => (S i).2) w' ∧ Below w.heap.size w w' := by
  refine (Latest_any d MA m mc F 0 S w hin hm hE).mono ?_
  rintro e w' ⟨A, q, k, rfl, hq, hi, hb⟩
  obtain rfl : q = d.n + 1 := hq.trans (if_pos rfl)
  exact ⟨A, k, rfl, hi, hb⟩
theorem ear_no (d : Drm) (MA : Option Addr) (m mc : Nat) (F : Nat → Int × Int × Int) (E : Int) (S : Nat → Int × Int) (w : World) (hin : DrIn d w.heap.size w) (hm : TrsIn MA m F w.heap.size w) (hE : RdR d m F true E S) (hn : ¬ E = 0) :
    Calls Try.prog 37 #[d.v, .slice MA m mc] w fun e w' => ∃ A k, e = .returned (.tuple #[.slice A 0 k, .int .i64 E]) ∧ LiR A 0 (fun i => (S i).1) w' ∧ Below w.heap.size w w' := by
  refine (Earliest_any d MA m mc F E S w hin hm hE).mono ?_
  rintro e w' ⟨A, q, k, rfl, hq, hi, hb⟩
  obtain rfl : q = 0 := hq.trans (if_neg hn)
  exact ⟨A, k, rfl, hi, hb⟩
theorem lat_no (d : Drm) (MA : Option Addr) (m mc : Nat) (F : Nat → Int × Int × Int) (E : Int) (S : Nat → Int × Int) (w : World) (hin : DrIn d w.heap.size w) (hm : TrsIn MA m F w.heap.size w) (hE : RdR d m F true E S) (hn : ¬ E = 0) :
    Calls Try.prog 39 #[d.v, .slice MA m mc] w fun e w' => ∃ A k, e = .returned (.tuple #[.slice A 0 k, .int .i64 E]) ∧ LiR A 0 (fun i => (S i).2) w' ∧ Below w.heap.size w w' := by
  refine (Latest_any d MA m mc F E S w hin hm hE).mono ?_
  rintro e w' ⟨A, q, k, rfl, hq, hi, hb⟩
  obtain rfl : q = 0 := hq.trans (if_neg hn)
  exact ⟨A, k, rfl, hi, hb⟩
theorem rdR_0 {d : Drm} {m : Nat} {F : Nat → Int × Int × Int} {vd : Bool} {S : Nat → Int × Int} (h : RdR d m F vd 0 S) : vd = true ∧ DrOk d ∧ MksOk d m F ∧ Ends d.n (Rdg d.n (gapF d) m F) S := by
  rcases h with ⟨h, _⟩ | ⟨h1, h2, ⟨_, h⟩ | ⟨_, h, _⟩ | ⟨h3, _, h4⟩⟩
  · omega
  · omega
  · omega
  · exact ⟨h3, h1, h2, h4⟩
/-- where a clock has no reading, none of its lists is one -/
theorem rdR_none {d : Drm} {m : Nat} {F : Nat → Int × Int × Int} {E : Int} {S : Nat → Int × Int} (h : RdR d m F true E S) (hn : ¬ E = 0) : ¬ (DrOk d ∧ MksOk d m F ∧ ∃ T, Rdg d.n (gapF d) m F T) := by
  rintro ⟨k1, k2, T, k3⟩
  rcases h with ⟨h, h2⟩ | ⟨h1, h2, ⟨h, _⟩ | ⟨_, _, h⟩ | ⟨h3, h, h4⟩⟩
  · rcases h2 with ⟨_, h2⟩ | ⟨_, _, h2⟩ | ⟨h2, _⟩
    · exact h2 k1
    · exact h2 k2
    · exact hn h2
  · cases h
  · exact h T k3
  · exact hn h
/-- whether a clock has readings: the answer of Feasible out of that of Earliest -/
theorem feR_of {d : Drm} {m : Nat} {F : Nat → Int × Int × Int} {E : Int} {S : Nat → Int × Int} (h : RdR d m F true E S) : (E = 0 ∧ FeR d m F true 0) ∨ (¬ E = 0 ∧ FeR d m F false E) ∨ (¬ E = 0 ∧ FeR d m F false 0) := by
  rcases h with ⟨h, h2⟩ | ⟨h1, h2, ⟨h, _⟩ | ⟨_, e, h⟩ | ⟨h3, e, h4⟩⟩
  · exact .inr (.inl ⟨by omega, .inl ⟨h, rfl, h2⟩⟩)
  · cases h
  · exact .inr (.inr ⟨by omega, .inr ⟨rfl, h1, h2, fun e => (Bool.false_ne_true e).elim, fun ⟨T, k⟩ => absurd k (h T)⟩⟩)
  · exact .inl ⟨e, .inr ⟨rfl, h1, h2, fun _ => ⟨_, h4.lo⟩, fun _ => rfl⟩⟩
structure Row3 (w : World) (L1 L2 L3 : List Int) (v1 v2 v3 : Value) (wr : World) : Prop where
  below : Below w.heap.size w wr
  o1 : wr.ownsRow w.heap.size 3 1 v1 L1.length (intsZ L1)
  o2 : wr.ownsRow w.heap.size 3 1 v2 L2.length (intsZ L2)
  o3 : wr.ownsRow w.heap.size 3 1 v3 L3.length (intsZ L3)
  d12 : Parted v1 v2
  d23 : Parted v2 v3
  d31 : Parted v3 v1
theorem Row3.rot {w wr : World} {L1 L2 L3 : List Int} {v1 v2 v3 : Value} (h : Row3 w L1 L2 L3 v1 v2 v3 wr) : Row3 w L2 L3 L1 v2 v3 v1 wr := ⟨h.below, h.o2, h.o3, h.o1, h.d23, h.d31, h.d12⟩
theorem Row3.up {w wr W : World} {L1 L2 L3 : List Int} {v1 v2 v3 : Value} (h : Row3 w L1 L2 L3 v1 v2 v3 wr) (hb : Below wr.heap.size wr W) : Row3 w L1 L2 L3 v1 v2 v3 W :=
  ⟨nextB h.below hb, own_keep h.o1 hb, own_keep h.o2 hb, own_keep h.o3 hb, h.d12, h.d23, h.d31⟩
theorem Row3.app {w W w1 : World} {L1 L2 L3 : List Int} {v1 v2 v3 v' : Value} {z : Int} (h : Row3 w L1 L2 L3 v1 v2 v3 W) (hg : W.grownBy w1 v1.ownBlock)
    (h' : w1.ownsRow w.heap.size 3 1 v' (L1.length + 1) (intsZ L1 ++ [.int .i64 z])) (ha : v'.ownBlock = v1.ownBlock ∨ v'.ownBlock = some W.heap.size) : Row3 w (L1 ++ [z]) L2 L3 v' v2 v3 w1 := by
  have hp : ∀ {u : Value} {n : Nat} {xs : List Value}, W.ownsRow w.heap.size 3 1 u n xs → Parted v1 u → Parted v' u := fun {u n xs} hu hd g hg2 he => by
    rcases ha with e | e
    · exact hd g (by rw [← e]; exact hg2) he
    · rw [e] at hg2
      cases hg2
      have := (own_block hu he).2.1
      omega
  have hk : ∀ {u : Value} {n : Nat} {xs : List Value}, W.ownsRow w.heap.size 3 1 u n xs → Parted v1 u → w1.ownsRow w.heap.size 3 1 u n xs := fun {u n xs} hu hd => hu.kept hg (by
    cases hub : u.ownBlock with
    | none => exact .inl rfl
    | some g => exact .inr fun e => hd g e.symm hub)
  refine ⟨h.below.grown hg h.below.size (fun r e => (own_block h.o1 e).1), ?_, hk h.o2 h.d12, hk h.o3 h.d31.symm, hp h.o2 h.d12, h.d23, (hp h.o3 h.d31.symm).symm⟩
  rw [intsZ_snoc, List.length_append]
  exact h'
end Go.Proofs.Ytpikaohodieeaaa
