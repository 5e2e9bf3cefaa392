/- Wind of package clocks. -/
import Derived.Test.YtpikaohodieeaaaQfHas
namespace Go.Proofs.Ytpikaohodieeaaa
open Go.RowKit
set_option linter.unusedSimpArgs false
set_option linter.unusedVariables false
section
variable {P : Program} {Q : Exit → Act → World → Prop} {md : Region.Mode} {T : World → Prop} {L : List Nat}
/-- three operations may come up: any way -/
theorem M_fork3 {l r r' r'' : List Oper} {o o' o'' : Oper} {g : Nat} {listed : Array Bool} {a : Act} {w : World} (i j k : Nat) (hi : l.drop i = o :: r) (hj : l.drop j = o' :: r') (hk3 : l.drop k = o'' :: r'') (hr : Region.ready md l.toArray listed = [i, j, k])
  (h : ∀ K' : Act → World → Prop, Hid (∀ a w, (L.contains i = false → T w) → wpM P md l.toArray Q T L g (listed.setIfInBounds i true) a w → K' a w) → if Region.wanted o (yielded l.toArray a.tmps) = true then Oper.wp P o a w K' Q else K' (a.put o.dst undef) w)
  (h' : ∀ K' : Act → World → Prop, Hid (∀ a w, (L.contains j = false → T w) → wpM P md l.toArray Q T L g (listed.setIfInBounds j true) a w → K' a w) → if Region.wanted o' (yielded l.toArray a.tmps) = true then Oper.wp P o' a w K' Q else K' (a.put o'.dst undef) w)
  (h'' : ∀ K' : Act → World → Prop, Hid (∀ a w, (L.contains k = false → T w) → wpM P md l.toArray Q T L g (listed.setIfInBounds k true) a w → K' a w) → if Region.wanted o'' (yielded l.toArray a.tmps) = true then Oper.wp P o'' a w K' Q else K' (a.put o''.dst undef) w) :
  wpM P md l.toArray Q T L (g + 1) listed a w := fun hc hs =>
 ⟨fun e => (by rw [hr] at e; cases e), fun q hq => by
  have hq' := hq
  rw [hr] at hq
  rcases List.mem_cons.1 hq with rfl | hq
  ·exact wpOp_step (at_drop hi) fun K' hK => h K' (Lib.hid fun a w hT hW => hK a w ⟨hT, hW (hc.next hq') hs⟩)
  ·rcases List.mem_cons.1 hq with rfl | hq
   ·exact wpOp_step (at_drop hj) fun K' hK => h' K' (Lib.hid fun a w hT hW => hK a w ⟨hT, hW (hc.next hq') hs⟩)
   ·obtain rfl : q = k := by simpa using hq
    exact wpOp_step (at_drop hk3) fun K' hK => h'' K' (Lib.hid fun a w hT hW => hK a w ⟨hT, hW (hc.next hq') hs⟩)⟩
end
/-- a box of two values -/
structure Bv (b : Nat) (x y : Value) (w : World) : Prop where
 c0 : w.cell? ⟨b, 0, none⟩ = some x
 c1 : w.cell? ⟨b, 1, none⟩ = some y
 f0 : w.frozen? ⟨b, 0, none⟩ = false
 f1 : w.frozen? ⟨b, 1, none⟩ = false
theorem Bv.lt {b : Nat} {x y : Value} {w : World} (h : Bv b x y w) : b < w.heap.size := World.block_lt_of_cell? _ _ h.c0
theorem Bv.up {b : Nat} {x y : Value} {w w' : World} (h : Bv b x y w) (hb : Below w.heap.size w w') : Bv b x y w' := ⟨cell_up hb h.lt h.c0, cell_up hb h.lt h.c1, low_frozen hb h.lt h.f0, low_frozen hb h.lt h.f1⟩
theorem Bv.new (w : World) (t : TypeId) (x y : Value) : Bv w.heap.size x y (w.alloc (.cells #[x, y] t)) := ⟨by go_simp, by go_simp, by unfold World.frozen?; rw [World.alloc_heap_new]; simp, by unfold World.frozen?; rw [World.alloc_heap_new]; simp⟩
theorem Bv.store {b : Nat} {x y : Value} {w : World} (h : Bv b x y w) (u v : Value) : Bv b u v ((w.setCell ⟨b, 0, none⟩ u).setCell ⟨b, 1, none⟩ v) := by
 have e1 : (w.setCell ⟨b, 0, none⟩ u).cell? ⟨b, 1, none⟩ = some y := by rw [World.cell?_setCell_other _ _ _ _ (by intro e; cases e)]; exact h.c1
 refine ⟨?_, ?_, by rw [World.frozen?_setCell, World.frozen?_setCell]; exact h.f0, by rw [World.frozen?_setCell, World.frozen?_setCell]; exact h.f1⟩
 ·rw [World.cell?_setCell_other _ _ _ _ (by intro e; cases e), World.cell?_setCell_same' _ _ _ (by rw [h.c0]; rfl)]
 ·rw [World.cell?_setCell_same' _ _ _ (by rw [e1]; rfl)]
theorem Bv.kept {b : Nat} {x y : Value} {W W' : World} {row : Option Nat} (h : Bv b x y W) (hg : W.grownBy W' row) (hne : some b ≠ row) : Bv b x y W' :=
 ⟨cell_row hg h.lt hne h.c0, cell_row hg h.lt hne h.c1, frozen_row hg h.lt hne h.f0, frozen_row hg h.lt hne h.f1⟩
theorem Bv.other {b G o : Nat} {x y u : Value} {w : World} (h : Bv b x y w) (hne : b ≠ G) : Bv b x y (w.setCell ⟨G, o, none⟩ u) :=
 ⟨cell_ne h.c0 hne, cell_ne h.c1 hne, by rw [World.frozen?_setCell]; exact h.f0, by rw [World.frozen?_setCell]; exact h.f1⟩
/-- a drum with a further stop, wherever it lies -/
abbrev wnd (d : Drm) (p : Int × Int × Int) (RA : Option Addr) (rc : Nat) (SA : Option Addr) (sc : Nat) : Drm := ⟨RA, d.n, rc, d.G, SA, d.m + 1, sc, catF d.m d.S fun _ => p⟩
def WOk (d : Drm) (p : Int × Int × Int) : Prop := DrOk (wnd d p none 0 none 0)
theorem wok_iff (d : Drm) (p : Int × Int × Int) (RA : Option Addr) (rc : Nat) (SA : Option Addr) (sc : Nat) : DrOk (wnd d p RA rc SA sc) ↔ WOk d p :=
 ⟨fun h => ⟨h.n1, h.n2, h.m, h.rates, h.stops⟩, fun h => ⟨h.n1, h.n2, h.m, h.rates, h.stops⟩⟩
/-- the error of Wind -/
def WnR (d : Drm) (p : Int × Int × Int) (E : Int) : Prop :=
 (E = 20 ∧ ¬ DrOk d) ∨ (E = 2 ∧ DrOk d ∧ d.m = 16) ∨ (E = 1 ∧ DrOk d ∧ ¬ d.m = 16 ∧ ¬ WOk d p) ∨ (E = 0 ∧ DrOk d ∧ ¬ d.m = 16 ∧ WOk d p)
theorem wnR_ex (d : Drm) (p : Int × Int × Int) : ∃ E, WnR d p E := by
 by_cases h : DrOk d
 ·by_cases h2 : d.m = 16
  ·exact ⟨2, .inr (.inl ⟨rfl, h, h2⟩)⟩
  ·by_cases h3 : WOk d p
   ·exact ⟨0, .inr (.inr (.inr ⟨rfl, h, h2, h3⟩))⟩
   ·exact ⟨1, .inr (.inr (.inl ⟨rfl, h, h2, h3⟩))⟩
 ·exact ⟨20, .inl ⟨rfl, h⟩⟩
/-- what Wind returns -/
def WnP (d : Drm) (p : Int × Int × Int) (E : Int) (w : World) (e : Ending) (w' : World) : Prop :=
 Below w.heap.size w w' ∧ ((¬ E = 0 ∧ e = .returned (.tuple #[.agg #[.slice none 0 0, .slice none 0 0], .int .i64 E])) ∨
  (E = 0 ∧ ∃ RA rc SA sc, e = .returned (.tuple #[(wnd d p RA rc SA sc).v, .int .i64 0]) ∧ DrIn (wnd d p RA rc SA sc) w'.heap.size w'))
theorem drIn_wnd {d : Drm} {p : Int × Int × Int} {g rc : Nat} {h sc : Nat} {w : World} (h1 : SpR g d.n d.G w) (hn : d.n ≤ 1000) (h2 : TrsIn (some ⟨h, 0, none⟩) (d.m + 1) (catF d.m d.S fun _ => p) w.heap.size w) : DrIn (wnd d p (some ⟨g, 0, none⟩) rc (some ⟨h, 0, none⟩) sc) w.heap.size w := ⟨h1.sps hn, h2⟩
theorem TrsIn.oth {g n : Nat} {F : Nat → Int × Int × Int} {B : Nat} {w : World} {G o : Nat} {u : Value} (h : TrsIn (some ⟨g, 0, none⟩) n F B w) (hne : g ≠ G) : TrsIn (some ⟨g, 0, none⟩) n F B (w.setCell ⟨G, o, none⟩ u) :=
 ⟨h.1, fun i hi => by
  obtain ⟨a, e, l, h1, h2, h3⟩ := h.2 i hi
  cases e
  exact ⟨_, rfl, l, keepA h1 (by rw [add_block]; exact hne), keepA h2 (by simp only [add_block]; exact hne), keepA h3 (by simp only [add_block]; exact hne)⟩⟩
attribute [local go_sem] Oper.semAt_some
set_option maxRecDepth 100000 in
set_option maxHeartbeats 40000000 in
theorem Wind_any (d : Drm) (p : Int × Int × Int) (E : Int) (w : World) (hin : DrIn d w.heap.size w) (hE : WnR d p E) :
  Calls Try.prog 29 #[d.v, Mk p] w (WnP d p E w) := by
 obtain ⟨p0, p1, p2⟩ := p
 obtain ⟨w1, hw1⟩ : ∃ w1 : World, w1 = ((w.alloc (drO d)).alloc (.cells #[.int .i64 p0, .int .i64 p1, .int .i64 p2] 34)).alloc (drO ⟨none, 0, 0, fun _ => (0, 0), none, 0, 0, fun _ => (0, 0, 0)⟩) := ⟨_, rfl⟩
 have hb1 : Below w.heap.size w w1 := by rw [hw1]; exact box3 _ _ _ _
 have P1 : HasDr d w.heap.size w1 := by rw [hw1]; exact (dr_new w d).up (box2 _ _ _)
 have S1 : Tr3 (p0, p1, p2) (w.heap.size + 1) w1 := by rw [hw1]; have h := (tr3_new (w.alloc (drO d)) (p0, p1, p2) 34).up (box1 _ (drO ⟨none, 0, 0, fun _ => (0, 0), none, 0, 0, fun _ => (0, 0, 0)⟩)); rw [World.size_alloc] at h; exact h
 have R1 : Bv (w.heap.size + 1 + 1) (.slice none 0 0) (.slice none 0 0) w1 := by rw [hw1]; have h := Bv.new ((w.alloc (drO d)).alloc (.cells #[.int .i64 p0, .int .i64 p1, .int .i64 p2] 34)) 25 (.slice none 0 0) (.slice none 0 0); simp only [World.size_alloc] at h; exact h
 have DD : Hid (∀ W, Below w.heap.size w W → DrIn d W.heap.size W) := Lib.hid fun W h => (hin.up h (Nat.le_refl _)).more h.size
 obtain ⟨E1, hE1⟩ : ∃ E1 : Int, (E1 = 0 ∧ DrOk d) ∨ (E1 = 20 ∧ ¬ DrOk d) := by
  by_cases h : DrOk d
  ·exact ⟨0, .inl ⟨rfl, h⟩⟩
  ·exact ⟨20, .inr ⟨rfl, h⟩⟩
 have K1 := Lib.hid fun W h => Check_any d E1 W (DD.out W h) hE1
 have HE := Lib.hid hE
 have HE1 := Lib.hid hE1
 have D := Lib.hid hb1
 have P := Lib.hid P1
 have S := Lib.hid S1
 have R := Lib.hid R1
 have hw1' := hw1
 simp only [drO] at hw1'
 have HW1 := Lib.hid hw1'
 clear hin hE hE1 hb1 P1 S1 R1 hw1 hw1'
 obtain ⟨x0, x1⟩ := P.out
 have zP := P.out.lt
 go_enter Try.func29, Try.ntmps29
 go_wp2_with fail
 rw [← HW1.out]
 refine (K1.out w1 D.out).mono ?_
 rintro e w2 ⟨rfl, hb⟩
 have J := Lib.hid hb
 have D := Lib.hid (nextB D.out hb)
 have P := Lib.hid (P.out.up hb)
 have S := Lib.hid (S.out.up hb)
 have R := Lib.hid (R.out.up hb)
 clear hb x0 x1 zP
 obtain ⟨x0, x1⟩ := P.out
 obtain ⟨r0, r1, r2, r3⟩ := R.out
 have zP := P.out.lt
 have zR := R.out.lt
 rcases HE1.out with ⟨rfl, hd⟩ | ⟨rfl, hnd⟩
 ·have HD := Lib.hid hd
  clear hd
  by_cases h16 : d.m = 16
  ·obtain rfl : E = 2 := by
    rcases HE.out with ⟨_, h⟩ | ⟨h, _⟩ | ⟨_, _, h, _⟩ | ⟨_, _, h, _⟩
    ·exact absurd HD.out h
    ·exact h
    ·exact absurd h16 h
    ·exact absurd h16 h
   have d1 : (d.m == 16) = true := by simpa using h16
   have d2 : ((d.m : Int) == 16) = true := by simpa using (by omega : (d.m : Int) = 16)
   clear h16
   have hq := R.out.store (.slice none 0 0) (.slice none 0 0)
   have hfb : Below w.heap.size w ((w2.setCell ⟨w.heap.size + 1 + 1, 0, none⟩ (.slice none 0 0)).setCell ⟨w.heap.size + 1 + 1, 1, none⟩ (.slice none 0 0)) := set1 (set1 D.out (by omega) _ _) (by omega) _ _
   have HQ := Lib.hid hq
   have HFB := Lib.hid hfb
   clear hq hfb
   go_wp2_with fail
   obtain ⟨wf, hwf⟩ : ∃ wf : World, wf = ((w2.setCell ⟨w.heap.size + 1 + 1, 0, none⟩ (.slice none 0 0)).setCell ⟨w.heap.size + 1 + 1, 1, none⟩ (.slice none 0 0)) := ⟨_, rfl⟩
   have HF2 := HFB.out
   have HQ2 := HQ.out
   rw [← hwf] at HF2 HQ2 ⊢
   obtain ⟨q0, q1, _, _⟩ := HQ2
   exact bodyPost_ret (v := .tuple #[.agg #[.slice none 0 0, .slice none 0 0], .int .i64 2]) (by simp [results, Try.results29, go_sem, q0, q1]) rfl ⟨HF2, .inl ⟨by omega, rfl⟩⟩
  ·have d1 : (d.m == 16) = false := by simpa using h16
   have d2 : ((d.m : Int) == 16) = false := by simpa using (by omega : ¬ (d.m : Int) = 16)
   have hE3 : (E = 1 ∧ ¬ WOk d (p0, p1, p2)) ∨ (E = 0 ∧ WOk d (p0, p1, p2)) := by
    rcases HE.out with ⟨_, h⟩ | ⟨_, _, h⟩ | ⟨h, _, _, h2⟩ | ⟨h, _, _, h2⟩
    ·exact absurd HD.out h
    ·exact absurd h h16
    ·exact .inl ⟨h, h2⟩
    ·exact .inr ⟨h, h2⟩
   have HE3 := Lib.hid hE3
   have hdn : d.n ≤ 200 := by have := HD.out.n2; omega
   have hdm : d.m ≤ 16 := HD.out.m
   obtain ⟨s0, s1, s2⟩ := S.out
   have zS := S.out.lt
   clear h16 hE3 HE
   go_wp2_with fail
   refine wp_region_M [11] (fun w' => w'.cell? ⟨w.heap.size, 0, none⟩ = some (.slice d.RA d.n d.rc) ∧ w'.cell? ⟨w.heap.size, 1, none⟩ = some (.slice d.SA d.m d.sc) ∧ w'.cell? ⟨w.heap.size + 1, 0, none⟩ = some (.int .i64 p0) ∧ w'.cell? ⟨w.heap.size + 1, 1, none⟩ = some (.int .i64 p1) ∧ w'.cell? ⟨w.heap.size + 1, 2, none⟩ = some (.int .i64 p2)) (by kernel_rfl) (by kernel_rfl) (by (try dsimp only); (repeat' apply And.intro); all_goals first | assumption | (go_simp; done)) (fun hT0 => ?_)
   have hbw2 : Below w2.heap.size w2 w2 := Below.refl _ _
   refine M_take (v := ?_) 0 rfl (by kernel_rfl) (by assumption) (fun _ _ _ h => h) (Or.inl ⟨by rfl, ?_⟩) ?_
   rotate_left
   ·(intro w hSw; (try dsimp only at hSw); go_simp; (try with_reducible rfl))
   (try simp only [Act.put, List.setIfInBounds_toArray, List.set_cons_zero, List.set_cons_succ])
   refine M_take (v := ?_) 1 rfl (by kernel_rfl) (by assumption) (fun _ _ _ h => h) (Or.inl ⟨by rfl, ?_⟩) ?_
   rotate_left
   ·(intro w hSw; (try dsimp only at hSw); go_simp; (try with_reducible rfl))
   (try simp only [Act.put, List.setIfInBounds_toArray, List.set_cons_zero, List.set_cons_succ])
   refine M_take (v := ?_) 3 rfl (by kernel_rfl) (by assumption) (fun _ _ _ h => h) (Or.inl ⟨by rfl, ?_⟩) ?_
   rotate_left
   ·(intro w hSw; (try dsimp only at hSw); go_simp; (try with_reducible rfl))
   (try simp only [Act.put, List.setIfInBounds_toArray, List.set_cons_zero, List.set_cons_succ])
   refine M_take (v := ?_) 4 rfl (by kernel_rfl) (by assumption) (fun _ _ _ h => h) (Or.inl ⟨by rfl, ?_⟩) ?_
   rotate_left
   ·(intro w hSw; (try dsimp only at hSw); go_simp; (try with_reducible rfl))
   (try simp only [Act.put, List.setIfInBounds_toArray, List.set_cons_zero, List.set_cons_succ])
   refine M_take (v := ?_) 5 rfl (by kernel_rfl) (by assumption) (fun _ _ _ h => h) (Or.inl ⟨by rfl, ?_⟩) ?_
   rotate_left
   ·(intro w hSw; (try dsimp only at hSw); go_simp; (try with_reducible rfl))
   (try simp only [Act.put, List.setIfInBounds_toArray, List.set_cons_zero, List.set_cons_succ])
   refine M_fork3 2 6 10 rfl rfl rfl (by kernel_rfl) (fun K hK => ?_) (fun K hK => ?_) (fun K hK => ?_)
   ·go_simp
    go_at_call 81
    refine (Clone_any d.RA d.n d.rc d.G w2.drew (DD.out _ (nextB D.out hbw2.drew)).1 HD.out.n1 (by omega)).mono ?_
    rintro e a1 ⟨g, cap, rfl, hg, hcap, hSa1, hq'⟩
    have hqa1 : Below w2.heap.size w2 a1 := nextB (Below.refl _ _).drew hq'
    have hba1 := nextB hbw2 hqa1
    have hg : w2.heap.size ≤ g := hg
    have hg0 : g ≠ w.heap.size + 1 + 1 := by have := hbw2.size; omega
    have hTa1 : (fun w' => w'.cell? ⟨w.heap.size, 0, none⟩ = some (.slice d.RA d.n d.rc) ∧ w'.cell? ⟨w.heap.size, 1, none⟩ = some (.slice d.SA d.m d.sc) ∧ w'.cell? ⟨w.heap.size + 1, 0, none⟩ = some (.int .i64 p0) ∧ w'.cell? ⟨w.heap.size + 1, 1, none⟩ = some (.int .i64 p1) ∧ w'.cell? ⟨w.heap.size + 1, 2, none⟩ = some (.int .i64 p2)) a1 := ⟨(hba1.cell (World.block_lt_of_cell? _ _ x0)).trans x0, (hba1.cell (World.block_lt_of_cell? _ _ x1)).trans x1, (hba1.cell (World.block_lt_of_cell? _ _ s0)).trans s0, (hba1.cell (World.block_lt_of_cell? _ _ s1)).trans s1, (hba1.cell (World.block_lt_of_cell? _ _ s2)).trans s2⟩
    clear hg hcap hq'
    refine hK.out _ _ (fun _ => hTa1) ?_
    clear hK K
    (try simp only [Act.put, List.setIfInBounds_toArray, List.set_cons_zero, List.set_cons_succ])
    refine M_fork 6 10 rfl rfl (by kernel_rfl) (fun K hK => ?_) (fun K hK => ?_)
    ·go_simp
     obtain ⟨a2, hwa2⟩ : ∃ V : World, V = a1.alloc (.cells #[.int .i64 p0, .int .i64 p1, .int .i64 p2] 34) := ⟨_, rfl⟩
     rw [← hwa2]
     have hqa2 : Below a1.heap.size a1 a2 := by rw [hwa2]; exact box1 _ _
     have hba2 := nextB hba1 hqa2
     have hSa2 := hSa1.up hqa2
     have hma2 : TrsIn (some ⟨a1.heap.size, 0, none⟩) 1 (fun _ => (p0, p1, p2)) a2.heap.size a2 := by
      have hz : Tr3 (p0, p1, p2) a1.heap.size a2 := by rw [hwa2]; exact tr3_new _ (p0, p1, p2) _
      exact trs_one hz
     have hTa2 : (fun w' => w'.cell? ⟨w.heap.size, 0, none⟩ = some (.slice d.RA d.n d.rc) ∧ w'.cell? ⟨w.heap.size, 1, none⟩ = some (.slice d.SA d.m d.sc) ∧ w'.cell? ⟨w.heap.size + 1, 0, none⟩ = some (.int .i64 p0) ∧ w'.cell? ⟨w.heap.size + 1, 1, none⟩ = some (.int .i64 p1) ∧ w'.cell? ⟨w.heap.size + 1, 2, none⟩ = some (.int .i64 p2)) a2 := ⟨(hba2.cell (World.block_lt_of_cell? _ _ x0)).trans x0, (hba2.cell (World.block_lt_of_cell? _ _ x1)).trans x1, (hba2.cell (World.block_lt_of_cell? _ _ s0)).trans s0, (hba2.cell (World.block_lt_of_cell? _ _ s1)).trans s1, (hba2.cell (World.block_lt_of_cell? _ _ s2)).trans s2⟩
     clear hwa2
     refine hK.out _ _ (fun _ => hTa2) ?_
     clear hK K
     (try simp only [Act.put, List.setIfInBounds_toArray, List.set_cons_zero, List.set_cons_succ])
     refine M_fork 7 10 rfl rfl (by kernel_rfl) (fun K hK => ?_) (fun K hK => ?_)
     ·go_simp
      obtain ⟨a3, hwa3⟩ : ∃ V : World, V = a2.alloc (.cells #[.slice d.SA d.m d.sc, .slice (some ⟨a1.heap.size, 0, none⟩) 1 1] 23) := ⟨_, rfl⟩
      rw [← hwa3]
      have hqa3 : Below a2.heap.size a2 a3 := by rw [hwa3]; exact box1 _ _
      have hba3 := nextB hba2 hqa3
      have hma3 := (hma2.up hqa3 (Nat.le_refl _)).more hqa3.size
      have hSa3 := hSa2.up hqa3
      have o0a3 : a3.cell? ⟨a2.heap.size, 0, none⟩ = some (.slice d.SA d.m d.sc) := by rw [hwa3]; go_simp
      have o1a3 : a3.cell? ⟨a2.heap.size, 1, none⟩ = some (.slice (some ⟨a1.heap.size, 0, none⟩) 1 1) := by rw [hwa3]; go_simp
      have hTa3 : (fun w' => w'.cell? ⟨w.heap.size, 0, none⟩ = some (.slice d.RA d.n d.rc) ∧ w'.cell? ⟨w.heap.size, 1, none⟩ = some (.slice d.SA d.m d.sc) ∧ w'.cell? ⟨w.heap.size + 1, 0, none⟩ = some (.int .i64 p0) ∧ w'.cell? ⟨w.heap.size + 1, 1, none⟩ = some (.int .i64 p1) ∧ w'.cell? ⟨w.heap.size + 1, 2, none⟩ = some (.int .i64 p2)) a3 := ⟨(hba3.cell (World.block_lt_of_cell? _ _ x0)).trans x0, (hba3.cell (World.block_lt_of_cell? _ _ x1)).trans x1, (hba3.cell (World.block_lt_of_cell? _ _ s0)).trans s0, (hba3.cell (World.block_lt_of_cell? _ _ s1)).trans s1, (hba3.cell (World.block_lt_of_cell? _ _ s2)).trans s2⟩
      clear hwa3
      refine hK.out _ _ (fun _ => hTa3) ?_
      clear hK K
      (try simp only [Act.put, List.setIfInBounds_toArray, List.set_cons_zero, List.set_cons_succ])
      refine M_fork 8 10 rfl rfl (by kernel_rfl) (fun K hK => ?_) (fun K hK => ?_)
      ·go_simp
       go_at_call 82
       refine (ConcatStop_any a2.heap.size d.SA d.m d.sc d.S ⟨a1.heap.size, 0, none⟩ 1 (p0, p1, p2) _ (by omega) o0a3 o1a3 (DD.out _ (nextB D.out hba3)).2 hma3).mono ?_
       rintro e a4 ⟨cg, ccap, rfl, hcg, hcta4, hqa4⟩
       have hba4 := nextB hba3 hqa4
       have hc0 : cg ≠ w.heap.size + 1 + 1 := by have := hba3.size; omega
       have hSa4 := hSa3.up hqa4
       have hTa4 : (fun w' => w'.cell? ⟨w.heap.size, 0, none⟩ = some (.slice d.RA d.n d.rc) ∧ w'.cell? ⟨w.heap.size, 1, none⟩ = some (.slice d.SA d.m d.sc) ∧ w'.cell? ⟨w.heap.size + 1, 0, none⟩ = some (.int .i64 p0) ∧ w'.cell? ⟨w.heap.size + 1, 1, none⟩ = some (.int .i64 p1) ∧ w'.cell? ⟨w.heap.size + 1, 2, none⟩ = some (.int .i64 p2)) a4 := ⟨(hba4.cell (World.block_lt_of_cell? _ _ x0)).trans x0, (hba4.cell (World.block_lt_of_cell? _ _ x1)).trans x1, (hba4.cell (World.block_lt_of_cell? _ _ s0)).trans s0, (hba4.cell (World.block_lt_of_cell? _ _ s1)).trans s1, (hba4.cell (World.block_lt_of_cell? _ _ s2)).trans s2⟩
       clear hcg
       refine hK.out _ _ (fun _ => hTa4) ?_
       clear hK K
       (try simp only [Act.put, List.setIfInBounds_toArray, List.set_cons_zero, List.set_cons_succ])
       refine M_take (v := ?_) 9 rfl (by kernel_rfl) (by assumption) (fun _ _ _ h => h) (Or.inl ⟨by rfl, ?_⟩) ?_
       rotate_left
       ·(intro w hSw; (try dsimp only at hSw); go_simp; (try with_reducible rfl))
       (try simp only [Act.put, List.setIfInBounds_toArray, List.set_cons_zero, List.set_cons_succ])
       refine M_step 10 rfl (by kernel_rfl) (fun K hK => ?_)
       go_simp
       obtain ⟨a5, hwa5⟩ : ∃ V : World, V = a4.alloc (.cells #[.slice none 0 0, .slice none 0 0] 25) := ⟨_, rfl⟩
       rw [← hwa5]
       have hqa5 : Below a4.heap.size a4 a5 := by rw [hwa5]; exact box1 _ _
       have hba5 := nextB hba4 hqa5
       have hSa5 := hSa4.up hqa5
       have hcta5 := (hcta4.up hqa5 (Nat.le_refl _)).more hqa5.size
       have bxa5 : Bv a4.heap.size (.slice none 0 0) (.slice none 0 0) a5 := by rw [hwa5]; exact Bv.new a4 _ _ _
       have hgb : g ≠ a4.heap.size := by have := hSa4.lt; omega
       have hcb : cg ≠ a4.heap.size := by
        obtain ⟨a', e', l', _⟩ := hcta4.2 0 (by omega)
        cases e'
        have l'' : cg < a4.heap.size := l'
        omega
       have hTa5 : (fun w' => w'.cell? ⟨w.heap.size, 0, none⟩ = some (.slice d.RA d.n d.rc) ∧ w'.cell? ⟨w.heap.size, 1, none⟩ = some (.slice d.SA d.m d.sc) ∧ w'.cell? ⟨w.heap.size + 1, 0, none⟩ = some (.int .i64 p0) ∧ w'.cell? ⟨w.heap.size + 1, 1, none⟩ = some (.int .i64 p1) ∧ w'.cell? ⟨w.heap.size + 1, 2, none⟩ = some (.int .i64 p2)) a5 := ⟨(hba5.cell (World.block_lt_of_cell? _ _ x0)).trans x0, (hba5.cell (World.block_lt_of_cell? _ _ x1)).trans x1, (hba5.cell (World.block_lt_of_cell? _ _ s0)).trans s0, (hba5.cell (World.block_lt_of_cell? _ _ s1)).trans s1, (hba5.cell (World.block_lt_of_cell? _ _ s2)).trans s2⟩
       clear hwa5
       refine hK.out _ _ (fun _ => hTa5) ?_
       clear hK K
       (try simp only [Act.put, List.setIfInBounds_toArray, List.set_cons_zero, List.set_cons_succ])
       refine M_step 11 rfl (by kernel_rfl) (fun K hK => ?_)
       obtain ⟨b0, b1, b2, b3⟩ := id bxa5
       have zb := bxa5.lt
       go_simp
       refine hK.out _ _ (fun e => by cases e) ?_
       clear hK K
       (try simp only [Act.put, List.setIfInBounds_toArray, List.set_cons_zero, List.set_cons_succ])
       refine M_done (by kernel_rfl) ?_ _
       obtain ⟨V, hV⟩ : ∃ V : World, V = ((a5.setCell ⟨a4.heap.size, 0, none⟩ (.slice (some ⟨g, 0, none⟩) d.n cap)).setCell ⟨a4.heap.size, 1, none⟩ (.slice (some ⟨cg, 0, none⟩) (d.m + 1) ccap)) := ⟨_, rfl⟩
       have bxV : Bv a4.heap.size (.slice (some ⟨g, 0, none⟩) d.n cap) (.slice (some ⟨cg, 0, none⟩) (d.m + 1) ccap) V := by rw [hV]; exact bxa5.store _ _
       have hbV : Below w2.heap.size w2 V := by rw [hV]; exact set1 (set1 hba5 hba4.size _ _) hba4.size _ _
       have hSV : SpR g d.n d.G V := by rw [hV]; exact (hSa5.other hgb).other hgb
       have hszV : V.heap.size = a5.heap.size := by rw [hV]; simp only [World.size_setCell]
       have hctV : TrsIn (some ⟨cg, 0, none⟩) (d.m + 1) (catF d.m d.S fun _ => (p0, p1, p2)) V.heap.size V := by rw [hszV, hV]; exact (hcta5.oth hcb).oth hcb
       have hRV : Bv (w.heap.size + 1 + 1) (.slice none 0 0) (.slice none 0 0) V := by rw [hV]; exact ((R.out.up hba5).other (by have := hba4.size; omega)).other (by have := hba4.size; omega)
       have BX := Lib.hid bxV
       have D := Lib.hid (nextB D.out hbV)
       have HSV := Lib.hid hSV
       have HCV := Lib.hid hctV
       have R := Lib.hid hRV
       have HLOW : Hid (g ≠ w.heap.size + 1 + 1 ∧ cg ≠ w.heap.size + 1 + 1) := Lib.hid ⟨hg0, hc0⟩
       rw [← hV]
       clear hV bxV hbV hSV hszV hctV hRV b0 b1 b2 b3 zb x0 x1 s0 s1 s2 zP zS r0 r1 r2 r3 zR hT0 
       obtain ⟨bb, hbb⟩ : ∃ bb, bb = a4.heap.size := ⟨_, rfl⟩
       rw [← hbb] at BX hgb hcb ⊢
       have HGB := Lib.hid (And.intro hgb hcb)
       clear hbb hgb hcb
       obtain ⟨b0, b1, b2, b3⟩ := BX.out
       have zb := BX.out.lt
       obtain ⟨E2, hE2, hEE⟩ : ∃ E2 : Int, ((E2 = 0 ∧ DrOk (wnd d (p0, p1, p2) (some ⟨g, 0, none⟩) cap (some ⟨cg, 0, none⟩) ccap)) ∨ (E2 = 20 ∧ ¬ DrOk (wnd d (p0, p1, p2) (some ⟨g, 0, none⟩) cap (some ⟨cg, 0, none⟩) ccap))) ∧ ((E2 = 20 ∧ E = 1) ∨ (E2 = 0 ∧ E = 0)) := by
        rcases HE3.out with ⟨h, h2⟩ | ⟨h, h2⟩
        ·exact ⟨20, .inr ⟨rfl, fun k => h2 ((wok_iff _ _ _ _ _ _).1 k)⟩, .inl ⟨rfl, h⟩⟩
        ·exact ⟨0, .inl ⟨rfl, (wok_iff _ _ _ _ _ _).2 h2⟩, .inr ⟨rfl, h⟩⟩
       have K2 := Lib.hid (Check_any (wnd d (p0, p1, p2) (some ⟨g, 0, none⟩) cap (some ⟨cg, 0, none⟩) ccap) E2 V (drIn_wnd HSV.out (by omega) HCV.out) hE2)
       have HEE := Lib.hid hEE
       clear hE2 hEE
       go_wp2_with fail
       refine K2.out.mono ?_
       rintro e w4 ⟨rfl, hb⟩
       have J := Lib.hid hb
       have D := Lib.hid (nextB D.out hb)
       have R := Lib.hid (R.out.up hb)
       have BX := Lib.hid (BX.out.up hb)
       have HSV := Lib.hid (HSV.out.up hb)
       have HCV := Lib.hid ((HCV.out.up hb (Nat.le_refl _)).more hb.size)
       clear hb b0 b1 b2 b3 zb
       obtain ⟨b0, b1, b2, b3⟩ := BX.out
       have zb := BX.out.lt
       obtain ⟨r0, r1, r2, r3⟩ := R.out
       have zR := R.out.lt
       rcases HEE.out with ⟨rfl, rfl⟩ | ⟨rfl, rfl⟩
       ·have hq := R.out.store (.slice none 0 0) (.slice none 0 0)
        have hfb : Below w.heap.size w ((w4.setCell ⟨w.heap.size + 1 + 1, 0, none⟩ (.slice none 0 0)).setCell ⟨w.heap.size + 1 + 1, 1, none⟩ (.slice none 0 0)) := set1 (set1 D.out (by omega) _ _) (by omega) _ _
        have HQ := Lib.hid hq
        have HFB := Lib.hid hfb
        clear hq hfb
        go_wp2_with fail
        obtain ⟨wf, hwf⟩ : ∃ wf : World, wf = ((w4.setCell ⟨w.heap.size + 1 + 1, 0, none⟩ (.slice none 0 0)).setCell ⟨w.heap.size + 1 + 1, 1, none⟩ (.slice none 0 0)) := ⟨_, rfl⟩
        have HF2 := HFB.out
        have HQ2 := HQ.out
        rw [← hwf] at HF2 HQ2 ⊢
        obtain ⟨q0, q1, _, _⟩ := HQ2
        exact bodyPost_ret (v := .tuple #[.agg #[.slice none 0 0, .slice none 0 0], .int .i64 1]) (by simp [results, Try.results29, go_sem, q0, q1]) rfl ⟨HF2, .inl ⟨by omega, rfl⟩⟩
       ·have hq := R.out.store (.slice (some ⟨g, 0, none⟩) d.n cap) (.slice (some ⟨cg, 0, none⟩) (d.m + 1) ccap)
        have hfb : Below w.heap.size w ((w4.setCell ⟨w.heap.size + 1 + 1, 0, none⟩ (.slice (some ⟨g, 0, none⟩) d.n cap)).setCell ⟨w.heap.size + 1 + 1, 1, none⟩ (.slice (some ⟨cg, 0, none⟩) (d.m + 1) ccap)) := set1 (set1 D.out (by omega) _ _) (by omega) _ _
        have hg2 : g ≠ w.heap.size + 1 + 1 := HLOW.out.1
        have hc2 : cg ≠ w.heap.size + 1 + 1 := HLOW.out.2
        have hdr : DrIn (wnd d (p0, p1, p2) (some ⟨g, 0, none⟩) cap (some ⟨cg, 0, none⟩) ccap) ((w4.setCell ⟨w.heap.size + 1 + 1, 0, none⟩ (.slice (some ⟨g, 0, none⟩) d.n cap)).setCell ⟨w.heap.size + 1 + 1, 1, none⟩ (.slice (some ⟨cg, 0, none⟩) (d.m + 1) ccap)).heap.size ((w4.setCell ⟨w.heap.size + 1 + 1, 0, none⟩ (.slice (some ⟨g, 0, none⟩) d.n cap)).setCell ⟨w.heap.size + 1 + 1, 1, none⟩ (.slice (some ⟨cg, 0, none⟩) (d.m + 1) ccap)) :=
         drIn_wnd ((HSV.out.other hg2).other hg2) (by omega) (by rw [World.size_setCell, World.size_setCell]; exact (HCV.out.oth hc2).oth hc2)
        have HQ := Lib.hid hq
        have HFB := Lib.hid hfb
        have HDR := Lib.hid hdr
        clear hq hfb hdr hg2 hc2
        go_wp2_with fail
        obtain ⟨wf, hwf⟩ : ∃ wf : World, wf = ((w4.setCell ⟨w.heap.size + 1 + 1, 0, none⟩ (.slice (some ⟨g, 0, none⟩) d.n cap)).setCell ⟨w.heap.size + 1 + 1, 1, none⟩ (.slice (some ⟨cg, 0, none⟩) (d.m + 1) ccap)) := ⟨_, rfl⟩
        have HF2 := HFB.out
        have HQ2 := HQ.out
        have HD2 := HDR.out
        rw [← hwf] at HF2 HQ2 HD2 ⊢
        obtain ⟨q0, q1, _, _⟩ := HQ2
        exact bodyPost_ret (v := .tuple #[(wnd d (p0, p1, p2) (some ⟨g, 0, none⟩) cap (some ⟨cg, 0, none⟩) ccap).v, .int .i64 0]) (by simp [results, Try.results29, go_sem, q0, q1]) rfl ⟨HF2, .inr ⟨rfl, _, _, _, _, rfl, HD2⟩⟩
      ·go_simp
       obtain ⟨a4, hwa4⟩ : ∃ V : World, V = a3.alloc (.cells #[.slice none 0 0, .slice none 0 0] 25) := ⟨_, rfl⟩
       rw [← hwa4]
       have hqa4 : Below a3.heap.size a3 a4 := by rw [hwa4]; exact box1 _ _
       have hba4 := nextB hba3 hqa4
       have hma4 := (hma3.up hqa4 (Nat.le_refl _)).more hqa4.size
       have hSa4 := hSa3.up hqa4
       have o0a4 := cell_of hqa4 o0a3
       have o1a4 := cell_of hqa4 o1a3
       have bxa4 : Bv a3.heap.size (.slice none 0 0) (.slice none 0 0) a4 := by rw [hwa4]; exact Bv.new a3 _ _ _
       have hgb : g ≠ a3.heap.size := by have := hSa3.lt; omega
       have hTa4 : (fun w' => w'.cell? ⟨w.heap.size, 0, none⟩ = some (.slice d.RA d.n d.rc) ∧ w'.cell? ⟨w.heap.size, 1, none⟩ = some (.slice d.SA d.m d.sc) ∧ w'.cell? ⟨w.heap.size + 1, 0, none⟩ = some (.int .i64 p0) ∧ w'.cell? ⟨w.heap.size + 1, 1, none⟩ = some (.int .i64 p1) ∧ w'.cell? ⟨w.heap.size + 1, 2, none⟩ = some (.int .i64 p2)) a4 := ⟨(hba4.cell (World.block_lt_of_cell? _ _ x0)).trans x0, (hba4.cell (World.block_lt_of_cell? _ _ x1)).trans x1, (hba4.cell (World.block_lt_of_cell? _ _ s0)).trans s0, (hba4.cell (World.block_lt_of_cell? _ _ s1)).trans s1, (hba4.cell (World.block_lt_of_cell? _ _ s2)).trans s2⟩
       clear hwa4
       refine hK.out _ _ (fun _ => hTa4) ?_
       clear hK K
       (try simp only [Act.put, List.setIfInBounds_toArray, List.set_cons_zero, List.set_cons_succ])
       refine M_step 8 rfl (by kernel_rfl) (fun K hK => ?_)
       go_simp
       go_at_call 82
       refine (ConcatStop_any a2.heap.size d.SA d.m d.sc d.S ⟨a1.heap.size, 0, none⟩ 1 (p0, p1, p2) _ (by omega) o0a4 o1a4 (DD.out _ (nextB D.out hba4)).2 hma4).mono ?_
       rintro e a5 ⟨cg, ccap, rfl, hcg, hcta5, hqa5⟩
       have hba5 := nextB hba4 hqa5
       have hc0 : cg ≠ w.heap.size + 1 + 1 := by have := hba4.size; omega
       have hcb : cg ≠ a3.heap.size := by have := bxa4.lt; omega
       have hSa5 := hSa4.up hqa5
       have bxa5 := bxa4.up hqa5
       have hTa5 : (fun w' => w'.cell? ⟨w.heap.size, 0, none⟩ = some (.slice d.RA d.n d.rc) ∧ w'.cell? ⟨w.heap.size, 1, none⟩ = some (.slice d.SA d.m d.sc) ∧ w'.cell? ⟨w.heap.size + 1, 0, none⟩ = some (.int .i64 p0) ∧ w'.cell? ⟨w.heap.size + 1, 1, none⟩ = some (.int .i64 p1) ∧ w'.cell? ⟨w.heap.size + 1, 2, none⟩ = some (.int .i64 p2)) a5 := ⟨(hba5.cell (World.block_lt_of_cell? _ _ x0)).trans x0, (hba5.cell (World.block_lt_of_cell? _ _ x1)).trans x1, (hba5.cell (World.block_lt_of_cell? _ _ s0)).trans s0, (hba5.cell (World.block_lt_of_cell? _ _ s1)).trans s1, (hba5.cell (World.block_lt_of_cell? _ _ s2)).trans s2⟩
       clear hcg
       refine hK.out _ _ (fun _ => hTa5) ?_
       clear hK K
       (try simp only [Act.put, List.setIfInBounds_toArray, List.set_cons_zero, List.set_cons_succ])
       refine M_take (v := ?_) 9 rfl (by kernel_rfl) (by assumption) (fun _ _ _ h => h) (Or.inl ⟨by rfl, ?_⟩) ?_
       rotate_left
       ·(intro w hSw; (try dsimp only at hSw); go_simp; (try with_reducible rfl))
       (try simp only [Act.put, List.setIfInBounds_toArray, List.set_cons_zero, List.set_cons_succ])
       refine M_step 11 rfl (by kernel_rfl) (fun K hK => ?_)
       obtain ⟨b0, b1, b2, b3⟩ := id bxa5
       have zb := bxa5.lt
       go_simp
       refine hK.out _ _ (fun e => by cases e) ?_
       clear hK K
       (try simp only [Act.put, List.setIfInBounds_toArray, List.set_cons_zero, List.set_cons_succ])
       refine M_done (by kernel_rfl) ?_ _
       obtain ⟨V, hV⟩ : ∃ V : World, V = ((a5.setCell ⟨a3.heap.size, 0, none⟩ (.slice (some ⟨g, 0, none⟩) d.n cap)).setCell ⟨a3.heap.size, 1, none⟩ (.slice (some ⟨cg, 0, none⟩) (d.m + 1) ccap)) := ⟨_, rfl⟩
       have bxV : Bv a3.heap.size (.slice (some ⟨g, 0, none⟩) d.n cap) (.slice (some ⟨cg, 0, none⟩) (d.m + 1) ccap) V := by rw [hV]; exact bxa5.store _ _
       have hbV : Below w2.heap.size w2 V := by rw [hV]; exact set1 (set1 hba5 hba3.size _ _) hba3.size _ _
       have hSV : SpR g d.n d.G V := by rw [hV]; exact (hSa5.other hgb).other hgb
       have hszV : V.heap.size = a5.heap.size := by rw [hV]; simp only [World.size_setCell]
       have hctV : TrsIn (some ⟨cg, 0, none⟩) (d.m + 1) (catF d.m d.S fun _ => (p0, p1, p2)) V.heap.size V := by rw [hszV, hV]; exact (hcta5.oth hcb).oth hcb
       have hRV : Bv (w.heap.size + 1 + 1) (.slice none 0 0) (.slice none 0 0) V := by rw [hV]; exact ((R.out.up hba5).other (by have := hba3.size; omega)).other (by have := hba3.size; omega)
       have BX := Lib.hid bxV
       have D := Lib.hid (nextB D.out hbV)
       have HSV := Lib.hid hSV
       have HCV := Lib.hid hctV
       have R := Lib.hid hRV
       have HLOW : Hid (g ≠ w.heap.size + 1 + 1 ∧ cg ≠ w.heap.size + 1 + 1) := Lib.hid ⟨hg0, hc0⟩
       rw [← hV]
       clear hV bxV hbV hSV hszV hctV hRV b0 b1 b2 b3 zb x0 x1 s0 s1 s2 zP zS r0 r1 r2 r3 zR hT0 
       obtain ⟨bb, hbb⟩ : ∃ bb, bb = a3.heap.size := ⟨_, rfl⟩
       rw [← hbb] at BX hgb hcb ⊢
       have HGB := Lib.hid (And.intro hgb hcb)
       clear hbb hgb hcb
       obtain ⟨b0, b1, b2, b3⟩ := BX.out
       have zb := BX.out.lt
       obtain ⟨E2, hE2, hEE⟩ : ∃ E2 : Int, ((E2 = 0 ∧ DrOk (wnd d (p0, p1, p2) (some ⟨g, 0, none⟩) cap (some ⟨cg, 0, none⟩) ccap)) ∨ (E2 = 20 ∧ ¬ DrOk (wnd d (p0, p1, p2) (some ⟨g, 0, none⟩) cap (some ⟨cg, 0, none⟩) ccap))) ∧ ((E2 = 20 ∧ E = 1) ∨ (E2 = 0 ∧ E = 0)) := by
        rcases HE3.out with ⟨h, h2⟩ | ⟨h, h2⟩
        ·exact ⟨20, .inr ⟨rfl, fun k => h2 ((wok_iff _ _ _ _ _ _).1 k)⟩, .inl ⟨rfl, h⟩⟩
        ·exact ⟨0, .inl ⟨rfl, (wok_iff _ _ _ _ _ _).2 h2⟩, .inr ⟨rfl, h⟩⟩
       have K2 := Lib.hid (Check_any (wnd d (p0, p1, p2) (some ⟨g, 0, none⟩) cap (some ⟨cg, 0, none⟩) ccap) E2 V (drIn_wnd HSV.out (by omega) HCV.out) hE2)
       have HEE := Lib.hid hEE
       clear hE2 hEE
       go_wp2_with fail
       refine K2.out.mono ?_
       rintro e w4 ⟨rfl, hb⟩
       have J := Lib.hid hb
       have D := Lib.hid (nextB D.out hb)
       have R := Lib.hid (R.out.up hb)
       have BX := Lib.hid (BX.out.up hb)
       have HSV := Lib.hid (HSV.out.up hb)
       have HCV := Lib.hid ((HCV.out.up hb (Nat.le_refl _)).more hb.size)
       clear hb b0 b1 b2 b3 zb
       obtain ⟨b0, b1, b2, b3⟩ := BX.out
       have zb := BX.out.lt
       obtain ⟨r0, r1, r2, r3⟩ := R.out
       have zR := R.out.lt
       rcases HEE.out with ⟨rfl, rfl⟩ | ⟨rfl, rfl⟩
       ·have hq := R.out.store (.slice none 0 0) (.slice none 0 0)
        have hfb : Below w.heap.size w ((w4.setCell ⟨w.heap.size + 1 + 1, 0, none⟩ (.slice none 0 0)).setCell ⟨w.heap.size + 1 + 1, 1, none⟩ (.slice none 0 0)) := set1 (set1 D.out (by omega) _ _) (by omega) _ _
        have HQ := Lib.hid hq
        have HFB := Lib.hid hfb
        clear hq hfb
        go_wp2_with fail
        obtain ⟨wf, hwf⟩ : ∃ wf : World, wf = ((w4.setCell ⟨w.heap.size + 1 + 1, 0, none⟩ (.slice none 0 0)).setCell ⟨w.heap.size + 1 + 1, 1, none⟩ (.slice none 0 0)) := ⟨_, rfl⟩
        have HF2 := HFB.out
        have HQ2 := HQ.out
        rw [← hwf] at HF2 HQ2 ⊢
        obtain ⟨q0, q1, _, _⟩ := HQ2
        exact bodyPost_ret (v := .tuple #[.agg #[.slice none 0 0, .slice none 0 0], .int .i64 1]) (by simp [results, Try.results29, go_sem, q0, q1]) rfl ⟨HF2, .inl ⟨by omega, rfl⟩⟩
       ·have hq := R.out.store (.slice (some ⟨g, 0, none⟩) d.n cap) (.slice (some ⟨cg, 0, none⟩) (d.m + 1) ccap)
        have hfb : Below w.heap.size w ((w4.setCell ⟨w.heap.size + 1 + 1, 0, none⟩ (.slice (some ⟨g, 0, none⟩) d.n cap)).setCell ⟨w.heap.size + 1 + 1, 1, none⟩ (.slice (some ⟨cg, 0, none⟩) (d.m + 1) ccap)) := set1 (set1 D.out (by omega) _ _) (by omega) _ _
        have hg2 : g ≠ w.heap.size + 1 + 1 := HLOW.out.1
        have hc2 : cg ≠ w.heap.size + 1 + 1 := HLOW.out.2
        have hdr : DrIn (wnd d (p0, p1, p2) (some ⟨g, 0, none⟩) cap (some ⟨cg, 0, none⟩) ccap) ((w4.setCell ⟨w.heap.size + 1 + 1, 0, none⟩ (.slice (some ⟨g, 0, none⟩) d.n cap)).setCell ⟨w.heap.size + 1 + 1, 1, none⟩ (.slice (some ⟨cg, 0, none⟩) (d.m + 1) ccap)).heap.size ((w4.setCell ⟨w.heap.size + 1 + 1, 0, none⟩ (.slice (some ⟨g, 0, none⟩) d.n cap)).setCell ⟨w.heap.size + 1 + 1, 1, none⟩ (.slice (some ⟨cg, 0, none⟩) (d.m + 1) ccap)) :=
         drIn_wnd ((HSV.out.other hg2).other hg2) (by omega) (by rw [World.size_setCell, World.size_setCell]; exact (HCV.out.oth hc2).oth hc2)
        have HQ := Lib.hid hq
        have HFB := Lib.hid hfb
        have HDR := Lib.hid hdr
        clear hq hfb hdr hg2 hc2
        go_wp2_with fail
        obtain ⟨wf, hwf⟩ : ∃ wf : World, wf = ((w4.setCell ⟨w.heap.size + 1 + 1, 0, none⟩ (.slice (some ⟨g, 0, none⟩) d.n cap)).setCell ⟨w.heap.size + 1 + 1, 1, none⟩ (.slice (some ⟨cg, 0, none⟩) (d.m + 1) ccap)) := ⟨_, rfl⟩
        have HF2 := HFB.out
        have HQ2 := HQ.out
        have HD2 := HDR.out
        rw [← hwf] at HF2 HQ2 HD2 ⊢
        obtain ⟨q0, q1, _, _⟩ := HQ2
        exact bodyPost_ret (v := .tuple #[(wnd d (p0, p1, p2) (some ⟨g, 0, none⟩) cap (some ⟨cg, 0, none⟩) ccap).v, .int .i64 0]) (by simp [results, Try.results29, go_sem, q0, q1]) rfl ⟨HF2, .inr ⟨rfl, _, _, _, _, rfl, HD2⟩⟩
     ·go_simp
      obtain ⟨a3, hwa3⟩ : ∃ V : World, V = a2.alloc (.cells #[.slice none 0 0, .slice none 0 0] 25) := ⟨_, rfl⟩
      rw [← hwa3]
      have hqa3 : Below a2.heap.size a2 a3 := by rw [hwa3]; exact box1 _ _
      have hba3 := nextB hba2 hqa3
      have hma3 := (hma2.up hqa3 (Nat.le_refl _)).more hqa3.size
      have hSa3 := hSa2.up hqa3
      have bxa3 : Bv a2.heap.size (.slice none 0 0) (.slice none 0 0) a3 := by rw [hwa3]; exact Bv.new a2 _ _ _
      have hgb : g ≠ a2.heap.size := by have := hSa2.lt; omega
      have hTa3 : (fun w' => w'.cell? ⟨w.heap.size, 0, none⟩ = some (.slice d.RA d.n d.rc) ∧ w'.cell? ⟨w.heap.size, 1, none⟩ = some (.slice d.SA d.m d.sc) ∧ w'.cell? ⟨w.heap.size + 1, 0, none⟩ = some (.int .i64 p0) ∧ w'.cell? ⟨w.heap.size + 1, 1, none⟩ = some (.int .i64 p1) ∧ w'.cell? ⟨w.heap.size + 1, 2, none⟩ = some (.int .i64 p2)) a3 := ⟨(hba3.cell (World.block_lt_of_cell? _ _ x0)).trans x0, (hba3.cell (World.block_lt_of_cell? _ _ x1)).trans x1, (hba3.cell (World.block_lt_of_cell? _ _ s0)).trans s0, (hba3.cell (World.block_lt_of_cell? _ _ s1)).trans s1, (hba3.cell (World.block_lt_of_cell? _ _ s2)).trans s2⟩
      clear hwa3
      refine hK.out _ _ (fun _ => hTa3) ?_
      clear hK K
      (try simp only [Act.put, List.setIfInBounds_toArray, List.set_cons_zero, List.set_cons_succ])
      refine M_step 7 rfl (by kernel_rfl) (fun K hK => ?_)
      go_simp
      obtain ⟨a4, hwa4⟩ : ∃ V : World, V = a3.alloc (.cells #[.slice d.SA d.m d.sc, .slice (some ⟨a1.heap.size, 0, none⟩) 1 1] 23) := ⟨_, rfl⟩
      rw [← hwa4]
      have hqa4 : Below a3.heap.size a3 a4 := by rw [hwa4]; exact box1 _ _
      have hba4 := nextB hba3 hqa4
      have hma4 := (hma3.up hqa4 (Nat.le_refl _)).more hqa4.size
      have hSa4 := hSa3.up hqa4
      have bxa4 := bxa3.up hqa4
      have o0a4 : a4.cell? ⟨a3.heap.size, 0, none⟩ = some (.slice d.SA d.m d.sc) := by rw [hwa4]; go_simp
      have o1a4 : a4.cell? ⟨a3.heap.size, 1, none⟩ = some (.slice (some ⟨a1.heap.size, 0, none⟩) 1 1) := by rw [hwa4]; go_simp
      have hTa4 : (fun w' => w'.cell? ⟨w.heap.size, 0, none⟩ = some (.slice d.RA d.n d.rc) ∧ w'.cell? ⟨w.heap.size, 1, none⟩ = some (.slice d.SA d.m d.sc) ∧ w'.cell? ⟨w.heap.size + 1, 0, none⟩ = some (.int .i64 p0) ∧ w'.cell? ⟨w.heap.size + 1, 1, none⟩ = some (.int .i64 p1) ∧ w'.cell? ⟨w.heap.size + 1, 2, none⟩ = some (.int .i64 p2)) a4 := ⟨(hba4.cell (World.block_lt_of_cell? _ _ x0)).trans x0, (hba4.cell (World.block_lt_of_cell? _ _ x1)).trans x1, (hba4.cell (World.block_lt_of_cell? _ _ s0)).trans s0, (hba4.cell (World.block_lt_of_cell? _ _ s1)).trans s1, (hba4.cell (World.block_lt_of_cell? _ _ s2)).trans s2⟩
      clear hwa4
      refine hK.out _ _ (fun _ => hTa4) ?_
      clear hK K
      (try simp only [Act.put, List.setIfInBounds_toArray, List.set_cons_zero, List.set_cons_succ])
      refine M_step 8 rfl (by kernel_rfl) (fun K hK => ?_)
      go_simp
      go_at_call 82
      refine (ConcatStop_any a3.heap.size d.SA d.m d.sc d.S ⟨a1.heap.size, 0, none⟩ 1 (p0, p1, p2) _ (by omega) o0a4 o1a4 (DD.out _ (nextB D.out hba4)).2 hma4).mono ?_
      rintro e a5 ⟨cg, ccap, rfl, hcg, hcta5, hqa5⟩
      have hba5 := nextB hba4 hqa5
      have hc0 : cg ≠ w.heap.size + 1 + 1 := by have := hba4.size; omega
      have hcb : cg ≠ a2.heap.size := by have := bxa4.lt; omega
      have hSa5 := hSa4.up hqa5
      have bxa5 := bxa4.up hqa5
      have hTa5 : (fun w' => w'.cell? ⟨w.heap.size, 0, none⟩ = some (.slice d.RA d.n d.rc) ∧ w'.cell? ⟨w.heap.size, 1, none⟩ = some (.slice d.SA d.m d.sc) ∧ w'.cell? ⟨w.heap.size + 1, 0, none⟩ = some (.int .i64 p0) ∧ w'.cell? ⟨w.heap.size + 1, 1, none⟩ = some (.int .i64 p1) ∧ w'.cell? ⟨w.heap.size + 1, 2, none⟩ = some (.int .i64 p2)) a5 := ⟨(hba5.cell (World.block_lt_of_cell? _ _ x0)).trans x0, (hba5.cell (World.block_lt_of_cell? _ _ x1)).trans x1, (hba5.cell (World.block_lt_of_cell? _ _ s0)).trans s0, (hba5.cell (World.block_lt_of_cell? _ _ s1)).trans s1, (hba5.cell (World.block_lt_of_cell? _ _ s2)).trans s2⟩
      clear hcg
      refine hK.out _ _ (fun _ => hTa5) ?_
      clear hK K
      (try simp only [Act.put, List.setIfInBounds_toArray, List.set_cons_zero, List.set_cons_succ])
      refine M_take (v := ?_) 9 rfl (by kernel_rfl) (by assumption) (fun _ _ _ h => h) (Or.inl ⟨by rfl, ?_⟩) ?_
      rotate_left
      ·(intro w hSw; (try dsimp only at hSw); go_simp; (try with_reducible rfl))
      (try simp only [Act.put, List.setIfInBounds_toArray, List.set_cons_zero, List.set_cons_succ])
      refine M_step 11 rfl (by kernel_rfl) (fun K hK => ?_)
      obtain ⟨b0, b1, b2, b3⟩ := id bxa5
      have zb := bxa5.lt
      go_simp
      refine hK.out _ _ (fun e => by cases e) ?_
      clear hK K
      (try simp only [Act.put, List.setIfInBounds_toArray, List.set_cons_zero, List.set_cons_succ])
      refine M_done (by kernel_rfl) ?_ _
      obtain ⟨V, hV⟩ : ∃ V : World, V = ((a5.setCell ⟨a2.heap.size, 0, none⟩ (.slice (some ⟨g, 0, none⟩) d.n cap)).setCell ⟨a2.heap.size, 1, none⟩ (.slice (some ⟨cg, 0, none⟩) (d.m + 1) ccap)) := ⟨_, rfl⟩
      have bxV : Bv a2.heap.size (.slice (some ⟨g, 0, none⟩) d.n cap) (.slice (some ⟨cg, 0, none⟩) (d.m + 1) ccap) V := by rw [hV]; exact bxa5.store _ _
      have hbV : Below w2.heap.size w2 V := by rw [hV]; exact set1 (set1 hba5 hba2.size _ _) hba2.size _ _
      have hSV : SpR g d.n d.G V := by rw [hV]; exact (hSa5.other hgb).other hgb
      have hszV : V.heap.size = a5.heap.size := by rw [hV]; simp only [World.size_setCell]
      have hctV : TrsIn (some ⟨cg, 0, none⟩) (d.m + 1) (catF d.m d.S fun _ => (p0, p1, p2)) V.heap.size V := by rw [hszV, hV]; exact (hcta5.oth hcb).oth hcb
      have hRV : Bv (w.heap.size + 1 + 1) (.slice none 0 0) (.slice none 0 0) V := by rw [hV]; exact ((R.out.up hba5).other (by have := hba2.size; omega)).other (by have := hba2.size; omega)
      have BX := Lib.hid bxV
      have D := Lib.hid (nextB D.out hbV)
      have HSV := Lib.hid hSV
      have HCV := Lib.hid hctV
      have R := Lib.hid hRV
      have HLOW : Hid (g ≠ w.heap.size + 1 + 1 ∧ cg ≠ w.heap.size + 1 + 1) := Lib.hid ⟨hg0, hc0⟩
      rw [← hV]
      clear hV bxV hbV hSV hszV hctV hRV b0 b1 b2 b3 zb x0 x1 s0 s1 s2 zP zS r0 r1 r2 r3 zR hT0 
      obtain ⟨bb, hbb⟩ : ∃ bb, bb = a2.heap.size := ⟨_, rfl⟩
      rw [← hbb] at BX hgb hcb ⊢
      have HGB := Lib.hid (And.intro hgb hcb)
      clear hbb hgb hcb
      obtain ⟨b0, b1, b2, b3⟩ := BX.out
      have zb := BX.out.lt
      obtain ⟨E2, hE2, hEE⟩ : ∃ E2 : Int, ((E2 = 0 ∧ DrOk (wnd d (p0, p1, p2) (some ⟨g, 0, none⟩) cap (some ⟨cg, 0, none⟩) ccap)) ∨ (E2 = 20 ∧ ¬ DrOk (wnd d (p0, p1, p2) (some ⟨g, 0, none⟩) cap (some ⟨cg, 0, none⟩) ccap))) ∧ ((E2 = 20 ∧ E = 1) ∨ (E2 = 0 ∧ E = 0)) := by
       rcases HE3.out with ⟨h, h2⟩ | ⟨h, h2⟩
       ·exact ⟨20, .inr ⟨rfl, fun k => h2 ((wok_iff _ _ _ _ _ _).1 k)⟩, .inl ⟨rfl, h⟩⟩
       ·exact ⟨0, .inl ⟨rfl, (wok_iff _ _ _ _ _ _).2 h2⟩, .inr ⟨rfl, h⟩⟩
      have K2 := Lib.hid (Check_any (wnd d (p0, p1, p2) (some ⟨g, 0, none⟩) cap (some ⟨cg, 0, none⟩) ccap) E2 V (drIn_wnd HSV.out (by omega) HCV.out) hE2)
      have HEE := Lib.hid hEE
      clear hE2 hEE
      go_wp2_with fail
      refine K2.out.mono ?_
      rintro e w4 ⟨rfl, hb⟩
      have J := Lib.hid hb
      have D := Lib.hid (nextB D.out hb)
      have R := Lib.hid (R.out.up hb)
      have BX := Lib.hid (BX.out.up hb)
      have HSV := Lib.hid (HSV.out.up hb)
      have HCV := Lib.hid ((HCV.out.up hb (Nat.le_refl _)).more hb.size)
      clear hb b0 b1 b2 b3 zb
      obtain ⟨b0, b1, b2, b3⟩ := BX.out
      have zb := BX.out.lt
      obtain ⟨r0, r1, r2, r3⟩ := R.out
      have zR := R.out.lt
      rcases HEE.out with ⟨rfl, rfl⟩ | ⟨rfl, rfl⟩
      ·have hq := R.out.store (.slice none 0 0) (.slice none 0 0)
       have hfb : Below w.heap.size w ((w4.setCell ⟨w.heap.size + 1 + 1, 0, none⟩ (.slice none 0 0)).setCell ⟨w.heap.size + 1 + 1, 1, none⟩ (.slice none 0 0)) := set1 (set1 D.out (by omega) _ _) (by omega) _ _
       have HQ := Lib.hid hq
       have HFB := Lib.hid hfb
       clear hq hfb
       go_wp2_with fail
       obtain ⟨wf, hwf⟩ : ∃ wf : World, wf = ((w4.setCell ⟨w.heap.size + 1 + 1, 0, none⟩ (.slice none 0 0)).setCell ⟨w.heap.size + 1 + 1, 1, none⟩ (.slice none 0 0)) := ⟨_, rfl⟩
       have HF2 := HFB.out
       have HQ2 := HQ.out
       rw [← hwf] at HF2 HQ2 ⊢
       obtain ⟨q0, q1, _, _⟩ := HQ2
       exact bodyPost_ret (v := .tuple #[.agg #[.slice none 0 0, .slice none 0 0], .int .i64 1]) (by simp [results, Try.results29, go_sem, q0, q1]) rfl ⟨HF2, .inl ⟨by omega, rfl⟩⟩
      ·have hq := R.out.store (.slice (some ⟨g, 0, none⟩) d.n cap) (.slice (some ⟨cg, 0, none⟩) (d.m + 1) ccap)
       have hfb : Below w.heap.size w ((w4.setCell ⟨w.heap.size + 1 + 1, 0, none⟩ (.slice (some ⟨g, 0, none⟩) d.n cap)).setCell ⟨w.heap.size + 1 + 1, 1, none⟩ (.slice (some ⟨cg, 0, none⟩) (d.m + 1) ccap)) := set1 (set1 D.out (by omega) _ _) (by omega) _ _
       have hg2 : g ≠ w.heap.size + 1 + 1 := HLOW.out.1
       have hc2 : cg ≠ w.heap.size + 1 + 1 := HLOW.out.2
       have hdr : DrIn (wnd d (p0, p1, p2) (some ⟨g, 0, none⟩) cap (some ⟨cg, 0, none⟩) ccap) ((w4.setCell ⟨w.heap.size + 1 + 1, 0, none⟩ (.slice (some ⟨g, 0, none⟩) d.n cap)).setCell ⟨w.heap.size + 1 + 1, 1, none⟩ (.slice (some ⟨cg, 0, none⟩) (d.m + 1) ccap)).heap.size ((w4.setCell ⟨w.heap.size + 1 + 1, 0, none⟩ (.slice (some ⟨g, 0, none⟩) d.n cap)).setCell ⟨w.heap.size + 1 + 1, 1, none⟩ (.slice (some ⟨cg, 0, none⟩) (d.m + 1) ccap)) :=
        drIn_wnd ((HSV.out.other hg2).other hg2) (by omega) (by rw [World.size_setCell, World.size_setCell]; exact (HCV.out.oth hc2).oth hc2)
       have HQ := Lib.hid hq
       have HFB := Lib.hid hfb
       have HDR := Lib.hid hdr
       clear hq hfb hdr hg2 hc2
       go_wp2_with fail
       obtain ⟨wf, hwf⟩ : ∃ wf : World, wf = ((w4.setCell ⟨w.heap.size + 1 + 1, 0, none⟩ (.slice (some ⟨g, 0, none⟩) d.n cap)).setCell ⟨w.heap.size + 1 + 1, 1, none⟩ (.slice (some ⟨cg, 0, none⟩) (d.m + 1) ccap)) := ⟨_, rfl⟩
       have HF2 := HFB.out
       have HQ2 := HQ.out
       have HD2 := HDR.out
       rw [← hwf] at HF2 HQ2 HD2 ⊢
       obtain ⟨q0, q1, _, _⟩ := HQ2
       exact bodyPost_ret (v := .tuple #[(wnd d (p0, p1, p2) (some ⟨g, 0, none⟩) cap (some ⟨cg, 0, none⟩) ccap).v, .int .i64 0]) (by simp [results, Try.results29, go_sem, q0, q1]) rfl ⟨HF2, .inr ⟨rfl, _, _, _, _, rfl, HD2⟩⟩
    ·go_simp
     obtain ⟨a2, hwa2⟩ : ∃ V : World, V = a1.alloc (.cells #[.slice none 0 0, .slice none 0 0] 25) := ⟨_, rfl⟩
     rw [← hwa2]
     have hqa2 : Below a1.heap.size a1 a2 := by rw [hwa2]; exact box1 _ _
     have hba2 := nextB hba1 hqa2
     have hSa2 := hSa1.up hqa2
     have bxa2 : Bv a1.heap.size (.slice none 0 0) (.slice none 0 0) a2 := by rw [hwa2]; exact Bv.new a1 _ _ _
     have hgb : g ≠ a1.heap.size := by have := hSa1.lt; omega
     have hTa2 : (fun w' => w'.cell? ⟨w.heap.size, 0, none⟩ = some (.slice d.RA d.n d.rc) ∧ w'.cell? ⟨w.heap.size, 1, none⟩ = some (.slice d.SA d.m d.sc) ∧ w'.cell? ⟨w.heap.size + 1, 0, none⟩ = some (.int .i64 p0) ∧ w'.cell? ⟨w.heap.size + 1, 1, none⟩ = some (.int .i64 p1) ∧ w'.cell? ⟨w.heap.size + 1, 2, none⟩ = some (.int .i64 p2)) a2 := ⟨(hba2.cell (World.block_lt_of_cell? _ _ x0)).trans x0, (hba2.cell (World.block_lt_of_cell? _ _ x1)).trans x1, (hba2.cell (World.block_lt_of_cell? _ _ s0)).trans s0, (hba2.cell (World.block_lt_of_cell? _ _ s1)).trans s1, (hba2.cell (World.block_lt_of_cell? _ _ s2)).trans s2⟩
     clear hwa2
     refine hK.out _ _ (fun _ => hTa2) ?_
     clear hK K
     (try simp only [Act.put, List.setIfInBounds_toArray, List.set_cons_zero, List.set_cons_succ])
     refine M_step 6 rfl (by kernel_rfl) (fun K hK => ?_)
     go_simp
     obtain ⟨a3, hwa3⟩ : ∃ V : World, V = a2.alloc (.cells #[.int .i64 p0, .int .i64 p1, .int .i64 p2] 34) := ⟨_, rfl⟩
     rw [← hwa3]
     have hqa3 : Below a2.heap.size a2 a3 := by rw [hwa3]; exact box1 _ _
     have hba3 := nextB hba2 hqa3
     have hSa3 := hSa2.up hqa3
     have bxa3 := bxa2.up hqa3
     have hma3 : TrsIn (some ⟨a2.heap.size, 0, none⟩) 1 (fun _ => (p0, p1, p2)) a3.heap.size a3 := by
      have hz : Tr3 (p0, p1, p2) a2.heap.size a3 := by rw [hwa3]; exact tr3_new _ (p0, p1, p2) _
      exact trs_one hz
     have hTa3 : (fun w' => w'.cell? ⟨w.heap.size, 0, none⟩ = some (.slice d.RA d.n d.rc) ∧ w'.cell? ⟨w.heap.size, 1, none⟩ = some (.slice d.SA d.m d.sc) ∧ w'.cell? ⟨w.heap.size + 1, 0, none⟩ = some (.int .i64 p0) ∧ w'.cell? ⟨w.heap.size + 1, 1, none⟩ = some (.int .i64 p1) ∧ w'.cell? ⟨w.heap.size + 1, 2, none⟩ = some (.int .i64 p2)) a3 := ⟨(hba3.cell (World.block_lt_of_cell? _ _ x0)).trans x0, (hba3.cell (World.block_lt_of_cell? _ _ x1)).trans x1, (hba3.cell (World.block_lt_of_cell? _ _ s0)).trans s0, (hba3.cell (World.block_lt_of_cell? _ _ s1)).trans s1, (hba3.cell (World.block_lt_of_cell? _ _ s2)).trans s2⟩
     clear hwa3
     refine hK.out _ _ (fun _ => hTa3) ?_
     clear hK K
     (try simp only [Act.put, List.setIfInBounds_toArray, List.set_cons_zero, List.set_cons_succ])
     refine M_step 7 rfl (by kernel_rfl) (fun K hK => ?_)
     go_simp
     obtain ⟨a4, hwa4⟩ : ∃ V : World, V = a3.alloc (.cells #[.slice d.SA d.m d.sc, .slice (some ⟨a2.heap.size, 0, none⟩) 1 1] 23) := ⟨_, rfl⟩
     rw [← hwa4]
     have hqa4 : Below a3.heap.size a3 a4 := by rw [hwa4]; exact box1 _ _
     have hba4 := nextB hba3 hqa4
     have hma4 := (hma3.up hqa4 (Nat.le_refl _)).more hqa4.size
     have hSa4 := hSa3.up hqa4
     have bxa4 := bxa3.up hqa4
     have o0a4 : a4.cell? ⟨a3.heap.size, 0, none⟩ = some (.slice d.SA d.m d.sc) := by rw [hwa4]; go_simp
     have o1a4 : a4.cell? ⟨a3.heap.size, 1, none⟩ = some (.slice (some ⟨a2.heap.size, 0, none⟩) 1 1) := by rw [hwa4]; go_simp
     have hTa4 : (fun w' => w'.cell? ⟨w.heap.size, 0, none⟩ = some (.slice d.RA d.n d.rc) ∧ w'.cell? ⟨w.heap.size, 1, none⟩ = some (.slice d.SA d.m d.sc) ∧ w'.cell? ⟨w.heap.size + 1, 0, none⟩ = some (.int .i64 p0) ∧ w'.cell? ⟨w.heap.size + 1, 1, none⟩ = some (.int .i64 p1) ∧ w'.cell? ⟨w.heap.size + 1, 2, none⟩ = some (.int .i64 p2)) a4 := ⟨(hba4.cell (World.block_lt_of_cell? _ _ x0)).trans x0, (hba4.cell (World.block_lt_of_cell? _ _ x1)).trans x1, (hba4.cell (World.block_lt_of_cell? _ _ s0)).trans s0, (hba4.cell (World.block_lt_of_cell? _ _ s1)).trans s1, (hba4.cell (World.block_lt_of_cell? _ _ s2)).trans s2⟩
     clear hwa4
     refine hK.out _ _ (fun _ => hTa4) ?_
     clear hK K
     (try simp only [Act.put, List.setIfInBounds_toArray, List.set_cons_zero, List.set_cons_succ])
     refine M_step 8 rfl (by kernel_rfl) (fun K hK => ?_)
     go_simp
     go_at_call 82
     refine (ConcatStop_any a3.heap.size d.SA d.m d.sc d.S ⟨a2.heap.size, 0, none⟩ 1 (p0, p1, p2) _ (by omega) o0a4 o1a4 (DD.out _ (nextB D.out hba4)).2 hma4).mono ?_
     rintro e a5 ⟨cg, ccap, rfl, hcg, hcta5, hqa5⟩
     have hba5 := nextB hba4 hqa5
     have hc0 : cg ≠ w.heap.size + 1 + 1 := by have := hba4.size; omega
     have hcb : cg ≠ a1.heap.size := by have := bxa4.lt; omega
     have hSa5 := hSa4.up hqa5
     have bxa5 := bxa4.up hqa5
     have hTa5 : (fun w' => w'.cell? ⟨w.heap.size, 0, none⟩ = some (.slice d.RA d.n d.rc) ∧ w'.cell? ⟨w.heap.size, 1, none⟩ = some (.slice d.SA d.m d.sc) ∧ w'.cell? ⟨w.heap.size + 1, 0, none⟩ = some (.int .i64 p0) ∧ w'.cell? ⟨w.heap.size + 1, 1, none⟩ = some (.int .i64 p1) ∧ w'.cell? ⟨w.heap.size + 1, 2, none⟩ = some (.int .i64 p2)) a5 := ⟨(hba5.cell (World.block_lt_of_cell? _ _ x0)).trans x0, (hba5.cell (World.block_lt_of_cell? _ _ x1)).trans x1, (hba5.cell (World.block_lt_of_cell? _ _ s0)).trans s0, (hba5.cell (World.block_lt_of_cell? _ _ s1)).trans s1, (hba5.cell (World.block_lt_of_cell? _ _ s2)).trans s2⟩
     clear hcg
     refine hK.out _ _ (fun _ => hTa5) ?_
     clear hK K
     (try simp only [Act.put, List.setIfInBounds_toArray, List.set_cons_zero, List.set_cons_succ])
     refine M_take (v := ?_) 9 rfl (by kernel_rfl) (by assumption) (fun _ _ _ h => h) (Or.inl ⟨by rfl, ?_⟩) ?_
     rotate_left
     ·(intro w hSw; (try dsimp only at hSw); go_simp; (try with_reducible rfl))
     (try simp only [Act.put, List.setIfInBounds_toArray, List.set_cons_zero, List.set_cons_succ])
     refine M_step 11 rfl (by kernel_rfl) (fun K hK => ?_)
     obtain ⟨b0, b1, b2, b3⟩ := id bxa5
     have zb := bxa5.lt
     go_simp
     refine hK.out _ _ (fun e => by cases e) ?_
     clear hK K
     (try simp only [Act.put, List.setIfInBounds_toArray, List.set_cons_zero, List.set_cons_succ])
     refine M_done (by kernel_rfl) ?_ _
     obtain ⟨V, hV⟩ : ∃ V : World, V = ((a5.setCell ⟨a1.heap.size, 0, none⟩ (.slice (some ⟨g, 0, none⟩) d.n cap)).setCell ⟨a1.heap.size, 1, none⟩ (.slice (some ⟨cg, 0, none⟩) (d.m + 1) ccap)) := ⟨_, rfl⟩
     have bxV : Bv a1.heap.size (.slice (some ⟨g, 0, none⟩) d.n cap) (.slice (some ⟨cg, 0, none⟩) (d.m + 1) ccap) V := by rw [hV]; exact bxa5.store _ _
     have hbV : Below w2.heap.size w2 V := by rw [hV]; exact set1 (set1 hba5 hba1.size _ _) hba1.size _ _
     have hSV : SpR g d.n d.G V := by rw [hV]; exact (hSa5.other hgb).other hgb
     have hszV : V.heap.size = a5.heap.size := by rw [hV]; simp only [World.size_setCell]
     have hctV : TrsIn (some ⟨cg, 0, none⟩) (d.m + 1) (catF d.m d.S fun _ => (p0, p1, p2)) V.heap.size V := by rw [hszV, hV]; exact (hcta5.oth hcb).oth hcb
     have hRV : Bv (w.heap.size + 1 + 1) (.slice none 0 0) (.slice none 0 0) V := by rw [hV]; exact ((R.out.up hba5).other (by have := hba1.size; omega)).other (by have := hba1.size; omega)
     have BX := Lib.hid bxV
     have D := Lib.hid (nextB D.out hbV)
     have HSV := Lib.hid hSV
     have HCV := Lib.hid hctV
     have R := Lib.hid hRV
     have HLOW : Hid (g ≠ w.heap.size + 1 + 1 ∧ cg ≠ w.heap.size + 1 + 1) := Lib.hid ⟨hg0, hc0⟩
     rw [← hV]
     clear hV bxV hbV hSV hszV hctV hRV b0 b1 b2 b3 zb x0 x1 s0 s1 s2 zP zS r0 r1 r2 r3 zR hT0 
     obtain ⟨bb, hbb⟩ : ∃ bb, bb = a1.heap.size := ⟨_, rfl⟩
     rw [← hbb] at BX hgb hcb ⊢
     have HGB := Lib.hid (And.intro hgb hcb)
     clear hbb hgb hcb
     obtain ⟨b0, b1, b2, b3⟩ := BX.out
     have zb := BX.out.lt
     obtain ⟨E2, hE2, hEE⟩ : ∃ E2 : Int, ((E2 = 0 ∧ DrOk (wnd d (p0, p1, p2) (some ⟨g, 0, none⟩) cap (some ⟨cg, 0, none⟩) ccap)) ∨ (E2 = 20 ∧ ¬ DrOk (wnd d (p0, p1, p2) (some ⟨g, 0, none⟩) cap (some ⟨cg, 0, none⟩) ccap))) ∧ ((E2 = 20 ∧ E = 1) ∨ (E2 = 0 ∧ E = 0)) := by
      rcases HE3.out with ⟨h, h2⟩ | ⟨h, h2⟩
      ·exact ⟨20, .inr ⟨rfl, fun k => h2 ((wok_iff _ _ _ _ _ _).1 k)⟩, .inl ⟨rfl, h⟩⟩
      ·exact ⟨0, .inl ⟨rfl, (wok_iff _ _ _ _ _ _).2 h2⟩, .inr ⟨rfl, h⟩⟩
     have K2 := Lib.hid (Check_any (wnd d (p0, p1, p2) (some ⟨g, 0, none⟩) cap (some ⟨cg, 0, none⟩) ccap) E2 V (drIn_wnd HSV.out (by omega) HCV.out) hE2)
     have HEE := Lib.hid hEE
     clear hE2 hEE
     go_wp2_with fail
     refine K2.out.mono ?_
     rintro e w4 ⟨rfl, hb⟩
     have J := Lib.hid hb
     have D := Lib.hid (nextB D.out hb)
     have R := Lib.hid (R.out.up hb)
     have BX := Lib.hid (BX.out.up hb)
     have HSV := Lib.hid (HSV.out.up hb)
     have HCV := Lib.hid ((HCV.out.up hb (Nat.le_refl _)).more hb.size)
     clear hb b0 b1 b2 b3 zb
     obtain ⟨b0, b1, b2, b3⟩ := BX.out
     have zb := BX.out.lt
     obtain ⟨r0, r1, r2, r3⟩ := R.out
     have zR := R.out.lt
     rcases HEE.out with ⟨rfl, rfl⟩ | ⟨rfl, rfl⟩
     ·have hq := R.out.store (.slice none 0 0) (.slice none 0 0)
      have hfb : Below w.heap.size w ((w4.setCell ⟨w.heap.size + 1 + 1, 0, none⟩ (.slice none 0 0)).setCell ⟨w.heap.size + 1 + 1, 1, none⟩ (.slice none 0 0)) := set1 (set1 D.out (by omega) _ _) (by omega) _ _
      have HQ := Lib.hid hq
      have HFB := Lib.hid hfb
      clear hq hfb
      go_wp2_with fail
      obtain ⟨wf, hwf⟩ : ∃ wf : World, wf = ((w4.setCell ⟨w.heap.size + 1 + 1, 0, none⟩ (.slice none 0 0)).setCell ⟨w.heap.size + 1 + 1, 1, none⟩ (.slice none 0 0)) := ⟨_, rfl⟩
      have HF2 := HFB.out
      have HQ2 := HQ.out
      rw [← hwf] at HF2 HQ2 ⊢
      obtain ⟨q0, q1, _, _⟩ := HQ2
      exact bodyPost_ret (v := .tuple #[.agg #[.slice none 0 0, .slice none 0 0], .int .i64 1]) (by simp [results, Try.results29, go_sem, q0, q1]) rfl ⟨HF2, .inl ⟨by omega, rfl⟩⟩
     ·have hq := R.out.store (.slice (some ⟨g, 0, none⟩) d.n cap) (.slice (some ⟨cg, 0, none⟩) (d.m + 1) ccap)
      have hfb : Below w.heap.size w ((w4.setCell ⟨w.heap.size + 1 + 1, 0, none⟩ (.slice (some ⟨g, 0, none⟩) d.n cap)).setCell ⟨w.heap.size + 1 + 1, 1, none⟩ (.slice (some ⟨cg, 0, none⟩) (d.m + 1) ccap)) := set1 (set1 D.out (by omega) _ _) (by omega) _ _
      have hg2 : g ≠ w.heap.size + 1 + 1 := HLOW.out.1
      have hc2 : cg ≠ w.heap.size + 1 + 1 := HLOW.out.2
      have hdr : DrIn (wnd d (p0, p1, p2) (some ⟨g, 0, none⟩) cap (some ⟨cg, 0, none⟩) ccap) ((w4.setCell ⟨w.heap.size + 1 + 1, 0, none⟩ (.slice (some ⟨g, 0, none⟩) d.n cap)).setCell ⟨w.heap.size + 1 + 1, 1, none⟩ (.slice (some ⟨cg, 0, none⟩) (d.m + 1) ccap)).heap.size ((w4.setCell ⟨w.heap.size + 1 + 1, 0, none⟩ (.slice (some ⟨g, 0, none⟩) d.n cap)).setCell ⟨w.heap.size + 1 + 1, 1, none⟩ (.slice (some ⟨cg, 0, none⟩) (d.m + 1) ccap)) :=
       drIn_wnd ((HSV.out.other hg2).other hg2) (by omega) (by rw [World.size_setCell, World.size_setCell]; exact (HCV.out.oth hc2).oth hc2)
      have HQ := Lib.hid hq
      have HFB := Lib.hid hfb
      have HDR := Lib.hid hdr
      clear hq hfb hdr hg2 hc2
      go_wp2_with fail
      obtain ⟨wf, hwf⟩ : ∃ wf : World, wf = ((w4.setCell ⟨w.heap.size + 1 + 1, 0, none⟩ (.slice (some ⟨g, 0, none⟩) d.n cap)).setCell ⟨w.heap.size + 1 + 1, 1, none⟩ (.slice (some ⟨cg, 0, none⟩) (d.m + 1) ccap)) := ⟨_, rfl⟩
      have HF2 := HFB.out
      have HQ2 := HQ.out
      have HD2 := HDR.out
      rw [← hwf] at HF2 HQ2 HD2 ⊢
      obtain ⟨q0, q1, _, _⟩ := HQ2
      exact bodyPost_ret (v := .tuple #[(wnd d (p0, p1, p2) (some ⟨g, 0, none⟩) cap (some ⟨cg, 0, none⟩) ccap).v, .int .i64 0]) (by simp [results, Try.results29, go_sem, q0, q1]) rfl ⟨HF2, .inr ⟨rfl, _, _, _, _, rfl, HD2⟩⟩
   ·go_simp
    obtain ⟨a1, hwa1⟩ : ∃ V : World, V = w2.alloc (.cells #[.int .i64 p0, .int .i64 p1, .int .i64 p2] 34) := ⟨_, rfl⟩
    rw [← hwa1]
    have hqa1 : Below w2.heap.size w2 a1 := by rw [hwa1]; exact box1 _ _
    have hba1 := nextB hbw2 hqa1
    have hma1 : TrsIn (some ⟨w2.heap.size, 0, none⟩) 1 (fun _ => (p0, p1, p2)) a1.heap.size a1 := by
     have hz : Tr3 (p0, p1, p2) w2.heap.size a1 := by rw [hwa1]; exact tr3_new _ (p0, p1, p2) _
     exact trs_one hz
    have hTa1 : (fun w' => w'.cell? ⟨w.heap.size, 0, none⟩ = some (.slice d.RA d.n d.rc) ∧ w'.cell? ⟨w.heap.size, 1, none⟩ = some (.slice d.SA d.m d.sc) ∧ w'.cell? ⟨w.heap.size + 1, 0, none⟩ = some (.int .i64 p0) ∧ w'.cell? ⟨w.heap.size + 1, 1, none⟩ = some (.int .i64 p1) ∧ w'.cell? ⟨w.heap.size + 1, 2, none⟩ = some (.int .i64 p2)) a1 := ⟨(hba1.cell (World.block_lt_of_cell? _ _ x0)).trans x0, (hba1.cell (World.block_lt_of_cell? _ _ x1)).trans x1, (hba1.cell (World.block_lt_of_cell? _ _ s0)).trans s0, (hba1.cell (World.block_lt_of_cell? _ _ s1)).trans s1, (hba1.cell (World.block_lt_of_cell? _ _ s2)).trans s2⟩
    clear hwa1
    refine hK.out _ _ (fun _ => hTa1) ?_
    clear hK K
    (try simp only [Act.put, List.setIfInBounds_toArray, List.set_cons_zero, List.set_cons_succ])
    refine M_fork3 2 7 10 rfl rfl rfl (by kernel_rfl) (fun K hK => ?_) (fun K hK => ?_) (fun K hK => ?_)
    ·go_simp
     go_at_call 81
     refine (Clone_any d.RA d.n d.rc d.G a1.drew (DD.out _ (nextB D.out hba1.drew)).1 HD.out.n1 (by omega)).mono ?_
     rintro e a2 ⟨g, cap, rfl, hg, hcap, hSa2, hq'⟩
     have hqa2 : Below a1.heap.size a1 a2 := nextB (Below.refl _ _).drew hq'
     have hba2 := nextB hba1 hqa2
     have hg : a1.heap.size ≤ g := hg
     have hg0 : g ≠ w.heap.size + 1 + 1 := by have := hba1.size; omega
     have hma2 := (hma1.up hqa2 (Nat.le_refl _)).more hqa2.size
     have hTa2 : (fun w' => w'.cell? ⟨w.heap.size, 0, none⟩ = some (.slice d.RA d.n d.rc) ∧ w'.cell? ⟨w.heap.size, 1, none⟩ = some (.slice d.SA d.m d.sc) ∧ w'.cell? ⟨w.heap.size + 1, 0, none⟩ = some (.int .i64 p0) ∧ w'.cell? ⟨w.heap.size + 1, 1, none⟩ = some (.int .i64 p1) ∧ w'.cell? ⟨w.heap.size + 1, 2, none⟩ = some (.int .i64 p2)) a2 := ⟨(hba2.cell (World.block_lt_of_cell? _ _ x0)).trans x0, (hba2.cell (World.block_lt_of_cell? _ _ x1)).trans x1, (hba2.cell (World.block_lt_of_cell? _ _ s0)).trans s0, (hba2.cell (World.block_lt_of_cell? _ _ s1)).trans s1, (hba2.cell (World.block_lt_of_cell? _ _ s2)).trans s2⟩
     clear hg hcap hq'
     refine hK.out _ _ (fun _ => hTa2) ?_
     clear hK K
     (try simp only [Act.put, List.setIfInBounds_toArray, List.set_cons_zero, List.set_cons_succ])
     refine M_fork 7 10 rfl rfl (by kernel_rfl) (fun K hK => ?_) (fun K hK => ?_)
     ·go_simp
      obtain ⟨a3, hwa3⟩ : ∃ V : World, V = a2.alloc (.cells #[.slice d.SA d.m d.sc, .slice (some ⟨w2.heap.size, 0, none⟩) 1 1] 23) := ⟨_, rfl⟩
      rw [← hwa3]
      have hqa3 : Below a2.heap.size a2 a3 := by rw [hwa3]; exact box1 _ _
      have hba3 := nextB hba2 hqa3
      have hma3 := (hma2.up hqa3 (Nat.le_refl _)).more hqa3.size
      have hSa3 := hSa2.up hqa3
      have o0a3 : a3.cell? ⟨a2.heap.size, 0, none⟩ = some (.slice d.SA d.m d.sc) := by rw [hwa3]; go_simp
      have o1a3 : a3.cell? ⟨a2.heap.size, 1, none⟩ = some (.slice (some ⟨w2.heap.size, 0, none⟩) 1 1) := by rw [hwa3]; go_simp
      have hTa3 : (fun w' => w'.cell? ⟨w.heap.size, 0, none⟩ = some (.slice d.RA d.n d.rc) ∧ w'.cell? ⟨w.heap.size, 1, none⟩ = some (.slice d.SA d.m d.sc) ∧ w'.cell? ⟨w.heap.size + 1, 0, none⟩ = some (.int .i64 p0) ∧ w'.cell? ⟨w.heap.size + 1, 1, none⟩ = some (.int .i64 p1) ∧ w'.cell? ⟨w.heap.size + 1, 2, none⟩ = some (.int .i64 p2)) a3 := ⟨(hba3.cell (World.block_lt_of_cell? _ _ x0)).trans x0, (hba3.cell (World.block_lt_of_cell? _ _ x1)).trans x1, (hba3.cell (World.block_lt_of_cell? _ _ s0)).trans s0, (hba3.cell (World.block_lt_of_cell? _ _ s1)).trans s1, (hba3.cell (World.block_lt_of_cell? _ _ s2)).trans s2⟩
      clear hwa3
      refine hK.out _ _ (fun _ => hTa3) ?_
      clear hK K
      (try simp only [Act.put, List.setIfInBounds_toArray, List.set_cons_zero, List.set_cons_succ])
      refine M_fork 8 10 rfl rfl (by kernel_rfl) (fun K hK => ?_) (fun K hK => ?_)
      ·go_simp
       go_at_call 82
       refine (ConcatStop_any a2.heap.size d.SA d.m d.sc d.S ⟨w2.heap.size, 0, none⟩ 1 (p0, p1, p2) _ (by omega) o0a3 o1a3 (DD.out _ (nextB D.out hba3)).2 hma3).mono ?_
       rintro e a4 ⟨cg, ccap, rfl, hcg, hcta4, hqa4⟩
       have hba4 := nextB hba3 hqa4
       have hc0 : cg ≠ w.heap.size + 1 + 1 := by have := hba3.size; omega
       have hSa4 := hSa3.up hqa4
       have hTa4 : (fun w' => w'.cell? ⟨w.heap.size, 0, none⟩ = some (.slice d.RA d.n d.rc) ∧ w'.cell? ⟨w.heap.size, 1, none⟩ = some (.slice d.SA d.m d.sc) ∧ w'.cell? ⟨w.heap.size + 1, 0, none⟩ = some (.int .i64 p0) ∧ w'.cell? ⟨w.heap.size + 1, 1, none⟩ = some (.int .i64 p1) ∧ w'.cell? ⟨w.heap.size + 1, 2, none⟩ = some (.int .i64 p2)) a4 := ⟨(hba4.cell (World.block_lt_of_cell? _ _ x0)).trans x0, (hba4.cell (World.block_lt_of_cell? _ _ x1)).trans x1, (hba4.cell (World.block_lt_of_cell? _ _ s0)).trans s0, (hba4.cell (World.block_lt_of_cell? _ _ s1)).trans s1, (hba4.cell (World.block_lt_of_cell? _ _ s2)).trans s2⟩
       clear hcg
       refine hK.out _ _ (fun _ => hTa4) ?_
       clear hK K
       (try simp only [Act.put, List.setIfInBounds_toArray, List.set_cons_zero, List.set_cons_succ])
       refine M_take (v := ?_) 9 rfl (by kernel_rfl) (by assumption) (fun _ _ _ h => h) (Or.inl ⟨by rfl, ?_⟩) ?_
       rotate_left
       ·(intro w hSw; (try dsimp only at hSw); go_simp; (try with_reducible rfl))
       (try simp only [Act.put, List.setIfInBounds_toArray, List.set_cons_zero, List.set_cons_succ])
       refine M_step 10 rfl (by kernel_rfl) (fun K hK => ?_)
       go_simp
       obtain ⟨a5, hwa5⟩ : ∃ V : World, V = a4.alloc (.cells #[.slice none 0 0, .slice none 0 0] 25) := ⟨_, rfl⟩
       rw [← hwa5]
       have hqa5 : Below a4.heap.size a4 a5 := by rw [hwa5]; exact box1 _ _
       have hba5 := nextB hba4 hqa5
       have hSa5 := hSa4.up hqa5
       have hcta5 := (hcta4.up hqa5 (Nat.le_refl _)).more hqa5.size
       have bxa5 : Bv a4.heap.size (.slice none 0 0) (.slice none 0 0) a5 := by rw [hwa5]; exact Bv.new a4 _ _ _
       have hgb : g ≠ a4.heap.size := by have := hSa4.lt; omega
       have hcb : cg ≠ a4.heap.size := by
        obtain ⟨a', e', l', _⟩ := hcta4.2 0 (by omega)
        cases e'
        have l'' : cg < a4.heap.size := l'
        omega
       have hTa5 : (fun w' => w'.cell? ⟨w.heap.size, 0, none⟩ = some (.slice d.RA d.n d.rc) ∧ w'.cell? ⟨w.heap.size, 1, none⟩ = some (.slice d.SA d.m d.sc) ∧ w'.cell? ⟨w.heap.size + 1, 0, none⟩ = some (.int .i64 p0) ∧ w'.cell? ⟨w.heap.size + 1, 1, none⟩ = some (.int .i64 p1) ∧ w'.cell? ⟨w.heap.size + 1, 2, none⟩ = some (.int .i64 p2)) a5 := ⟨(hba5.cell (World.block_lt_of_cell? _ _ x0)).trans x0, (hba5.cell (World.block_lt_of_cell? _ _ x1)).trans x1, (hba5.cell (World.block_lt_of_cell? _ _ s0)).trans s0, (hba5.cell (World.block_lt_of_cell? _ _ s1)).trans s1, (hba5.cell (World.block_lt_of_cell? _ _ s2)).trans s2⟩
       clear hwa5
       refine hK.out _ _ (fun _ => hTa5) ?_
       clear hK K
       (try simp only [Act.put, List.setIfInBounds_toArray, List.set_cons_zero, List.set_cons_succ])
       refine M_step 11 rfl (by kernel_rfl) (fun K hK => ?_)
       obtain ⟨b0, b1, b2, b3⟩ := id bxa5
       have zb := bxa5.lt
       go_simp
       refine hK.out _ _ (fun e => by cases e) ?_
       clear hK K
       (try simp only [Act.put, List.setIfInBounds_toArray, List.set_cons_zero, List.set_cons_succ])
       refine M_done (by kernel_rfl) ?_ _
       obtain ⟨V, hV⟩ : ∃ V : World, V = ((a5.setCell ⟨a4.heap.size, 0, none⟩ (.slice (some ⟨g, 0, none⟩) d.n cap)).setCell ⟨a4.heap.size, 1, none⟩ (.slice (some ⟨cg, 0, none⟩) (d.m + 1) ccap)) := ⟨_, rfl⟩
       have bxV : Bv a4.heap.size (.slice (some ⟨g, 0, none⟩) d.n cap) (.slice (some ⟨cg, 0, none⟩) (d.m + 1) ccap) V := by rw [hV]; exact bxa5.store _ _
       have hbV : Below w2.heap.size w2 V := by rw [hV]; exact set1 (set1 hba5 hba4.size _ _) hba4.size _ _
       have hSV : SpR g d.n d.G V := by rw [hV]; exact (hSa5.other hgb).other hgb
       have hszV : V.heap.size = a5.heap.size := by rw [hV]; simp only [World.size_setCell]
       have hctV : TrsIn (some ⟨cg, 0, none⟩) (d.m + 1) (catF d.m d.S fun _ => (p0, p1, p2)) V.heap.size V := by rw [hszV, hV]; exact (hcta5.oth hcb).oth hcb
       have hRV : Bv (w.heap.size + 1 + 1) (.slice none 0 0) (.slice none 0 0) V := by rw [hV]; exact ((R.out.up hba5).other (by have := hba4.size; omega)).other (by have := hba4.size; omega)
       have BX := Lib.hid bxV
       have D := Lib.hid (nextB D.out hbV)
       have HSV := Lib.hid hSV
       have HCV := Lib.hid hctV
       have R := Lib.hid hRV
       have HLOW : Hid (g ≠ w.heap.size + 1 + 1 ∧ cg ≠ w.heap.size + 1 + 1) := Lib.hid ⟨hg0, hc0⟩
       rw [← hV]
       clear hV bxV hbV hSV hszV hctV hRV b0 b1 b2 b3 zb x0 x1 s0 s1 s2 zP zS r0 r1 r2 r3 zR hT0 
       obtain ⟨bb, hbb⟩ : ∃ bb, bb = a4.heap.size := ⟨_, rfl⟩
       rw [← hbb] at BX hgb hcb ⊢
       have HGB := Lib.hid (And.intro hgb hcb)
       clear hbb hgb hcb
       obtain ⟨b0, b1, b2, b3⟩ := BX.out
       have zb := BX.out.lt
       obtain ⟨E2, hE2, hEE⟩ : ∃ E2 : Int, ((E2 = 0 ∧ DrOk (wnd d (p0, p1, p2) (some ⟨g, 0, none⟩) cap (some ⟨cg, 0, none⟩) ccap)) ∨ (E2 = 20 ∧ ¬ DrOk (wnd d (p0, p1, p2) (some ⟨g, 0, none⟩) cap (some ⟨cg, 0, none⟩) ccap))) ∧ ((E2 = 20 ∧ E = 1) ∨ (E2 = 0 ∧ E = 0)) := by
        rcases HE3.out with ⟨h, h2⟩ | ⟨h, h2⟩
        ·exact ⟨20, .inr ⟨rfl, fun k => h2 ((wok_iff _ _ _ _ _ _).1 k)⟩, .inl ⟨rfl, h⟩⟩
        ·exact ⟨0, .inl ⟨rfl, (wok_iff _ _ _ _ _ _).2 h2⟩, .inr ⟨rfl, h⟩⟩
       have K2 := Lib.hid (Check_any (wnd d (p0, p1, p2) (some ⟨g, 0, none⟩) cap (some ⟨cg, 0, none⟩) ccap) E2 V (drIn_wnd HSV.out (by omega) HCV.out) hE2)
       have HEE := Lib.hid hEE
       clear hE2 hEE
       go_wp2_with fail
       refine K2.out.mono ?_
       rintro e w4 ⟨rfl, hb⟩
       have J := Lib.hid hb
       have D := Lib.hid (nextB D.out hb)
       have R := Lib.hid (R.out.up hb)
       have BX := Lib.hid (BX.out.up hb)
       have HSV := Lib.hid (HSV.out.up hb)
       have HCV := Lib.hid ((HCV.out.up hb (Nat.le_refl _)).more hb.size)
       clear hb b0 b1 b2 b3 zb
       obtain ⟨b0, b1, b2, b3⟩ := BX.out
       have zb := BX.out.lt
       obtain ⟨r0, r1, r2, r3⟩ := R.out
       have zR := R.out.lt
       rcases HEE.out with ⟨rfl, rfl⟩ | ⟨rfl, rfl⟩
       ·have hq := R.out.store (.slice none 0 0) (.slice none 0 0)
        have hfb : Below w.heap.size w ((w4.setCell ⟨w.heap.size + 1 + 1, 0, none⟩ (.slice none 0 0)).setCell ⟨w.heap.size + 1 + 1, 1, none⟩ (.slice none 0 0)) := set1 (set1 D.out (by omega) _ _) (by omega) _ _
        have HQ := Lib.hid hq
        have HFB := Lib.hid hfb
        clear hq hfb
        go_wp2_with fail
        obtain ⟨wf, hwf⟩ : ∃ wf : World, wf = ((w4.setCell ⟨w.heap.size + 1 + 1, 0, none⟩ (.slice none 0 0)).setCell ⟨w.heap.size + 1 + 1, 1, none⟩ (.slice none 0 0)) := ⟨_, rfl⟩
        have HF2 := HFB.out
        have HQ2 := HQ.out
        rw [← hwf] at HF2 HQ2 ⊢
        obtain ⟨q0, q1, _, _⟩ := HQ2
        exact bodyPost_ret (v := .tuple #[.agg #[.slice none 0 0, .slice none 0 0], .int .i64 1]) (by simp [results, Try.results29, go_sem, q0, q1]) rfl ⟨HF2, .inl ⟨by omega, rfl⟩⟩
       ·have hq := R.out.store (.slice (some ⟨g, 0, none⟩) d.n cap) (.slice (some ⟨cg, 0, none⟩) (d.m + 1) ccap)
        have hfb : Below w.heap.size w ((w4.setCell ⟨w.heap.size + 1 + 1, 0, none⟩ (.slice (some ⟨g, 0, none⟩) d.n cap)).setCell ⟨w.heap.size + 1 + 1, 1, none⟩ (.slice (some ⟨cg, 0, none⟩) (d.m + 1) ccap)) := set1 (set1 D.out (by omega) _ _) (by omega) _ _
        have hg2 : g ≠ w.heap.size + 1 + 1 := HLOW.out.1
        have hc2 : cg ≠ w.heap.size + 1 + 1 := HLOW.out.2
        have hdr : DrIn (wnd d (p0, p1, p2) (some ⟨g, 0, none⟩) cap (some ⟨cg, 0, none⟩) ccap) ((w4.setCell ⟨w.heap.size + 1 + 1, 0, none⟩ (.slice (some ⟨g, 0, none⟩) d.n cap)).setCell ⟨w.heap.size + 1 + 1, 1, none⟩ (.slice (some ⟨cg, 0, none⟩) (d.m + 1) ccap)).heap.size ((w4.setCell ⟨w.heap.size + 1 + 1, 0, none⟩ (.slice (some ⟨g, 0, none⟩) d.n cap)).setCell ⟨w.heap.size + 1 + 1, 1, none⟩ (.slice (some ⟨cg, 0, none⟩) (d.m + 1) ccap)) :=
         drIn_wnd ((HSV.out.other hg2).other hg2) (by omega) (by rw [World.size_setCell, World.size_setCell]; exact (HCV.out.oth hc2).oth hc2)
        have HQ := Lib.hid hq
        have HFB := Lib.hid hfb
        have HDR := Lib.hid hdr
        clear hq hfb hdr hg2 hc2
        go_wp2_with fail
        obtain ⟨wf, hwf⟩ : ∃ wf : World, wf = ((w4.setCell ⟨w.heap.size + 1 + 1, 0, none⟩ (.slice (some ⟨g, 0, none⟩) d.n cap)).setCell ⟨w.heap.size + 1 + 1, 1, none⟩ (.slice (some ⟨cg, 0, none⟩) (d.m + 1) ccap)) := ⟨_, rfl⟩
        have HF2 := HFB.out
        have HQ2 := HQ.out
        have HD2 := HDR.out
        rw [← hwf] at HF2 HQ2 HD2 ⊢
        obtain ⟨q0, q1, _, _⟩ := HQ2
        exact bodyPost_ret (v := .tuple #[(wnd d (p0, p1, p2) (some ⟨g, 0, none⟩) cap (some ⟨cg, 0, none⟩) ccap).v, .int .i64 0]) (by simp [results, Try.results29, go_sem, q0, q1]) rfl ⟨HF2, .inr ⟨rfl, _, _, _, _, rfl, HD2⟩⟩
      ·go_simp
       obtain ⟨a4, hwa4⟩ : ∃ V : World, V = a3.alloc (.cells #[.slice none 0 0, .slice none 0 0] 25) := ⟨_, rfl⟩
       rw [← hwa4]
       have hqa4 : Below a3.heap.size a3 a4 := by rw [hwa4]; exact box1 _ _
       have hba4 := nextB hba3 hqa4
       have hma4 := (hma3.up hqa4 (Nat.le_refl _)).more hqa4.size
       have hSa4 := hSa3.up hqa4
       have o0a4 := cell_of hqa4 o0a3
       have o1a4 := cell_of hqa4 o1a3
       have bxa4 : Bv a3.heap.size (.slice none 0 0) (.slice none 0 0) a4 := by rw [hwa4]; exact Bv.new a3 _ _ _
       have hgb : g ≠ a3.heap.size := by have := hSa3.lt; omega
       have hTa4 : (fun w' => w'.cell? ⟨w.heap.size, 0, none⟩ = some (.slice d.RA d.n d.rc) ∧ w'.cell? ⟨w.heap.size, 1, none⟩ = some (.slice d.SA d.m d.sc) ∧ w'.cell? ⟨w.heap.size + 1, 0, none⟩ = some (.int .i64 p0) ∧ w'.cell? ⟨w.heap.size + 1, 1, none⟩ = some (.int .i64 p1) ∧ w'.cell? ⟨w.heap.size + 1, 2, none⟩ = some (.int .i64 p2)) a4 := ⟨(hba4.cell (World.block_lt_of_cell? _ _ x0)).trans x0, (hba4.cell (World.block_lt_of_cell? _ _ x1)).trans x1, (hba4.cell (World.block_lt_of_cell? _ _ s0)).trans s0, (hba4.cell (World.block_lt_of_cell? _ _ s1)).trans s1, (hba4.cell (World.block_lt_of_cell? _ _ s2)).trans s2⟩
       clear hwa4
       refine hK.out _ _ (fun _ => hTa4) ?_
       clear hK K
       (try simp only [Act.put, List.setIfInBounds_toArray, List.set_cons_zero, List.set_cons_succ])
       refine M_step 8 rfl (by kernel_rfl) (fun K hK => ?_)
       go_simp
       go_at_call 82
       refine (ConcatStop_any a2.heap.size d.SA d.m d.sc d.S ⟨w2.heap.size, 0, none⟩ 1 (p0, p1, p2) _ (by omega) o0a4 o1a4 (DD.out _ (nextB D.out hba4)).2 hma4).mono ?_
       rintro e a5 ⟨cg, ccap, rfl, hcg, hcta5, hqa5⟩
       have hba5 := nextB hba4 hqa5
       have hc0 : cg ≠ w.heap.size + 1 + 1 := by have := hba4.size; omega
       have hcb : cg ≠ a3.heap.size := by have := bxa4.lt; omega
       have hSa5 := hSa4.up hqa5
       have bxa5 := bxa4.up hqa5
       have hTa5 : (fun w' => w'.cell? ⟨w.heap.size, 0, none⟩ = some (.slice d.RA d.n d.rc) ∧ w'.cell? ⟨w.heap.size, 1, none⟩ = some (.slice d.SA d.m d.sc) ∧ w'.cell? ⟨w.heap.size + 1, 0, none⟩ = some (.int .i64 p0) ∧ w'.cell? ⟨w.heap.size + 1, 1, none⟩ = some (.int .i64 p1) ∧ w'.cell? ⟨w.heap.size + 1, 2, none⟩ = some (.int .i64 p2)) a5 := ⟨(hba5.cell (World.block_lt_of_cell? _ _ x0)).trans x0, (hba5.cell (World.block_lt_of_cell? _ _ x1)).trans x1, (hba5.cell (World.block_lt_of_cell? _ _ s0)).trans s0, (hba5.cell (World.block_lt_of_cell? _ _ s1)).trans s1, (hba5.cell (World.block_lt_of_cell? _ _ s2)).trans s2⟩
       clear hcg
       refine hK.out _ _ (fun _ => hTa5) ?_
       clear hK K
       (try simp only [Act.put, List.setIfInBounds_toArray, List.set_cons_zero, List.set_cons_succ])
       refine M_take (v := ?_) 9 rfl (by kernel_rfl) (by assumption) (fun _ _ _ h => h) (Or.inl ⟨by rfl, ?_⟩) ?_
       rotate_left
       ·(intro w hSw; (try dsimp only at hSw); go_simp; (try with_reducible rfl))
       (try simp only [Act.put, List.setIfInBounds_toArray, List.set_cons_zero, List.set_cons_succ])
       refine M_step 11 rfl (by kernel_rfl) (fun K hK => ?_)
       obtain ⟨b0, b1, b2, b3⟩ := id bxa5
       have zb := bxa5.lt
       go_simp
       refine hK.out _ _ (fun e => by cases e) ?_
       clear hK K
       (try simp only [Act.put, List.setIfInBounds_toArray, List.set_cons_zero, List.set_cons_succ])
       refine M_done (by kernel_rfl) ?_ _
       obtain ⟨V, hV⟩ : ∃ V : World, V = ((a5.setCell ⟨a3.heap.size, 0, none⟩ (.slice (some ⟨g, 0, none⟩) d.n cap)).setCell ⟨a3.heap.size, 1, none⟩ (.slice (some ⟨cg, 0, none⟩) (d.m + 1) ccap)) := ⟨_, rfl⟩
       have bxV : Bv a3.heap.size (.slice (some ⟨g, 0, none⟩) d.n cap) (.slice (some ⟨cg, 0, none⟩) (d.m + 1) ccap) V := by rw [hV]; exact bxa5.store _ _
       have hbV : Below w2.heap.size w2 V := by rw [hV]; exact set1 (set1 hba5 hba3.size _ _) hba3.size _ _
       have hSV : SpR g d.n d.G V := by rw [hV]; exact (hSa5.other hgb).other hgb
       have hszV : V.heap.size = a5.heap.size := by rw [hV]; simp only [World.size_setCell]
       have hctV : TrsIn (some ⟨cg, 0, none⟩) (d.m + 1) (catF d.m d.S fun _ => (p0, p1, p2)) V.heap.size V := by rw [hszV, hV]; exact (hcta5.oth hcb).oth hcb
       have hRV : Bv (w.heap.size + 1 + 1) (.slice none 0 0) (.slice none 0 0) V := by rw [hV]; exact ((R.out.up hba5).other (by have := hba3.size; omega)).other (by have := hba3.size; omega)
       have BX := Lib.hid bxV
       have D := Lib.hid (nextB D.out hbV)
       have HSV := Lib.hid hSV
       have HCV := Lib.hid hctV
       have R := Lib.hid hRV
       have HLOW : Hid (g ≠ w.heap.size + 1 + 1 ∧ cg ≠ w.heap.size + 1 + 1) := Lib.hid ⟨hg0, hc0⟩
       rw [← hV]
       clear hV bxV hbV hSV hszV hctV hRV b0 b1 b2 b3 zb x0 x1 s0 s1 s2 zP zS r0 r1 r2 r3 zR hT0 
       obtain ⟨bb, hbb⟩ : ∃ bb, bb = a3.heap.size := ⟨_, rfl⟩
       rw [← hbb] at BX hgb hcb ⊢
       have HGB := Lib.hid (And.intro hgb hcb)
       clear hbb hgb hcb
       obtain ⟨b0, b1, b2, b3⟩ := BX.out
       have zb := BX.out.lt
       obtain ⟨E2, hE2, hEE⟩ : ∃ E2 : Int, ((E2 = 0 ∧ DrOk (wnd d (p0, p1, p2) (some ⟨g, 0, none⟩) cap (some ⟨cg, 0, none⟩) ccap)) ∨ (E2 = 20 ∧ ¬ DrOk (wnd d (p0, p1, p2) (some ⟨g, 0, none⟩) cap (some ⟨cg, 0, none⟩) ccap))) ∧ ((E2 = 20 ∧ E = 1) ∨ (E2 = 0 ∧ E = 0)) := by
        rcases HE3.out with ⟨h, h2⟩ | ⟨h, h2⟩
        ·exact ⟨20, .inr ⟨rfl, fun k => h2 ((wok_iff _ _ _ _ _ _).1 k)⟩, .inl ⟨rfl, h⟩⟩
        ·exact ⟨0, .inl ⟨rfl, (wok_iff _ _ _ _ _ _).2 h2⟩, .inr ⟨rfl, h⟩⟩
       have K2 := Lib.hid (Check_any (wnd d (p0, p1, p2) (some ⟨g, 0, none⟩) cap (some ⟨cg, 0, none⟩) ccap) E2 V (drIn_wnd HSV.out (by omega) HCV.out) hE2)
       have HEE := Lib.hid hEE
       clear hE2 hEE
       go_wp2_with fail
       refine K2.out.mono ?_
       rintro e w4 ⟨rfl, hb⟩
       have J := Lib.hid hb
       have D := Lib.hid (nextB D.out hb)
       have R := Lib.hid (R.out.up hb)
       have BX := Lib.hid (BX.out.up hb)
       have HSV := Lib.hid (HSV.out.up hb)
       have HCV := Lib.hid ((HCV.out.up hb (Nat.le_refl _)).more hb.size)
       clear hb b0 b1 b2 b3 zb
       obtain ⟨b0, b1, b2, b3⟩ := BX.out
       have zb := BX.out.lt
       obtain ⟨r0, r1, r2, r3⟩ := R.out
       have zR := R.out.lt
       rcases HEE.out with ⟨rfl, rfl⟩ | ⟨rfl, rfl⟩
       ·have hq := R.out.store (.slice none 0 0) (.slice none 0 0)
        have hfb : Below w.heap.size w ((w4.setCell ⟨w.heap.size + 1 + 1, 0, none⟩ (.slice none 0 0)).setCell ⟨w.heap.size + 1 + 1, 1, none⟩ (.slice none 0 0)) := set1 (set1 D.out (by omega) _ _) (by omega) _ _
        have HQ := Lib.hid hq
        have HFB := Lib.hid hfb
        clear hq hfb
        go_wp2_with fail
        obtain ⟨wf, hwf⟩ : ∃ wf : World, wf = ((w4.setCell ⟨w.heap.size + 1 + 1, 0, none⟩ (.slice none 0 0)).setCell ⟨w.heap.size + 1 + 1, 1, none⟩ (.slice none 0 0)) := ⟨_, rfl⟩
        have HF2 := HFB.out
        have HQ2 := HQ.out
        rw [← hwf] at HF2 HQ2 ⊢
        obtain ⟨q0, q1, _, _⟩ := HQ2
        exact bodyPost_ret (v := .tuple #[.agg #[.slice none 0 0, .slice none 0 0], .int .i64 1]) (by simp [results, Try.results29, go_sem, q0, q1]) rfl ⟨HF2, .inl ⟨by omega, rfl⟩⟩
       ·have hq := R.out.store (.slice (some ⟨g, 0, none⟩) d.n cap) (.slice (some ⟨cg, 0, none⟩) (d.m + 1) ccap)
        have hfb : Below w.heap.size w ((w4.setCell ⟨w.heap.size + 1 + 1, 0, none⟩ (.slice (some ⟨g, 0, none⟩) d.n cap)).setCell ⟨w.heap.size + 1 + 1, 1, none⟩ (.slice (some ⟨cg, 0, none⟩) (d.m + 1) ccap)) := set1 (set1 D.out (by omega) _ _) (by omega) _ _
        have hg2 : g ≠ w.heap.size + 1 + 1 := HLOW.out.1
        have hc2 : cg ≠ w.heap.size + 1 + 1 := HLOW.out.2
        have hdr : DrIn (wnd d (p0, p1, p2) (some ⟨g, 0, none⟩) cap (some ⟨cg, 0, none⟩) ccap) ((w4.setCell ⟨w.heap.size + 1 + 1, 0, none⟩ (.slice (some ⟨g, 0, none⟩) d.n cap)).setCell ⟨w.heap.size + 1 + 1, 1, none⟩ (.slice (some ⟨cg, 0, none⟩) (d.m + 1) ccap)).heap.size ((w4.setCell ⟨w.heap.size + 1 + 1, 0, none⟩ (.slice (some ⟨g, 0, none⟩) d.n cap)).setCell ⟨w.heap.size + 1 + 1, 1, none⟩ (.slice (some ⟨cg, 0, none⟩) (d.m + 1) ccap)) :=
         drIn_wnd ((HSV.out.other hg2).other hg2) (by omega) (by rw [World.size_setCell, World.size_setCell]; exact (HCV.out.oth hc2).oth hc2)
        have HQ := Lib.hid hq
        have HFB := Lib.hid hfb
        have HDR := Lib.hid hdr
        clear hq hfb hdr hg2 hc2
        go_wp2_with fail
        obtain ⟨wf, hwf⟩ : ∃ wf : World, wf = ((w4.setCell ⟨w.heap.size + 1 + 1, 0, none⟩ (.slice (some ⟨g, 0, none⟩) d.n cap)).setCell ⟨w.heap.size + 1 + 1, 1, none⟩ (.slice (some ⟨cg, 0, none⟩) (d.m + 1) ccap)) := ⟨_, rfl⟩
        have HF2 := HFB.out
        have HQ2 := HQ.out
        have HD2 := HDR.out
        rw [← hwf] at HF2 HQ2 HD2 ⊢
        obtain ⟨q0, q1, _, _⟩ := HQ2
        exact bodyPost_ret (v := .tuple #[(wnd d (p0, p1, p2) (some ⟨g, 0, none⟩) cap (some ⟨cg, 0, none⟩) ccap).v, .int .i64 0]) (by simp [results, Try.results29, go_sem, q0, q1]) rfl ⟨HF2, .inr ⟨rfl, _, _, _, _, rfl, HD2⟩⟩
     ·go_simp
      obtain ⟨a3, hwa3⟩ : ∃ V : World, V = a2.alloc (.cells #[.slice none 0 0, .slice none 0 0] 25) := ⟨_, rfl⟩
      rw [← hwa3]
      have hqa3 : Below a2.heap.size a2 a3 := by rw [hwa3]; exact box1 _ _
      have hba3 := nextB hba2 hqa3
      have hma3 := (hma2.up hqa3 (Nat.le_refl _)).more hqa3.size
      have hSa3 := hSa2.up hqa3
      have bxa3 : Bv a2.heap.size (.slice none 0 0) (.slice none 0 0) a3 := by rw [hwa3]; exact Bv.new a2 _ _ _
      have hgb : g ≠ a2.heap.size := by have := hSa2.lt; omega
      have hTa3 : (fun w' => w'.cell? ⟨w.heap.size, 0, none⟩ = some (.slice d.RA d.n d.rc) ∧ w'.cell? ⟨w.heap.size, 1, none⟩ = some (.slice d.SA d.m d.sc) ∧ w'.cell? ⟨w.heap.size + 1, 0, none⟩ = some (.int .i64 p0) ∧ w'.cell? ⟨w.heap.size + 1, 1, none⟩ = some (.int .i64 p1) ∧ w'.cell? ⟨w.heap.size + 1, 2, none⟩ = some (.int .i64 p2)) a3 := ⟨(hba3.cell (World.block_lt_of_cell? _ _ x0)).trans x0, (hba3.cell (World.block_lt_of_cell? _ _ x1)).trans x1, (hba3.cell (World.block_lt_of_cell? _ _ s0)).trans s0, (hba3.cell (World.block_lt_of_cell? _ _ s1)).trans s1, (hba3.cell (World.block_lt_of_cell? _ _ s2)).trans s2⟩
      clear hwa3
      refine hK.out _ _ (fun _ => hTa3) ?_
      clear hK K
      (try simp only [Act.put, List.setIfInBounds_toArray, List.set_cons_zero, List.set_cons_succ])
      refine M_step 7 rfl (by kernel_rfl) (fun K hK => ?_)
      go_simp
      obtain ⟨a4, hwa4⟩ : ∃ V : World, V = a3.alloc (.cells #[.slice d.SA d.m d.sc, .slice (some ⟨w2.heap.size, 0, none⟩) 1 1] 23) := ⟨_, rfl⟩
      rw [← hwa4]
      have hqa4 : Below a3.heap.size a3 a4 := by rw [hwa4]; exact box1 _ _
      have hba4 := nextB hba3 hqa4
      have hma4 := (hma3.up hqa4 (Nat.le_refl _)).more hqa4.size
      have hSa4 := hSa3.up hqa4
      have bxa4 := bxa3.up hqa4
      have o0a4 : a4.cell? ⟨a3.heap.size, 0, none⟩ = some (.slice d.SA d.m d.sc) := by rw [hwa4]; go_simp
      have o1a4 : a4.cell? ⟨a3.heap.size, 1, none⟩ = some (.slice (some ⟨w2.heap.size, 0, none⟩) 1 1) := by rw [hwa4]; go_simp
      have hTa4 : (fun w' => w'.cell? ⟨w.heap.size, 0, none⟩ = some (.slice d.RA d.n d.rc) ∧ w'.cell? ⟨w.heap.size, 1, none⟩ = some (.slice d.SA d.m d.sc) ∧ w'.cell? ⟨w.heap.size + 1, 0, none⟩ = some (.int .i64 p0) ∧ w'.cell? ⟨w.heap.size + 1, 1, none⟩ = some (.int .i64 p1) ∧ w'.cell? ⟨w.heap.size + 1, 2, none⟩ = some (.int .i64 p2)) a4 := ⟨(hba4.cell (World.block_lt_of_cell? _ _ x0)).trans x0, (hba4.cell (World.block_lt_of_cell? _ _ x1)).trans x1, (hba4.cell (World.block_lt_of_cell? _ _ s0)).trans s0, (hba4.cell (World.block_lt_of_cell? _ _ s1)).trans s1, (hba4.cell (World.block_lt_of_cell? _ _ s2)).trans s2⟩
      clear hwa4
      refine hK.out _ _ (fun _ => hTa4) ?_
      clear hK K
      (try simp only [Act.put, List.setIfInBounds_toArray, List.set_cons_zero, List.set_cons_succ])
      refine M_step 8 rfl (by kernel_rfl) (fun K hK => ?_)
      go_simp
      go_at_call 82
      refine (ConcatStop_any a3.heap.size d.SA d.m d.sc d.S ⟨w2.heap.size, 0, none⟩ 1 (p0, p1, p2) _ (by omega) o0a4 o1a4 (DD.out _ (nextB D.out hba4)).2 hma4).mono ?_
      rintro e a5 ⟨cg, ccap, rfl, hcg, hcta5, hqa5⟩
      have hba5 := nextB hba4 hqa5
      have hc0 : cg ≠ w.heap.size + 1 + 1 := by have := hba4.size; omega
      have hcb : cg ≠ a2.heap.size := by have := bxa4.lt; omega
      have hSa5 := hSa4.up hqa5
      have bxa5 := bxa4.up hqa5
      have hTa5 : (fun w' => w'.cell? ⟨w.heap.size, 0, none⟩ = some (.slice d.RA d.n d.rc) ∧ w'.cell? ⟨w.heap.size, 1, none⟩ = some (.slice d.SA d.m d.sc) ∧ w'.cell? ⟨w.heap.size + 1, 0, none⟩ = some (.int .i64 p0) ∧ w'.cell? ⟨w.heap.size + 1, 1, none⟩ = some (.int .i64 p1) ∧ w'.cell? ⟨w.heap.size + 1, 2, none⟩ = some (.int .i64 p2)) a5 := ⟨(hba5.cell (World.block_lt_of_cell? _ _ x0)).trans x0, (hba5.cell (World.block_lt_of_cell? _ _ x1)).trans x1, (hba5.cell (World.block_lt_of_cell? _ _ s0)).trans s0, (hba5.cell (World.block_lt_of_cell? _ _ s1)).trans s1, (hba5.cell (World.block_lt_of_cell? _ _ s2)).trans s2⟩
      clear hcg
      refine hK.out _ _ (fun _ => hTa5) ?_
      clear hK K
      (try simp only [Act.put, List.setIfInBounds_toArray, List.set_cons_zero, List.set_cons_succ])
      refine M_take (v := ?_) 9 rfl (by kernel_rfl) (by assumption) (fun _ _ _ h => h) (Or.inl ⟨by rfl, ?_⟩) ?_
      rotate_left
      ·(intro w hSw; (try dsimp only at hSw); go_simp; (try with_reducible rfl))
      (try simp only [Act.put, List.setIfInBounds_toArray, List.set_cons_zero, List.set_cons_succ])
      refine M_step 11 rfl (by kernel_rfl) (fun K hK => ?_)
      obtain ⟨b0, b1, b2, b3⟩ := id bxa5
      have zb := bxa5.lt
      go_simp
      refine hK.out _ _ (fun e => by cases e) ?_
      clear hK K
      (try simp only [Act.put, List.setIfInBounds_toArray, List.set_cons_zero, List.set_cons_succ])
      refine M_done (by kernel_rfl) ?_ _
      obtain ⟨V, hV⟩ : ∃ V : World, V = ((a5.setCell ⟨a2.heap.size, 0, none⟩ (.slice (some ⟨g, 0, none⟩) d.n cap)).setCell ⟨a2.heap.size, 1, none⟩ (.slice (some ⟨cg, 0, none⟩) (d.m + 1) ccap)) := ⟨_, rfl⟩
      have bxV : Bv a2.heap.size (.slice (some ⟨g, 0, none⟩) d.n cap) (.slice (some ⟨cg, 0, none⟩) (d.m + 1) ccap) V := by rw [hV]; exact bxa5.store _ _
      have hbV : Below w2.heap.size w2 V := by rw [hV]; exact set1 (set1 hba5 hba2.size _ _) hba2.size _ _
      have hSV : SpR g d.n d.G V := by rw [hV]; exact (hSa5.other hgb).other hgb
      have hszV : V.heap.size = a5.heap.size := by rw [hV]; simp only [World.size_setCell]
      have hctV : TrsIn (some ⟨cg, 0, none⟩) (d.m + 1) (catF d.m d.S fun _ => (p0, p1, p2)) V.heap.size V := by rw [hszV, hV]; exact (hcta5.oth hcb).oth hcb
      have hRV : Bv (w.heap.size + 1 + 1) (.slice none 0 0) (.slice none 0 0) V := by rw [hV]; exact ((R.out.up hba5).other (by have := hba2.size; omega)).other (by have := hba2.size; omega)
      have BX := Lib.hid bxV
      have D := Lib.hid (nextB D.out hbV)
      have HSV := Lib.hid hSV
      have HCV := Lib.hid hctV
      have R := Lib.hid hRV
      have HLOW : Hid (g ≠ w.heap.size + 1 + 1 ∧ cg ≠ w.heap.size + 1 + 1) := Lib.hid ⟨hg0, hc0⟩
      rw [← hV]
      clear hV bxV hbV hSV hszV hctV hRV b0 b1 b2 b3 zb x0 x1 s0 s1 s2 zP zS r0 r1 r2 r3 zR hT0 
      obtain ⟨bb, hbb⟩ : ∃ bb, bb = a2.heap.size := ⟨_, rfl⟩
      rw [← hbb] at BX hgb hcb ⊢
      have HGB := Lib.hid (And.intro hgb hcb)
      clear hbb hgb hcb
      obtain ⟨b0, b1, b2, b3⟩ := BX.out
      have zb := BX.out.lt
      obtain ⟨E2, hE2, hEE⟩ : ∃ E2 : Int, ((E2 = 0 ∧ DrOk (wnd d (p0, p1, p2) (some ⟨g, 0, none⟩) cap (some ⟨cg, 0, none⟩) ccap)) ∨ (E2 = 20 ∧ ¬ DrOk (wnd d (p0, p1, p2) (some ⟨g, 0, none⟩) cap (some ⟨cg, 0, none⟩) ccap))) ∧ ((E2 = 20 ∧ E = 1) ∨ (E2 = 0 ∧ E = 0)) := by
       rcases HE3.out with ⟨h, h2⟩ | ⟨h, h2⟩
       ·exact ⟨20, .inr ⟨rfl, fun k => h2 ((wok_iff _ _ _ _ _ _).1 k)⟩, .inl ⟨rfl, h⟩⟩
       ·exact ⟨0, .inl ⟨rfl, (wok_iff _ _ _ _ _ _).2 h2⟩, .inr ⟨rfl, h⟩⟩
      have K2 := Lib.hid (Check_any (wnd d (p0, p1, p2) (some ⟨g, 0, none⟩) cap (some ⟨cg, 0, none⟩) ccap) E2 V (drIn_wnd HSV.out (by omega) HCV.out) hE2)
      have HEE := Lib.hid hEE
      clear hE2 hEE
      go_wp2_with fail
      refine K2.out.mono ?_
      rintro e w4 ⟨rfl, hb⟩
      have J := Lib.hid hb
      have D := Lib.hid (nextB D.out hb)
      have R := Lib.hid (R.out.up hb)
      have BX := Lib.hid (BX.out.up hb)
      have HSV := Lib.hid (HSV.out.up hb)
      have HCV := Lib.hid ((HCV.out.up hb (Nat.le_refl _)).more hb.size)
      clear hb b0 b1 b2 b3 zb
      obtain ⟨b0, b1, b2, b3⟩ := BX.out
      have zb := BX.out.lt
      obtain ⟨r0, r1, r2, r3⟩ := R.out
      have zR := R.out.lt
      rcases HEE.out with ⟨rfl, rfl⟩ | ⟨rfl, rfl⟩
      ·have hq := R.out.store (.slice none 0 0) (.slice none 0 0)
       have hfb : Below w.heap.size w ((w4.setCell ⟨w.heap.size + 1 + 1, 0, none⟩ (.slice none 0 0)).setCell ⟨w.heap.size + 1 + 1, 1, none⟩ (.slice none 0 0)) := set1 (set1 D.out (by omega) _ _) (by omega) _ _
       have HQ := Lib.hid hq
       have HFB := Lib.hid hfb
       clear hq hfb
       go_wp2_with fail
       obtain ⟨wf, hwf⟩ : ∃ wf : World, wf = ((w4.setCell ⟨w.heap.size + 1 + 1, 0, none⟩ (.slice none 0 0)).setCell ⟨w.heap.size + 1 + 1, 1, none⟩ (.slice none 0 0)) := ⟨_, rfl⟩
       have HF2 := HFB.out
       have HQ2 := HQ.out
       rw [← hwf] at HF2 HQ2 ⊢
       obtain ⟨q0, q1, _, _⟩ := HQ2
       exact bodyPost_ret (v := .tuple #[.agg #[.slice none 0 0, .slice none 0 0], .int .i64 1]) (by simp [results, Try.results29, go_sem, q0, q1]) rfl ⟨HF2, .inl ⟨by omega, rfl⟩⟩
      ·have hq := R.out.store (.slice (some ⟨g, 0, none⟩) d.n cap) (.slice (some ⟨cg, 0, none⟩) (d.m + 1) ccap)
       have hfb : Below w.heap.size w ((w4.setCell ⟨w.heap.size + 1 + 1, 0, none⟩ (.slice (some ⟨g, 0, none⟩) d.n cap)).setCell ⟨w.heap.size + 1 + 1, 1, none⟩ (.slice (some ⟨cg, 0, none⟩) (d.m + 1) ccap)) := set1 (set1 D.out (by omega) _ _) (by omega) _ _
       have hg2 : g ≠ w.heap.size + 1 + 1 := HLOW.out.1
       have hc2 : cg ≠ w.heap.size + 1 + 1 := HLOW.out.2
       have hdr : DrIn (wnd d (p0, p1, p2) (some ⟨g, 0, none⟩) cap (some ⟨cg, 0, none⟩) ccap) ((w4.setCell ⟨w.heap.size + 1 + 1, 0, none⟩ (.slice (some ⟨g, 0, none⟩) d.n cap)).setCell ⟨w.heap.size + 1 + 1, 1, none⟩ (.slice (some ⟨cg, 0, none⟩) (d.m + 1) ccap)).heap.size ((w4.setCell ⟨w.heap.size + 1 + 1, 0, none⟩ (.slice (some ⟨g, 0, none⟩) d.n cap)).setCell ⟨w.heap.size + 1 + 1, 1, none⟩ (.slice (some ⟨cg, 0, none⟩) (d.m + 1) ccap)) :=
        drIn_wnd ((HSV.out.other hg2).other hg2) (by omega) (by rw [World.size_setCell, World.size_setCell]; exact (HCV.out.oth hc2).oth hc2)
       have HQ := Lib.hid hq
       have HFB := Lib.hid hfb
       have HDR := Lib.hid hdr
       clear hq hfb hdr hg2 hc2
       go_wp2_with fail
       obtain ⟨wf, hwf⟩ : ∃ wf : World, wf = ((w4.setCell ⟨w.heap.size + 1 + 1, 0, none⟩ (.slice (some ⟨g, 0, none⟩) d.n cap)).setCell ⟨w.heap.size + 1 + 1, 1, none⟩ (.slice (some ⟨cg, 0, none⟩) (d.m + 1) ccap)) := ⟨_, rfl⟩
       have HF2 := HFB.out
       have HQ2 := HQ.out
       have HD2 := HDR.out
       rw [← hwf] at HF2 HQ2 HD2 ⊢
       obtain ⟨q0, q1, _, _⟩ := HQ2
       exact bodyPost_ret (v := .tuple #[(wnd d (p0, p1, p2) (some ⟨g, 0, none⟩) cap (some ⟨cg, 0, none⟩) ccap).v, .int .i64 0]) (by simp [results, Try.results29, go_sem, q0, q1]) rfl ⟨HF2, .inr ⟨rfl, _, _, _, _, rfl, HD2⟩⟩
    ·go_simp
     obtain ⟨a2, hwa2⟩ : ∃ V : World, V = a1.alloc (.cells #[.slice d.SA d.m d.sc, .slice (some ⟨w2.heap.size, 0, none⟩) 1 1] 23) := ⟨_, rfl⟩
     rw [← hwa2]
     have hqa2 : Below a1.heap.size a1 a2 := by rw [hwa2]; exact box1 _ _
     have hba2 := nextB hba1 hqa2
     have hma2 := (hma1.up hqa2 (Nat.le_refl _)).more hqa2.size
     have o0a2 : a2.cell? ⟨a1.heap.size, 0, none⟩ = some (.slice d.SA d.m d.sc) := by rw [hwa2]; go_simp
     have o1a2 : a2.cell? ⟨a1.heap.size, 1, none⟩ = some (.slice (some ⟨w2.heap.size, 0, none⟩) 1 1) := by rw [hwa2]; go_simp
     have hTa2 : (fun w' => w'.cell? ⟨w.heap.size, 0, none⟩ = some (.slice d.RA d.n d.rc) ∧ w'.cell? ⟨w.heap.size, 1, none⟩ = some (.slice d.SA d.m d.sc) ∧ w'.cell? ⟨w.heap.size + 1, 0, none⟩ = some (.int .i64 p0) ∧ w'.cell? ⟨w.heap.size + 1, 1, none⟩ = some (.int .i64 p1) ∧ w'.cell? ⟨w.heap.size + 1, 2, none⟩ = some (.int .i64 p2)) a2 := ⟨(hba2.cell (World.block_lt_of_cell? _ _ x0)).trans x0, (hba2.cell (World.block_lt_of_cell? _ _ x1)).trans x1, (hba2.cell (World.block_lt_of_cell? _ _ s0)).trans s0, (hba2.cell (World.block_lt_of_cell? _ _ s1)).trans s1, (hba2.cell (World.block_lt_of_cell? _ _ s2)).trans s2⟩
     clear hwa2
     refine hK.out _ _ (fun _ => hTa2) ?_
     clear hK K
     (try simp only [Act.put, List.setIfInBounds_toArray, List.set_cons_zero, List.set_cons_succ])
     refine M_fork 2 10 rfl rfl (by kernel_rfl) (fun K hK => ?_) (fun K hK => ?_)
     ·go_simp
      go_at_call 81
      refine (Clone_any d.RA d.n d.rc d.G a2.drew (DD.out _ (nextB D.out hba2.drew)).1 HD.out.n1 (by omega)).mono ?_
      rintro e a3 ⟨g, cap, rfl, hg, hcap, hSa3, hq'⟩
      have hqa3 : Below a2.heap.size a2 a3 := nextB (Below.refl _ _).drew hq'
      have hba3 := nextB hba2 hqa3
      have hg : a2.heap.size ≤ g := hg
      have hg0 : g ≠ w.heap.size + 1 + 1 := by have := hba2.size; omega
      have hma3 := (hma2.up hqa3 (Nat.le_refl _)).more hqa3.size
      have o0a3 := cell_of hqa3 o0a2
      have o1a3 := cell_of hqa3 o1a2
      have hTa3 : (fun w' => w'.cell? ⟨w.heap.size, 0, none⟩ = some (.slice d.RA d.n d.rc) ∧ w'.cell? ⟨w.heap.size, 1, none⟩ = some (.slice d.SA d.m d.sc) ∧ w'.cell? ⟨w.heap.size + 1, 0, none⟩ = some (.int .i64 p0) ∧ w'.cell? ⟨w.heap.size + 1, 1, none⟩ = some (.int .i64 p1) ∧ w'.cell? ⟨w.heap.size + 1, 2, none⟩ = some (.int .i64 p2)) a3 := ⟨(hba3.cell (World.block_lt_of_cell? _ _ x0)).trans x0, (hba3.cell (World.block_lt_of_cell? _ _ x1)).trans x1, (hba3.cell (World.block_lt_of_cell? _ _ s0)).trans s0, (hba3.cell (World.block_lt_of_cell? _ _ s1)).trans s1, (hba3.cell (World.block_lt_of_cell? _ _ s2)).trans s2⟩
      clear hg hcap hq'
      refine hK.out _ _ (fun _ => hTa3) ?_
      clear hK K
      (try simp only [Act.put, List.setIfInBounds_toArray, List.set_cons_zero, List.set_cons_succ])
      refine M_fork 8 10 rfl rfl (by kernel_rfl) (fun K hK => ?_) (fun K hK => ?_)
      ·go_simp
       go_at_call 82
       refine (ConcatStop_any a1.heap.size d.SA d.m d.sc d.S ⟨w2.heap.size, 0, none⟩ 1 (p0, p1, p2) _ (by omega) o0a3 o1a3 (DD.out _ (nextB D.out hba3)).2 hma3).mono ?_
       rintro e a4 ⟨cg, ccap, rfl, hcg, hcta4, hqa4⟩
       have hba4 := nextB hba3 hqa4
       have hc0 : cg ≠ w.heap.size + 1 + 1 := by have := hba3.size; omega
       have hSa4 := hSa3.up hqa4
       have hTa4 : (fun w' => w'.cell? ⟨w.heap.size, 0, none⟩ = some (.slice d.RA d.n d.rc) ∧ w'.cell? ⟨w.heap.size, 1, none⟩ = some (.slice d.SA d.m d.sc) ∧ w'.cell? ⟨w.heap.size + 1, 0, none⟩ = some (.int .i64 p0) ∧ w'.cell? ⟨w.heap.size + 1, 1, none⟩ = some (.int .i64 p1) ∧ w'.cell? ⟨w.heap.size + 1, 2, none⟩ = some (.int .i64 p2)) a4 := ⟨(hba4.cell (World.block_lt_of_cell? _ _ x0)).trans x0, (hba4.cell (World.block_lt_of_cell? _ _ x1)).trans x1, (hba4.cell (World.block_lt_of_cell? _ _ s0)).trans s0, (hba4.cell (World.block_lt_of_cell? _ _ s1)).trans s1, (hba4.cell (World.block_lt_of_cell? _ _ s2)).trans s2⟩
       clear hcg
       refine hK.out _ _ (fun _ => hTa4) ?_
       clear hK K
       (try simp only [Act.put, List.setIfInBounds_toArray, List.set_cons_zero, List.set_cons_succ])
       refine M_take (v := ?_) 9 rfl (by kernel_rfl) (by assumption) (fun _ _ _ h => h) (Or.inl ⟨by rfl, ?_⟩) ?_
       rotate_left
       ·(intro w hSw; (try dsimp only at hSw); go_simp; (try with_reducible rfl))
       (try simp only [Act.put, List.setIfInBounds_toArray, List.set_cons_zero, List.set_cons_succ])
       refine M_step 10 rfl (by kernel_rfl) (fun K hK => ?_)
       go_simp
       obtain ⟨a5, hwa5⟩ : ∃ V : World, V = a4.alloc (.cells #[.slice none 0 0, .slice none 0 0] 25) := ⟨_, rfl⟩
       rw [← hwa5]
       have hqa5 : Below a4.heap.size a4 a5 := by rw [hwa5]; exact box1 _ _
       have hba5 := nextB hba4 hqa5
       have hSa5 := hSa4.up hqa5
       have hcta5 := (hcta4.up hqa5 (Nat.le_refl _)).more hqa5.size
       have bxa5 : Bv a4.heap.size (.slice none 0 0) (.slice none 0 0) a5 := by rw [hwa5]; exact Bv.new a4 _ _ _
       have hgb : g ≠ a4.heap.size := by have := hSa4.lt; omega
       have hcb : cg ≠ a4.heap.size := by
        obtain ⟨a', e', l', _⟩ := hcta4.2 0 (by omega)
        cases e'
        have l'' : cg < a4.heap.size := l'
        omega
       have hTa5 : (fun w' => w'.cell? ⟨w.heap.size, 0, none⟩ = some (.slice d.RA d.n d.rc) ∧ w'.cell? ⟨w.heap.size, 1, none⟩ = some (.slice d.SA d.m d.sc) ∧ w'.cell? ⟨w.heap.size + 1, 0, none⟩ = some (.int .i64 p0) ∧ w'.cell? ⟨w.heap.size + 1, 1, none⟩ = some (.int .i64 p1) ∧ w'.cell? ⟨w.heap.size + 1, 2, none⟩ = some (.int .i64 p2)) a5 := ⟨(hba5.cell (World.block_lt_of_cell? _ _ x0)).trans x0, (hba5.cell (World.block_lt_of_cell? _ _ x1)).trans x1, (hba5.cell (World.block_lt_of_cell? _ _ s0)).trans s0, (hba5.cell (World.block_lt_of_cell? _ _ s1)).trans s1, (hba5.cell (World.block_lt_of_cell? _ _ s2)).trans s2⟩
       clear hwa5
       refine hK.out _ _ (fun _ => hTa5) ?_
       clear hK K
       (try simp only [Act.put, List.setIfInBounds_toArray, List.set_cons_zero, List.set_cons_succ])
       refine M_step 11 rfl (by kernel_rfl) (fun K hK => ?_)
       obtain ⟨b0, b1, b2, b3⟩ := id bxa5
       have zb := bxa5.lt
       go_simp
       refine hK.out _ _ (fun e => by cases e) ?_
       clear hK K
       (try simp only [Act.put, List.setIfInBounds_toArray, List.set_cons_zero, List.set_cons_succ])
       refine M_done (by kernel_rfl) ?_ _
       obtain ⟨V, hV⟩ : ∃ V : World, V = ((a5.setCell ⟨a4.heap.size, 0, none⟩ (.slice (some ⟨g, 0, none⟩) d.n cap)).setCell ⟨a4.heap.size, 1, none⟩ (.slice (some ⟨cg, 0, none⟩) (d.m + 1) ccap)) := ⟨_, rfl⟩
       have bxV : Bv a4.heap.size (.slice (some ⟨g, 0, none⟩) d.n cap) (.slice (some ⟨cg, 0, none⟩) (d.m + 1) ccap) V := by rw [hV]; exact bxa5.store _ _
       have hbV : Below w2.heap.size w2 V := by rw [hV]; exact set1 (set1 hba5 hba4.size _ _) hba4.size _ _
       have hSV : SpR g d.n d.G V := by rw [hV]; exact (hSa5.other hgb).other hgb
       have hszV : V.heap.size = a5.heap.size := by rw [hV]; simp only [World.size_setCell]
       have hctV : TrsIn (some ⟨cg, 0, none⟩) (d.m + 1) (catF d.m d.S fun _ => (p0, p1, p2)) V.heap.size V := by rw [hszV, hV]; exact (hcta5.oth hcb).oth hcb
       have hRV : Bv (w.heap.size + 1 + 1) (.slice none 0 0) (.slice none 0 0) V := by rw [hV]; exact ((R.out.up hba5).other (by have := hba4.size; omega)).other (by have := hba4.size; omega)
       have BX := Lib.hid bxV
       have D := Lib.hid (nextB D.out hbV)
       have HSV := Lib.hid hSV
       have HCV := Lib.hid hctV
       have R := Lib.hid hRV
       have HLOW : Hid (g ≠ w.heap.size + 1 + 1 ∧ cg ≠ w.heap.size + 1 + 1) := Lib.hid ⟨hg0, hc0⟩
       rw [← hV]
       clear hV bxV hbV hSV hszV hctV hRV b0 b1 b2 b3 zb x0 x1 s0 s1 s2 zP zS r0 r1 r2 r3 zR hT0 
       obtain ⟨bb, hbb⟩ : ∃ bb, bb = a4.heap.size := ⟨_, rfl⟩
       rw [← hbb] at BX hgb hcb ⊢
       have HGB := Lib.hid (And.intro hgb hcb)
       clear hbb hgb hcb
       obtain ⟨b0, b1, b2, b3⟩ := BX.out
       have zb := BX.out.lt
       obtain ⟨E2, hE2, hEE⟩ : ∃ E2 : Int, ((E2 = 0 ∧ DrOk (wnd d (p0, p1, p2) (some ⟨g, 0, none⟩) cap (some ⟨cg, 0, none⟩) ccap)) ∨ (E2 = 20 ∧ ¬ DrOk (wnd d (p0, p1, p2) (some ⟨g, 0, none⟩) cap (some ⟨cg, 0, none⟩) ccap))) ∧ ((E2 = 20 ∧ E = 1) ∨ (E2 = 0 ∧ E = 0)) := by
        rcases HE3.out with ⟨h, h2⟩ | ⟨h, h2⟩
        ·exact ⟨20, .inr ⟨rfl, fun k => h2 ((wok_iff _ _ _ _ _ _).1 k)⟩, .inl ⟨rfl, h⟩⟩
        ·exact ⟨0, .inl ⟨rfl, (wok_iff _ _ _ _ _ _).2 h2⟩, .inr ⟨rfl, h⟩⟩
       have K2 := Lib.hid (Check_any (wnd d (p0, p1, p2) (some ⟨g, 0, none⟩) cap (some ⟨cg, 0, none⟩) ccap) E2 V (drIn_wnd HSV.out (by omega) HCV.out) hE2)
       have HEE := Lib.hid hEE
       clear hE2 hEE
       go_wp2_with fail
       refine K2.out.mono ?_
       rintro e w4 ⟨rfl, hb⟩
       have J := Lib.hid hb
       have D := Lib.hid (nextB D.out hb)
       have R := Lib.hid (R.out.up hb)
       have BX := Lib.hid (BX.out.up hb)
       have HSV := Lib.hid (HSV.out.up hb)
       have HCV := Lib.hid ((HCV.out.up hb (Nat.le_refl _)).more hb.size)
       clear hb b0 b1 b2 b3 zb
       obtain ⟨b0, b1, b2, b3⟩ := BX.out
       have zb := BX.out.lt
       obtain ⟨r0, r1, r2, r3⟩ := R.out
       have zR := R.out.lt
       rcases HEE.out with ⟨rfl, rfl⟩ | ⟨rfl, rfl⟩
       ·have hq := R.out.store (.slice none 0 0) (.slice none 0 0)
        have hfb : Below w.heap.size w ((w4.setCell ⟨w.heap.size + 1 + 1, 0, none⟩ (.slice none 0 0)).setCell ⟨w.heap.size + 1 + 1, 1, none⟩ (.slice none 0 0)) := set1 (set1 D.out (by omega) _ _) (by omega) _ _
        have HQ := Lib.hid hq
        have HFB := Lib.hid hfb
        clear hq hfb
        go_wp2_with fail
        obtain ⟨wf, hwf⟩ : ∃ wf : World, wf = ((w4.setCell ⟨w.heap.size + 1 + 1, 0, none⟩ (.slice none 0 0)).setCell ⟨w.heap.size + 1 + 1, 1, none⟩ (.slice none 0 0)) := ⟨_, rfl⟩
        have HF2 := HFB.out
        have HQ2 := HQ.out
        rw [← hwf] at HF2 HQ2 ⊢
        obtain ⟨q0, q1, _, _⟩ := HQ2
        exact bodyPost_ret (v := .tuple #[.agg #[.slice none 0 0, .slice none 0 0], .int .i64 1]) (by simp [results, Try.results29, go_sem, q0, q1]) rfl ⟨HF2, .inl ⟨by omega, rfl⟩⟩
       ·have hq := R.out.store (.slice (some ⟨g, 0, none⟩) d.n cap) (.slice (some ⟨cg, 0, none⟩) (d.m + 1) ccap)
        have hfb : Below w.heap.size w ((w4.setCell ⟨w.heap.size + 1 + 1, 0, none⟩ (.slice (some ⟨g, 0, none⟩) d.n cap)).setCell ⟨w.heap.size + 1 + 1, 1, none⟩ (.slice (some ⟨cg, 0, none⟩) (d.m + 1) ccap)) := set1 (set1 D.out (by omega) _ _) (by omega) _ _
        have hg2 : g ≠ w.heap.size + 1 + 1 := HLOW.out.1
        have hc2 : cg ≠ w.heap.size + 1 + 1 := HLOW.out.2
        have hdr : DrIn (wnd d (p0, p1, p2) (some ⟨g, 0, none⟩) cap (some ⟨cg, 0, none⟩) ccap) ((w4.setCell ⟨w.heap.size + 1 + 1, 0, none⟩ (.slice (some ⟨g, 0, none⟩) d.n cap)).setCell ⟨w.heap.size + 1 + 1, 1, none⟩ (.slice (some ⟨cg, 0, none⟩) (d.m + 1) ccap)).heap.size ((w4.setCell ⟨w.heap.size + 1 + 1, 0, none⟩ (.slice (some ⟨g, 0, none⟩) d.n cap)).setCell ⟨w.heap.size + 1 + 1, 1, none⟩ (.slice (some ⟨cg, 0, none⟩) (d.m + 1) ccap)) :=
         drIn_wnd ((HSV.out.other hg2).other hg2) (by omega) (by rw [World.size_setCell, World.size_setCell]; exact (HCV.out.oth hc2).oth hc2)
        have HQ := Lib.hid hq
        have HFB := Lib.hid hfb
        have HDR := Lib.hid hdr
        clear hq hfb hdr hg2 hc2
        go_wp2_with fail
        obtain ⟨wf, hwf⟩ : ∃ wf : World, wf = ((w4.setCell ⟨w.heap.size + 1 + 1, 0, none⟩ (.slice (some ⟨g, 0, none⟩) d.n cap)).setCell ⟨w.heap.size + 1 + 1, 1, none⟩ (.slice (some ⟨cg, 0, none⟩) (d.m + 1) ccap)) := ⟨_, rfl⟩
        have HF2 := HFB.out
        have HQ2 := HQ.out
        have HD2 := HDR.out
        rw [← hwf] at HF2 HQ2 HD2 ⊢
        obtain ⟨q0, q1, _, _⟩ := HQ2
        exact bodyPost_ret (v := .tuple #[(wnd d (p0, p1, p2) (some ⟨g, 0, none⟩) cap (some ⟨cg, 0, none⟩) ccap).v, .int .i64 0]) (by simp [results, Try.results29, go_sem, q0, q1]) rfl ⟨HF2, .inr ⟨rfl, _, _, _, _, rfl, HD2⟩⟩
      ·go_simp
       obtain ⟨a4, hwa4⟩ : ∃ V : World, V = a3.alloc (.cells #[.slice none 0 0, .slice none 0 0] 25) := ⟨_, rfl⟩
       rw [← hwa4]
       have hqa4 : Below a3.heap.size a3 a4 := by rw [hwa4]; exact box1 _ _
       have hba4 := nextB hba3 hqa4
       have hma4 := (hma3.up hqa4 (Nat.le_refl _)).more hqa4.size
       have hSa4 := hSa3.up hqa4
       have o0a4 := cell_of hqa4 o0a3
       have o1a4 := cell_of hqa4 o1a3
       have bxa4 : Bv a3.heap.size (.slice none 0 0) (.slice none 0 0) a4 := by rw [hwa4]; exact Bv.new a3 _ _ _
       have hgb : g ≠ a3.heap.size := by have := hSa3.lt; omega
       have hTa4 : (fun w' => w'.cell? ⟨w.heap.size, 0, none⟩ = some (.slice d.RA d.n d.rc) ∧ w'.cell? ⟨w.heap.size, 1, none⟩ = some (.slice d.SA d.m d.sc) ∧ w'.cell? ⟨w.heap.size + 1, 0, none⟩ = some (.int .i64 p0) ∧ w'.cell? ⟨w.heap.size + 1, 1, none⟩ = some (.int .i64 p1) ∧ w'.cell? ⟨w.heap.size + 1, 2, none⟩ = some (.int .i64 p2)) a4 := ⟨(hba4.cell (World.block_lt_of_cell? _ _ x0)).trans x0, (hba4.cell (World.block_lt_of_cell? _ _ x1)).trans x1, (hba4.cell (World.block_lt_of_cell? _ _ s0)).trans s0, (hba4.cell (World.block_lt_of_cell? _ _ s1)).trans s1, (hba4.cell (World.block_lt_of_cell? _ _ s2)).trans s2⟩
       clear hwa4
       refine hK.out _ _ (fun _ => hTa4) ?_
       clear hK K
       (try simp only [Act.put, List.setIfInBounds_toArray, List.set_cons_zero, List.set_cons_succ])
       refine M_step 8 rfl (by kernel_rfl) (fun K hK => ?_)
       go_simp
       go_at_call 82
       refine (ConcatStop_any a1.heap.size d.SA d.m d.sc d.S ⟨w2.heap.size, 0, none⟩ 1 (p0, p1, p2) _ (by omega) o0a4 o1a4 (DD.out _ (nextB D.out hba4)).2 hma4).mono ?_
       rintro e a5 ⟨cg, ccap, rfl, hcg, hcta5, hqa5⟩
       have hba5 := nextB hba4 hqa5
       have hc0 : cg ≠ w.heap.size + 1 + 1 := by have := hba4.size; omega
       have hcb : cg ≠ a3.heap.size := by have := bxa4.lt; omega
       have hSa5 := hSa4.up hqa5
       have bxa5 := bxa4.up hqa5
       have hTa5 : (fun w' => w'.cell? ⟨w.heap.size, 0, none⟩ = some (.slice d.RA d.n d.rc) ∧ w'.cell? ⟨w.heap.size, 1, none⟩ = some (.slice d.SA d.m d.sc) ∧ w'.cell? ⟨w.heap.size + 1, 0, none⟩ = some (.int .i64 p0) ∧ w'.cell? ⟨w.heap.size + 1, 1, none⟩ = some (.int .i64 p1) ∧ w'.cell? ⟨w.heap.size + 1, 2, none⟩ = some (.int .i64 p2)) a5 := ⟨(hba5.cell (World.block_lt_of_cell? _ _ x0)).trans x0, (hba5.cell (World.block_lt_of_cell? _ _ x1)).trans x1, (hba5.cell (World.block_lt_of_cell? _ _ s0)).trans s0, (hba5.cell (World.block_lt_of_cell? _ _ s1)).trans s1, (hba5.cell (World.block_lt_of_cell? _ _ s2)).trans s2⟩
       clear hcg
       refine hK.out _ _ (fun _ => hTa5) ?_
       clear hK K
       (try simp only [Act.put, List.setIfInBounds_toArray, List.set_cons_zero, List.set_cons_succ])
       refine M_take (v := ?_) 9 rfl (by kernel_rfl) (by assumption) (fun _ _ _ h => h) (Or.inl ⟨by rfl, ?_⟩) ?_
       rotate_left
       ·(intro w hSw; (try dsimp only at hSw); go_simp; (try with_reducible rfl))
       (try simp only [Act.put, List.setIfInBounds_toArray, List.set_cons_zero, List.set_cons_succ])
       refine M_step 11 rfl (by kernel_rfl) (fun K hK => ?_)
       obtain ⟨b0, b1, b2, b3⟩ := id bxa5
       have zb := bxa5.lt
       go_simp
       refine hK.out _ _ (fun e => by cases e) ?_
       clear hK K
       (try simp only [Act.put, List.setIfInBounds_toArray, List.set_cons_zero, List.set_cons_succ])
       refine M_done (by kernel_rfl) ?_ _
       obtain ⟨V, hV⟩ : ∃ V : World, V = ((a5.setCell ⟨a3.heap.size, 0, none⟩ (.slice (some ⟨g, 0, none⟩) d.n cap)).setCell ⟨a3.heap.size, 1, none⟩ (.slice (some ⟨cg, 0, none⟩) (d.m + 1) ccap)) := ⟨_, rfl⟩
       have bxV : Bv a3.heap.size (.slice (some ⟨g, 0, none⟩) d.n cap) (.slice (some ⟨cg, 0, none⟩) (d.m + 1) ccap) V := by rw [hV]; exact bxa5.store _ _
       have hbV : Below w2.heap.size w2 V := by rw [hV]; exact set1 (set1 hba5 hba3.size _ _) hba3.size _ _
       have hSV : SpR g d.n d.G V := by rw [hV]; exact (hSa5.other hgb).other hgb
       have hszV : V.heap.size = a5.heap.size := by rw [hV]; simp only [World.size_setCell]
       have hctV : TrsIn (some ⟨cg, 0, none⟩) (d.m + 1) (catF d.m d.S fun _ => (p0, p1, p2)) V.heap.size V := by rw [hszV, hV]; exact (hcta5.oth hcb).oth hcb
       have hRV : Bv (w.heap.size + 1 + 1) (.slice none 0 0) (.slice none 0 0) V := by rw [hV]; exact ((R.out.up hba5).other (by have := hba3.size; omega)).other (by have := hba3.size; omega)
       have BX := Lib.hid bxV
       have D := Lib.hid (nextB D.out hbV)
       have HSV := Lib.hid hSV
       have HCV := Lib.hid hctV
       have R := Lib.hid hRV
       have HLOW : Hid (g ≠ w.heap.size + 1 + 1 ∧ cg ≠ w.heap.size + 1 + 1) := Lib.hid ⟨hg0, hc0⟩
       rw [← hV]
       clear hV bxV hbV hSV hszV hctV hRV b0 b1 b2 b3 zb x0 x1 s0 s1 s2 zP zS r0 r1 r2 r3 zR hT0 
       obtain ⟨bb, hbb⟩ : ∃ bb, bb = a3.heap.size := ⟨_, rfl⟩
       rw [← hbb] at BX hgb hcb ⊢
       have HGB := Lib.hid (And.intro hgb hcb)
       clear hbb hgb hcb
       obtain ⟨b0, b1, b2, b3⟩ := BX.out
       have zb := BX.out.lt
       obtain ⟨E2, hE2, hEE⟩ : ∃ E2 : Int, ((E2 = 0 ∧ DrOk (wnd d (p0, p1, p2) (some ⟨g, 0, none⟩) cap (some ⟨cg, 0, none⟩) ccap)) ∨ (E2 = 20 ∧ ¬ DrOk (wnd d (p0, p1, p2) (some ⟨g, 0, none⟩) cap (some ⟨cg, 0, none⟩) ccap))) ∧ ((E2 = 20 ∧ E = 1) ∨ (E2 = 0 ∧ E = 0)) := by
        rcases HE3.out with ⟨h, h2⟩ | ⟨h, h2⟩
        ·exact ⟨20, .inr ⟨rfl, fun k => h2 ((wok_iff _ _ _ _ _ _).1 k)⟩, .inl ⟨rfl, h⟩⟩
        ·exact ⟨0, .inl ⟨rfl, (wok_iff _ _ _ _ _ _).2 h2⟩, .inr ⟨rfl, h⟩⟩
       have K2 := Lib.hid (Check_any (wnd d (p0, p1, p2) (some ⟨g, 0, none⟩) cap (some ⟨cg, 0, none⟩) ccap) E2 V (drIn_wnd HSV.out (by omega) HCV.out) hE2)
       have HEE := Lib.hid hEE
       clear hE2 hEE
       go_wp2_with fail
       refine K2.out.mono ?_
       rintro e w4 ⟨rfl, hb⟩
       have J := Lib.hid hb
       have D := Lib.hid (nextB D.out hb)
       have R := Lib.hid (R.out.up hb)
       have BX := Lib.hid (BX.out.up hb)
       have HSV := Lib.hid (HSV.out.up hb)
       have HCV := Lib.hid ((HCV.out.up hb (Nat.le_refl _)).more hb.size)
       clear hb b0 b1 b2 b3 zb
       obtain ⟨b0, b1, b2, b3⟩ := BX.out
       have zb := BX.out.lt
       obtain ⟨r0, r1, r2, r3⟩ := R.out
       have zR := R.out.lt
       rcases HEE.out with ⟨rfl, rfl⟩ | ⟨rfl, rfl⟩
       ·have hq := R.out.store (.slice none 0 0) (.slice none 0 0)
        have hfb : Below w.heap.size w ((w4.setCell ⟨w.heap.size + 1 + 1, 0, none⟩ (.slice none 0 0)).setCell ⟨w.heap.size + 1 + 1, 1, none⟩ (.slice none 0 0)) := set1 (set1 D.out (by omega) _ _) (by omega) _ _
        have HQ := Lib.hid hq
        have HFB := Lib.hid hfb
        clear hq hfb
        go_wp2_with fail
        obtain ⟨wf, hwf⟩ : ∃ wf : World, wf = ((w4.setCell ⟨w.heap.size + 1 + 1, 0, none⟩ (.slice none 0 0)).setCell ⟨w.heap.size + 1 + 1, 1, none⟩ (.slice none 0 0)) := ⟨_, rfl⟩
        have HF2 := HFB.out
        have HQ2 := HQ.out
        rw [← hwf] at HF2 HQ2 ⊢
        obtain ⟨q0, q1, _, _⟩ := HQ2
        exact bodyPost_ret (v := .tuple #[.agg #[.slice none 0 0, .slice none 0 0], .int .i64 1]) (by simp [results, Try.results29, go_sem, q0, q1]) rfl ⟨HF2, .inl ⟨by omega, rfl⟩⟩
       ·have hq := R.out.store (.slice (some ⟨g, 0, none⟩) d.n cap) (.slice (some ⟨cg, 0, none⟩) (d.m + 1) ccap)
        have hfb : Below w.heap.size w ((w4.setCell ⟨w.heap.size + 1 + 1, 0, none⟩ (.slice (some ⟨g, 0, none⟩) d.n cap)).setCell ⟨w.heap.size + 1 + 1, 1, none⟩ (.slice (some ⟨cg, 0, none⟩) (d.m + 1) ccap)) := set1 (set1 D.out (by omega) _ _) (by omega) _ _
        have hg2 : g ≠ w.heap.size + 1 + 1 := HLOW.out.1
        have hc2 : cg ≠ w.heap.size + 1 + 1 := HLOW.out.2
        have hdr : DrIn (wnd d (p0, p1, p2) (some ⟨g, 0, none⟩) cap (some ⟨cg, 0, none⟩) ccap) ((w4.setCell ⟨w.heap.size + 1 + 1, 0, none⟩ (.slice (some ⟨g, 0, none⟩) d.n cap)).setCell ⟨w.heap.size + 1 + 1, 1, none⟩ (.slice (some ⟨cg, 0, none⟩) (d.m + 1) ccap)).heap.size ((w4.setCell ⟨w.heap.size + 1 + 1, 0, none⟩ (.slice (some ⟨g, 0, none⟩) d.n cap)).setCell ⟨w.heap.size + 1 + 1, 1, none⟩ (.slice (some ⟨cg, 0, none⟩) (d.m + 1) ccap)) :=
         drIn_wnd ((HSV.out.other hg2).other hg2) (by omega) (by rw [World.size_setCell, World.size_setCell]; exact (HCV.out.oth hc2).oth hc2)
        have HQ := Lib.hid hq
        have HFB := Lib.hid hfb
        have HDR := Lib.hid hdr
        clear hq hfb hdr hg2 hc2
        go_wp2_with fail
        obtain ⟨wf, hwf⟩ : ∃ wf : World, wf = ((w4.setCell ⟨w.heap.size + 1 + 1, 0, none⟩ (.slice (some ⟨g, 0, none⟩) d.n cap)).setCell ⟨w.heap.size + 1 + 1, 1, none⟩ (.slice (some ⟨cg, 0, none⟩) (d.m + 1) ccap)) := ⟨_, rfl⟩
        have HF2 := HFB.out
        have HQ2 := HQ.out
        have HD2 := HDR.out
        rw [← hwf] at HF2 HQ2 HD2 ⊢
        obtain ⟨q0, q1, _, _⟩ := HQ2
        exact bodyPost_ret (v := .tuple #[(wnd d (p0, p1, p2) (some ⟨g, 0, none⟩) cap (some ⟨cg, 0, none⟩) ccap).v, .int .i64 0]) (by simp [results, Try.results29, go_sem, q0, q1]) rfl ⟨HF2, .inr ⟨rfl, _, _, _, _, rfl, HD2⟩⟩
     ·go_simp
      obtain ⟨a3, hwa3⟩ : ∃ V : World, V = a2.alloc (.cells #[.slice none 0 0, .slice none 0 0] 25) := ⟨_, rfl⟩
      rw [← hwa3]
      have hqa3 : Below a2.heap.size a2 a3 := by rw [hwa3]; exact box1 _ _
      have hba3 := nextB hba2 hqa3
      have hma3 := (hma2.up hqa3 (Nat.le_refl _)).more hqa3.size
      have o0a3 := cell_of hqa3 o0a2
      have o1a3 := cell_of hqa3 o1a2
      have bxa3 : Bv a2.heap.size (.slice none 0 0) (.slice none 0 0) a3 := by rw [hwa3]; exact Bv.new a2 _ _ _
      have hTa3 : (fun w' => w'.cell? ⟨w.heap.size, 0, none⟩ = some (.slice d.RA d.n d.rc) ∧ w'.cell? ⟨w.heap.size, 1, none⟩ = some (.slice d.SA d.m d.sc) ∧ w'.cell? ⟨w.heap.size + 1, 0, none⟩ = some (.int .i64 p0) ∧ w'.cell? ⟨w.heap.size + 1, 1, none⟩ = some (.int .i64 p1) ∧ w'.cell? ⟨w.heap.size + 1, 2, none⟩ = some (.int .i64 p2)) a3 := ⟨(hba3.cell (World.block_lt_of_cell? _ _ x0)).trans x0, (hba3.cell (World.block_lt_of_cell? _ _ x1)).trans x1, (hba3.cell (World.block_lt_of_cell? _ _ s0)).trans s0, (hba3.cell (World.block_lt_of_cell? _ _ s1)).trans s1, (hba3.cell (World.block_lt_of_cell? _ _ s2)).trans s2⟩
      clear hwa3
      refine hK.out _ _ (fun _ => hTa3) ?_
      clear hK K
      (try simp only [Act.put, List.setIfInBounds_toArray, List.set_cons_zero, List.set_cons_succ])
      refine M_step 2 rfl (by kernel_rfl) (fun K hK => ?_)
      go_simp
      go_at_call 81
      refine (Clone_any d.RA d.n d.rc d.G a3.drew (DD.out _ (nextB D.out hba3.drew)).1 HD.out.n1 (by omega)).mono ?_
      rintro e a4 ⟨g, cap, rfl, hg, hcap, hSa4, hq'⟩
      have hqa4 : Below a3.heap.size a3 a4 := nextB (Below.refl _ _).drew hq'
      have hba4 := nextB hba3 hqa4
      have hg : a3.heap.size ≤ g := hg
      have hg0 : g ≠ w.heap.size + 1 + 1 := by have := hba3.size; omega
      have hgb : g ≠ a2.heap.size := by have := bxa3.lt; omega
      have hma4 := (hma3.up hqa4 (Nat.le_refl _)).more hqa4.size
      have o0a4 := cell_of hqa4 o0a3
      have o1a4 := cell_of hqa4 o1a3
      have bxa4 := bxa3.up hqa4
      have hTa4 : (fun w' => w'.cell? ⟨w.heap.size, 0, none⟩ = some (.slice d.RA d.n d.rc) ∧ w'.cell? ⟨w.heap.size, 1, none⟩ = some (.slice d.SA d.m d.sc) ∧ w'.cell? ⟨w.heap.size + 1, 0, none⟩ = some (.int .i64 p0) ∧ w'.cell? ⟨w.heap.size + 1, 1, none⟩ = some (.int .i64 p1) ∧ w'.cell? ⟨w.heap.size + 1, 2, none⟩ = some (.int .i64 p2)) a4 := ⟨(hba4.cell (World.block_lt_of_cell? _ _ x0)).trans x0, (hba4.cell (World.block_lt_of_cell? _ _ x1)).trans x1, (hba4.cell (World.block_lt_of_cell? _ _ s0)).trans s0, (hba4.cell (World.block_lt_of_cell? _ _ s1)).trans s1, (hba4.cell (World.block_lt_of_cell? _ _ s2)).trans s2⟩
      clear hg hcap hq'
      refine hK.out _ _ (fun _ => hTa4) ?_
      clear hK K
      (try simp only [Act.put, List.setIfInBounds_toArray, List.set_cons_zero, List.set_cons_succ])
      refine M_step 8 rfl (by kernel_rfl) (fun K hK => ?_)
      go_simp
      go_at_call 82
      refine (ConcatStop_any a1.heap.size d.SA d.m d.sc d.S ⟨w2.heap.size, 0, none⟩ 1 (p0, p1, p2) _ (by omega) o0a4 o1a4 (DD.out _ (nextB D.out hba4)).2 hma4).mono ?_
      rintro e a5 ⟨cg, ccap, rfl, hcg, hcta5, hqa5⟩
      have hba5 := nextB hba4 hqa5
      have hc0 : cg ≠ w.heap.size + 1 + 1 := by have := hba4.size; omega
      have hcb : cg ≠ a2.heap.size := by have := bxa4.lt; omega
      have hSa5 := hSa4.up hqa5
      have bxa5 := bxa4.up hqa5
      have hTa5 : (fun w' => w'.cell? ⟨w.heap.size, 0, none⟩ = some (.slice d.RA d.n d.rc) ∧ w'.cell? ⟨w.heap.size, 1, none⟩ = some (.slice d.SA d.m d.sc) ∧ w'.cell? ⟨w.heap.size + 1, 0, none⟩ = some (.int .i64 p0) ∧ w'.cell? ⟨w.heap.size + 1, 1, none⟩ = some (.int .i64 p1) ∧ w'.cell? ⟨w.heap.size + 1, 2, none⟩ = some (.int .i64 p2)) a5 := ⟨(hba5.cell (World.block_lt_of_cell? _ _ x0)).trans x0, (hba5.cell (World.block_lt_of_cell? _ _ x1)).trans x1, (hba5.cell (World.block_lt_of_cell? _ _ s0)).trans s0, (hba5.cell (World.block_lt_of_cell? _ _ s1)).trans s1, (hba5.cell (World.block_lt_of_cell? _ _ s2)).trans s2⟩
      clear hcg
      refine hK.out _ _ (fun _ => hTa5) ?_
      clear hK K
      (try simp only [Act.put, List.setIfInBounds_toArray, List.set_cons_zero, List.set_cons_succ])
      refine M_take (v := ?_) 9 rfl (by kernel_rfl) (by assumption) (fun _ _ _ h => h) (Or.inl ⟨by rfl, ?_⟩) ?_
      rotate_left
      ·(intro w hSw; (try dsimp only at hSw); go_simp; (try with_reducible rfl))
      (try simp only [Act.put, List.setIfInBounds_toArray, List.set_cons_zero, List.set_cons_succ])
      refine M_step 11 rfl (by kernel_rfl) (fun K hK => ?_)
      obtain ⟨b0, b1, b2, b3⟩ := id bxa5
      have zb := bxa5.lt
      go_simp
      refine hK.out _ _ (fun e => by cases e) ?_
      clear hK K
      (try simp only [Act.put, List.setIfInBounds_toArray, List.set_cons_zero, List.set_cons_succ])
      refine M_done (by kernel_rfl) ?_ _
      obtain ⟨V, hV⟩ : ∃ V : World, V = ((a5.setCell ⟨a2.heap.size, 0, none⟩ (.slice (some ⟨g, 0, none⟩) d.n cap)).setCell ⟨a2.heap.size, 1, none⟩ (.slice (some ⟨cg, 0, none⟩) (d.m + 1) ccap)) := ⟨_, rfl⟩
      have bxV : Bv a2.heap.size (.slice (some ⟨g, 0, none⟩) d.n cap) (.slice (some ⟨cg, 0, none⟩) (d.m + 1) ccap) V := by rw [hV]; exact bxa5.store _ _
      have hbV : Below w2.heap.size w2 V := by rw [hV]; exact set1 (set1 hba5 hba2.size _ _) hba2.size _ _
      have hSV : SpR g d.n d.G V := by rw [hV]; exact (hSa5.other hgb).other hgb
      have hszV : V.heap.size = a5.heap.size := by rw [hV]; simp only [World.size_setCell]
      have hctV : TrsIn (some ⟨cg, 0, none⟩) (d.m + 1) (catF d.m d.S fun _ => (p0, p1, p2)) V.heap.size V := by rw [hszV, hV]; exact (hcta5.oth hcb).oth hcb
      have hRV : Bv (w.heap.size + 1 + 1) (.slice none 0 0) (.slice none 0 0) V := by rw [hV]; exact ((R.out.up hba5).other (by have := hba2.size; omega)).other (by have := hba2.size; omega)
      have BX := Lib.hid bxV
      have D := Lib.hid (nextB D.out hbV)
      have HSV := Lib.hid hSV
      have HCV := Lib.hid hctV
      have R := Lib.hid hRV
      have HLOW : Hid (g ≠ w.heap.size + 1 + 1 ∧ cg ≠ w.heap.size + 1 + 1) := Lib.hid ⟨hg0, hc0⟩
      rw [← hV]
      clear hV bxV hbV hSV hszV hctV hRV b0 b1 b2 b3 zb x0 x1 s0 s1 s2 zP zS r0 r1 r2 r3 zR hT0 
      obtain ⟨bb, hbb⟩ : ∃ bb, bb = a2.heap.size := ⟨_, rfl⟩
      rw [← hbb] at BX hgb hcb ⊢
      have HGB := Lib.hid (And.intro hgb hcb)
      clear hbb hgb hcb
      obtain ⟨b0, b1, b2, b3⟩ := BX.out
      have zb := BX.out.lt
      obtain ⟨E2, hE2, hEE⟩ : ∃ E2 : Int, ((E2 = 0 ∧ DrOk (wnd d (p0, p1, p2) (some ⟨g, 0, none⟩) cap (some ⟨cg, 0, none⟩) ccap)) ∨ (E2 = 20 ∧ ¬ DrOk (wnd d (p0, p1, p2) (some ⟨g, 0, none⟩) cap (some ⟨cg, 0, none⟩) ccap))) ∧ ((E2 = 20 ∧ E = 1) ∨ (E2 = 0 ∧ E = 0)) := by
       rcases HE3.out with ⟨h, h2⟩ | ⟨h, h2⟩
       ·exact ⟨20, .inr ⟨rfl, fun k => h2 ((wok_iff _ _ _ _ _ _).1 k)⟩, .inl ⟨rfl, h⟩⟩
       ·exact ⟨0, .inl ⟨rfl, (wok_iff _ _ _ _ _ _).2 h2⟩, .inr ⟨rfl, h⟩⟩
      have K2 := Lib.hid (Check_any (wnd d (p0, p1, p2) (some ⟨g, 0, none⟩) cap (some ⟨cg, 0, none⟩) ccap) E2 V (drIn_wnd HSV.out (by omega) HCV.out) hE2)
      have HEE := Lib.hid hEE
      clear hE2 hEE
      go_wp2_with fail
      refine K2.out.mono ?_
      rintro e w4 ⟨rfl, hb⟩
      have J := Lib.hid hb
      have D := Lib.hid (nextB D.out hb)
      have R := Lib.hid (R.out.up hb)
      have BX := Lib.hid (BX.out.up hb)
      have HSV := Lib.hid (HSV.out.up hb)
      have HCV := Lib.hid ((HCV.out.up hb (Nat.le_refl _)).more hb.size)
      clear hb b0 b1 b2 b3 zb
      obtain ⟨b0, b1, b2, b3⟩ := BX.out
      have zb := BX.out.lt
      obtain ⟨r0, r1, r2, r3⟩ := R.out
      have zR := R.out.lt
      rcases HEE.out with ⟨rfl, rfl⟩ | ⟨rfl, rfl⟩
      ·have hq := R.out.store (.slice none 0 0) (.slice none 0 0)
       have hfb : Below w.heap.size w ((w4.setCell ⟨w.heap.size + 1 + 1, 0, none⟩ (.slice none 0 0)).setCell ⟨w.heap.size + 1 + 1, 1, none⟩ (.slice none 0 0)) := set1 (set1 D.out (by omega) _ _) (by omega) _ _
       have HQ := Lib.hid hq
       have HFB := Lib.hid hfb
       clear hq hfb
       go_wp2_with fail
       obtain ⟨wf, hwf⟩ : ∃ wf : World, wf = ((w4.setCell ⟨w.heap.size + 1 + 1, 0, none⟩ (.slice none 0 0)).setCell ⟨w.heap.size + 1 + 1, 1, none⟩ (.slice none 0 0)) := ⟨_, rfl⟩
       have HF2 := HFB.out
       have HQ2 := HQ.out
       rw [← hwf] at HF2 HQ2 ⊢
       obtain ⟨q0, q1, _, _⟩ := HQ2
       exact bodyPost_ret (v := .tuple #[.agg #[.slice none 0 0, .slice none 0 0], .int .i64 1]) (by simp [results, Try.results29, go_sem, q0, q1]) rfl ⟨HF2, .inl ⟨by omega, rfl⟩⟩
      ·have hq := R.out.store (.slice (some ⟨g, 0, none⟩) d.n cap) (.slice (some ⟨cg, 0, none⟩) (d.m + 1) ccap)
       have hfb : Below w.heap.size w ((w4.setCell ⟨w.heap.size + 1 + 1, 0, none⟩ (.slice (some ⟨g, 0, none⟩) d.n cap)).setCell ⟨w.heap.size + 1 + 1, 1, none⟩ (.slice (some ⟨cg, 0, none⟩) (d.m + 1) ccap)) := set1 (set1 D.out (by omega) _ _) (by omega) _ _
       have hg2 : g ≠ w.heap.size + 1 + 1 := HLOW.out.1
       have hc2 : cg ≠ w.heap.size + 1 + 1 := HLOW.out.2
       have hdr : DrIn (wnd d (p0, p1, p2) (some ⟨g, 0, none⟩) cap (some ⟨cg, 0, none⟩) ccap) ((w4.setCell ⟨w.heap.size + 1 + 1, 0, none⟩ (.slice (some ⟨g, 0, none⟩) d.n cap)).setCell ⟨w.heap.size + 1 + 1, 1, none⟩ (.slice (some ⟨cg, 0, none⟩) (d.m + 1) ccap)).heap.size ((w4.setCell ⟨w.heap.size + 1 + 1, 0, none⟩ (.slice (some ⟨g, 0, none⟩) d.n cap)).setCell ⟨w.heap.size + 1 + 1, 1, none⟩ (.slice (some ⟨cg, 0, none⟩) (d.m + 1) ccap)) :=
        drIn_wnd ((HSV.out.other hg2).other hg2) (by omega) (by rw [World.size_setCell, World.size_setCell]; exact (HCV.out.oth hc2).oth hc2)
       have HQ := Lib.hid hq
       have HFB := Lib.hid hfb
       have HDR := Lib.hid hdr
       clear hq hfb hdr hg2 hc2
       go_wp2_with fail
       obtain ⟨wf, hwf⟩ : ∃ wf : World, wf = ((w4.setCell ⟨w.heap.size + 1 + 1, 0, none⟩ (.slice (some ⟨g, 0, none⟩) d.n cap)).setCell ⟨w.heap.size + 1 + 1, 1, none⟩ (.slice (some ⟨cg, 0, none⟩) (d.m + 1) ccap)) := ⟨_, rfl⟩
       have HF2 := HFB.out
       have HQ2 := HQ.out
       have HD2 := HDR.out
       rw [← hwf] at HF2 HQ2 HD2 ⊢
       obtain ⟨q0, q1, _, _⟩ := HQ2
       exact bodyPost_ret (v := .tuple #[(wnd d (p0, p1, p2) (some ⟨g, 0, none⟩) cap (some ⟨cg, 0, none⟩) ccap).v, .int .i64 0]) (by simp [results, Try.results29, go_sem, q0, q1]) rfl ⟨HF2, .inr ⟨rfl, _, _, _, _, rfl, HD2⟩⟩
    ·go_simp
     obtain ⟨a2, hwa2⟩ : ∃ V : World, V = a1.alloc (.cells #[.slice none 0 0, .slice none 0 0] 25) := ⟨_, rfl⟩
     rw [← hwa2]
     have hqa2 : Below a1.heap.size a1 a2 := by rw [hwa2]; exact box1 _ _
     have hba2 := nextB hba1 hqa2
     have hma2 := (hma1.up hqa2 (Nat.le_refl _)).more hqa2.size
     have bxa2 : Bv a1.heap.size (.slice none 0 0) (.slice none 0 0) a2 := by rw [hwa2]; exact Bv.new a1 _ _ _
     have hTa2 : (fun w' => w'.cell? ⟨w.heap.size, 0, none⟩ = some (.slice d.RA d.n d.rc) ∧ w'.cell? ⟨w.heap.size, 1, none⟩ = some (.slice d.SA d.m d.sc) ∧ w'.cell? ⟨w.heap.size + 1, 0, none⟩ = some (.int .i64 p0) ∧ w'.cell? ⟨w.heap.size + 1, 1, none⟩ = some (.int .i64 p1) ∧ w'.cell? ⟨w.heap.size + 1, 2, none⟩ = some (.int .i64 p2)) a2 := ⟨(hba2.cell (World.block_lt_of_cell? _ _ x0)).trans x0, (hba2.cell (World.block_lt_of_cell? _ _ x1)).trans x1, (hba2.cell (World.block_lt_of_cell? _ _ s0)).trans s0, (hba2.cell (World.block_lt_of_cell? _ _ s1)).trans s1, (hba2.cell (World.block_lt_of_cell? _ _ s2)).trans s2⟩
     clear hwa2
     refine hK.out _ _ (fun _ => hTa2) ?_
     clear hK K
     (try simp only [Act.put, List.setIfInBounds_toArray, List.set_cons_zero, List.set_cons_succ])
     refine M_fork 2 7 rfl rfl (by kernel_rfl) (fun K hK => ?_) (fun K hK => ?_)
     ·go_simp
      go_at_call 81
      refine (Clone_any d.RA d.n d.rc d.G a2.drew (DD.out _ (nextB D.out hba2.drew)).1 HD.out.n1 (by omega)).mono ?_
      rintro e a3 ⟨g, cap, rfl, hg, hcap, hSa3, hq'⟩
      have hqa3 : Below a2.heap.size a2 a3 := nextB (Below.refl _ _).drew hq'
      have hba3 := nextB hba2 hqa3
      have hg : a2.heap.size ≤ g := hg
      have hg0 : g ≠ w.heap.size + 1 + 1 := by have := hba2.size; omega
      have hgb : g ≠ a1.heap.size := by have := bxa2.lt; omega
      have hma3 := (hma2.up hqa3 (Nat.le_refl _)).more hqa3.size
      have bxa3 := bxa2.up hqa3
      have hTa3 : (fun w' => w'.cell? ⟨w.heap.size, 0, none⟩ = some (.slice d.RA d.n d.rc) ∧ w'.cell? ⟨w.heap.size, 1, none⟩ = some (.slice d.SA d.m d.sc) ∧ w'.cell? ⟨w.heap.size + 1, 0, none⟩ = some (.int .i64 p0) ∧ w'.cell? ⟨w.heap.size + 1, 1, none⟩ = some (.int .i64 p1) ∧ w'.cell? ⟨w.heap.size + 1, 2, none⟩ = some (.int .i64 p2)) a3 := ⟨(hba3.cell (World.block_lt_of_cell? _ _ x0)).trans x0, (hba3.cell (World.block_lt_of_cell? _ _ x1)).trans x1, (hba3.cell (World.block_lt_of_cell? _ _ s0)).trans s0, (hba3.cell (World.block_lt_of_cell? _ _ s1)).trans s1, (hba3.cell (World.block_lt_of_cell? _ _ s2)).trans s2⟩
      clear hg hcap hq'
      refine hK.out _ _ (fun _ => hTa3) ?_
      clear hK K
      (try simp only [Act.put, List.setIfInBounds_toArray, List.set_cons_zero, List.set_cons_succ])
      refine M_step 7 rfl (by kernel_rfl) (fun K hK => ?_)
      go_simp
      obtain ⟨a4, hwa4⟩ : ∃ V : World, V = a3.alloc (.cells #[.slice d.SA d.m d.sc, .slice (some ⟨w2.heap.size, 0, none⟩) 1 1] 23) := ⟨_, rfl⟩
      rw [← hwa4]
      have hqa4 : Below a3.heap.size a3 a4 := by rw [hwa4]; exact box1 _ _
      have hba4 := nextB hba3 hqa4
      have hma4 := (hma3.up hqa4 (Nat.le_refl _)).more hqa4.size
      have hSa4 := hSa3.up hqa4
      have bxa4 := bxa3.up hqa4
      have o0a4 : a4.cell? ⟨a3.heap.size, 0, none⟩ = some (.slice d.SA d.m d.sc) := by rw [hwa4]; go_simp
      have o1a4 : a4.cell? ⟨a3.heap.size, 1, none⟩ = some (.slice (some ⟨w2.heap.size, 0, none⟩) 1 1) := by rw [hwa4]; go_simp
      have hTa4 : (fun w' => w'.cell? ⟨w.heap.size, 0, none⟩ = some (.slice d.RA d.n d.rc) ∧ w'.cell? ⟨w.heap.size, 1, none⟩ = some (.slice d.SA d.m d.sc) ∧ w'.cell? ⟨w.heap.size + 1, 0, none⟩ = some (.int .i64 p0) ∧ w'.cell? ⟨w.heap.size + 1, 1, none⟩ = some (.int .i64 p1) ∧ w'.cell? ⟨w.heap.size + 1, 2, none⟩ = some (.int .i64 p2)) a4 := ⟨(hba4.cell (World.block_lt_of_cell? _ _ x0)).trans x0, (hba4.cell (World.block_lt_of_cell? _ _ x1)).trans x1, (hba4.cell (World.block_lt_of_cell? _ _ s0)).trans s0, (hba4.cell (World.block_lt_of_cell? _ _ s1)).trans s1, (hba4.cell (World.block_lt_of_cell? _ _ s2)).trans s2⟩
      clear hwa4
      refine hK.out _ _ (fun _ => hTa4) ?_
      clear hK K
      (try simp only [Act.put, List.setIfInBounds_toArray, List.set_cons_zero, List.set_cons_succ])
      refine M_step 8 rfl (by kernel_rfl) (fun K hK => ?_)
      go_simp
      go_at_call 82
      refine (ConcatStop_any a3.heap.size d.SA d.m d.sc d.S ⟨w2.heap.size, 0, none⟩ 1 (p0, p1, p2) _ (by omega) o0a4 o1a4 (DD.out _ (nextB D.out hba4)).2 hma4).mono ?_
      rintro e a5 ⟨cg, ccap, rfl, hcg, hcta5, hqa5⟩
      have hba5 := nextB hba4 hqa5
      have hc0 : cg ≠ w.heap.size + 1 + 1 := by have := hba4.size; omega
      have hcb : cg ≠ a1.heap.size := by have := bxa4.lt; omega
      have hSa5 := hSa4.up hqa5
      have bxa5 := bxa4.up hqa5
      have hTa5 : (fun w' => w'.cell? ⟨w.heap.size, 0, none⟩ = some (.slice d.RA d.n d.rc) ∧ w'.cell? ⟨w.heap.size, 1, none⟩ = some (.slice d.SA d.m d.sc) ∧ w'.cell? ⟨w.heap.size + 1, 0, none⟩ = some (.int .i64 p0) ∧ w'.cell? ⟨w.heap.size + 1, 1, none⟩ = some (.int .i64 p1) ∧ w'.cell? ⟨w.heap.size + 1, 2, none⟩ = some (.int .i64 p2)) a5 := ⟨(hba5.cell (World.block_lt_of_cell? _ _ x0)).trans x0, (hba5.cell (World.block_lt_of_cell? _ _ x1)).trans x1, (hba5.cell (World.block_lt_of_cell? _ _ s0)).trans s0, (hba5.cell (World.block_lt_of_cell? _ _ s1)).trans s1, (hba5.cell (World.block_lt_of_cell? _ _ s2)).trans s2⟩
      clear hcg
      refine hK.out _ _ (fun _ => hTa5) ?_
      clear hK K
      (try simp only [Act.put, List.setIfInBounds_toArray, List.set_cons_zero, List.set_cons_succ])
      refine M_take (v := ?_) 9 rfl (by kernel_rfl) (by assumption) (fun _ _ _ h => h) (Or.inl ⟨by rfl, ?_⟩) ?_
      rotate_left
      ·(intro w hSw; (try dsimp only at hSw); go_simp; (try with_reducible rfl))
      (try simp only [Act.put, List.setIfInBounds_toArray, List.set_cons_zero, List.set_cons_succ])
      refine M_step 11 rfl (by kernel_rfl) (fun K hK => ?_)
      obtain ⟨b0, b1, b2, b3⟩ := id bxa5
      have zb := bxa5.lt
      go_simp
      refine hK.out _ _ (fun e => by cases e) ?_
      clear hK K
      (try simp only [Act.put, List.setIfInBounds_toArray, List.set_cons_zero, List.set_cons_succ])
      refine M_done (by kernel_rfl) ?_ _
      obtain ⟨V, hV⟩ : ∃ V : World, V = ((a5.setCell ⟨a1.heap.size, 0, none⟩ (.slice (some ⟨g, 0, none⟩) d.n cap)).setCell ⟨a1.heap.size, 1, none⟩ (.slice (some ⟨cg, 0, none⟩) (d.m + 1) ccap)) := ⟨_, rfl⟩
      have bxV : Bv a1.heap.size (.slice (some ⟨g, 0, none⟩) d.n cap) (.slice (some ⟨cg, 0, none⟩) (d.m + 1) ccap) V := by rw [hV]; exact bxa5.store _ _
      have hbV : Below w2.heap.size w2 V := by rw [hV]; exact set1 (set1 hba5 hba1.size _ _) hba1.size _ _
      have hSV : SpR g d.n d.G V := by rw [hV]; exact (hSa5.other hgb).other hgb
      have hszV : V.heap.size = a5.heap.size := by rw [hV]; simp only [World.size_setCell]
      have hctV : TrsIn (some ⟨cg, 0, none⟩) (d.m + 1) (catF d.m d.S fun _ => (p0, p1, p2)) V.heap.size V := by rw [hszV, hV]; exact (hcta5.oth hcb).oth hcb
      have hRV : Bv (w.heap.size + 1 + 1) (.slice none 0 0) (.slice none 0 0) V := by rw [hV]; exact ((R.out.up hba5).other (by have := hba1.size; omega)).other (by have := hba1.size; omega)
      have BX := Lib.hid bxV
      have D := Lib.hid (nextB D.out hbV)
      have HSV := Lib.hid hSV
      have HCV := Lib.hid hctV
      have R := Lib.hid hRV
      have HLOW : Hid (g ≠ w.heap.size + 1 + 1 ∧ cg ≠ w.heap.size + 1 + 1) := Lib.hid ⟨hg0, hc0⟩
      rw [← hV]
      clear hV bxV hbV hSV hszV hctV hRV b0 b1 b2 b3 zb x0 x1 s0 s1 s2 zP zS r0 r1 r2 r3 zR hT0 
      obtain ⟨bb, hbb⟩ : ∃ bb, bb = a1.heap.size := ⟨_, rfl⟩
      rw [← hbb] at BX hgb hcb ⊢
      have HGB := Lib.hid (And.intro hgb hcb)
      clear hbb hgb hcb
      obtain ⟨b0, b1, b2, b3⟩ := BX.out
      have zb := BX.out.lt
      obtain ⟨E2, hE2, hEE⟩ : ∃ E2 : Int, ((E2 = 0 ∧ DrOk (wnd d (p0, p1, p2) (some ⟨g, 0, none⟩) cap (some ⟨cg, 0, none⟩) ccap)) ∨ (E2 = 20 ∧ ¬ DrOk (wnd d (p0, p1, p2) (some ⟨g, 0, none⟩) cap (some ⟨cg, 0, none⟩) ccap))) ∧ ((E2 = 20 ∧ E = 1) ∨ (E2 = 0 ∧ E = 0)) := by
       rcases HE3.out with ⟨h, h2⟩ | ⟨h, h2⟩
       ·exact ⟨20, .inr ⟨rfl, fun k => h2 ((wok_iff _ _ _ _ _ _).1 k)⟩, .inl ⟨rfl, h⟩⟩
       ·exact ⟨0, .inl ⟨rfl, (wok_iff _ _ _ _ _ _).2 h2⟩, .inr ⟨rfl, h⟩⟩
      have K2 := Lib.hid (Check_any (wnd d (p0, p1, p2) (some ⟨g, 0, none⟩) cap (some ⟨cg, 0, none⟩) ccap) E2 V (drIn_wnd HSV.out (by omega) HCV.out) hE2)
      have HEE := Lib.hid hEE
      clear hE2 hEE
      go_wp2_with fail
      refine K2.out.mono ?_
      rintro e w4 ⟨rfl, hb⟩
      have J := Lib.hid hb
      have D := Lib.hid (nextB D.out hb)
      have R := Lib.hid (R.out.up hb)
      have BX := Lib.hid (BX.out.up hb)
      have HSV := Lib.hid (HSV.out.up hb)
      have HCV := Lib.hid ((HCV.out.up hb (Nat.le_refl _)).more hb.size)
      clear hb b0 b1 b2 b3 zb
      obtain ⟨b0, b1, b2, b3⟩ := BX.out
      have zb := BX.out.lt
      obtain ⟨r0, r1, r2, r3⟩ := R.out
      have zR := R.out.lt
      rcases HEE.out with ⟨rfl, rfl⟩ | ⟨rfl, rfl⟩
      ·have hq := R.out.store (.slice none 0 0) (.slice none 0 0)
       have hfb : Below w.heap.size w ((w4.setCell ⟨w.heap.size + 1 + 1, 0, none⟩ (.slice none 0 0)).setCell ⟨w.heap.size + 1 + 1, 1, none⟩ (.slice none 0 0)) := set1 (set1 D.out (by omega) _ _) (by omega) _ _
       have HQ := Lib.hid hq
       have HFB := Lib.hid hfb
       clear hq hfb
       go_wp2_with fail
       obtain ⟨wf, hwf⟩ : ∃ wf : World, wf = ((w4.setCell ⟨w.heap.size + 1 + 1, 0, none⟩ (.slice none 0 0)).setCell ⟨w.heap.size + 1 + 1, 1, none⟩ (.slice none 0 0)) := ⟨_, rfl⟩
       have HF2 := HFB.out
       have HQ2 := HQ.out
       rw [← hwf] at HF2 HQ2 ⊢
       obtain ⟨q0, q1, _, _⟩ := HQ2
       exact bodyPost_ret (v := .tuple #[.agg #[.slice none 0 0, .slice none 0 0], .int .i64 1]) (by simp [results, Try.results29, go_sem, q0, q1]) rfl ⟨HF2, .inl ⟨by omega, rfl⟩⟩
      ·have hq := R.out.store (.slice (some ⟨g, 0, none⟩) d.n cap) (.slice (some ⟨cg, 0, none⟩) (d.m + 1) ccap)
       have hfb : Below w.heap.size w ((w4.setCell ⟨w.heap.size + 1 + 1, 0, none⟩ (.slice (some ⟨g, 0, none⟩) d.n cap)).setCell ⟨w.heap.size + 1 + 1, 1, none⟩ (.slice (some ⟨cg, 0, none⟩) (d.m + 1) ccap)) := set1 (set1 D.out (by omega) _ _) (by omega) _ _
       have hg2 : g ≠ w.heap.size + 1 + 1 := HLOW.out.1
       have hc2 : cg ≠ w.heap.size + 1 + 1 := HLOW.out.2
       have hdr : DrIn (wnd d (p0, p1, p2) (some ⟨g, 0, none⟩) cap (some ⟨cg, 0, none⟩) ccap) ((w4.setCell ⟨w.heap.size + 1 + 1, 0, none⟩ (.slice (some ⟨g, 0, none⟩) d.n cap)).setCell ⟨w.heap.size + 1 + 1, 1, none⟩ (.slice (some ⟨cg, 0, none⟩) (d.m + 1) ccap)).heap.size ((w4.setCell ⟨w.heap.size + 1 + 1, 0, none⟩ (.slice (some ⟨g, 0, none⟩) d.n cap)).setCell ⟨w.heap.size + 1 + 1, 1, none⟩ (.slice (some ⟨cg, 0, none⟩) (d.m + 1) ccap)) :=
        drIn_wnd ((HSV.out.other hg2).other hg2) (by omega) (by rw [World.size_setCell, World.size_setCell]; exact (HCV.out.oth hc2).oth hc2)
       have HQ := Lib.hid hq
       have HFB := Lib.hid hfb
       have HDR := Lib.hid hdr
       clear hq hfb hdr hg2 hc2
       go_wp2_with fail
       obtain ⟨wf, hwf⟩ : ∃ wf : World, wf = ((w4.setCell ⟨w.heap.size + 1 + 1, 0, none⟩ (.slice (some ⟨g, 0, none⟩) d.n cap)).setCell ⟨w.heap.size + 1 + 1, 1, none⟩ (.slice (some ⟨cg, 0, none⟩) (d.m + 1) ccap)) := ⟨_, rfl⟩
       have HF2 := HFB.out
       have HQ2 := HQ.out
       have HD2 := HDR.out
       rw [← hwf] at HF2 HQ2 HD2 ⊢
       obtain ⟨q0, q1, _, _⟩ := HQ2
       exact bodyPost_ret (v := .tuple #[(wnd d (p0, p1, p2) (some ⟨g, 0, none⟩) cap (some ⟨cg, 0, none⟩) ccap).v, .int .i64 0]) (by simp [results, Try.results29, go_sem, q0, q1]) rfl ⟨HF2, .inr ⟨rfl, _, _, _, _, rfl, HD2⟩⟩
     ·go_simp
      obtain ⟨a3, hwa3⟩ : ∃ V : World, V = a2.alloc (.cells #[.slice d.SA d.m d.sc, .slice (some ⟨w2.heap.size, 0, none⟩) 1 1] 23) := ⟨_, rfl⟩
      rw [← hwa3]
      have hqa3 : Below a2.heap.size a2 a3 := by rw [hwa3]; exact box1 _ _
      have hba3 := nextB hba2 hqa3
      have hma3 := (hma2.up hqa3 (Nat.le_refl _)).more hqa3.size
      have bxa3 := bxa2.up hqa3
      have o0a3 : a3.cell? ⟨a2.heap.size, 0, none⟩ = some (.slice d.SA d.m d.sc) := by rw [hwa3]; go_simp
      have o1a3 : a3.cell? ⟨a2.heap.size, 1, none⟩ = some (.slice (some ⟨w2.heap.size, 0, none⟩) 1 1) := by rw [hwa3]; go_simp
      have hTa3 : (fun w' => w'.cell? ⟨w.heap.size, 0, none⟩ = some (.slice d.RA d.n d.rc) ∧ w'.cell? ⟨w.heap.size, 1, none⟩ = some (.slice d.SA d.m d.sc) ∧ w'.cell? ⟨w.heap.size + 1, 0, none⟩ = some (.int .i64 p0) ∧ w'.cell? ⟨w.heap.size + 1, 1, none⟩ = some (.int .i64 p1) ∧ w'.cell? ⟨w.heap.size + 1, 2, none⟩ = some (.int .i64 p2)) a3 := ⟨(hba3.cell (World.block_lt_of_cell? _ _ x0)).trans x0, (hba3.cell (World.block_lt_of_cell? _ _ x1)).trans x1, (hba3.cell (World.block_lt_of_cell? _ _ s0)).trans s0, (hba3.cell (World.block_lt_of_cell? _ _ s1)).trans s1, (hba3.cell (World.block_lt_of_cell? _ _ s2)).trans s2⟩
      clear hwa3
      refine hK.out _ _ (fun _ => hTa3) ?_
      clear hK K
      (try simp only [Act.put, List.setIfInBounds_toArray, List.set_cons_zero, List.set_cons_succ])
      refine M_step 2 rfl (by kernel_rfl) (fun K hK => ?_)
      go_simp
      go_at_call 81
      refine (Clone_any d.RA d.n d.rc d.G a3.drew (DD.out _ (nextB D.out hba3.drew)).1 HD.out.n1 (by omega)).mono ?_
      rintro e a4 ⟨g, cap, rfl, hg, hcap, hSa4, hq'⟩
      have hqa4 : Below a3.heap.size a3 a4 := nextB (Below.refl _ _).drew hq'
      have hba4 := nextB hba3 hqa4
      have hg : a3.heap.size ≤ g := hg
      have hg0 : g ≠ w.heap.size + 1 + 1 := by have := hba3.size; omega
      have hgb : g ≠ a1.heap.size := by have := bxa3.lt; omega
      have hma4 := (hma3.up hqa4 (Nat.le_refl _)).more hqa4.size
      have o0a4 := cell_of hqa4 o0a3
      have o1a4 := cell_of hqa4 o1a3
      have bxa4 := bxa3.up hqa4
      have hTa4 : (fun w' => w'.cell? ⟨w.heap.size, 0, none⟩ = some (.slice d.RA d.n d.rc) ∧ w'.cell? ⟨w.heap.size, 1, none⟩ = some (.slice d.SA d.m d.sc) ∧ w'.cell? ⟨w.heap.size + 1, 0, none⟩ = some (.int .i64 p0) ∧ w'.cell? ⟨w.heap.size + 1, 1, none⟩ = some (.int .i64 p1) ∧ w'.cell? ⟨w.heap.size + 1, 2, none⟩ = some (.int .i64 p2)) a4 := ⟨(hba4.cell (World.block_lt_of_cell? _ _ x0)).trans x0, (hba4.cell (World.block_lt_of_cell? _ _ x1)).trans x1, (hba4.cell (World.block_lt_of_cell? _ _ s0)).trans s0, (hba4.cell (World.block_lt_of_cell? _ _ s1)).trans s1, (hba4.cell (World.block_lt_of_cell? _ _ s2)).trans s2⟩
      clear hg hcap hq'
      refine hK.out _ _ (fun _ => hTa4) ?_
      clear hK K
      (try simp only [Act.put, List.setIfInBounds_toArray, List.set_cons_zero, List.set_cons_succ])
      refine M_step 8 rfl (by kernel_rfl) (fun K hK => ?_)
      go_simp
      go_at_call 82
      refine (ConcatStop_any a2.heap.size d.SA d.m d.sc d.S ⟨w2.heap.size, 0, none⟩ 1 (p0, p1, p2) _ (by omega) o0a4 o1a4 (DD.out _ (nextB D.out hba4)).2 hma4).mono ?_
      rintro e a5 ⟨cg, ccap, rfl, hcg, hcta5, hqa5⟩
      have hba5 := nextB hba4 hqa5
      have hc0 : cg ≠ w.heap.size + 1 + 1 := by have := hba4.size; omega
      have hcb : cg ≠ a1.heap.size := by have := bxa4.lt; omega
      have hSa5 := hSa4.up hqa5
      have bxa5 := bxa4.up hqa5
      have hTa5 : (fun w' => w'.cell? ⟨w.heap.size, 0, none⟩ = some (.slice d.RA d.n d.rc) ∧ w'.cell? ⟨w.heap.size, 1, none⟩ = some (.slice d.SA d.m d.sc) ∧ w'.cell? ⟨w.heap.size + 1, 0, none⟩ = some (.int .i64 p0) ∧ w'.cell? ⟨w.heap.size + 1, 1, none⟩ = some (.int .i64 p1) ∧ w'.cell? ⟨w.heap.size + 1, 2, none⟩ = some (.int .i64 p2)) a5 := ⟨(hba5.cell (World.block_lt_of_cell? _ _ x0)).trans x0, (hba5.cell (World.block_lt_of_cell? _ _ x1)).trans x1, (hba5.cell (World.block_lt_of_cell? _ _ s0)).trans s0, (hba5.cell (World.block_lt_of_cell? _ _ s1)).trans s1, (hba5.cell (World.block_lt_of_cell? _ _ s2)).trans s2⟩
      clear hcg
      refine hK.out _ _ (fun _ => hTa5) ?_
      clear hK K
      (try simp only [Act.put, List.setIfInBounds_toArray, List.set_cons_zero, List.set_cons_succ])
      refine M_take (v := ?_) 9 rfl (by kernel_rfl) (by assumption) (fun _ _ _ h => h) (Or.inl ⟨by rfl, ?_⟩) ?_
      rotate_left
      ·(intro w hSw; (try dsimp only at hSw); go_simp; (try with_reducible rfl))
      (try simp only [Act.put, List.setIfInBounds_toArray, List.set_cons_zero, List.set_cons_succ])
      refine M_step 11 rfl (by kernel_rfl) (fun K hK => ?_)
      obtain ⟨b0, b1, b2, b3⟩ := id bxa5
      have zb := bxa5.lt
      go_simp
      refine hK.out _ _ (fun e => by cases e) ?_
      clear hK K
      (try simp only [Act.put, List.setIfInBounds_toArray, List.set_cons_zero, List.set_cons_succ])
      refine M_done (by kernel_rfl) ?_ _
      obtain ⟨V, hV⟩ : ∃ V : World, V = ((a5.setCell ⟨a1.heap.size, 0, none⟩ (.slice (some ⟨g, 0, none⟩) d.n cap)).setCell ⟨a1.heap.size, 1, none⟩ (.slice (some ⟨cg, 0, none⟩) (d.m + 1) ccap)) := ⟨_, rfl⟩
      have bxV : Bv a1.heap.size (.slice (some ⟨g, 0, none⟩) d.n cap) (.slice (some ⟨cg, 0, none⟩) (d.m + 1) ccap) V := by rw [hV]; exact bxa5.store _ _
      have hbV : Below w2.heap.size w2 V := by rw [hV]; exact set1 (set1 hba5 hba1.size _ _) hba1.size _ _
      have hSV : SpR g d.n d.G V := by rw [hV]; exact (hSa5.other hgb).other hgb
      have hszV : V.heap.size = a5.heap.size := by rw [hV]; simp only [World.size_setCell]
      have hctV : TrsIn (some ⟨cg, 0, none⟩) (d.m + 1) (catF d.m d.S fun _ => (p0, p1, p2)) V.heap.size V := by rw [hszV, hV]; exact (hcta5.oth hcb).oth hcb
      have hRV : Bv (w.heap.size + 1 + 1) (.slice none 0 0) (.slice none 0 0) V := by rw [hV]; exact ((R.out.up hba5).other (by have := hba1.size; omega)).other (by have := hba1.size; omega)
      have BX := Lib.hid bxV
      have D := Lib.hid (nextB D.out hbV)
      have HSV := Lib.hid hSV
      have HCV := Lib.hid hctV
      have R := Lib.hid hRV
      have HLOW : Hid (g ≠ w.heap.size + 1 + 1 ∧ cg ≠ w.heap.size + 1 + 1) := Lib.hid ⟨hg0, hc0⟩
      rw [← hV]
      clear hV bxV hbV hSV hszV hctV hRV b0 b1 b2 b3 zb x0 x1 s0 s1 s2 zP zS r0 r1 r2 r3 zR hT0 
      obtain ⟨bb, hbb⟩ : ∃ bb, bb = a1.heap.size := ⟨_, rfl⟩
      rw [← hbb] at BX hgb hcb ⊢
      have HGB := Lib.hid (And.intro hgb hcb)
      clear hbb hgb hcb
      obtain ⟨b0, b1, b2, b3⟩ := BX.out
      have zb := BX.out.lt
      obtain ⟨E2, hE2, hEE⟩ : ∃ E2 : Int, ((E2 = 0 ∧ DrOk (wnd d (p0, p1, p2) (some ⟨g, 0, none⟩) cap (some ⟨cg, 0, none⟩) ccap)) ∨ (E2 = 20 ∧ ¬ DrOk (wnd d (p0, p1, p2) (some ⟨g, 0, none⟩) cap (some ⟨cg, 0, none⟩) ccap))) ∧ ((E2 = 20 ∧ E = 1) ∨ (E2 = 0 ∧ E = 0)) := by
       rcases HE3.out with ⟨h, h2⟩ | ⟨h, h2⟩
       ·exact ⟨20, .inr ⟨rfl, fun k => h2 ((wok_iff _ _ _ _ _ _).1 k)⟩, .inl ⟨rfl, h⟩⟩
       ·exact ⟨0, .inl ⟨rfl, (wok_iff _ _ _ _ _ _).2 h2⟩, .inr ⟨rfl, h⟩⟩
      have K2 := Lib.hid (Check_any (wnd d (p0, p1, p2) (some ⟨g, 0, none⟩) cap (some ⟨cg, 0, none⟩) ccap) E2 V (drIn_wnd HSV.out (by omega) HCV.out) hE2)
      have HEE := Lib.hid hEE
      clear hE2 hEE
      go_wp2_with fail
      refine K2.out.mono ?_
      rintro e w4 ⟨rfl, hb⟩
      have J := Lib.hid hb
      have D := Lib.hid (nextB D.out hb)
      have R := Lib.hid (R.out.up hb)
      have BX := Lib.hid (BX.out.up hb)
      have HSV := Lib.hid (HSV.out.up hb)
      have HCV := Lib.hid ((HCV.out.up hb (Nat.le_refl _)).more hb.size)
      clear hb b0 b1 b2 b3 zb
      obtain ⟨b0, b1, b2, b3⟩ := BX.out
      have zb := BX.out.lt
      obtain ⟨r0, r1, r2, r3⟩ := R.out
      have zR := R.out.lt
      rcases HEE.out with ⟨rfl, rfl⟩ | ⟨rfl, rfl⟩
      ·have hq := R.out.store (.slice none 0 0) (.slice none 0 0)
       have hfb : Below w.heap.size w ((w4.setCell ⟨w.heap.size + 1 + 1, 0, none⟩ (.slice none 0 0)).setCell ⟨w.heap.size + 1 + 1, 1, none⟩ (.slice none 0 0)) := set1 (set1 D.out (by omega) _ _) (by omega) _ _
       have HQ := Lib.hid hq
       have HFB := Lib.hid hfb
       clear hq hfb
       go_wp2_with fail
       obtain ⟨wf, hwf⟩ : ∃ wf : World, wf = ((w4.setCell ⟨w.heap.size + 1 + 1, 0, none⟩ (.slice none 0 0)).setCell ⟨w.heap.size + 1 + 1, 1, none⟩ (.slice none 0 0)) := ⟨_, rfl⟩
       have HF2 := HFB.out
       have HQ2 := HQ.out
       rw [← hwf] at HF2 HQ2 ⊢
       obtain ⟨q0, q1, _, _⟩ := HQ2
       exact bodyPost_ret (v := .tuple #[.agg #[.slice none 0 0, .slice none 0 0], .int .i64 1]) (by simp [results, Try.results29, go_sem, q0, q1]) rfl ⟨HF2, .inl ⟨by omega, rfl⟩⟩
      ·have hq := R.out.store (.slice (some ⟨g, 0, none⟩) d.n cap) (.slice (some ⟨cg, 0, none⟩) (d.m + 1) ccap)
       have hfb : Below w.heap.size w ((w4.setCell ⟨w.heap.size + 1 + 1, 0, none⟩ (.slice (some ⟨g, 0, none⟩) d.n cap)).setCell ⟨w.heap.size + 1 + 1, 1, none⟩ (.slice (some ⟨cg, 0, none⟩) (d.m + 1) ccap)) := set1 (set1 D.out (by omega) _ _) (by omega) _ _
       have hg2 : g ≠ w.heap.size + 1 + 1 := HLOW.out.1
       have hc2 : cg ≠ w.heap.size + 1 + 1 := HLOW.out.2
       have hdr : DrIn (wnd d (p0, p1, p2) (some ⟨g, 0, none⟩) cap (some ⟨cg, 0, none⟩) ccap) ((w4.setCell ⟨w.heap.size + 1 + 1, 0, none⟩ (.slice (some ⟨g, 0, none⟩) d.n cap)).setCell ⟨w.heap.size + 1 + 1, 1, none⟩ (.slice (some ⟨cg, 0, none⟩) (d.m + 1) ccap)).heap.size ((w4.setCell ⟨w.heap.size + 1 + 1, 0, none⟩ (.slice (some ⟨g, 0, none⟩) d.n cap)).setCell ⟨w.heap.size + 1 + 1, 1, none⟩ (.slice (some ⟨cg, 0, none⟩) (d.m + 1) ccap)) :=
        drIn_wnd ((HSV.out.other hg2).other hg2) (by omega) (by rw [World.size_setCell, World.size_setCell]; exact (HCV.out.oth hc2).oth hc2)
       have HQ := Lib.hid hq
       have HFB := Lib.hid hfb
       have HDR := Lib.hid hdr
       clear hq hfb hdr hg2 hc2
       go_wp2_with fail
       obtain ⟨wf, hwf⟩ : ∃ wf : World, wf = ((w4.setCell ⟨w.heap.size + 1 + 1, 0, none⟩ (.slice (some ⟨g, 0, none⟩) d.n cap)).setCell ⟨w.heap.size + 1 + 1, 1, none⟩ (.slice (some ⟨cg, 0, none⟩) (d.m + 1) ccap)) := ⟨_, rfl⟩
       have HF2 := HFB.out
       have HQ2 := HQ.out
       have HD2 := HDR.out
       rw [← hwf] at HF2 HQ2 HD2 ⊢
       obtain ⟨q0, q1, _, _⟩ := HQ2
       exact bodyPost_ret (v := .tuple #[(wnd d (p0, p1, p2) (some ⟨g, 0, none⟩) cap (some ⟨cg, 0, none⟩) ccap).v, .int .i64 0]) (by simp [results, Try.results29, go_sem, q0, q1]) rfl ⟨HF2, .inr ⟨rfl, _, _, _, _, rfl, HD2⟩⟩
   ·go_simp
    obtain ⟨a1, hwa1⟩ : ∃ V : World, V = w2.alloc (.cells #[.slice none 0 0, .slice none 0 0] 25) := ⟨_, rfl⟩
    rw [← hwa1]
    have hqa1 : Below w2.heap.size w2 a1 := by rw [hwa1]; exact box1 _ _
    have hba1 := nextB hbw2 hqa1
    have bxa1 : Bv w2.heap.size (.slice none 0 0) (.slice none 0 0) a1 := by rw [hwa1]; exact Bv.new w2 _ _ _
    have hTa1 : (fun w' => w'.cell? ⟨w.heap.size, 0, none⟩ = some (.slice d.RA d.n d.rc) ∧ w'.cell? ⟨w.heap.size, 1, none⟩ = some (.slice d.SA d.m d.sc) ∧ w'.cell? ⟨w.heap.size + 1, 0, none⟩ = some (.int .i64 p0) ∧ w'.cell? ⟨w.heap.size + 1, 1, none⟩ = some (.int .i64 p1) ∧ w'.cell? ⟨w.heap.size + 1, 2, none⟩ = some (.int .i64 p2)) a1 := ⟨(hba1.cell (World.block_lt_of_cell? _ _ x0)).trans x0, (hba1.cell (World.block_lt_of_cell? _ _ x1)).trans x1, (hba1.cell (World.block_lt_of_cell? _ _ s0)).trans s0, (hba1.cell (World.block_lt_of_cell? _ _ s1)).trans s1, (hba1.cell (World.block_lt_of_cell? _ _ s2)).trans s2⟩
    clear hwa1
    refine hK.out _ _ (fun _ => hTa1) ?_
    clear hK K
    (try simp only [Act.put, List.setIfInBounds_toArray, List.set_cons_zero, List.set_cons_succ])
    refine M_fork 2 6 rfl rfl (by kernel_rfl) (fun K hK => ?_) (fun K hK => ?_)
    ·go_simp
     go_at_call 81
     refine (Clone_any d.RA d.n d.rc d.G a1.drew (DD.out _ (nextB D.out hba1.drew)).1 HD.out.n1 (by omega)).mono ?_
     rintro e a2 ⟨g, cap, rfl, hg, hcap, hSa2, hq'⟩
     have hqa2 : Below a1.heap.size a1 a2 := nextB (Below.refl _ _).drew hq'
     have hba2 := nextB hba1 hqa2
     have hg : a1.heap.size ≤ g := hg
     have hg0 : g ≠ w.heap.size + 1 + 1 := by have := hba1.size; omega
     have hgb : g ≠ w2.heap.size := by have := bxa1.lt; omega
     have bxa2 := bxa1.up hqa2
     have hTa2 : (fun w' => w'.cell? ⟨w.heap.size, 0, none⟩ = some (.slice d.RA d.n d.rc) ∧ w'.cell? ⟨w.heap.size, 1, none⟩ = some (.slice d.SA d.m d.sc) ∧ w'.cell? ⟨w.heap.size + 1, 0, none⟩ = some (.int .i64 p0) ∧ w'.cell? ⟨w.heap.size + 1, 1, none⟩ = some (.int .i64 p1) ∧ w'.cell? ⟨w.heap.size + 1, 2, none⟩ = some (.int .i64 p2)) a2 := ⟨(hba2.cell (World.block_lt_of_cell? _ _ x0)).trans x0, (hba2.cell (World.block_lt_of_cell? _ _ x1)).trans x1, (hba2.cell (World.block_lt_of_cell? _ _ s0)).trans s0, (hba2.cell (World.block_lt_of_cell? _ _ s1)).trans s1, (hba2.cell (World.block_lt_of_cell? _ _ s2)).trans s2⟩
     clear hg hcap hq'
     refine hK.out _ _ (fun _ => hTa2) ?_
     clear hK K
     (try simp only [Act.put, List.setIfInBounds_toArray, List.set_cons_zero, List.set_cons_succ])
     refine M_step 6 rfl (by kernel_rfl) (fun K hK => ?_)
     go_simp
     obtain ⟨a3, hwa3⟩ : ∃ V : World, V = a2.alloc (.cells #[.int .i64 p0, .int .i64 p1, .int .i64 p2] 34) := ⟨_, rfl⟩
     rw [← hwa3]
     have hqa3 : Below a2.heap.size a2 a3 := by rw [hwa3]; exact box1 _ _
     have hba3 := nextB hba2 hqa3
     have hSa3 := hSa2.up hqa3
     have bxa3 := bxa2.up hqa3
     have hma3 : TrsIn (some ⟨a2.heap.size, 0, none⟩) 1 (fun _ => (p0, p1, p2)) a3.heap.size a3 := by
      have hz : Tr3 (p0, p1, p2) a2.heap.size a3 := by rw [hwa3]; exact tr3_new _ (p0, p1, p2) _
      exact trs_one hz
     have hTa3 : (fun w' => w'.cell? ⟨w.heap.size, 0, none⟩ = some (.slice d.RA d.n d.rc) ∧ w'.cell? ⟨w.heap.size, 1, none⟩ = some (.slice d.SA d.m d.sc) ∧ w'.cell? ⟨w.heap.size + 1, 0, none⟩ = some (.int .i64 p0) ∧ w'.cell? ⟨w.heap.size + 1, 1, none⟩ = some (.int .i64 p1) ∧ w'.cell? ⟨w.heap.size + 1, 2, none⟩ = some (.int .i64 p2)) a3 := ⟨(hba3.cell (World.block_lt_of_cell? _ _ x0)).trans x0, (hba3.cell (World.block_lt_of_cell? _ _ x1)).trans x1, (hba3.cell (World.block_lt_of_cell? _ _ s0)).trans s0, (hba3.cell (World.block_lt_of_cell? _ _ s1)).trans s1, (hba3.cell (World.block_lt_of_cell? _ _ s2)).trans s2⟩
     clear hwa3
     refine hK.out _ _ (fun _ => hTa3) ?_
     clear hK K
     (try simp only [Act.put, List.setIfInBounds_toArray, List.set_cons_zero, List.set_cons_succ])
     refine M_step 7 rfl (by kernel_rfl) (fun K hK => ?_)
     go_simp
     obtain ⟨a4, hwa4⟩ : ∃ V : World, V = a3.alloc (.cells #[.slice d.SA d.m d.sc, .slice (some ⟨a2.heap.size, 0, none⟩) 1 1] 23) := ⟨_, rfl⟩
     rw [← hwa4]
     have hqa4 : Below a3.heap.size a3 a4 := by rw [hwa4]; exact box1 _ _
     have hba4 := nextB hba3 hqa4
     have hma4 := (hma3.up hqa4 (Nat.le_refl _)).more hqa4.size
     have hSa4 := hSa3.up hqa4
     have bxa4 := bxa3.up hqa4
     have o0a4 : a4.cell? ⟨a3.heap.size, 0, none⟩ = some (.slice d.SA d.m d.sc) := by rw [hwa4]; go_simp
     have o1a4 : a4.cell? ⟨a3.heap.size, 1, none⟩ = some (.slice (some ⟨a2.heap.size, 0, none⟩) 1 1) := by rw [hwa4]; go_simp
     have hTa4 : (fun w' => w'.cell? ⟨w.heap.size, 0, none⟩ = some (.slice d.RA d.n d.rc) ∧ w'.cell? ⟨w.heap.size, 1, none⟩ = some (.slice d.SA d.m d.sc) ∧ w'.cell? ⟨w.heap.size + 1, 0, none⟩ = some (.int .i64 p0) ∧ w'.cell? ⟨w.heap.size + 1, 1, none⟩ = some (.int .i64 p1) ∧ w'.cell? ⟨w.heap.size + 1, 2, none⟩ = some (.int .i64 p2)) a4 := ⟨(hba4.cell (World.block_lt_of_cell? _ _ x0)).trans x0, (hba4.cell (World.block_lt_of_cell? _ _ x1)).trans x1, (hba4.cell (World.block_lt_of_cell? _ _ s0)).trans s0, (hba4.cell (World.block_lt_of_cell? _ _ s1)).trans s1, (hba4.cell (World.block_lt_of_cell? _ _ s2)).trans s2⟩
     clear hwa4
     refine hK.out _ _ (fun _ => hTa4) ?_
     clear hK K
     (try simp only [Act.put, List.setIfInBounds_toArray, List.set_cons_zero, List.set_cons_succ])
     refine M_step 8 rfl (by kernel_rfl) (fun K hK => ?_)
     go_simp
     go_at_call 82
     refine (ConcatStop_any a3.heap.size d.SA d.m d.sc d.S ⟨a2.heap.size, 0, none⟩ 1 (p0, p1, p2) _ (by omega) o0a4 o1a4 (DD.out _ (nextB D.out hba4)).2 hma4).mono ?_
     rintro e a5 ⟨cg, ccap, rfl, hcg, hcta5, hqa5⟩
     have hba5 := nextB hba4 hqa5
     have hc0 : cg ≠ w.heap.size + 1 + 1 := by have := hba4.size; omega
     have hcb : cg ≠ w2.heap.size := by have := bxa4.lt; omega
     have hSa5 := hSa4.up hqa5
     have bxa5 := bxa4.up hqa5
     have hTa5 : (fun w' => w'.cell? ⟨w.heap.size, 0, none⟩ = some (.slice d.RA d.n d.rc) ∧ w'.cell? ⟨w.heap.size, 1, none⟩ = some (.slice d.SA d.m d.sc) ∧ w'.cell? ⟨w.heap.size + 1, 0, none⟩ = some (.int .i64 p0) ∧ w'.cell? ⟨w.heap.size + 1, 1, none⟩ = some (.int .i64 p1) ∧ w'.cell? ⟨w.heap.size + 1, 2, none⟩ = some (.int .i64 p2)) a5 := ⟨(hba5.cell (World.block_lt_of_cell? _ _ x0)).trans x0, (hba5.cell (World.block_lt_of_cell? _ _ x1)).trans x1, (hba5.cell (World.block_lt_of_cell? _ _ s0)).trans s0, (hba5.cell (World.block_lt_of_cell? _ _ s1)).trans s1, (hba5.cell (World.block_lt_of_cell? _ _ s2)).trans s2⟩
     clear hcg
     refine hK.out _ _ (fun _ => hTa5) ?_
     clear hK K
     (try simp only [Act.put, List.setIfInBounds_toArray, List.set_cons_zero, List.set_cons_succ])
     refine M_take (v := ?_) 9 rfl (by kernel_rfl) (by assumption) (fun _ _ _ h => h) (Or.inl ⟨by rfl, ?_⟩) ?_
     rotate_left
     ·(intro w hSw; (try dsimp only at hSw); go_simp; (try with_reducible rfl))
     (try simp only [Act.put, List.setIfInBounds_toArray, List.set_cons_zero, List.set_cons_succ])
     refine M_step 11 rfl (by kernel_rfl) (fun K hK => ?_)
     obtain ⟨b0, b1, b2, b3⟩ := id bxa5
     have zb := bxa5.lt
     go_simp
     refine hK.out _ _ (fun e => by cases e) ?_
     clear hK K
     (try simp only [Act.put, List.setIfInBounds_toArray, List.set_cons_zero, List.set_cons_succ])
     refine M_done (by kernel_rfl) ?_ _
     obtain ⟨V, hV⟩ : ∃ V : World, V = ((a5.setCell ⟨w2.heap.size, 0, none⟩ (.slice (some ⟨g, 0, none⟩) d.n cap)).setCell ⟨w2.heap.size, 1, none⟩ (.slice (some ⟨cg, 0, none⟩) (d.m + 1) ccap)) := ⟨_, rfl⟩
     have bxV : Bv w2.heap.size (.slice (some ⟨g, 0, none⟩) d.n cap) (.slice (some ⟨cg, 0, none⟩) (d.m + 1) ccap) V := by rw [hV]; exact bxa5.store _ _
     have hbV : Below w2.heap.size w2 V := by rw [hV]; exact set1 (set1 hba5 hbw2.size _ _) hbw2.size _ _
     have hSV : SpR g d.n d.G V := by rw [hV]; exact (hSa5.other hgb).other hgb
     have hszV : V.heap.size = a5.heap.size := by rw [hV]; simp only [World.size_setCell]
     have hctV : TrsIn (some ⟨cg, 0, none⟩) (d.m + 1) (catF d.m d.S fun _ => (p0, p1, p2)) V.heap.size V := by rw [hszV, hV]; exact (hcta5.oth hcb).oth hcb
     have hRV : Bv (w.heap.size + 1 + 1) (.slice none 0 0) (.slice none 0 0) V := by rw [hV]; exact ((R.out.up hba5).other (by have := hbw2.size; omega)).other (by have := hbw2.size; omega)
     have BX := Lib.hid bxV
     have D := Lib.hid (nextB D.out hbV)
     have HSV := Lib.hid hSV
     have HCV := Lib.hid hctV
     have R := Lib.hid hRV
     have HLOW : Hid (g ≠ w.heap.size + 1 + 1 ∧ cg ≠ w.heap.size + 1 + 1) := Lib.hid ⟨hg0, hc0⟩
     rw [← hV]
     clear hV bxV hbV hSV hszV hctV hRV b0 b1 b2 b3 zb x0 x1 s0 s1 s2 zP zS r0 r1 r2 r3 zR hT0 
     obtain ⟨bb, hbb⟩ : ∃ bb, bb = w2.heap.size := ⟨_, rfl⟩
     rw [← hbb] at BX hgb hcb ⊢
     have HGB := Lib.hid (And.intro hgb hcb)
     clear hbb hgb hcb
     obtain ⟨b0, b1, b2, b3⟩ := BX.out
     have zb := BX.out.lt
     obtain ⟨E2, hE2, hEE⟩ : ∃ E2 : Int, ((E2 = 0 ∧ DrOk (wnd d (p0, p1, p2) (some ⟨g, 0, none⟩) cap (some ⟨cg, 0, none⟩) ccap)) ∨ (E2 = 20 ∧ ¬ DrOk (wnd d (p0, p1, p2) (some ⟨g, 0, none⟩) cap (some ⟨cg, 0, none⟩) ccap))) ∧ ((E2 = 20 ∧ E = 1) ∨ (E2 = 0 ∧ E = 0)) := by
      rcases HE3.out with ⟨h, h2⟩ | ⟨h, h2⟩
      ·exact ⟨20, .inr ⟨rfl, fun k => h2 ((wok_iff _ _ _ _ _ _).1 k)⟩, .inl ⟨rfl, h⟩⟩
      ·exact ⟨0, .inl ⟨rfl, (wok_iff _ _ _ _ _ _).2 h2⟩, .inr ⟨rfl, h⟩⟩
     have K2 := Lib.hid (Check_any (wnd d (p0, p1, p2) (some ⟨g, 0, none⟩) cap (some ⟨cg, 0, none⟩) ccap) E2 V (drIn_wnd HSV.out (by omega) HCV.out) hE2)
     have HEE := Lib.hid hEE
     clear hE2 hEE
     go_wp2_with fail
     refine K2.out.mono ?_
     rintro e w4 ⟨rfl, hb⟩
     have J := Lib.hid hb
     have D := Lib.hid (nextB D.out hb)
     have R := Lib.hid (R.out.up hb)
     have BX := Lib.hid (BX.out.up hb)
     have HSV := Lib.hid (HSV.out.up hb)
     have HCV := Lib.hid ((HCV.out.up hb (Nat.le_refl _)).more hb.size)
     clear hb b0 b1 b2 b3 zb
     obtain ⟨b0, b1, b2, b3⟩ := BX.out
     have zb := BX.out.lt
     obtain ⟨r0, r1, r2, r3⟩ := R.out
     have zR := R.out.lt
     rcases HEE.out with ⟨rfl, rfl⟩ | ⟨rfl, rfl⟩
     ·have hq := R.out.store (.slice none 0 0) (.slice none 0 0)
      have hfb : Below w.heap.size w ((w4.setCell ⟨w.heap.size + 1 + 1, 0, none⟩ (.slice none 0 0)).setCell ⟨w.heap.size + 1 + 1, 1, none⟩ (.slice none 0 0)) := set1 (set1 D.out (by omega) _ _) (by omega) _ _
      have HQ := Lib.hid hq
      have HFB := Lib.hid hfb
      clear hq hfb
      go_wp2_with fail
      obtain ⟨wf, hwf⟩ : ∃ wf : World, wf = ((w4.setCell ⟨w.heap.size + 1 + 1, 0, none⟩ (.slice none 0 0)).setCell ⟨w.heap.size + 1 + 1, 1, none⟩ (.slice none 0 0)) := ⟨_, rfl⟩
      have HF2 := HFB.out
      have HQ2 := HQ.out
      rw [← hwf] at HF2 HQ2 ⊢
      obtain ⟨q0, q1, _, _⟩ := HQ2
      exact bodyPost_ret (v := .tuple #[.agg #[.slice none 0 0, .slice none 0 0], .int .i64 1]) (by simp [results, Try.results29, go_sem, q0, q1]) rfl ⟨HF2, .inl ⟨by omega, rfl⟩⟩
     ·have hq := R.out.store (.slice (some ⟨g, 0, none⟩) d.n cap) (.slice (some ⟨cg, 0, none⟩) (d.m + 1) ccap)
      have hfb : Below w.heap.size w ((w4.setCell ⟨w.heap.size + 1 + 1, 0, none⟩ (.slice (some ⟨g, 0, none⟩) d.n cap)).setCell ⟨w.heap.size + 1 + 1, 1, none⟩ (.slice (some ⟨cg, 0, none⟩) (d.m + 1) ccap)) := set1 (set1 D.out (by omega) _ _) (by omega) _ _
      have hg2 : g ≠ w.heap.size + 1 + 1 := HLOW.out.1
      have hc2 : cg ≠ w.heap.size + 1 + 1 := HLOW.out.2
      have hdr : DrIn (wnd d (p0, p1, p2) (some ⟨g, 0, none⟩) cap (some ⟨cg, 0, none⟩) ccap) ((w4.setCell ⟨w.heap.size + 1 + 1, 0, none⟩ (.slice (some ⟨g, 0, none⟩) d.n cap)).setCell ⟨w.heap.size + 1 + 1, 1, none⟩ (.slice (some ⟨cg, 0, none⟩) (d.m + 1) ccap)).heap.size ((w4.setCell ⟨w.heap.size + 1 + 1, 0, none⟩ (.slice (some ⟨g, 0, none⟩) d.n cap)).setCell ⟨w.heap.size + 1 + 1, 1, none⟩ (.slice (some ⟨cg, 0, none⟩) (d.m + 1) ccap)) :=
       drIn_wnd ((HSV.out.other hg2).other hg2) (by omega) (by rw [World.size_setCell, World.size_setCell]; exact (HCV.out.oth hc2).oth hc2)
      have HQ := Lib.hid hq
      have HFB := Lib.hid hfb
      have HDR := Lib.hid hdr
      clear hq hfb hdr hg2 hc2
      go_wp2_with fail
      obtain ⟨wf, hwf⟩ : ∃ wf : World, wf = ((w4.setCell ⟨w.heap.size + 1 + 1, 0, none⟩ (.slice (some ⟨g, 0, none⟩) d.n cap)).setCell ⟨w.heap.size + 1 + 1, 1, none⟩ (.slice (some ⟨cg, 0, none⟩) (d.m + 1) ccap)) := ⟨_, rfl⟩
      have HF2 := HFB.out
      have HQ2 := HQ.out
      have HD2 := HDR.out
      rw [← hwf] at HF2 HQ2 HD2 ⊢
      obtain ⟨q0, q1, _, _⟩ := HQ2
      exact bodyPost_ret (v := .tuple #[(wnd d (p0, p1, p2) (some ⟨g, 0, none⟩) cap (some ⟨cg, 0, none⟩) ccap).v, .int .i64 0]) (by simp [results, Try.results29, go_sem, q0, q1]) rfl ⟨HF2, .inr ⟨rfl, _, _, _, _, rfl, HD2⟩⟩
    ·go_simp
     obtain ⟨a2, hwa2⟩ : ∃ V : World, V = a1.alloc (.cells #[.int .i64 p0, .int .i64 p1, .int .i64 p2] 34) := ⟨_, rfl⟩
     rw [← hwa2]
     have hqa2 : Below a1.heap.size a1 a2 := by rw [hwa2]; exact box1 _ _
     have hba2 := nextB hba1 hqa2
     have bxa2 := bxa1.up hqa2
     have hma2 : TrsIn (some ⟨a1.heap.size, 0, none⟩) 1 (fun _ => (p0, p1, p2)) a2.heap.size a2 := by
      have hz : Tr3 (p0, p1, p2) a1.heap.size a2 := by rw [hwa2]; exact tr3_new _ (p0, p1, p2) _
      exact trs_one hz
     have hTa2 : (fun w' => w'.cell? ⟨w.heap.size, 0, none⟩ = some (.slice d.RA d.n d.rc) ∧ w'.cell? ⟨w.heap.size, 1, none⟩ = some (.slice d.SA d.m d.sc) ∧ w'.cell? ⟨w.heap.size + 1, 0, none⟩ = some (.int .i64 p0) ∧ w'.cell? ⟨w.heap.size + 1, 1, none⟩ = some (.int .i64 p1) ∧ w'.cell? ⟨w.heap.size + 1, 2, none⟩ = some (.int .i64 p2)) a2 := ⟨(hba2.cell (World.block_lt_of_cell? _ _ x0)).trans x0, (hba2.cell (World.block_lt_of_cell? _ _ x1)).trans x1, (hba2.cell (World.block_lt_of_cell? _ _ s0)).trans s0, (hba2.cell (World.block_lt_of_cell? _ _ s1)).trans s1, (hba2.cell (World.block_lt_of_cell? _ _ s2)).trans s2⟩
     clear hwa2
     refine hK.out _ _ (fun _ => hTa2) ?_
     clear hK K
     (try simp only [Act.put, List.setIfInBounds_toArray, List.set_cons_zero, List.set_cons_succ])
     refine M_fork 2 7 rfl rfl (by kernel_rfl) (fun K hK => ?_) (fun K hK => ?_)
     ·go_simp
      go_at_call 81
      refine (Clone_any d.RA d.n d.rc d.G a2.drew (DD.out _ (nextB D.out hba2.drew)).1 HD.out.n1 (by omega)).mono ?_
      rintro e a3 ⟨g, cap, rfl, hg, hcap, hSa3, hq'⟩
      have hqa3 : Below a2.heap.size a2 a3 := nextB (Below.refl _ _).drew hq'
      have hba3 := nextB hba2 hqa3
      have hg : a2.heap.size ≤ g := hg
      have hg0 : g ≠ w.heap.size + 1 + 1 := by have := hba2.size; omega
      have hgb : g ≠ w2.heap.size := by have := bxa2.lt; omega
      have hma3 := (hma2.up hqa3 (Nat.le_refl _)).more hqa3.size
      have bxa3 := bxa2.up hqa3
      have hTa3 : (fun w' => w'.cell? ⟨w.heap.size, 0, none⟩ = some (.slice d.RA d.n d.rc) ∧ w'.cell? ⟨w.heap.size, 1, none⟩ = some (.slice d.SA d.m d.sc) ∧ w'.cell? ⟨w.heap.size + 1, 0, none⟩ = some (.int .i64 p0) ∧ w'.cell? ⟨w.heap.size + 1, 1, none⟩ = some (.int .i64 p1) ∧ w'.cell? ⟨w.heap.size + 1, 2, none⟩ = some (.int .i64 p2)) a3 := ⟨(hba3.cell (World.block_lt_of_cell? _ _ x0)).trans x0, (hba3.cell (World.block_lt_of_cell? _ _ x1)).trans x1, (hba3.cell (World.block_lt_of_cell? _ _ s0)).trans s0, (hba3.cell (World.block_lt_of_cell? _ _ s1)).trans s1, (hba3.cell (World.block_lt_of_cell? _ _ s2)).trans s2⟩
      clear hg hcap hq'
      refine hK.out _ _ (fun _ => hTa3) ?_
      clear hK K
      (try simp only [Act.put, List.setIfInBounds_toArray, List.set_cons_zero, List.set_cons_succ])
      refine M_step 7 rfl (by kernel_rfl) (fun K hK => ?_)
      go_simp
      obtain ⟨a4, hwa4⟩ : ∃ V : World, V = a3.alloc (.cells #[.slice d.SA d.m d.sc, .slice (some ⟨a1.heap.size, 0, none⟩) 1 1] 23) := ⟨_, rfl⟩
      rw [← hwa4]
      have hqa4 : Below a3.heap.size a3 a4 := by rw [hwa4]; exact box1 _ _
      have hba4 := nextB hba3 hqa4
      have hma4 := (hma3.up hqa4 (Nat.le_refl _)).more hqa4.size
      have hSa4 := hSa3.up hqa4
      have bxa4 := bxa3.up hqa4
      have o0a4 : a4.cell? ⟨a3.heap.size, 0, none⟩ = some (.slice d.SA d.m d.sc) := by rw [hwa4]; go_simp
      have o1a4 : a4.cell? ⟨a3.heap.size, 1, none⟩ = some (.slice (some ⟨a1.heap.size, 0, none⟩) 1 1) := by rw [hwa4]; go_simp
      have hTa4 : (fun w' => w'.cell? ⟨w.heap.size, 0, none⟩ = some (.slice d.RA d.n d.rc) ∧ w'.cell? ⟨w.heap.size, 1, none⟩ = some (.slice d.SA d.m d.sc) ∧ w'.cell? ⟨w.heap.size + 1, 0, none⟩ = some (.int .i64 p0) ∧ w'.cell? ⟨w.heap.size + 1, 1, none⟩ = some (.int .i64 p1) ∧ w'.cell? ⟨w.heap.size + 1, 2, none⟩ = some (.int .i64 p2)) a4 := ⟨(hba4.cell (World.block_lt_of_cell? _ _ x0)).trans x0, (hba4.cell (World.block_lt_of_cell? _ _ x1)).trans x1, (hba4.cell (World.block_lt_of_cell? _ _ s0)).trans s0, (hba4.cell (World.block_lt_of_cell? _ _ s1)).trans s1, (hba4.cell (World.block_lt_of_cell? _ _ s2)).trans s2⟩
      clear hwa4
      refine hK.out _ _ (fun _ => hTa4) ?_
      clear hK K
      (try simp only [Act.put, List.setIfInBounds_toArray, List.set_cons_zero, List.set_cons_succ])
      refine M_step 8 rfl (by kernel_rfl) (fun K hK => ?_)
      go_simp
      go_at_call 82
      refine (ConcatStop_any a3.heap.size d.SA d.m d.sc d.S ⟨a1.heap.size, 0, none⟩ 1 (p0, p1, p2) _ (by omega) o0a4 o1a4 (DD.out _ (nextB D.out hba4)).2 hma4).mono ?_
      rintro e a5 ⟨cg, ccap, rfl, hcg, hcta5, hqa5⟩
      have hba5 := nextB hba4 hqa5
      have hc0 : cg ≠ w.heap.size + 1 + 1 := by have := hba4.size; omega
      have hcb : cg ≠ w2.heap.size := by have := bxa4.lt; omega
      have hSa5 := hSa4.up hqa5
      have bxa5 := bxa4.up hqa5
      have hTa5 : (fun w' => w'.cell? ⟨w.heap.size, 0, none⟩ = some (.slice d.RA d.n d.rc) ∧ w'.cell? ⟨w.heap.size, 1, none⟩ = some (.slice d.SA d.m d.sc) ∧ w'.cell? ⟨w.heap.size + 1, 0, none⟩ = some (.int .i64 p0) ∧ w'.cell? ⟨w.heap.size + 1, 1, none⟩ = some (.int .i64 p1) ∧ w'.cell? ⟨w.heap.size + 1, 2, none⟩ = some (.int .i64 p2)) a5 := ⟨(hba5.cell (World.block_lt_of_cell? _ _ x0)).trans x0, (hba5.cell (World.block_lt_of_cell? _ _ x1)).trans x1, (hba5.cell (World.block_lt_of_cell? _ _ s0)).trans s0, (hba5.cell (World.block_lt_of_cell? _ _ s1)).trans s1, (hba5.cell (World.block_lt_of_cell? _ _ s2)).trans s2⟩
      clear hcg
      refine hK.out _ _ (fun _ => hTa5) ?_
      clear hK K
      (try simp only [Act.put, List.setIfInBounds_toArray, List.set_cons_zero, List.set_cons_succ])
      refine M_take (v := ?_) 9 rfl (by kernel_rfl) (by assumption) (fun _ _ _ h => h) (Or.inl ⟨by rfl, ?_⟩) ?_
      rotate_left
      ·(intro w hSw; (try dsimp only at hSw); go_simp; (try with_reducible rfl))
      (try simp only [Act.put, List.setIfInBounds_toArray, List.set_cons_zero, List.set_cons_succ])
      refine M_step 11 rfl (by kernel_rfl) (fun K hK => ?_)
      obtain ⟨b0, b1, b2, b3⟩ := id bxa5
      have zb := bxa5.lt
      go_simp
      refine hK.out _ _ (fun e => by cases e) ?_
      clear hK K
      (try simp only [Act.put, List.setIfInBounds_toArray, List.set_cons_zero, List.set_cons_succ])
      refine M_done (by kernel_rfl) ?_ _
      obtain ⟨V, hV⟩ : ∃ V : World, V = ((a5.setCell ⟨w2.heap.size, 0, none⟩ (.slice (some ⟨g, 0, none⟩) d.n cap)).setCell ⟨w2.heap.size, 1, none⟩ (.slice (some ⟨cg, 0, none⟩) (d.m + 1) ccap)) := ⟨_, rfl⟩
      have bxV : Bv w2.heap.size (.slice (some ⟨g, 0, none⟩) d.n cap) (.slice (some ⟨cg, 0, none⟩) (d.m + 1) ccap) V := by rw [hV]; exact bxa5.store _ _
      have hbV : Below w2.heap.size w2 V := by rw [hV]; exact set1 (set1 hba5 hbw2.size _ _) hbw2.size _ _
      have hSV : SpR g d.n d.G V := by rw [hV]; exact (hSa5.other hgb).other hgb
      have hszV : V.heap.size = a5.heap.size := by rw [hV]; simp only [World.size_setCell]
      have hctV : TrsIn (some ⟨cg, 0, none⟩) (d.m + 1) (catF d.m d.S fun _ => (p0, p1, p2)) V.heap.size V := by rw [hszV, hV]; exact (hcta5.oth hcb).oth hcb
      have hRV : Bv (w.heap.size + 1 + 1) (.slice none 0 0) (.slice none 0 0) V := by rw [hV]; exact ((R.out.up hba5).other (by have := hbw2.size; omega)).other (by have := hbw2.size; omega)
      have BX := Lib.hid bxV
      have D := Lib.hid (nextB D.out hbV)
      have HSV := Lib.hid hSV
      have HCV := Lib.hid hctV
      have R := Lib.hid hRV
      have HLOW : Hid (g ≠ w.heap.size + 1 + 1 ∧ cg ≠ w.heap.size + 1 + 1) := Lib.hid ⟨hg0, hc0⟩
      rw [← hV]
      clear hV bxV hbV hSV hszV hctV hRV b0 b1 b2 b3 zb x0 x1 s0 s1 s2 zP zS r0 r1 r2 r3 zR hT0 
      obtain ⟨bb, hbb⟩ : ∃ bb, bb = w2.heap.size := ⟨_, rfl⟩
      rw [← hbb] at BX hgb hcb ⊢
      have HGB := Lib.hid (And.intro hgb hcb)
      clear hbb hgb hcb
      obtain ⟨b0, b1, b2, b3⟩ := BX.out
      have zb := BX.out.lt
      obtain ⟨E2, hE2, hEE⟩ : ∃ E2 : Int, ((E2 = 0 ∧ DrOk (wnd d (p0, p1, p2) (some ⟨g, 0, none⟩) cap (some ⟨cg, 0, none⟩) ccap)) ∨ (E2 = 20 ∧ ¬ DrOk (wnd d (p0, p1, p2) (some ⟨g, 0, none⟩) cap (some ⟨cg, 0, none⟩) ccap))) ∧ ((E2 = 20 ∧ E = 1) ∨ (E2 = 0 ∧ E = 0)) := by
       rcases HE3.out with ⟨h, h2⟩ | ⟨h, h2⟩
       ·exact ⟨20, .inr ⟨rfl, fun k => h2 ((wok_iff _ _ _ _ _ _).1 k)⟩, .inl ⟨rfl, h⟩⟩
       ·exact ⟨0, .inl ⟨rfl, (wok_iff _ _ _ _ _ _).2 h2⟩, .inr ⟨rfl, h⟩⟩
      have K2 := Lib.hid (Check_any (wnd d (p0, p1, p2) (some ⟨g, 0, none⟩) cap (some ⟨cg, 0, none⟩) ccap) E2 V (drIn_wnd HSV.out (by omega) HCV.out) hE2)
      have HEE := Lib.hid hEE
      clear hE2 hEE
      go_wp2_with fail
      refine K2.out.mono ?_
      rintro e w4 ⟨rfl, hb⟩
      have J := Lib.hid hb
      have D := Lib.hid (nextB D.out hb)
      have R := Lib.hid (R.out.up hb)
      have BX := Lib.hid (BX.out.up hb)
      have HSV := Lib.hid (HSV.out.up hb)
      have HCV := Lib.hid ((HCV.out.up hb (Nat.le_refl _)).more hb.size)
      clear hb b0 b1 b2 b3 zb
      obtain ⟨b0, b1, b2, b3⟩ := BX.out
      have zb := BX.out.lt
      obtain ⟨r0, r1, r2, r3⟩ := R.out
      have zR := R.out.lt
      rcases HEE.out with ⟨rfl, rfl⟩ | ⟨rfl, rfl⟩
      ·have hq := R.out.store (.slice none 0 0) (.slice none 0 0)
       have hfb : Below w.heap.size w ((w4.setCell ⟨w.heap.size + 1 + 1, 0, none⟩ (.slice none 0 0)).setCell ⟨w.heap.size + 1 + 1, 1, none⟩ (.slice none 0 0)) := set1 (set1 D.out (by omega) _ _) (by omega) _ _
       have HQ := Lib.hid hq
       have HFB := Lib.hid hfb
       clear hq hfb
       go_wp2_with fail
       obtain ⟨wf, hwf⟩ : ∃ wf : World, wf = ((w4.setCell ⟨w.heap.size + 1 + 1, 0, none⟩ (.slice none 0 0)).setCell ⟨w.heap.size + 1 + 1, 1, none⟩ (.slice none 0 0)) := ⟨_, rfl⟩
       have HF2 := HFB.out
       have HQ2 := HQ.out
       rw [← hwf] at HF2 HQ2 ⊢
       obtain ⟨q0, q1, _, _⟩ := HQ2
       exact bodyPost_ret (v := .tuple #[.agg #[.slice none 0 0, .slice none 0 0], .int .i64 1]) (by simp [results, Try.results29, go_sem, q0, q1]) rfl ⟨HF2, .inl ⟨by omega, rfl⟩⟩
      ·have hq := R.out.store (.slice (some ⟨g, 0, none⟩) d.n cap) (.slice (some ⟨cg, 0, none⟩) (d.m + 1) ccap)
       have hfb : Below w.heap.size w ((w4.setCell ⟨w.heap.size + 1 + 1, 0, none⟩ (.slice (some ⟨g, 0, none⟩) d.n cap)).setCell ⟨w.heap.size + 1 + 1, 1, none⟩ (.slice (some ⟨cg, 0, none⟩) (d.m + 1) ccap)) := set1 (set1 D.out (by omega) _ _) (by omega) _ _
       have hg2 : g ≠ w.heap.size + 1 + 1 := HLOW.out.1
       have hc2 : cg ≠ w.heap.size + 1 + 1 := HLOW.out.2
       have hdr : DrIn (wnd d (p0, p1, p2) (some ⟨g, 0, none⟩) cap (some ⟨cg, 0, none⟩) ccap) ((w4.setCell ⟨w.heap.size + 1 + 1, 0, none⟩ (.slice (some ⟨g, 0, none⟩) d.n cap)).setCell ⟨w.heap.size + 1 + 1, 1, none⟩ (.slice (some ⟨cg, 0, none⟩) (d.m + 1) ccap)).heap.size ((w4.setCell ⟨w.heap.size + 1 + 1, 0, none⟩ (.slice (some ⟨g, 0, none⟩) d.n cap)).setCell ⟨w.heap.size + 1 + 1, 1, none⟩ (.slice (some ⟨cg, 0, none⟩) (d.m + 1) ccap)) :=
        drIn_wnd ((HSV.out.other hg2).other hg2) (by omega) (by rw [World.size_setCell, World.size_setCell]; exact (HCV.out.oth hc2).oth hc2)
       have HQ := Lib.hid hq
       have HFB := Lib.hid hfb
       have HDR := Lib.hid hdr
       clear hq hfb hdr hg2 hc2
       go_wp2_with fail
       obtain ⟨wf, hwf⟩ : ∃ wf : World, wf = ((w4.setCell ⟨w.heap.size + 1 + 1, 0, none⟩ (.slice (some ⟨g, 0, none⟩) d.n cap)).setCell ⟨w.heap.size + 1 + 1, 1, none⟩ (.slice (some ⟨cg, 0, none⟩) (d.m + 1) ccap)) := ⟨_, rfl⟩
       have HF2 := HFB.out
       have HQ2 := HQ.out
       have HD2 := HDR.out
       rw [← hwf] at HF2 HQ2 HD2 ⊢
       obtain ⟨q0, q1, _, _⟩ := HQ2
       exact bodyPost_ret (v := .tuple #[(wnd d (p0, p1, p2) (some ⟨g, 0, none⟩) cap (some ⟨cg, 0, none⟩) ccap).v, .int .i64 0]) (by simp [results, Try.results29, go_sem, q0, q1]) rfl ⟨HF2, .inr ⟨rfl, _, _, _, _, rfl, HD2⟩⟩
     ·go_simp
      obtain ⟨a3, hwa3⟩ : ∃ V : World, V = a2.alloc (.cells #[.slice d.SA d.m d.sc, .slice (some ⟨a1.heap.size, 0, none⟩) 1 1] 23) := ⟨_, rfl⟩
      rw [← hwa3]
      have hqa3 : Below a2.heap.size a2 a3 := by rw [hwa3]; exact box1 _ _
      have hba3 := nextB hba2 hqa3
      have hma3 := (hma2.up hqa3 (Nat.le_refl _)).more hqa3.size
      have bxa3 := bxa2.up hqa3
      have o0a3 : a3.cell? ⟨a2.heap.size, 0, none⟩ = some (.slice d.SA d.m d.sc) := by rw [hwa3]; go_simp
      have o1a3 : a3.cell? ⟨a2.heap.size, 1, none⟩ = some (.slice (some ⟨a1.heap.size, 0, none⟩) 1 1) := by rw [hwa3]; go_simp
      have hTa3 : (fun w' => w'.cell? ⟨w.heap.size, 0, none⟩ = some (.slice d.RA d.n d.rc) ∧ w'.cell? ⟨w.heap.size, 1, none⟩ = some (.slice d.SA d.m d.sc) ∧ w'.cell? ⟨w.heap.size + 1, 0, none⟩ = some (.int .i64 p0) ∧ w'.cell? ⟨w.heap.size + 1, 1, none⟩ = some (.int .i64 p1) ∧ w'.cell? ⟨w.heap.size + 1, 2, none⟩ = some (.int .i64 p2)) a3 := ⟨(hba3.cell (World.block_lt_of_cell? _ _ x0)).trans x0, (hba3.cell (World.block_lt_of_cell? _ _ x1)).trans x1, (hba3.cell (World.block_lt_of_cell? _ _ s0)).trans s0, (hba3.cell (World.block_lt_of_cell? _ _ s1)).trans s1, (hba3.cell (World.block_lt_of_cell? _ _ s2)).trans s2⟩
      clear hwa3
      refine hK.out _ _ (fun _ => hTa3) ?_
      clear hK K
      (try simp only [Act.put, List.setIfInBounds_toArray, List.set_cons_zero, List.set_cons_succ])
      refine M_step 2 rfl (by kernel_rfl) (fun K hK => ?_)
      go_simp
      go_at_call 81
      refine (Clone_any d.RA d.n d.rc d.G a3.drew (DD.out _ (nextB D.out hba3.drew)).1 HD.out.n1 (by omega)).mono ?_
      rintro e a4 ⟨g, cap, rfl, hg, hcap, hSa4, hq'⟩
      have hqa4 : Below a3.heap.size a3 a4 := nextB (Below.refl _ _).drew hq'
      have hba4 := nextB hba3 hqa4
      have hg : a3.heap.size ≤ g := hg
      have hg0 : g ≠ w.heap.size + 1 + 1 := by have := hba3.size; omega
      have hgb : g ≠ w2.heap.size := by have := bxa3.lt; omega
      have hma4 := (hma3.up hqa4 (Nat.le_refl _)).more hqa4.size
      have o0a4 := cell_of hqa4 o0a3
      have o1a4 := cell_of hqa4 o1a3
      have bxa4 := bxa3.up hqa4
      have hTa4 : (fun w' => w'.cell? ⟨w.heap.size, 0, none⟩ = some (.slice d.RA d.n d.rc) ∧ w'.cell? ⟨w.heap.size, 1, none⟩ = some (.slice d.SA d.m d.sc) ∧ w'.cell? ⟨w.heap.size + 1, 0, none⟩ = some (.int .i64 p0) ∧ w'.cell? ⟨w.heap.size + 1, 1, none⟩ = some (.int .i64 p1) ∧ w'.cell? ⟨w.heap.size + 1, 2, none⟩ = some (.int .i64 p2)) a4 := ⟨(hba4.cell (World.block_lt_of_cell? _ _ x0)).trans x0, (hba4.cell (World.block_lt_of_cell? _ _ x1)).trans x1, (hba4.cell (World.block_lt_of_cell? _ _ s0)).trans s0, (hba4.cell (World.block_lt_of_cell? _ _ s1)).trans s1, (hba4.cell (World.block_lt_of_cell? _ _ s2)).trans s2⟩
      clear hg hcap hq'
      refine hK.out _ _ (fun _ => hTa4) ?_
      clear hK K
      (try simp only [Act.put, List.setIfInBounds_toArray, List.set_cons_zero, List.set_cons_succ])
      refine M_step 8 rfl (by kernel_rfl) (fun K hK => ?_)
      go_simp
      go_at_call 82
      refine (ConcatStop_any a2.heap.size d.SA d.m d.sc d.S ⟨a1.heap.size, 0, none⟩ 1 (p0, p1, p2) _ (by omega) o0a4 o1a4 (DD.out _ (nextB D.out hba4)).2 hma4).mono ?_
      rintro e a5 ⟨cg, ccap, rfl, hcg, hcta5, hqa5⟩
      have hba5 := nextB hba4 hqa5
      have hc0 : cg ≠ w.heap.size + 1 + 1 := by have := hba4.size; omega
      have hcb : cg ≠ w2.heap.size := by have := bxa4.lt; omega
      have hSa5 := hSa4.up hqa5
      have bxa5 := bxa4.up hqa5
      have hTa5 : (fun w' => w'.cell? ⟨w.heap.size, 0, none⟩ = some (.slice d.RA d.n d.rc) ∧ w'.cell? ⟨w.heap.size, 1, none⟩ = some (.slice d.SA d.m d.sc) ∧ w'.cell? ⟨w.heap.size + 1, 0, none⟩ = some (.int .i64 p0) ∧ w'.cell? ⟨w.heap.size + 1, 1, none⟩ = some (.int .i64 p1) ∧ w'.cell? ⟨w.heap.size + 1, 2, none⟩ = some (.int .i64 p2)) a5 := ⟨(hba5.cell (World.block_lt_of_cell? _ _ x0)).trans x0, (hba5.cell (World.block_lt_of_cell? _ _ x1)).trans x1, (hba5.cell (World.block_lt_of_cell? _ _ s0)).trans s0, (hba5.cell (World.block_lt_of_cell? _ _ s1)).trans s1, (hba5.cell (World.block_lt_of_cell? _ _ s2)).trans s2⟩
      clear hcg
      refine hK.out _ _ (fun _ => hTa5) ?_
      clear hK K
      (try simp only [Act.put, List.setIfInBounds_toArray, List.set_cons_zero, List.set_cons_succ])
      refine M_take (v := ?_) 9 rfl (by kernel_rfl) (by assumption) (fun _ _ _ h => h) (Or.inl ⟨by rfl, ?_⟩) ?_
      rotate_left
      ·(intro w hSw; (try dsimp only at hSw); go_simp; (try with_reducible rfl))
      (try simp only [Act.put, List.setIfInBounds_toArray, List.set_cons_zero, List.set_cons_succ])
      refine M_step 11 rfl (by kernel_rfl) (fun K hK => ?_)
      obtain ⟨b0, b1, b2, b3⟩ := id bxa5
      have zb := bxa5.lt
      go_simp
      refine hK.out _ _ (fun e => by cases e) ?_
      clear hK K
      (try simp only [Act.put, List.setIfInBounds_toArray, List.set_cons_zero, List.set_cons_succ])
      refine M_done (by kernel_rfl) ?_ _
      obtain ⟨V, hV⟩ : ∃ V : World, V = ((a5.setCell ⟨w2.heap.size, 0, none⟩ (.slice (some ⟨g, 0, none⟩) d.n cap)).setCell ⟨w2.heap.size, 1, none⟩ (.slice (some ⟨cg, 0, none⟩) (d.m + 1) ccap)) := ⟨_, rfl⟩
      have bxV : Bv w2.heap.size (.slice (some ⟨g, 0, none⟩) d.n cap) (.slice (some ⟨cg, 0, none⟩) (d.m + 1) ccap) V := by rw [hV]; exact bxa5.store _ _
      have hbV : Below w2.heap.size w2 V := by rw [hV]; exact set1 (set1 hba5 hbw2.size _ _) hbw2.size _ _
      have hSV : SpR g d.n d.G V := by rw [hV]; exact (hSa5.other hgb).other hgb
      have hszV : V.heap.size = a5.heap.size := by rw [hV]; simp only [World.size_setCell]
      have hctV : TrsIn (some ⟨cg, 0, none⟩) (d.m + 1) (catF d.m d.S fun _ => (p0, p1, p2)) V.heap.size V := by rw [hszV, hV]; exact (hcta5.oth hcb).oth hcb
      have hRV : Bv (w.heap.size + 1 + 1) (.slice none 0 0) (.slice none 0 0) V := by rw [hV]; exact ((R.out.up hba5).other (by have := hbw2.size; omega)).other (by have := hbw2.size; omega)
      have BX := Lib.hid bxV
      have D := Lib.hid (nextB D.out hbV)
      have HSV := Lib.hid hSV
      have HCV := Lib.hid hctV
      have R := Lib.hid hRV
      have HLOW : Hid (g ≠ w.heap.size + 1 + 1 ∧ cg ≠ w.heap.size + 1 + 1) := Lib.hid ⟨hg0, hc0⟩
      rw [← hV]
      clear hV bxV hbV hSV hszV hctV hRV b0 b1 b2 b3 zb x0 x1 s0 s1 s2 zP zS r0 r1 r2 r3 zR hT0 
      obtain ⟨bb, hbb⟩ : ∃ bb, bb = w2.heap.size := ⟨_, rfl⟩
      rw [← hbb] at BX hgb hcb ⊢
      have HGB := Lib.hid (And.intro hgb hcb)
      clear hbb hgb hcb
      obtain ⟨b0, b1, b2, b3⟩ := BX.out
      have zb := BX.out.lt
      obtain ⟨E2, hE2, hEE⟩ : ∃ E2 : Int, ((E2 = 0 ∧ DrOk (wnd d (p0, p1, p2) (some ⟨g, 0, none⟩) cap (some ⟨cg, 0, none⟩) ccap)) ∨ (E2 = 20 ∧ ¬ DrOk (wnd d (p0, p1, p2) (some ⟨g, 0, none⟩) cap (some ⟨cg, 0, none⟩) ccap))) ∧ ((E2 = 20 ∧ E = 1) ∨ (E2 = 0 ∧ E = 0)) := by
       rcases HE3.out with ⟨h, h2⟩ | ⟨h, h2⟩
       ·exact ⟨20, .inr ⟨rfl, fun k => h2 ((wok_iff _ _ _ _ _ _).1 k)⟩, .inl ⟨rfl, h⟩⟩
       ·exact ⟨0, .inl ⟨rfl, (wok_iff _ _ _ _ _ _).2 h2⟩, .inr ⟨rfl, h⟩⟩
      have K2 := Lib.hid (Check_any (wnd d (p0, p1, p2) (some ⟨g, 0, none⟩) cap (some ⟨cg, 0, none⟩) ccap) E2 V (drIn_wnd HSV.out (by omega) HCV.out) hE2)
      have HEE := Lib.hid hEE
      clear hE2 hEE
      go_wp2_with fail
      refine K2.out.mono ?_
      rintro e w4 ⟨rfl, hb⟩
      have J := Lib.hid hb
      have D := Lib.hid (nextB D.out hb)
      have R := Lib.hid (R.out.up hb)
      have BX := Lib.hid (BX.out.up hb)
      have HSV := Lib.hid (HSV.out.up hb)
      have HCV := Lib.hid ((HCV.out.up hb (Nat.le_refl _)).more hb.size)
      clear hb b0 b1 b2 b3 zb
      obtain ⟨b0, b1, b2, b3⟩ := BX.out
      have zb := BX.out.lt
      obtain ⟨r0, r1, r2, r3⟩ := R.out
      have zR := R.out.lt
      rcases HEE.out with ⟨rfl, rfl⟩ | ⟨rfl, rfl⟩
      ·have hq := R.out.store (.slice none 0 0) (.slice none 0 0)
       have hfb : Below w.heap.size w ((w4.setCell ⟨w.heap.size + 1 + 1, 0, none⟩ (.slice none 0 0)).setCell ⟨w.heap.size + 1 + 1, 1, none⟩ (.slice none 0 0)) := set1 (set1 D.out (by omega) _ _) (by omega) _ _
       have HQ := Lib.hid hq
       have HFB := Lib.hid hfb
       clear hq hfb
       go_wp2_with fail
       obtain ⟨wf, hwf⟩ : ∃ wf : World, wf = ((w4.setCell ⟨w.heap.size + 1 + 1, 0, none⟩ (.slice none 0 0)).setCell ⟨w.heap.size + 1 + 1, 1, none⟩ (.slice none 0 0)) := ⟨_, rfl⟩
       have HF2 := HFB.out
       have HQ2 := HQ.out
       rw [← hwf] at HF2 HQ2 ⊢
       obtain ⟨q0, q1, _, _⟩ := HQ2
       exact bodyPost_ret (v := .tuple #[.agg #[.slice none 0 0, .slice none 0 0], .int .i64 1]) (by simp [results, Try.results29, go_sem, q0, q1]) rfl ⟨HF2, .inl ⟨by omega, rfl⟩⟩
      ·have hq := R.out.store (.slice (some ⟨g, 0, none⟩) d.n cap) (.slice (some ⟨cg, 0, none⟩) (d.m + 1) ccap)
       have hfb : Below w.heap.size w ((w4.setCell ⟨w.heap.size + 1 + 1, 0, none⟩ (.slice (some ⟨g, 0, none⟩) d.n cap)).setCell ⟨w.heap.size + 1 + 1, 1, none⟩ (.slice (some ⟨cg, 0, none⟩) (d.m + 1) ccap)) := set1 (set1 D.out (by omega) _ _) (by omega) _ _
       have hg2 : g ≠ w.heap.size + 1 + 1 := HLOW.out.1
       have hc2 : cg ≠ w.heap.size + 1 + 1 := HLOW.out.2
       have hdr : DrIn (wnd d (p0, p1, p2) (some ⟨g, 0, none⟩) cap (some ⟨cg, 0, none⟩) ccap) ((w4.setCell ⟨w.heap.size + 1 + 1, 0, none⟩ (.slice (some ⟨g, 0, none⟩) d.n cap)).setCell ⟨w.heap.size + 1 + 1, 1, none⟩ (.slice (some ⟨cg, 0, none⟩) (d.m + 1) ccap)).heap.size ((w4.setCell ⟨w.heap.size + 1 + 1, 0, none⟩ (.slice (some ⟨g, 0, none⟩) d.n cap)).setCell ⟨w.heap.size + 1 + 1, 1, none⟩ (.slice (some ⟨cg, 0, none⟩) (d.m + 1) ccap)) :=
        drIn_wnd ((HSV.out.other hg2).other hg2) (by omega) (by rw [World.size_setCell, World.size_setCell]; exact (HCV.out.oth hc2).oth hc2)
       have HQ := Lib.hid hq
       have HFB := Lib.hid hfb
       have HDR := Lib.hid hdr
       clear hq hfb hdr hg2 hc2
       go_wp2_with fail
       obtain ⟨wf, hwf⟩ : ∃ wf : World, wf = ((w4.setCell ⟨w.heap.size + 1 + 1, 0, none⟩ (.slice (some ⟨g, 0, none⟩) d.n cap)).setCell ⟨w.heap.size + 1 + 1, 1, none⟩ (.slice (some ⟨cg, 0, none⟩) (d.m + 1) ccap)) := ⟨_, rfl⟩
       have HF2 := HFB.out
       have HQ2 := HQ.out
       have HD2 := HDR.out
       rw [← hwf] at HF2 HQ2 HD2 ⊢
       obtain ⟨q0, q1, _, _⟩ := HQ2
       exact bodyPost_ret (v := .tuple #[(wnd d (p0, p1, p2) (some ⟨g, 0, none⟩) cap (some ⟨cg, 0, none⟩) ccap).v, .int .i64 0]) (by simp [results, Try.results29, go_sem, q0, q1]) rfl ⟨HF2, .inr ⟨rfl, _, _, _, _, rfl, HD2⟩⟩
 ·obtain rfl : E = 20 := by
   rcases HE.out with ⟨h, _⟩ | ⟨_, h, _⟩ | ⟨_, h, _⟩ | ⟨_, h, _⟩
   ·exact h
   ·exact absurd h hnd
   ·exact absurd h hnd
   ·exact absurd h hnd
  clear hnd
  have hq := R.out.store (.slice none 0 0) (.slice none 0 0)
  have hfb : Below w.heap.size w ((w2.setCell ⟨w.heap.size + 1 + 1, 0, none⟩ (.slice none 0 0)).setCell ⟨w.heap.size + 1 + 1, 1, none⟩ (.slice none 0 0)) := set1 (set1 D.out (by omega) _ _) (by omega) _ _
  have HQ := Lib.hid hq
  have HFB := Lib.hid hfb
  clear hq hfb
  go_wp2_with fail
  obtain ⟨wf, hwf⟩ : ∃ wf : World, wf = ((w2.setCell ⟨w.heap.size + 1 + 1, 0, none⟩ (.slice none 0 0)).setCell ⟨w.heap.size + 1 + 1, 1, none⟩ (.slice none 0 0)) := ⟨_, rfl⟩
  have HF2 := HFB.out
  have HQ2 := HQ.out
  rw [← hwf] at HF2 HQ2 ⊢
  obtain ⟨q0, q1, _, _⟩ := HQ2
  exact bodyPost_ret (v := .tuple #[.agg #[.slice none 0 0, .slice none 0 0], .int .i64 20]) (by simp [results, Try.results29, go_sem, q0, q1]) rfl ⟨HF2, .inl ⟨by omega, rfl⟩⟩
end Go.Proofs.Ytpikaohodieeaaa
