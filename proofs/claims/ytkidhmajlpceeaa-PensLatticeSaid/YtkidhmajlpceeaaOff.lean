import Derived.Test.YtkidhmajlpceeaaFlw
import Derived.Deep.DeepCutAuto
import Derived.Laws.MakeOwn
namespace Go.Proofs.Ytkidhmajlpceeaa
open Go.RowKit
theorem run_make_spans (n : Nat) (hn : n ≤ 1000) (w : World) :
    (Instr.makeSlice 48 (.int .i64 (n : Int)) (.int .i64 (n : Int))).run Try.prog w = .ok (.slice (some ⟨w.heap.size, 0, none⟩) n n) (w.alloc (.cells (madeCells #[.int .i64 0, .int .i64 0] (n * 2)) 23)) := by
  obtain ⟨i0, hi0, hz0, hz1, hz2⟩ := info_parts Try.infoSpan
  have hr := run_make (P := Try.prog) (w := w) 48 23 i0 _ Try.underlying48 hi0 hz0 .i64 .i64 n n (by omega) (by omega) (by rw [hz2]; omega) (by omega)
  rw [hz1] at hr
  simp only [Int.toNat_natCast] at hr
  exact hr
/-- a block of spans, known whole -/
structure SpR (g n : Nat) (S : Nat → Int × Int) (w : World) : Prop where
  lt : g < w.heap.size
  c0 : ∀ i, i < n → w.cell? ⟨g, i * 2, none⟩ = some (.int .i64 (S i).1)
  c1 : ∀ i, i < n → w.cell? ⟨g, i * 2 + 1, none⟩ = some (.int .i64 (S i).2)
  f : ∀ o, w.frozen? ⟨g, o, none⟩ = false
theorem SpR.up {g n : Nat} {S : Nat → Int × Int} {w w' : World} (h : SpR g n S w) (hb : Below w.heap.size w w') : SpR g n S w' :=
  ⟨Nat.lt_of_lt_of_le h.lt hb.size, fun i hi => cell_up hb h.lt (h.c0 i hi), fun i hi => cell_up hb h.lt (h.c1 i hi), fun o => low_frozen hb h.lt (h.f o)⟩
theorem SpR.set {g n k : Nat} {S : Nat → Int × Int} {w : World} {x y : Int} (h : SpR g n S w) (hk : k < n) : SpR g n (fun i => if i = k then (x, y) else S i) ((w.setCell ⟨g, k * 2, none⟩ (.int .i64 x)).setCell ⟨g, k * 2 + 1, none⟩ (.int .i64 y)) := by
  refine ⟨by have := h.lt; go_simp, fun i hi => ?_, fun i hi => ?_, fun o => ?_⟩
  · have e := h.c0 i hi
    by_cases hik : i = k
    · subst hik
      rw [World.cell?_setCell_other _ _ _ _ (by intro e; have e2 := congrArg Addr.off e; simp only at e2; omega), World.cell?_setCell_same' _ _ _ (by rw [e]; rfl), if_pos rfl]
    · rw [World.cell?_setCell_other _ _ _ _ (by intro e; have e2 := congrArg Addr.off e; simp only at e2; omega), World.cell?_setCell_other _ _ _ _ (by intro e; have e2 := congrArg Addr.off e; simp only at e2; omega), e, if_neg hik]
  · have e := h.c1 i hi
    by_cases hik : i = k
    · subst hik
      rw [World.cell?_setCell_same' _ _ _ (by rw [World.cell?_setCell_other _ _ _ _ (by intro e; have e2 := congrArg Addr.off e; simp only at e2; omega), e]; rfl), if_pos rfl]
    · rw [World.cell?_setCell_other _ _ _ _ (by intro e; have e2 := congrArg Addr.off e; simp only at e2; omega), World.cell?_setCell_other _ _ _ _ (by intro e; have e2 := congrArg Addr.off e; simp only at e2; omega), e, if_neg hik]
  · rw [World.frozen?_setCell, World.frozen?_setCell]; exact h.f o
theorem SpR.new (w : World) (n : Nat) : SpR w.heap.size n (fun _ => (0, 0)) (w.alloc (.cells (madeCells #[.int .i64 0, .int .i64 0] (n * 2)) 23)) := by
  have hh : (w.alloc (.cells (madeCells #[.int .i64 0, .int .i64 0] (n * 2)) 23)).heap[w.heap.size]? = some (.cells (madeCells #[.int .i64 0, .int .i64 0] (n * 2)) 23 (0, 0)) := World.alloc_heap_new w _
  refine ⟨by simp, fun i hi => ?_, fun i hi => ?_, fun o => ?_⟩
  · have h : i * 2 < n * 2 := by omega
    simp only [World.cell?, hh]
    simp [madeCells, h, Nat.mul_mod_left]
  · have h : i * 2 + 1 < n * 2 := by omega
    have h2 : (i * 2 + 1) % 2 = 1 := by omega
    simp only [World.cell?, hh]
    simp [madeCells, h, h2]
  · simp only [World.frozen?, hh]
    simp
/-- the offsets of a pen that has just moved -/
def pul (b d : Int) : Int × Int := if 0 < d then (b, b) else if d < 0 then (-b, -b) else (-b, b)
set_option maxHeartbeats 1000000 in
theorem pulled_any (p : Pn) (d : Int) (w : World) (hb : 0 ≤ p.b ∧ p.b ≤ 8) :
    Calls Try.prog 97 #[p.v, .int .i64 d] w fun e w' => e = .returned (.agg #[.int .i64 (pul p.b d).1, .int .i64 (pul p.b d).2]) ∧ Below w.heap.size w w' := by
  obtain ⟨b1, b2⟩ := hb
  rcases Int.lt_trichotomy d 0 with h | h | h
  · have e1 : decide (d > 0) = false := by simp; omega
    have e2 : decide (d < 0) = true := by simpa using h
    have ep : pul p.b d = (-p.b, -p.b) := by unfold pul; rw [if_neg (by omega), if_pos h]
    rw [ep]
    clear ep
    go_enter Try.func97, Try.ntmps97
    go_wp2_with fail
    exact bodyPost_ret (v := .agg #[.int .i64 (-p.b), .int .i64 (-p.b)]) (by simp [results, Try.results97, go_sem]) rfl ⟨rfl, by first | exact box2 _ _ _ | exact set1 (set1 (box2 _ _ _) (by omega) _ _) (by omega) _ _⟩
  · subst h
    rw [show pul p.b 0 = (-p.b, p.b) from rfl]
    go_enter Try.func97, Try.ntmps97
    go_wp2_with fail
    exact bodyPost_ret (v := .agg #[.int .i64 (-p.b), .int .i64 p.b]) (by simp [results, Try.results97, go_sem]) rfl ⟨rfl, by first | exact box2 _ _ _ | exact set1 (set1 (box2 _ _ _) (by omega) _ _) (by omega) _ _⟩
  · have e1 : decide (d > 0) = true := by simpa using h
    have ep : pul p.b d = (p.b, p.b) := by unfold pul; rw [if_pos h]
    rw [ep]
    clear ep
    go_enter Try.func97, Try.ntmps97
    go_wp2_with fail
    exact bodyPost_ret (v := .agg #[.int .i64 p.b, .int .i64 p.b]) (by simp [results, Try.results97, go_sem]) rfl ⟨rfl, by first | exact box2 _ _ _ | exact set1 (set1 (box2 _ _ _) (by omega) _ _) (by omega) _ _⟩
/-- what a neighbour leaves -/
def lft (r : Int) (a b : Int × Int) (ch : Int) : Int × Int := (max a.1 (b.1 - ch - r), min a.2 (b.2 - ch + r))
set_option maxRecDepth 100000 in
set_option maxHeartbeats 2000000 in
theorem left_any (p : Pn) (fr tt : Nat) (a : Addr) (n c g cap bs bl bp : Nat) (Z : Nat → Int) (S : Nat → Int × Int) (w : World) (hf : fr < n) (ht : tt < n) (_hn : n ≤ 401)
    (zf : w.cell? (a.add fr) = some (.int .i64 (Z fr))) (zt : w.cell? (a.add tt) = some (.int .i64 (Z tt))) (hs : w.cell? ⟨bs, 0, none⟩ = some (.slice (some a) n c)) (hl : w.cell? ⟨bl, 0, none⟩ = some (.slice (some ⟨g, 0, none⟩) n cap)) (hp : HasPn p bp w)
    (hS : SpR g n S w) (hr : 0 ≤ p.r ∧ p.r ≤ 12000) (hL : Lvs Z n) (hbd : ∀ i, i < n → -1000000000 ≤ (S i).1 ∧ (S i).1 ≤ 1000000000 ∧ -1000000000 ≤ (S i).2 ∧ (S i).2 ≤ 1000000000) :
    Calls Try.prog 99 #[.int .i64 fr, .int .i64 tt, .pointer (some ⟨bs, 0, none⟩), .pointer (some ⟨bl, 0, none⟩), .pointer (some ⟨bp, 0, none⟩)] w fun e w' => e = .returned (.agg #[.int .i64 (lft p.r (S tt) (S fr) (Z tt - Z fr)).1, .int .i64 (lft p.r (S tt) (S fr) (Z tt - Z fr)).2]) ∧ Below w.heap.size w w' := by
  have f0 := hS.c0 fr hf
  have f1 := hS.c1 fr hf
  have t0 := hS.c0 tt ht
  have t1 := hS.c1 tt ht
  obtain ⟨b1, b2, b3, b4⟩ := hbd fr hf
  obtain ⟨b5, b6, b7, b8⟩ := hbd tt ht
  obtain ⟨z1, z2⟩ := hL fr hf
  obtain ⟨z3, z4⟩ := hL tt ht
  obtain ⟨r1, r2⟩ := hr
  have hp2 := hp.2.2.2
  have gl := hS.lt
  have l1 := World.block_lt_of_cell? _ _ hs
  have l2 := World.block_lt_of_cell? _ _ hl
  have l3 := hp.lt
  have i1 : (fr : Int) < n := by omega
  have i2 : (tt : Int) < n := by omega
  have i3 : (0 : Int) ≤ fr := by omega
  have i4 : (0 : Int) ≤ tt := by omega
  have l4 := World.block_lt_of_cell? _ _ zf
  have l5 := World.block_lt_of_cell? _ _ zt
  clear hbd hL hS hp
  go_enter Try.func99, Try.ntmps99
  go_wp2_with fail
  have g0 : IntKind.i64.wrap (Z tt - Z fr) = Z tt - Z fr := IntWalk.i64_in _ (by omega)
  go_quiet (fail)
  go_wp2_with fail
  have g1 : IntKind.i64.wrap ((S fr).1 - (Z tt - Z fr)) = (S fr).1 - (Z tt - Z fr) := IntWalk.i64_in _ (by omega)
  have g2 : IntKind.i64.wrap ((S fr).1 - (Z tt - Z fr) - p.r) = (S fr).1 - (Z tt - Z fr) - p.r := IntWalk.i64_in _ (by omega)
  have g3 : IntKind.i64.wrap ((S fr).2 - (Z tt - Z fr)) = (S fr).2 - (Z tt - Z fr) := IntWalk.i64_in _ (by omega)
  have g4 : IntKind.i64.wrap ((S fr).2 - (Z tt - Z fr) + p.r) = (S fr).2 - (Z tt - Z fr) + p.r := IntWalk.i64_in _ (by omega)
  refine still_tail 33 (by kernel_rfl) (by kernel_rfl) ?_
  simp only [List.take_succ_cons, List.take_zero, List.drop_succ_cons, List.drop_zero]
  repeat still_step
  refine wpStill_nil ?_
  clear g0 g1 g2 g3 g4
  go_wp2_with fail
  refine bodyPost_ret (v := .agg #[.int .i64 (lft p.r (S tt) (S fr) (Z tt - Z fr)).1, .int .i64 (lft p.r (S tt) (S fr) (Z tt - Z fr)).2]) (by simp [results, Try.results99, go_sem, lft]) rfl ⟨rfl, ?_⟩
  exact set1 (set1 (below_drewN (box1 _ _) _) (Nat.le_refl _) _ _) (Nat.le_refl _) _ _
end Go.Proofs.Ytkidhmajlpceeaa
