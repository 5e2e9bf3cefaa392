import Derived.Test.YtpikaohodieeaaaGen
namespace Go.Proofs.Ytpikaohodieeaaa
open Go.RowKit
set_option linter.unusedSimpArgs false
set_option linter.unusedVariables false
/-- elements of a number and a span, as they read -/
def TrsIn (A : Option Addr) (n : Nat) (F : Nat → Int × Int × Int) (B : Nat) (w : World) : Prop :=
  (n : Int) ≤ 9223372036854775807 ∧ ∀ i, i < n → ∃ a : Addr, A = some a ∧ a.block < B ∧ w.cell? (a.add (i * 3)) = some (.int .i64 (F i).1) ∧ w.cell? ⟨(a.add (i * 3)).block, (a.add (i * 3)).off + 1, none⟩ = some (.int .i64 (F i).2.1) ∧ w.cell? ⟨(a.add (i * 3)).block, (a.add (i * 3)).off + 2, none⟩ = some (.int .i64 (F i).2.2)
theorem TrsIn.up {A : Option Addr} {n : Nat} {F : Nat → Int × Int × Int} {B C : Nat} {w w' : World} (h : TrsIn A n F B w) (hb : Below C w w') (hC : B ≤ C) : TrsIn A n F B w' :=
  ⟨h.1, fun i hi => by
    obtain ⟨a, e, hl, h1, h2, h3⟩ := h.2 i hi
    exact ⟨a, e, hl, (hb.cell (by simp only [add_block]; omega)).trans h1, (hb.cell (by simp only [add_block]; omega)).trans h2, (hb.cell (by simp only [add_block]; omega)).trans h3⟩⟩
theorem TrsIn.more {A : Option Addr} {n : Nat} {F : Nat → Int × Int × Int} {B C : Nat} {w : World} (h : TrsIn A n F B w) (hC : B ≤ C) : TrsIn A n F C w :=
  ⟨h.1, fun i hi => by obtain ⟨a, e, hl, h1, h2, h3⟩ := h.2 i hi; exact ⟨a, e, by omega, h1, h2, h3⟩⟩
structure Drm where
  RA : Option Addr
  n : Nat
  rc : Nat
  G : Nat → Int × Int
  SA : Option Addr
  m : Nat
  sc : Nat
  S : Nat → Int × Int × Int
abbrev Drm.v (d : Drm) : Value := .agg #[.slice d.RA d.n d.rc, .slice d.SA d.m d.sc]
abbrev drO (d : Drm) : Obj := .cells #[.slice d.RA d.n d.rc, .slice d.SA d.m d.sc] 25
def DrIn (d : Drm) (B : Nat) (w : World) : Prop := SpsIn d.RA d.n d.G B w ∧ TrsIn d.SA d.m d.S B w
theorem DrIn.up {d : Drm} {B C : Nat} {w w' : World} (h : DrIn d B w) (hb : Below C w w') (hC : B ≤ C) : DrIn d B w' := ⟨h.1.up hb hC, h.2.up hb hC⟩
theorem DrIn.more {d : Drm} {B C : Nat} {w : World} (h : DrIn d B w) (hC : B ≤ C) : DrIn d C w := ⟨h.1.more hC, h.2.more hC⟩
def HasDr (d : Drm) (b : Nat) (w : World) : Prop := w.cell? ⟨b, 0, none⟩ = some (.slice d.RA d.n d.rc) ∧ w.cell? ⟨b, 1, none⟩ = some (.slice d.SA d.m d.sc)
theorem HasDr.lt {d : Drm} {b : Nat} {w : World} (h : HasDr d b w) : b < w.heap.size := World.block_lt_of_cell? _ _ h.1
theorem HasDr.up {d : Drm} {b : Nat} {w w' : World} (h : HasDr d b w) (hb : Below w.heap.size w w') : HasDr d b w' := ⟨cell_up hb h.lt h.1, cell_up hb h.lt h.2⟩
theorem dr_new (w : World) (d : Drm) : HasDr d w.heap.size (w.alloc (drO d)) := ⟨by go_simp, by go_simp⟩
def isS (s : Int × Int) (a b : Int) : Prop := a ≤ s.1 ∧ s.1 ≤ s.2 ∧ s.2 ≤ b
instance (s : Int × Int) (a b : Int) : Decidable (isS s a b) := by unfold isS; exact inferInstance
theorem isSpan_is (s : Int × Int) (a b : Int) (G : Bool) (w : World) (hG : G = true ↔ isS s a b) :
    Calls Try.prog 76 #[Sp s, .int .i64 a, .int .i64 b] w fun e w' => e = .returned (.bool G) ∧ Below w.heap.size w w' := by
  obtain ⟨x, y⟩ := s
  unfold isS at hG
  simp only at hG
  have HG := Lib.hid hG
  clear hG
  by_cases h1 : a ≤ x
  · have d1 : decide (a ≤ x) = true := decide_eq_true h1
    by_cases h2 : x ≤ y
    · have d2 : decide (x ≤ y) = true := decide_eq_true h2
      have hg : G = decide (y ≤ b) := Bool.eq_iff_iff.2 (HG.out.trans ⟨fun h => decide_eq_true h.2.2, fun h => ⟨h1, h2, of_decide_eq_true h⟩⟩)
      have HE := Lib.hid hg
      clear hg
      go_enter Try.func76, Try.ntmps76
      go_wp2_with fail
      go_ret
      exact ⟨by rw [HE.out]; rfl, box1 _ _⟩
    · have d2 : decide (x ≤ y) = false := decide_eq_false h2
      have hg : G = false := by cases G with | false => rfl | true => exact absurd (HG.out.1 rfl).2.1 h2
      subst hg
      go_enter Try.func76, Try.ntmps76
      go_wp2_with fail
      go_ret
      exact ⟨rfl, box1 _ _⟩
  · have d1 : decide (a ≤ x) = false := decide_eq_false h1
    have hg : G = false := by cases G with | false => rfl | true => exact absurd (HG.out.1 rfl).1 h1
    subst hg
    go_enter Try.func76, Try.ntmps76
    go_wp2_with fail
    go_ret
    exact ⟨rfl, box1 _ _⟩
theorem isTick_is (x : Int) (G : Bool) (w : World) (hG : G = true ↔ 0 ≤ x ∧ x ≤ 400) :
    Calls Try.prog 99 #[.int .i64 x] w fun e w' => e = .returned (.bool G) ∧ w = w' := by
  have HG := Lib.hid hG
  clear hG
  by_cases h1 : 0 ≤ x
  · have d1 : decide (0 ≤ x) = true := decide_eq_true h1
    have hg : G = decide (x ≤ 400) := Bool.eq_iff_iff.2 (HG.out.trans ⟨fun h => decide_eq_true h.2, fun h => ⟨h1, of_decide_eq_true h⟩⟩)
    have HE := Lib.hid hg
    clear hg
    go_enter Try.func99, Try.ntmps99
    go_wp2_with fail
    go_ret
    exact ⟨by rw [HE.out]; rfl, rfl⟩
  · have d1 : decide (0 ≤ x) = false := decide_eq_false h1
    have hg : G = false := by cases G with | false => rfl | true => exact absurd (HG.out.1 rfl).1 h1
    subst hg
    go_enter Try.func99, Try.ntmps99
    go_wp2_with fail
    go_ret
    exact ⟨rfl, rfl⟩
theorem isColumn_is (d : Drm) (x : Int) (G : Bool) (w : World) (hG : G = true ↔ 0 ≤ x ∧ x ≤ d.n) :
    Calls Try.prog 75 #[d.v, .int .i64 x] w fun e w' => e = .returned (.bool G) ∧ Below w.heap.size w w' := by
  have HG := Lib.hid hG
  clear hG
  by_cases h1 : 0 ≤ x
  · have d1 : decide (0 ≤ x) = true := decide_eq_true h1
    have hg : G = decide (x ≤ (d.n : Int)) := Bool.eq_iff_iff.2 (HG.out.trans ⟨fun h => decide_eq_true h.2, fun h => ⟨h1, of_decide_eq_true h⟩⟩)
    have HE := Lib.hid hg
    clear hg
    go_enter Try.func75, Try.ntmps75
    go_wp2_with fail
    go_ret
    exact ⟨by rw [HE.out]; rfl, box1 _ _⟩
  · have d1 : decide (0 ≤ x) = false := decide_eq_false h1
    have hg : G = false := by cases G with | false => rfl | true => exact absurd (HG.out.1 rfl).1 h1
    subst hg
    go_enter Try.func75, Try.ntmps75
    go_wp2_with fail
    go_ret
    exact ⟨rfl, box1 _ _⟩
def hasP (s : Int × Int) (x : Int) : Prop := s.1 ≤ x ∧ x ≤ s.2
theorem has_is (s : Int × Int) (x : Int) (G : Bool) (w : World) (hG : G = true ↔ hasP s x) :
    Calls Try.prog 113 #[Sp s, .int .i64 x] w fun e w' => e = .returned (.bool G) ∧ Below w.heap.size w w' := by
  obtain ⟨lo, hi⟩ := s
  unfold hasP at hG
  simp only at hG
  have HG := Lib.hid hG
  clear hG
  by_cases h1 : lo ≤ x
  · have d1 : decide (lo ≤ x) = true := decide_eq_true h1
    have hg : G = decide (x ≤ hi) := Bool.eq_iff_iff.2 (HG.out.trans ⟨fun h => decide_eq_true h.2, fun h => ⟨h1, of_decide_eq_true h⟩⟩)
    have HE := Lib.hid hg
    clear hg
    go_enter Try.func113, Try.ntmps113
    go_wp2_with fail
    go_ret
    exact ⟨by rw [HE.out]; rfl, box1 _ _⟩
  · have d1 : decide (lo ≤ x) = false := decide_eq_false h1
    have hg : G = false := by cases G with | false => rfl | true => exact absurd (HG.out.1 rfl).1 h1
    subst hg
    go_enter Try.func113, Try.ntmps113
    go_wp2_with fail
    go_ret
    exact ⟨rfl, box1 _ _⟩
abbrev addS (s t : Int × Int) : Int × Int := (s.1 + t.1, s.2 + t.2)
abbrev oppS (s : Int × Int) : Int × Int := (-s.2, -s.1)
theorem sum_any (s t : Int × Int) (w : World) (hs : Bd 1000000000 s) (ht : Bd 1000000000 t) :
    Calls Try.prog 110 #[Sp s, Sp t] w fun e w' => e = .returned (Sp (addS s t)) ∧ Below w.heap.size w w' := by
  obtain ⟨a, b⟩ := s
  obtain ⟨c, d⟩ := t
  obtain ⟨s1, s2, s3, s4⟩ := hs
  obtain ⟨t1, t2, t3, t4⟩ := ht
  simp only at s1 s2 s3 s4 t1 t2 t3 t4
  have u1 : IntKind.i64.wrap (a + c) = a + c := IntWalk.i64_in _ (by omega)
  have u2 : IntKind.i64.wrap (b + d) = b + d := IntWalk.i64_in _ (by omega)
  go_enter Try.func110, Try.ntmps110
  go_wp2_with fail
  exact bodyPost_ret (v := Sp (a + c, b + d)) (by simp [results, Try.results110, go_sem]) rfl ⟨rfl, by first | exact box3 _ _ _ _ | exact set1 (set1 (box3 _ _ _ _) (by omega) _ _) (by omega) _ _⟩
theorem opposite_any (s : Int × Int) (w : World) (hs : Bd 1000000000 s) :
    Calls Try.prog 128 #[Sp s] w fun e w' => e = .returned (Sp (oppS s)) ∧ Below w.heap.size w w' := by
  obtain ⟨a, b⟩ := s
  obtain ⟨s1, s2, s3, s4⟩ := hs
  simp only at s1 s2 s3 s4
  have u1 : IntKind.i64.wrap (-a) = -a := IntWalk.i64_in _ (by omega)
  have u2 : IntKind.i64.wrap (-b) = -b := IntWalk.i64_in _ (by omega)
  go_enter Try.func128, Try.ntmps128
  go_wp2_with fail
  exact bodyPost_ret (v := Sp (-b, -a)) (by simp [results, Try.results128, go_sem]) rfl ⟨rfl, by first | exact box2 _ _ _ | exact set1 (set1 (box2 _ _ _) (by omega) _ _) (by omega) _ _⟩
end Go.Proofs.Ytpikaohodieeaaa
namespace Go.Proofs.Ytpikaohodieeaaa
open Go.RowKit
set_option linter.unusedSimpArgs false
set_option linter.unusedVariables false
def cmpI (x y : Int) : Int := if x < y then -1 else if y < x then 1 else 0
theorem isNaN_any (x : Int) (w : World) : Calls Try.prog 148 #[.int .i64 x] w fun e w' => e = .returned (.bool false) ∧ w = w' := by
  go_enter Try.func148, Try.ntmps148
  go_wp2_with fail
  go_ret
  exact ⟨rfl, rfl⟩
theorem compare_any (x y : Int) (w : World) : Calls Try.prog 144 #[.int .i64 x, .int .i64 y] w fun e w' => e = .returned (.int .i64 (cmpI x y)) ∧ w = w' := by
  have K := Lib.hid fun z W => isNaN_any z W
  rcases Int.lt_trichotomy x y with h | h | h
  · have e1 : cmpI x y = -1 := by unfold cmpI; rw [if_pos h]
    have d1 : decide (x < y) = true := decide_eq_true h
    rw [e1]
    go_enter Try.func144, Try.ntmps144
    go_wp2_with fail
    refine (K.out _ _).mono ?_
    rintro e w1 ⟨rfl, rfl⟩
    go_wp2_with fail
    refine (K.out _ _).mono ?_
    rintro e w1 ⟨rfl, rfl⟩
    go_wp2_with fail
    go_ret
    exact ⟨rfl, rfl⟩
  · subst h
    have e1 : cmpI x x = 0 := by unfold cmpI; rw [if_neg (by omega), if_neg (by omega)]
    rw [e1]
    go_enter Try.func144, Try.ntmps144
    go_wp2_with fail
    refine (K.out _ _).mono ?_
    rintro e w1 ⟨rfl, rfl⟩
    go_wp2_with fail
    refine (K.out _ _).mono ?_
    rintro e w1 ⟨rfl, rfl⟩
    go_wp2_with fail
    go_ret
    exact ⟨rfl, rfl⟩
  · have e1 : cmpI x y = 1 := by unfold cmpI; rw [if_neg (by omega), if_pos h]
    have d1 : decide (x < y) = false := decide_eq_false (by omega)
    have d2 : decide (x > y) = true := decide_eq_true h
    rw [e1]
    go_enter Try.func144, Try.ntmps144
    go_wp2_with fail
    refine (K.out _ _).mono ?_
    rintro e w1 ⟨rfl, rfl⟩
    go_wp2_with fail
    refine (K.out _ _).mono ?_
    rintro e w1 ⟨rfl, rfl⟩
    go_wp2_with fail
    go_ret
    exact ⟨rfl, rfl⟩
theorem grown_set1 (W : World) (b o : Nat) (u : Value) : W.grownBy (W.setCell ⟨b, o, none⟩ u) (some b) := by
  refine ⟨rfl, rfl, rfl, by simp, fun k hk hne => ?_⟩
  have hne' : b ≠ k := fun e => hne (by rw [e])
  simp only [World.setCell, Array.getElem?_modify, if_neg hne']
theorem SpR.lo {g n k : Nat} {S : Nat → Int × Int} {w : World} {x : Int} (h : SpR g n S w) (hk : k < n) : SpR g n (fun i => if i = k then (x, (S k).2) else S i) (w.setCell ⟨g, k * 2, none⟩ (.int .i64 x)) := by
  refine ⟨by have := h.lt; go_simp, fun i hi => ?_, fun i hi => ?_, fun o => by rw [World.frozen?_setCell]; exact h.f o⟩
  · have e := h.c0 i hi
    by_cases hik : i = k
    · subst hik
      rw [World.cell?_setCell_same' _ _ _ (by rw [e]; rfl), if_pos rfl]
    · rw [World.cell?_setCell_other _ _ _ _ (by intro e; have e2 := congrArg Addr.off e; simp only at e2; omega), e, if_neg hik]
  · have e := h.c1 i hi
    rw [World.cell?_setCell_other _ _ _ _ (by intro e; have e2 := congrArg Addr.off e; simp only at e2; omega), e]
    by_cases hik : i = k
    · subst hik; rw [if_pos rfl]
    · rw [if_neg hik]
theorem SpR.hi {g n k : Nat} {S : Nat → Int × Int} {w : World} {x : Int} (h : SpR g n S w) (hk : k < n) : SpR g n (fun i => if i = k then ((S k).1, x) else S i) (w.setCell ⟨g, k * 2 + 1, none⟩ (.int .i64 x)) := by
  refine ⟨by have := h.lt; go_simp, fun i hi => ?_, fun i hi => ?_, fun o => by rw [World.frozen?_setCell]; exact h.f o⟩
  · have e := h.c0 i hi
    rw [World.cell?_setCell_other _ _ _ _ (by intro e; have e2 := congrArg Addr.off e; simp only at e2; omega), e]
    by_cases hik : i = k
    · subst hik; rw [if_pos rfl]
    · rw [if_neg hik]
  · have e := h.c1 i hi
    by_cases hik : i = k
    · subst hik
      rw [World.cell?_setCell_same' _ _ _ (by rw [e]; rfl), if_pos rfl]
    · rw [World.cell?_setCell_other _ _ _ _ (by intro e; have e2 := congrArg Addr.off e; simp only at e2; omega), e, if_neg hik]
theorem SpR.same {g n : Nat} {S S' : Nat → Int × Int} {w : World} (h : SpR g n S w) (e : ∀ i, i < n → S i = S' i) : SpR g n S' w :=
  ⟨h.lt, fun i hi => by rw [← e i hi]; exact h.c0 i hi, fun i hi => by rw [← e i hi]; exact h.c1 i hi, h.f⟩
/-- one span replaced -/
def upd (S : Nat → Int × Int) (k : Nat) (s : Int × Int) (i : Nat) : Int × Int := if i = k then s else S i
set_option maxHeartbeats 1000000 in
theorem moveLo_any (g n k : Nat) (S : Nat → Int × Int) (b : Int) (w : World) (hS : SpR g n S w) (hk : k < n) :
    Calls Try.prog 137 #[.pointer (some ⟨g, k * 2, none⟩), .int .i64 b, .int .i64 (-1)] w fun e w' => e = .returned (.bool (decide ((S k).1 < b))) ∧ SpR g n (upd S k (max (S k).1 b, (S k).2)) w' ∧ w.grownBy w' (some g) := by
  have KC := Lib.hid fun W => compare_any (S k).1 b W
  have HS := Lib.hid hS
  have c0 := hS.c0 k hk
  have f0 := hS.f (k * 2)
  have gl := hS.lt
  clear hS
  by_cases h : (S k).1 < b
  · have e1 : cmpI (S k).1 b = -1 := by unfold cmpI; rw [if_pos h]
    have HD := Lib.hid (show decide ((S k).1 < b) = true from decide_eq_true h)
    have HN := Lib.hid (((HS.out.lo (x := b) hk).same (S' := upd S k (max (S k).1 b, (S k).2)) fun i _ => by unfold upd; rw [Int.max_eq_right (by omega)]))
    rw [e1] at KC
    clear e1 h
    generalize (S k).1 = x at *
    go_enter Try.func137, Try.ntmps137
    go_wp2_with fail
    refine (KC.out _).mono ?_
    rintro e w1 ⟨rfl, rfl⟩
    go_wp2_with fail
    go_ret
    exact ⟨by rw [HD.out]; rfl, HN.out, grown_set1 _ _ _ _⟩
  · have e1 : (cmpI (S k).1 b == -1) = false := by
      unfold cmpI
      rw [if_neg h]
      split <;> decide
    have e2 : ¬ cmpI (S k).1 b = -1 := by simpa using e1
    have HD := Lib.hid (show decide ((S k).1 < b) = false from decide_eq_false h)
    have HN := Lib.hid ((HS.out.same (S' := upd S k (max (S k).1 b, (S k).2)) fun i _ => by
      unfold upd
      by_cases hi : i = k
      · rw [if_pos hi, hi, Int.max_eq_left (by omega)]
      · rw [if_neg hi]))
    clear h
    generalize cmpI (S k).1 b = q at *
    generalize (S k).1 = x at *
    go_enter Try.func137, Try.ntmps137
    go_wp2_with fail
    refine (KC.out _).mono ?_
    rintro e w1 ⟨rfl, rfl⟩
    go_wp2_with fail
    go_ret
    exact ⟨by rw [HD.out]; rfl, HN.out, World.grownBy.refl _ _⟩
set_option maxHeartbeats 1000000 in
theorem moveHi_any (g n k : Nat) (S : Nat → Int × Int) (b : Int) (w : World) (hS : SpR g n S w) (hk : k < n) :
    Calls Try.prog 137 #[.pointer (some ⟨g, k * 2 + 1, none⟩), .int .i64 b, .int .i64 1] w fun e w' => e = .returned (.bool (decide (b < (S k).2))) ∧ SpR g n (upd S k ((S k).1, min (S k).2 b)) w' ∧ w.grownBy w' (some g) := by
  have KC := Lib.hid fun W => compare_any (S k).2 b W
  have HS := Lib.hid hS
  have c0 := hS.c1 k hk
  have f0 := hS.f (k * 2 + 1)
  have gl := hS.lt
  clear hS
  by_cases h : b < (S k).2
  · have e1 : cmpI (S k).2 b = 1 := by unfold cmpI; rw [if_neg (by omega), if_pos h]
    have HD := Lib.hid (show decide (b < (S k).2) = true from decide_eq_true h)
    have HN := Lib.hid (((HS.out.hi (x := b) hk).same (S' := upd S k ((S k).1, min (S k).2 b)) fun i _ => by unfold upd; rw [Int.min_eq_right (by omega)]))
    rw [e1] at KC
    clear e1 h
    generalize (S k).2 = x at *
    go_enter Try.func137, Try.ntmps137
    go_wp2_with fail
    refine (KC.out _).mono ?_
    rintro e w1 ⟨rfl, rfl⟩
    go_wp2_with fail
    go_ret
    exact ⟨by rw [HD.out]; rfl, HN.out, grown_set1 _ _ _ _⟩
  · have e1 : (cmpI (S k).2 b == 1) = false := by
      unfold cmpI
      by_cases h1 : (S k).2 < b
      · rw [if_pos h1]; decide
      · rw [if_neg h1, if_neg h]; decide
    have e2 : ¬ cmpI (S k).2 b = 1 := by simpa using e1
    have HD := Lib.hid (show decide (b < (S k).2) = false from decide_eq_false h)
    have HN := Lib.hid ((HS.out.same (S' := upd S k ((S k).1, min (S k).2 b)) fun i _ => by
      unfold upd
      by_cases hi : i = k
      · rw [if_pos hi, hi, Int.min_eq_left (by omega)]
      · rw [if_neg hi]))
    clear h
    generalize cmpI (S k).2 b = q at *
    generalize (S k).2 = x at *
    go_enter Try.func137, Try.ntmps137
    go_wp2_with fail
    refine (KC.out _).mono ?_
    rintro e w1 ⟨rfl, rfl⟩
    go_wp2_with fail
    go_ret
    exact ⟨by rw [HD.out]; rfl, HN.out, World.grownBy.refl _ _⟩
def nar (s t : Int × Int) : Int × Int := (max s.1 t.1, min s.2 t.2)
set_option maxRecDepth 100000 in
set_option maxHeartbeats 2000000 in
theorem narrow_any (g n k : Nat) (S : Nat → Int × Int) (t : Int × Int) (w : World) (hS : SpR g n S w) (hk : k < n) :
    Calls Try.prog 125 #[.pointer (some ⟨g, k * 2, none⟩), Sp t] w fun e w' => e = .returned (.bool (decide ((S k).1 < t.1) || decide (t.2 < (S k).2))) ∧ SpR g n (upd S k (nar (S k) t)) w' ∧ w.grownBy w' (some g) := by
  obtain ⟨lo, hi⟩ := t
  have gl := hS.lt
  obtain ⟨w0, hw0⟩ : ∃ w0, w0 = w.alloc (.cells #[.int .i64 lo, .int .i64 hi] 31) := ⟨_, rfl⟩
  have hb0 : Below w.heap.size w w0 := by rw [hw0]; exact box1 _ _
  have HS0 := Lib.hid (hS.up hb0)
  have G0 := Lib.hid (show w.grownBy w0 (some g) from ⟨hb0.os, hb0.tape, hb0.output, hb0.size, fun j hj _ => hb0.block j hj⟩)
  have B0 := Bt.new w 31 lo hi
  rw [← hw0] at B0
  obtain ⟨x0, x1, _, _⟩ := B0
  have zb := World.block_lt_of_cell? _ _ x0
  have hne : some w.heap.size ≠ some g := fun e => by cases e; omega
  have KL := Lib.hid fun (b : Int) W (h : SpR g n S W) => moveLo_any g n k S b W h hk
  have KH := Lib.hid fun (b : Int) W (h : SpR g n (upd S k (max (S k).1 lo, (S k).2)) W) => moveHi_any g n k (upd S k (max (S k).1 lo, (S k).2)) b W h hk
  have eu : (upd S k (max (S k).1 lo, (S k).2)) k = (max (S k).1 lo, (S k).2) := by unfold upd; rw [if_pos rfl]
  rw [eu] at KH
  have HF := Lib.hid (show upd (upd S k (max (S k).1 lo, (S k).2)) k (max (S k).1 lo, min (S k).2 hi) = upd S k (nar (S k) (lo, hi)) from by
    funext i
    unfold upd nar
    by_cases hi' : i = k
    · rw [if_pos hi', if_pos hi']
    · rw [if_neg hi', if_neg hi', if_neg hi'])
  obtain ⟨G1, hG1⟩ : ∃ G1, G1 = decide ((S k).1 < lo) := ⟨_, rfl⟩
  obtain ⟨G2, hG2⟩ : ∃ G2, G2 = decide (hi < (S k).2) := ⟨_, rfl⟩
  have HR := Lib.hid (show (decide ((S k).1 < lo) || decide (hi < (S k).2)) = (G1 || G2) by rw [hG1, hG2])
  have H1 := Lib.hid hG1.symm
  have H2 := Lib.hid hG2.symm
  have HW0 := Lib.hid hw0
  clear hG1 hG2 eu hS hb0 hw0
  go_enter Try.func125, Try.ntmps125
  go_wp2_with fail
  rw [← HW0.out]
  refine wp_region_M [] (fun w' => w'.cell? ⟨w.heap.size, 0, none⟩ = some (.int .i64 lo) ∧ w'.cell? ⟨w.heap.size, 1, none⟩ = some (.int .i64 hi)) (by kernel_rfl) (by kernel_rfl) (by (try dsimp only); (repeat' apply And.intro); all_goals first | assumption | (go_simp; done)) (fun hT0 => ?_)
  refine M_take (v := ?_) 0 rfl (by kernel_rfl) (by assumption) (fun _ _ _ h => h) (Or.inl ⟨by rfl, ?_⟩) ?_
  rotate_left
  · (intro w hSw; (try dsimp only at hSw); go_simp; (try with_reducible rfl))
  (try simp only [Act.put, List.setIfInBounds_toArray, List.set_cons_zero, List.set_cons_succ])
  refine M_take (v := ?_) 1 rfl (by kernel_rfl) (by assumption) (fun _ _ _ h => h) (Or.inl ⟨by rfl, ?_⟩) ?_
  rotate_left
  · (intro w hSw; (try dsimp only at hSw); go_simp; (try with_reducible rfl))
  (try simp only [Act.put, List.setIfInBounds_toArray, List.set_cons_zero, List.set_cons_succ])
  refine M_take (v := ?_) 2 rfl (by kernel_rfl) (by assumption) (fun _ _ _ h => h) (Or.inl ⟨by rfl, ?_⟩) ?_
  rotate_left
  · (intro w hSw; (try dsimp only at hSw); go_simp; (try with_reducible rfl))
  (try simp only [Act.put, List.setIfInBounds_toArray, List.set_cons_zero, List.set_cons_succ])
  refine M_take (v := ?_) 3 rfl (by kernel_rfl) (by assumption) (fun _ _ _ h => h) (Or.inl ⟨by rfl, ?_⟩) ?_
  rotate_left
  · (intro w hSw; (try dsimp only at hSw); go_simp; (try with_reducible rfl))
  (try simp only [Act.put, List.setIfInBounds_toArray, List.set_cons_zero, List.set_cons_succ])
  refine M_take (v := ?_) 4 rfl (by kernel_rfl) (by assumption) (fun _ _ _ h => h) (Or.inl ⟨by rfl, ?_⟩) ?_
  rotate_left
  · (intro w hSw; (try dsimp only at hSw); go_simp; (try with_reducible rfl))
  (try simp only [Act.put, List.setIfInBounds_toArray, List.set_cons_zero, List.set_cons_succ])
  refine M_step 5 rfl (by kernel_rfl) (fun K hK => ?_)
  go_simp
  go_at_call 137
  refine (KL.out _ _ (HS0.out.up (Below.refl _ _).drew)).mono ?_
  rintro e w1 ⟨rfl, hsw1, hgw1⟩
  have Sw1 := Lib.hid hsw1
  have GG1 := Lib.hid (World.grownBy.trans G0.out (World.grownBy.trans (show World.grownBy w0 w0.drew (some g) from ⟨rfl, rfl, rfl, Nat.le_refl _, fun _ _ _ => rfl⟩) hgw1))
  have y0 : w1.cell? ⟨w.heap.size, 0, none⟩ = some (.int .i64 lo) := cell_row hgw1 (by (try simp only [World.size_drew]); omega) hne (by first | exact x0 | go_simp)
  have y1 : w1.cell? ⟨w.heap.size, 1, none⟩ = some (.int .i64 hi) := cell_row hgw1 (by (try simp only [World.size_drew]); omega) hne (by first | exact x1 | go_simp)
  have hTw1 : (fun w' => w'.cell? ⟨w.heap.size, 0, none⟩ = some (.int .i64 lo) ∧ w'.cell? ⟨w.heap.size, 1, none⟩ = some (.int .i64 hi)) w1 := ⟨y0, y1⟩
  clear hsw1 hgw1
  refine hK.out _ _ (fun _ => hTw1) ?_
  clear hK K
  (try simp only [Act.put, List.setIfInBounds_toArray, List.set_cons_zero, List.set_cons_succ])
  refine M_step 6 rfl (by kernel_rfl) (fun K hK => ?_)
  go_simp
  refine hK.out _ _ (fun _ => by assumption) ?_
  clear hK K
  (try simp only [Act.put, List.setIfInBounds_toArray, List.set_cons_zero, List.set_cons_succ])
  refine M_done (by kernel_rfl) ?_ _
  rw [H1.out]
  clear x0 x1
  have x0 := y0
  have x1 := y1
  clear y0 y1 hT0
  have zb1 := World.block_lt_of_cell? _ _ x0
  go_wp2_with fail
  refine wp_region_M [] (fun w' => w'.cell? ⟨w.heap.size, 0, none⟩ = some (.int .i64 lo) ∧ w'.cell? ⟨w.heap.size, 1, none⟩ = some (.int .i64 hi)) (by kernel_rfl) (by kernel_rfl) (by (try dsimp only); (repeat' apply And.intro); all_goals first | assumption | (go_simp; done)) (fun hT0 => ?_)
  refine M_take (v := ?_) 0 rfl (by kernel_rfl) (by assumption) (fun _ _ _ h => h) (Or.inl ⟨by rfl, ?_⟩) ?_
  rotate_left
  · (intro w hSw; (try dsimp only at hSw); go_simp; (try with_reducible rfl))
  (try simp only [Act.put, List.setIfInBounds_toArray, List.set_cons_zero, List.set_cons_succ])
  refine M_take (v := ?_) 1 rfl (by kernel_rfl) (by assumption) (fun _ _ _ h => h) (Or.inl ⟨by rfl, ?_⟩) ?_
  rotate_left
  · (intro w hSw; (try dsimp only at hSw); go_simp; (try with_reducible rfl))
  (try simp only [Act.put, List.setIfInBounds_toArray, List.set_cons_zero, List.set_cons_succ])
  refine M_take (v := ?_) 2 rfl (by kernel_rfl) (by assumption) (fun _ _ _ h => h) (Or.inl ⟨by rfl, ?_⟩) ?_
  rotate_left
  · (intro w hSw; (try dsimp only at hSw); go_simp; (try with_reducible rfl))
  (try simp only [Act.put, List.setIfInBounds_toArray, List.set_cons_zero, List.set_cons_succ])
  refine M_take (v := ?_) 3 rfl (by kernel_rfl) (by assumption) (fun _ _ _ h => h) (Or.inl ⟨by rfl, ?_⟩) ?_
  rotate_left
  · (intro w hSw; (try dsimp only at hSw); go_simp; (try with_reducible rfl))
  (try simp only [Act.put, List.setIfInBounds_toArray, List.set_cons_zero, List.set_cons_succ])
  refine M_take (v := ?_) 4 rfl (by kernel_rfl) (by assumption) (fun _ _ _ h => h) (Or.inl ⟨by rfl, ?_⟩) ?_
  rotate_left
  · (intro w hSw; (try dsimp only at hSw); go_simp; (try with_reducible rfl))
  (try simp only [Act.put, List.setIfInBounds_toArray, List.set_cons_zero, List.set_cons_succ])
  refine M_step 5 rfl (by kernel_rfl) (fun K hK => ?_)
  go_simp
  go_at_call 137
  refine (KH.out _ _ (Sw1.out.up (Below.refl _ _).drew)).mono ?_
  rintro e w2 ⟨rfl, hsw2, hgw2⟩
  have Sw2 := Lib.hid hsw2
  have GG2 := Lib.hid (World.grownBy.trans GG1.out (World.grownBy.trans (show World.grownBy w1 w1.drew (some g) from ⟨rfl, rfl, rfl, Nat.le_refl _, fun _ _ _ => rfl⟩) hgw2))
  have y0 : w2.cell? ⟨w.heap.size, 0, none⟩ = some (.int .i64 lo) := cell_row hgw2 (by (try simp only [World.size_drew]); omega) hne (by first | exact x0 | go_simp)
  have y1 : w2.cell? ⟨w.heap.size, 1, none⟩ = some (.int .i64 hi) := cell_row hgw2 (by (try simp only [World.size_drew]); omega) hne (by first | exact x1 | go_simp)
  have hTw2 : (fun w' => w'.cell? ⟨w.heap.size, 0, none⟩ = some (.int .i64 lo) ∧ w'.cell? ⟨w.heap.size, 1, none⟩ = some (.int .i64 hi)) w2 := ⟨y0, y1⟩
  clear hsw2 hgw2
  refine hK.out _ _ (fun _ => hTw2) ?_
  clear hK K
  (try simp only [Act.put, List.setIfInBounds_toArray, List.set_cons_zero, List.set_cons_succ])
  refine M_step 6 rfl (by kernel_rfl) (fun K hK => ?_)
  go_simp
  refine hK.out _ _ (fun _ => by assumption) ?_
  clear hK K
  (try simp only [Act.put, List.setIfInBounds_toArray, List.set_cons_zero, List.set_cons_succ])
  refine M_done (by kernel_rfl) ?_ _
  rw [H2.out]
  have SF := Sw2.out
  rw [HF.out] at SF
  have SFF := Lib.hid SF
  clear SF
  cases G1 with
  | true =>
    go_wp2_with fail
    go_ret
    exact ⟨by rw [HR.out]; rfl, SFF.out, GG2.out⟩
  | false =>
    go_wp2_with fail
    go_ret
    exact ⟨by rw [HR.out]; rfl, SFF.out, GG2.out⟩
end Go.Proofs.Ytpikaohodieeaaa
namespace Go.Proofs.Ytpikaohodieeaaa
open Go.RowKit
set_option linter.unusedSimpArgs false
set_option linter.unusedVariables false
theorem first_no (P : Nat → Prop) (n : Nat) : ∃ j, j ≤ n ∧ (∀ i, i < j → P i) ∧ (j < n → ¬ P j) := by
  induction n with
  | zero => exact ⟨0, Nat.le_refl _, fun i hi => absurd hi (by omega), fun h => absurd h (by omega)⟩
  | succ n ih =>
    obtain ⟨j, h1, h2, h3⟩ := ih
    by_cases hj : j < n
    · exact ⟨j, by omega, h2, fun _ => h3 hj⟩
    · obtain rfl : j = n := by omega
      by_cases hx : P j
      · exact ⟨j + 1, Nat.le_refl _, fun i hi => by
          by_cases e : i = j
          · rw [e]; exact hx
          · exact h2 i (by omega), fun h => absurd h (by omega)⟩
      · exact ⟨j, by omega, h2, fun _ => hx⟩
def stopOk (d : Drm) (i : Nat) : Prop := (0 ≤ (d.S i).1 ∧ (d.S i).1 < d.n) ∧ isS (d.S i).2 0 400
structure DrOk (d : Drm) : Prop where
  n1 : 1 ≤ d.n
  n2 : d.n < 200
  m : d.m ≤ 16
  rates : ∀ i, i < d.n → isS (d.G i) 1 40
  stops : ∀ i, i < d.m → stopOk d i
theorem drE_bad {d : Drm} {E : Int} (h : (E = 0 ∧ DrOk d) ∨ (E = 20 ∧ ¬ DrOk d)) (hn : ¬ DrOk d) : E = 20 := by
  rcases h with h | h
  · exact absurd h.2 hn
  · exact h.1
theorem drE_ok {d : Drm} {E : Int} (h : (E = 0 ∧ DrOk d) ∨ (E = 20 ∧ ¬ DrOk d)) (hn : DrOk d) : E = 0 := by
  rcases h with h | h
  · exact h.1
  · exact absurd hn h.2
set_option maxRecDepth 100000 in
set_option maxHeartbeats 2000000 in
theorem Check_any (d : Drm) (E : Int) (w : World) (hin : DrIn d w.heap.size w) (hE : (E = 0 ∧ DrOk d) ∨ (E = 20 ∧ ¬ DrOk d)) :
    Calls Try.prog 25 #[d.v] w fun e w' => e = .returned (.int .i64 E) ∧ Below w.heap.size w w' := by
  have HE := Lib.hid hE
  have HIN := Lib.hid hin
  have hn0 := hin.1.1
  have hm0 := hin.2.1
  clear hE hin
  by_cases c1 : 1 ≤ d.n
  · by_cases c2 : d.n < 200
    · by_cases c3 : d.m ≤ 16
      · obtain ⟨j, j1, j2, j3⟩ := first_no (fun i => isS (d.G i) 1 40) d.n
        obtain ⟨i, i1, i2, i3⟩ := first_no (stopOk d) d.m
        have J2 := Lib.hid j2
        have J3 := Lib.hid j3
        have I2 := Lib.hid i2
        have I3 := Lib.hid i3
        clear j2 j3 i2 i3
        have g1 : decide ((d.n : Int) < 1) = false := decide_eq_false (by omega)
        have g2 : decide ((200 : Int) ≤ (d.n : Int)) = false := decide_eq_false (by omega)
        have g2' : decide ((d.n : Int) ≥ 200) = false := decide_eq_false (by omega)
        have g3 : decide ((d.m : Int) > 16) = false := decide_eq_false (by omega)
        go_enter Try.func25, Try.ntmps25
        go_wp2_with fail
        go_loopw [26] (fun v wr => ∃ k : Nat, k ≤ j ∧ v = .int .i64 k ∧ Below (w.heap.size + 1) (w.alloc (drO d)) wr) (fun v _ => d.n - (intOf v).toNat)
        case atStart => exact ⟨0, Nat.zero_le _, rfl, Below.refl _ _⟩
        case round =>
          obtain ⟨k, hk, rfl, hb⟩ := hrel
          obtain ⟨wo, rfl⟩ : ∃ wo : World, wo = wr := ⟨_, rfl⟩
          have HB := Lib.hid hb
          have hs := HB.out.size
          simp only [World.size_alloc] at hs
          clear hb
          have hk0 : (0 : Int) ≤ (k : Int) := by omega
          by_cases hlt : k < d.n
          · obtain ⟨a, ea, ab, c0, c1⟩ := ((HIN.out.1.up (box1 w (drO d)) (Nat.le_refl _)).up HB.out (by omega)).2 k hlt
            have hki : (k : Int) < (d.n : Int) := by omega
            by_cases hkj : k < j
            · have KS := Lib.hid fun W => isSpan_is (d.G k) 1 40 true W ⟨fun _ => J2.out k hkj, fun _ => rfl⟩
              rw [ea]
              go_wp2_with fail
              refine (KS.out _).mono ?_
              rintro e w2 ⟨rfl, hb2⟩
              have D2 := Lib.hid (nextB (box1 wo _) hb2)
              clear hb2 KS
              go_wp2_with fail
              go_roundw
              case rel => exact ⟨k + 1, by omega, by go_num, HB.out.trans (D2.out.mono (by omega))⟩
              case measure => simp [intOf]; omega
            · obtain rfl : k = j := by omega
              have hbad := J3.out hlt
              obtain rfl := drE_bad HE.out fun h => hbad (h.rates k hlt)
              have KS := Lib.hid fun W => isSpan_is (d.G k) 1 40 false W ⟨fun h => (by cases h), fun h => absurd h hbad⟩
              clear hbad
              rw [ea]
              go_wp2_with fail
              refine (KS.out _).mono ?_
              rintro e w2 ⟨rfl, hb2⟩
              have D2 := Lib.hid (nextB (box1 wo _) hb2)
              clear hb2 KS
              go_wp2_with fail
              go_ret
              exact ⟨rfl, (box1 w _).trans (HB.out.trans (D2.out.mono (by omega)) |>.mono (by omega))⟩
          · have hki : (d.n : Int) ≤ (k : Int) := by omega
            obtain rfl : k = d.n := by omega
            obtain rfl : j = d.n := by omega
            have x0 : wo.cell? ⟨w.heap.size, 0, none⟩ = some (.slice d.RA d.n d.rc) := (HB.out.cell (p := ⟨w.heap.size, 0, none⟩) (by simp)).trans (dr_new w d).1
            have x1 : wo.cell? ⟨w.heap.size, 1, none⟩ = some (.slice d.SA d.m d.sc) := (HB.out.cell (p := ⟨w.heap.size, 1, none⟩) (by simp)).trans (dr_new w d).2
            obtain ⟨w3, rfl⟩ : ∃ w3 : World, w3 = wo := ⟨_, rfl⟩
            go_wp2_with fail
            go_loopw [37] (fun v wr => ∃ k : Nat, k ≤ i ∧ v = .int .i64 k ∧ Below w3.heap.size w3 wr) (fun v _ => d.m - (intOf v).toNat)
            case atStart => exact ⟨0, Nat.zero_le _, rfl, Below.refl _ _⟩
            case round =>
              obtain ⟨k, hk, rfl, hb⟩ := hrel
              obtain ⟨w4, rfl⟩ : ∃ w4 : World, w4 = wr := ⟨_, rfl⟩
              have HC := Lib.hid hb
              have hs2 := HC.out.size
              clear hb
              have hk0 : (0 : Int) ≤ (k : Int) := by omega
              have y0 : w4.cell? ⟨w.heap.size, 0, none⟩ = some (.slice d.RA d.n d.rc) := (HC.out.cell (p := ⟨w.heap.size, 0, none⟩) (by show w.heap.size < _; omega)).trans x0
              have z4 : w.heap.size < w4.heap.size := by omega
              clear x0 x1
              by_cases hlt : k < d.m
              · obtain ⟨a, ea, ab, c0, c1, c2⟩ := (((HIN.out.2.up (box1 w (drO d)) (Nat.le_refl _)).up HB.out (by omega)).up HC.out (by omega)).2 k hlt
                have hki : (k : Int) < (d.m : Int) := by omega
                by_cases hkj : k < i
                · have hok := I2.out k hkj
                  have e1 : decide ((d.S k).1 < 0) = false := decide_eq_false (by have := hok.1.1; omega)
                  have e2 : decide ((d.S k).1 ≥ (d.n : Int)) = false := decide_eq_false (by have := hok.1.2; omega)
                  have KS := Lib.hid fun W => isSpan_is (d.S k).2 0 400 true W ⟨fun _ => hok.2, fun _ => rfl⟩
                  clear hok
                  rw [ea]
                  go_wp2_with fail
                  refine (KS.out _).mono ?_
                  rintro e w5 ⟨rfl, hb2⟩
                  have D2 := Lib.hid (nextB (box1 w4 _) hb2)
                  clear hb2 KS
                  go_wp2_with fail
                  go_roundw
                  case rel => exact ⟨k + 1, by omega, by go_num, HC.out.trans (D2.out.mono (by omega))⟩
                  case measure => simp [intOf]; omega
                · obtain rfl : k = i := by omega
                  have hbad := I3.out hlt
                  obtain rfl := drE_bad HE.out fun h => hbad (h.stops k hlt)
                  rw [ea]
                  by_cases q1 : (d.S k).1 < 0
                  · have e1 : decide ((d.S k).1 < 0) = true := decide_eq_true q1
                    clear hbad
                    go_wp2_with fail
                    go_ret
                    exact ⟨rfl, (box1 w _).trans ((HB.out.trans ((HC.out.trans (box1 w4 _ |>.mono (by omega))).mono (by omega))).mono (by omega))⟩
                  · have e1 : decide ((d.S k).1 < 0) = false := decide_eq_false q1
                    by_cases q2 : (d.S k).1 < (d.n : Int)
                    · have e2 : decide ((d.S k).1 ≥ (d.n : Int)) = false := decide_eq_false (by omega)
                      have KS := Lib.hid fun W => isSpan_is (d.S k).2 0 400 false W ⟨fun h => (by cases h), fun h => absurd ⟨⟨by omega, q2⟩, h⟩ hbad⟩
                      clear hbad
                      go_wp2_with fail
                      refine (KS.out _).mono ?_
                      rintro e w5 ⟨rfl, hb2⟩
                      have D2 := Lib.hid (nextB (box1 w4 _) hb2)
                      clear hb2 KS
                      go_wp2_with fail
                      go_ret
                      exact ⟨rfl, (box1 w _).trans ((HB.out.trans ((HC.out.trans (D2.out.mono (by omega))).mono (by omega))).mono (by omega))⟩
                    · have e2 : decide ((d.S k).1 ≥ (d.n : Int)) = true := decide_eq_true (by omega)
                      clear hbad
                      go_wp2_with fail
                      go_ret
                      exact ⟨rfl, (box1 w _).trans ((HB.out.trans ((HC.out.trans (box1 w4 _ |>.mono (by omega))).mono (by omega))).mono (by omega))⟩
              · have hki : (d.m : Int) ≤ (k : Int) := by omega
                obtain rfl : k = d.m := by omega
                obtain rfl : i = d.m := by omega
                obtain rfl := drE_ok HE.out ⟨c1, c2, c3, J2.out, I2.out⟩
                go_wp2_with fail
                go_ret
                exact ⟨rfl, (box1 w _).trans ((HB.out.trans (HC.out.mono (by omega))).mono (by omega))⟩
      · obtain rfl := drE_bad HE.out fun h => c3 h.m
        have g1 : decide ((d.n : Int) < 1) = false := decide_eq_false (by omega)
        have g2' : decide ((d.n : Int) ≥ 200) = false := decide_eq_false (by omega)
        have g3 : decide ((d.m : Int) > 16) = true := decide_eq_true (by omega)
        go_enter Try.func25, Try.ntmps25
        go_wp2_with fail
        go_ret
        exact ⟨rfl, box1 w _⟩
    · obtain rfl := drE_bad HE.out fun h => c2 h.n2
      have g1 : decide ((d.n : Int) < 1) = false := decide_eq_false (by omega)
      have g2' : decide ((d.n : Int) ≥ 200) = true := decide_eq_true (by omega)
      go_enter Try.func25, Try.ntmps25
      go_wp2_with fail
      go_ret
      exact ⟨rfl, box1 w _⟩
  · obtain rfl := drE_bad HE.out fun h => c1 h.n1
    have g1 : decide ((d.n : Int) < 1) = true := decide_eq_true (by omega)
    go_enter Try.func25, Try.ntmps25
    go_wp2_with fail
    go_ret
    exact ⟨rfl, box1 w _⟩
end Go.Proofs.Ytpikaohodieeaaa
namespace Go.Proofs.Ytpikaohodieeaaa
open Go.RowKit
set_option linter.unusedSimpArgs false
set_option linter.unusedVariables false
def mkOk (d : Drm) (F : Nat → Int × Int × Int) (i : Nat) : Prop := (0 ≤ (F i).1 ∧ (F i).1 ≤ d.n) ∧ isS (F i).2 0 400
def CmR (d : Drm) (n : Nat) (F : Nat → Int × Int × Int) (E x : Int) : Prop :=
  (E = 20 ∧ x = 0 ∧ ¬ DrOk d) ∨ (E = 2 ∧ x = 0 ∧ DrOk d ∧ 64 < n) ∨ (E = 21 ∧ DrOk d ∧ n ≤ 64 ∧ ∃ j : Nat, j < n ∧ x = j ∧ (∀ i, i < j → mkOk d F i) ∧ ¬ mkOk d F j) ∨ (E = 0 ∧ x = 0 ∧ DrOk d ∧ n ≤ 64 ∧ ∀ i, i < n → mkOk d F i)
theorem cmR_ex (d : Drm) (n : Nat) (F : Nat → Int × Int × Int) : ∃ E x, CmR d n F E x := by
  by_cases h : DrOk d
  · by_cases hn : n ≤ 64
    · obtain ⟨j, j1, j2, j3⟩ := first_no (mkOk d F) n
      by_cases hj : j < n
      · exact ⟨21, j, .inr (.inr (.inl ⟨rfl, h, hn, j, hj, rfl, j2, j3 hj⟩))⟩
      · obtain rfl : j = n := by omega
        exact ⟨0, 0, .inr (.inr (.inr ⟨rfl, rfl, h, hn, j2⟩))⟩
    · exact ⟨2, 0, .inr (.inl ⟨rfl, rfl, h, by omega⟩)⟩
  · exact ⟨20, 0, .inl ⟨rfl, rfl, h⟩⟩
def Tr3 (s : Int × Int × Int) (b : Nat) (w : World) : Prop := w.cell? ⟨b, 0, none⟩ = some (.int .i64 s.1) ∧ w.cell? ⟨b, 1, none⟩ = some (.int .i64 s.2.1) ∧ w.cell? ⟨b, 2, none⟩ = some (.int .i64 s.2.2)
theorem Tr3.lt {s : Int × Int × Int} {b : Nat} {w : World} (h : Tr3 s b w) : b < w.heap.size := World.block_lt_of_cell? _ _ h.1
theorem Tr3.up {s : Int × Int × Int} {b : Nat} {w w' : World} (h : Tr3 s b w) (hb : Below w.heap.size w w') : Tr3 s b w' := ⟨cell_up hb h.lt h.1, cell_up hb h.lt h.2.1, cell_up hb h.lt h.2.2⟩
theorem tr3_new (w : World) (s : Int × Int × Int) (t : Nat) : Tr3 s w.heap.size (w.alloc (.cells #[.int .i64 s.1, .int .i64 s.2.1, .int .i64 s.2.2] t)) := ⟨by go_simp, by go_simp, by go_simp⟩
set_option maxRecDepth 100000 in
set_option maxHeartbeats 2000000 in
theorem CheckMarks_any (d : Drm) (A : Option Addr) (n c : Nat) (F : Nat → Int × Int × Int) (E x : Int) (w : World) (hin : DrIn d w.heap.size w) (hm : TrsIn A n F w.heap.size w) (hE : CmR d n F E x) :
    Calls Try.prog 21 #[d.v, .slice A n c] w fun e w' => e = .returned (.tuple #[.int .i64 E, .int .i64 x]) ∧ Below w.heap.size w w' := by
  have HIN := Lib.hid hin
  have HM := Lib.hid hm
  have hn0 := hm.1
  have KC : Hid (∀ E W, DrIn d W.heap.size W → ((E = 0 ∧ DrOk d) ∨ (E = 20 ∧ ¬ DrOk d)) → Calls Try.prog 25 #[d.v] W fun e w' => e = .returned (.int .i64 E) ∧ Below W.heap.size W w') := Lib.hid fun E W h h2 => Check_any d E W h h2
  clear hin hm
  have I1 := Lib.hid ((HIN.out.up (box1 w (drO d)) (Nat.le_refl _)).more (box1 w (drO d)).size)
  have M1 := Lib.hid (HM.out.up (box1 w (drO d)) (Nat.le_refl _))
  obtain ⟨x0, x1⟩ := dr_new w d
  rcases hE with ⟨rfl, rfl, h⟩ | ⟨rfl, rfl, h, hn⟩ | ⟨rfl, h, hn, j, hj, rfl, j2, j3⟩ | ⟨rfl, rfl, h, hn, j2⟩
  · have H := Lib.hid h
    clear h
    go_enter Try.func21, Try.ntmps21
    go_wp2_with fail
    refine (KC.out 20 _ I1.out (.inr ⟨rfl, H.out⟩)).mono ?_
    rintro e w2 ⟨rfl, hb2⟩
    have D2 := Lib.hid (nextB (box1 w _) hb2)
    clear hb2 KC
    go_wp2_with fail
    go_ret2
    exact ⟨rfl, D2.out⟩
  · have H := Lib.hid h
    clear h
    have g1 : decide ((n : Int) > 64) = true := decide_eq_true (by omega)
    go_enter Try.func21, Try.ntmps21
    go_wp2_with fail
    refine (KC.out 0 _ I1.out (.inl ⟨rfl, H.out⟩)).mono ?_
    rintro e w2 ⟨rfl, hb2⟩
    have D2 := Lib.hid (nextB (box1 w _) hb2)
    clear hb2 KC
    go_wp2_with fail
    go_ret2
    exact ⟨rfl, D2.out⟩
  · have H := Lib.hid h
    have J2 := Lib.hid j2
    have J3 := Lib.hid j3
    clear h j2 j3
    have g1 : decide ((n : Int) > 64) = false := decide_eq_false (by omega)
    go_enter Try.func21, Try.ntmps21
    go_wp2_with fail
    refine (KC.out 0 _ I1.out (.inl ⟨rfl, H.out⟩)).mono ?_
    rintro e w2 ⟨rfl, hb2⟩
    have D2 := Lib.hid (nextB (box1 w _) hb2)
    have P2 := Lib.hid ((dr_new w d).up hb2)
    have M2 := Lib.hid (M1.out.up hb2 (by simp))
    have s2 := P2.out.lt
    clear hb2 KC x0 x1
    go_wp2_with fail
    go_loopw [7, 19] (fun _ v wr => ∃ k : Nat, k ≤ j ∧ v = .int .i64 k ∧ Below w2.heap.size w2 wr) (fun _ v _ => n - (intOf v).toNat)
    case atStart => exact ⟨0, Nat.zero_le _, rfl, Below.refl _ _⟩
    case round =>
      obtain ⟨k, hk, rfl, hb⟩ := hrel
      obtain ⟨w4, rfl⟩ : ∃ w4 : World, w4 = wr := ⟨_, rfl⟩
      have HC := Lib.hid hb
      have hs2 := HC.out.size
      clear hb
      have hk0 : (0 : Int) ≤ (k : Int) := by omega
      obtain ⟨y0, y1⟩ := P2.out.up HC.out
      have z4 : w.heap.size < w4.heap.size := by omega
      by_cases hkj : k < j
      · have hok := J2.out k hkj
        have KI := Lib.hid fun W => isColumn_is d (F k).1 true W ⟨fun _ => hok.1, fun _ => rfl⟩
        have KS := Lib.hid fun W => isSpan_is (F k).2 0 400 true W ⟨fun _ => hok.2, fun _ => rfl⟩
        clear hok
        obtain ⟨a, ea, ab, c0, c1, c2⟩ := (M2.out.up HC.out (by omega)).2 k (by omega)
        have hki : (k : Int) < (n : Int) := by omega
        rw [ea]
        go_wp2_with fail
        refine (KI.out _).mono ?_
        rintro e w5 ⟨rfl, hb2⟩
        have D5 := Lib.hid (nextB (box1 w4 _) hb2)
        have T5 := (tr3_new w4 (F k) _).up hb2
        have z5 := T5.lt
        obtain ⟨t0, t1, t2⟩ := T5
        clear hb2 KI
        go_wp2_with fail
        refine (KS.out _).mono ?_
        rintro e w6 ⟨rfl, hb2⟩
        have D6 := Lib.hid (nextB D5.out hb2)
        clear hb2 KS
        go_wp2_with fail
        go_roundw
        case rel => exact ⟨k + 1, by omega, by go_num, HC.out.trans (D6.out.mono (by omega))⟩
        case measure => simp [intOf]; omega
      · obtain rfl : k = j := by omega
        have hbad := J3.out
        obtain ⟨a, ea, ab, c0, c1, c2⟩ := (M2.out.up HC.out (by omega)).2 k (by omega)
        have hki : (k : Int) < (n : Int) := by omega
        rw [ea]
        by_cases q1 : 0 ≤ (F k).1 ∧ (F k).1 ≤ d.n
        · have KI := Lib.hid fun W => isColumn_is d (F k).1 true W ⟨fun _ => q1, fun _ => rfl⟩
          have KS := Lib.hid fun W => isSpan_is (F k).2 0 400 false W ⟨fun h => (by cases h), fun h => absurd ⟨q1, h⟩ hbad⟩
          clear hbad q1
          go_wp2_with fail
          refine (KI.out _).mono ?_
          rintro e w5 ⟨rfl, hb2⟩
          have D5 := Lib.hid (nextB (box1 w4 _) hb2)
          have T5 := (tr3_new w4 (F k) _).up hb2
          have z5 := T5.lt
          obtain ⟨t0, t1, t2⟩ := T5
          clear hb2 KI
          go_wp2_with fail
          refine (KS.out _).mono ?_
          rintro e w6 ⟨rfl, hb2⟩
          have D6 := Lib.hid (nextB D5.out hb2)
          clear hb2 KS
          go_wp2_with fail
          go_ret2
          exact ⟨rfl, D2.out.trans ((HC.out.trans (D6.out.mono (by omega))).mono (by omega))⟩
        · have KI := Lib.hid fun W => isColumn_is d (F k).1 false W ⟨fun h => (by cases h), fun h => absurd h q1⟩
          clear hbad q1
          go_wp2_with fail
          refine (KI.out _).mono ?_
          rintro e w5 ⟨rfl, hb2⟩
          have D5 := Lib.hid (nextB (box1 w4 _) hb2)
          have T5 := (tr3_new w4 (F k) _).up hb2
          have z5 := T5.lt
          obtain ⟨t0, t1, t2⟩ := T5
          clear hb2 KI
          go_wp2_with fail
          go_ret2
          exact ⟨rfl, D2.out.trans ((HC.out.trans (D5.out.mono (by omega))).mono (by omega))⟩
  · have H := Lib.hid h
    have J2 := Lib.hid j2
    clear h j2
    have g1 : decide ((n : Int) > 64) = false := decide_eq_false (by omega)
    go_enter Try.func21, Try.ntmps21
    go_wp2_with fail
    refine (KC.out 0 _ I1.out (.inl ⟨rfl, H.out⟩)).mono ?_
    rintro e w2 ⟨rfl, hb2⟩
    have D2 := Lib.hid (nextB (box1 w _) hb2)
    have P2 := Lib.hid ((dr_new w d).up hb2)
    have M2 := Lib.hid (M1.out.up hb2 (by simp))
    have s2 := P2.out.lt
    clear hb2 KC x0 x1
    go_wp2_with fail
    go_loopw [7, 19] (fun _ v wr => ∃ k : Nat, k ≤ n ∧ v = .int .i64 k ∧ Below w2.heap.size w2 wr) (fun _ v _ => n - (intOf v).toNat)
    case atStart => exact ⟨0, Nat.zero_le _, rfl, Below.refl _ _⟩
    case round =>
      obtain ⟨k, hk, rfl, hb⟩ := hrel
      obtain ⟨w4, rfl⟩ : ∃ w4 : World, w4 = wr := ⟨_, rfl⟩
      have HC := Lib.hid hb
      have hs2 := HC.out.size
      clear hb
      have hk0 : (0 : Int) ≤ (k : Int) := by omega
      obtain ⟨y0, y1⟩ := P2.out.up HC.out
      have z4 : w.heap.size < w4.heap.size := by omega
      by_cases hkj : k < n
      · have hok := J2.out k hkj
        have KI := Lib.hid fun W => isColumn_is d (F k).1 true W ⟨fun _ => hok.1, fun _ => rfl⟩
        have KS := Lib.hid fun W => isSpan_is (F k).2 0 400 true W ⟨fun _ => hok.2, fun _ => rfl⟩
        clear hok
        obtain ⟨a, ea, ab, c0, c1, c2⟩ := (M2.out.up HC.out (by omega)).2 k (by omega)
        have hki : (k : Int) < (n : Int) := by omega
        rw [ea]
        go_wp2_with fail
        refine (KI.out _).mono ?_
        rintro e w5 ⟨rfl, hb2⟩
        have D5 := Lib.hid (nextB (box1 w4 _) hb2)
        have T5 := (tr3_new w4 (F k) _).up hb2
        have z5 := T5.lt
        obtain ⟨t0, t1, t2⟩ := T5
        clear hb2 KI
        go_wp2_with fail
        refine (KS.out _).mono ?_
        rintro e w6 ⟨rfl, hb2⟩
        have D6 := Lib.hid (nextB D5.out hb2)
        clear hb2 KS
        go_wp2_with fail
        go_roundw
        case rel => exact ⟨k + 1, by omega, by go_num, HC.out.trans (D6.out.mono (by omega))⟩
        case measure => simp [intOf]; omega
      · obtain rfl : k = n := by omega
        have hki : (k : Int) ≤ (k : Int) := by omega
        go_wp2_with fail
        go_ret2
        exact ⟨rfl, D2.out.trans (HC.out.mono (by omega))⟩
end Go.Proofs.Ytpikaohodieeaaa
namespace Go.Proofs.Ytpikaohodieeaaa
open Go.RowKit
set_option linter.unusedSimpArgs false
set_option linter.unusedVariables false
/-- all marks are good -/
def MksOk (d : Drm) (n : Nat) (F : Nat → Int × Int × Int) : Prop := n ≤ 64 ∧ ∀ i, i < n → mkOk d F i
def ChR (d : Drm) (n : Nat) (F : Nat → Int × Int × Int) (E : Int) : Prop :=
  (E = 20 ∧ ¬ DrOk d) ∨ (E = 21 ∧ DrOk d ∧ ¬ MksOk d n F) ∨ (E = 0 ∧ DrOk d ∧ MksOk d n F)
theorem chR_ex (d : Drm) (n : Nat) (F : Nat → Int × Int × Int) : ∃ E, ChR d n F E := by
  by_cases h : DrOk d
  · by_cases h2 : MksOk d n F
    · exact ⟨0, .inr (.inr ⟨rfl, h, h2⟩)⟩
    · exact ⟨21, .inr (.inl ⟨rfl, h, h2⟩)⟩
  · exact ⟨20, .inl ⟨rfl, h⟩⟩
theorem chR_of {d : Drm} {n : Nat} {F : Nat → Int × Int × Int} {E : Int} (h : ChR d n F E) : ∃ E1 x, CmR d n F E1 x ∧ ((E1 = 2 ∧ E = 21) ∨ (¬ E1 = 2 ∧ E1 = E)) := by
  obtain ⟨E1, x, h1⟩ := cmR_ex d n F
  refine ⟨E1, x, h1, ?_⟩
  rcases h1 with ⟨rfl, rfl, a⟩ | ⟨rfl, rfl, a, b⟩ | ⟨rfl, a, b, j, hj, rfl, j2, j3⟩ | ⟨rfl, rfl, a, b, j2⟩ <;> rcases h with ⟨rfl, g⟩ | ⟨rfl, g, g2⟩ | ⟨rfl, g, g2⟩
  · exact .inr ⟨by decide, rfl⟩
  · exact absurd g a
  · exact absurd g a
  · exact absurd a g
  · exact .inl ⟨rfl, rfl⟩
  · exact absurd g2.1 (by omega)
  · exact absurd a g
  · exact .inr ⟨by decide, rfl⟩
  · exact absurd (g2.2 j hj) j3
  · exact absurd a g
  · exact absurd ⟨b, j2⟩ g2
  · exact .inr ⟨by decide, rfl⟩
set_option maxHeartbeats 1000000 in
theorem check_any (d : Drm) (A : Option Addr) (n c : Nat) (F : Nat → Int × Int × Int) (E : Int) (w : World) (hin : DrIn d w.heap.size w) (hm : TrsIn A n F w.heap.size w) (hE : ChR d n F E) :
    Calls Try.prog 83 #[d.v, .slice A n c] w fun e w' => e = .returned (.int .i64 E) ∧ Below w.heap.size w w' := by
  obtain ⟨E1, x, h1, h2⟩ := chR_of hE
  have K : Hid (∀ W, Below w.heap.size w W → Calls Try.prog 21 #[d.v, .slice A n c] W fun e w' => e = .returned (.tuple #[.int .i64 E1, .int .i64 x]) ∧ Below W.heap.size W w') :=
    Lib.hid fun W hW => CheckMarks_any d A n c F E1 x W ((hin.up hW (Nat.le_refl _)).more hW.size) ((hm.up hW (Nat.le_refl _)).more hW.size) h1
  clear hin hm hE h1
  rcases h2 with ⟨rfl, rfl⟩ | ⟨h2, rfl⟩
  · go_enter Try.func83, Try.ntmps83
    go_wp2_with fail
    refine (K.out _ (box1 _ _)).mono ?_
    rintro e w2 ⟨rfl, hb2⟩
    have D2 := Lib.hid (nextB (box1 w _) hb2)
    clear hb2 K
    go_wp2_with fail
    go_ret
    exact ⟨rfl, D2.out⟩
  · have g : (E1 == 2) = false := by rw [beq_eq_false_iff_ne]; exact h2
    go_enter Try.func83, Try.ntmps83
    go_wp2_with fail
    refine (K.out _ (box1 _ _)).mono ?_
    rintro e w2 ⟨rfl, hb2⟩
    have D2 := Lib.hid (nextB (box1 w _) hb2)
    clear hb2 K
    go_wp2_with fail
    go_ret
    exact ⟨rfl, D2.out⟩
end Go.Proofs.Ytpikaohodieeaaa
namespace Go.Proofs.Ytpikaohodieeaaa
open Go.RowKit
set_option linter.unusedSimpArgs false
set_option linter.unusedVariables false
theorem asZ_upTo {Z : Nat → Int} {n i : Nat} (h : i < n) : asZ (upTo Z n) i = Z i := by
  rw [asZ_at (by rw [upTo_len]; exact h)]
  simp [upTo]
theorem row_upTo {w : World} {B n : Nat} {v : Value} {Z : Nat → Int} (h : w.ownsRow B 3 1 v n (intsZ (upTo Z n))) (hn : n ≤ 1000) : ∃ A c, v = .slice A n c ∧ IntsIn A n Z w.heap.size w := by
  have h' : w.ownsRow B 3 1 v (upTo Z n).length (intsZ (upTo Z n)) := by rw [upTo_len]; exact h
  obtain ⟨A, c, e, h1, h2⟩ := row_ints h' (by rw [upTo_len]; exact hn)
  rw [upTo_len] at e h1 h2
  exact ⟨A, c, e, h1, fun i hi => by have := h2 i hi; rwa [asZ_upTo hi] at this⟩
theorem new1a (W : World) (o : Obj) (x : Int) : ∀ j u, ([.int .i64 x] : List Value)[j]? = some u → ((W.alloc o).alloc (.cells #[.int .i64 x] 3)).cell? ((⟨W.heap.size + 1, 0, none⟩ : Addr).add j) = some u := by
  have h := new1 (W.alloc o) x
  rw [World.size_alloc] at h
  exact h
/-- a new list of numbers -/
def RPost (w : World) (n : Nat) (Z : Nat → Int) (e : Ending) (w' : World) : Prop := ∃ A c, e = .returned (.slice A n c) ∧ IntsIn A n Z w'.heap.size w' ∧ Below w.heap.size w w'
set_option maxRecDepth 100000 in
set_option maxHeartbeats 2000000 in
theorem firsts_any (A : Option Addr) (n c : Nat) (S : Nat → Int × Int) (w : World) (hin : SpsIn A n S w.heap.size w) (hn : n ≤ 1000) :
    Calls Try.prog 90 #[.slice A n c] w fun e w' => RPost w n (fun i => (S i).1) e w' := by
  have HIN := Lib.hid hin
  clear hin
  obtain ⟨i0, hi0, hz0, hz1, hz2⟩ := info_parts Try.infoInt
  go_enter Try.func90, Try.ntmps90
  go_wp2_with fail
  go_loopw [3, 8] (fun v i wr => ∃ k : Nat, k ≤ n ∧ i = .int .i64 k ∧ RowZ w (upTo (fun i => (S i).1) k) v wr) (fun _ i _ => n - (intOf i).toNat)
  case atStart => exact ⟨0, Nat.zero_le _, rfl, Below.refl _ _, World.ownsRow_nil _ _ _ _⟩
  case round =>
    obtain ⟨k, hk, rfl, hR⟩ := hrel
    obtain ⟨wo, rfl⟩ : ∃ wo : World, wo = wr := ⟨_, rfl⟩
    have hk0 : (0 : Int) ≤ (k : Int) := by omega
    have HR := Lib.hid hR
    have hs := HR.out.below.size
    clear hR
    by_cases hlt : k < n
    · have hki : (k : Int) < (n : Int) := by omega
      obtain ⟨a, rfl, ab, c0, c1⟩ := (HIN.out.up HR.out.below (Nat.le_refl _)).2 k hlt
      have hown := HR.out.own
      rw [upTo_len] at hown
      go_wp2_with (at_builtin; refine wpList_append_own _ rfl _ _ 29 rfl w.heap.size 3 i0 (.int .i64 0) 1 8 Try.underlying29 hi0 hz0 hz1 hz2 rfl (by decide) _ _ _ rfl ((hown.alloc _).alloc _) ⟨wo.heap.size + 1, 0, none⟩ 1 1 [.int .i64 (S k).1] rfl rfl (new1a _ _ _) (by simp [Value.oneCell']) (by unfold maxLen; omega) (by omega) (by simp only [World.size_alloc]; omega) ?_; intro v8 w8 hown8 hg8 _)
      have h9 : RowZ w (upTo (fun i => (S i).1) k ++ [(S k).1]) v8 w8 := RowZ.app (RowZ.mk (nextB HR.out.below (box1 _ _)) (own_keep HR.out.own (box1 _ _))) hg8 (by rw [upTo_len]; exact hown8)
      refine ⟨⟨k + 1, by omega, by go_num, ?_⟩, by simp [intOf]; omega⟩
      rw [upTo_succ]
      exact h9
    · have hki : (n : Int) ≤ (k : Int) := by omega
      obtain rfl : k = n := by omega
      have ho := HR.out.own
      rw [upTo_len] at ho
      obtain ⟨B, d, rfl, hi⟩ := row_upTo ho hn
      have HI := Lib.hid hi
      clear hi ho
      go_wp2_with fail
      go_ret
      exact ⟨_, _, rfl, HI.out, HR.out.below⟩
set_option maxRecDepth 100000 in
set_option maxHeartbeats 2000000 in
theorem lasts_any (A : Option Addr) (n c : Nat) (S : Nat → Int × Int) (w : World) (hin : SpsIn A n S w.heap.size w) (hn : n ≤ 1000) :
    Calls Try.prog 93 #[.slice A n c] w fun e w' => RPost w n (fun i => (S i).2) e w' := by
  have HIN := Lib.hid hin
  clear hin
  obtain ⟨i0, hi0, hz0, hz1, hz2⟩ := info_parts Try.infoInt
  go_enter Try.func93, Try.ntmps93
  go_wp2_with fail
  go_loopw [3, 8] (fun v i wr => ∃ k : Nat, k ≤ n ∧ i = .int .i64 k ∧ RowZ w (upTo (fun i => (S i).2) k) v wr) (fun _ i _ => n - (intOf i).toNat)
  case atStart => exact ⟨0, Nat.zero_le _, rfl, Below.refl _ _, World.ownsRow_nil _ _ _ _⟩
  case round =>
    obtain ⟨k, hk, rfl, hR⟩ := hrel
    obtain ⟨wo, rfl⟩ : ∃ wo : World, wo = wr := ⟨_, rfl⟩
    have hk0 : (0 : Int) ≤ (k : Int) := by omega
    have HR := Lib.hid hR
    have hs := HR.out.below.size
    clear hR
    by_cases hlt : k < n
    · have hki : (k : Int) < (n : Int) := by omega
      obtain ⟨a, rfl, ab, c0, c1⟩ := (HIN.out.up HR.out.below (Nat.le_refl _)).2 k hlt
      have hown := HR.out.own
      rw [upTo_len] at hown
      go_wp2_with (at_builtin; refine wpList_append_own _ rfl _ _ 29 rfl w.heap.size 3 i0 (.int .i64 0) 1 8 Try.underlying29 hi0 hz0 hz1 hz2 rfl (by decide) _ _ _ rfl ((hown.alloc _).alloc _) ⟨wo.heap.size + 1, 0, none⟩ 1 1 [.int .i64 (S k).2] rfl rfl (new1a _ _ _) (by simp [Value.oneCell']) (by unfold maxLen; omega) (by omega) (by simp only [World.size_alloc]; omega) ?_; intro v8 w8 hown8 hg8 _)
      have h9 : RowZ w (upTo (fun i => (S i).2) k ++ [(S k).2]) v8 w8 := RowZ.app (RowZ.mk (nextB HR.out.below (box1 _ _)) (own_keep HR.out.own (box1 _ _))) hg8 (by rw [upTo_len]; exact hown8)
      refine ⟨⟨k + 1, by omega, by go_num, ?_⟩, by simp [intOf]; omega⟩
      rw [upTo_succ]
      exact h9
    · have hki : (n : Int) ≤ (k : Int) := by omega
      obtain rfl : k = n := by omega
      have ho := HR.out.own
      rw [upTo_len] at ho
      obtain ⟨B, d, rfl, hi⟩ := row_upTo ho hn
      have HI := Lib.hid hi
      clear hi ho
      go_wp2_with fail
      go_ret
      exact ⟨_, _, rfl, HI.out, HR.out.below⟩
end Go.Proofs.Ytpikaohodieeaaa
namespace Go.Proofs.Ytpikaohodieeaaa
open Go.RowKit
set_option linter.unusedSimpArgs false
set_option linter.unusedVariables false
/-- the last of the first n that is not later -/
def lastP (Z : Nat → Int) (x : Int) : Nat → Int
  | 0 => -1
  | n + 1 => if Z n ≤ x then n else lastP Z x n
set_option maxRecDepth 100000 in
set_option maxHeartbeats 2000000 in
theorem lastPassed_any (A : Option Addr) (n c : Nat) (Z : Nat → Int) (x : Int) (w : World) (hin : IntsIn A n Z w.heap.size w) :
    Calls Try.prog 100 #[.slice A n c, .int .i64 x] w fun e w' => e = .returned (.int .i64 (lastP Z x n)) ∧ w = w' := by
  have HIN := Lib.hid hin
  have hn := hin.1
  clear hin
  go_enter Try.func100, Try.ntmps100
  go_wp2_with fail
  go_loop [5, 6, 7, 10] (fun l _ _ i => ∃ k : Nat, k ≤ n ∧ i = .int .i64 k ∧ l = .int .i64 (lastP Z x k)) (fun _ _ _ i => n - (intOf i).toNat)
  case atStart => exact ⟨0, Nat.zero_le _, rfl, rfl⟩
  case round =>
    obtain ⟨k, hk, rfl, rfl⟩ := hrel
    have hk0 : (0 : Int) ≤ (k : Int) := by omega
    by_cases hlt : k < n
    · obtain ⟨a, rfl, ab, c0⟩ := HIN.out.2 k hlt
      have hki : (k : Int) < (n : Int) := by omega
      by_cases hx : Z k ≤ x
      · have d1 : decide (Z k ≤ x) = true := decide_eq_true hx
        have HL := Lib.hid (show lastP Z x (k + 1) = (k : Int) by simp only [lastP]; rw [if_pos hx])
        generalize lastP Z x k = l at *
        go_wp2_with fail
        go_round
        case rel => exact ⟨k + 1, by omega, by go_num, by rw [HL.out]⟩
        case measure => simp [intOf]; omega
      · have d1 : decide (Z k ≤ x) = false := decide_eq_false hx
        have HL := Lib.hid (show lastP Z x (k + 1) = lastP Z x k by simp only [lastP]; rw [if_neg hx])
        generalize lastP Z x k = l at *
        go_wp2_with fail
        go_round
        case rel => exact ⟨k + 1, by omega, by go_num, by rw [HL.out]⟩
        case measure => simp [intOf]; omega
    · have hki : (n : Int) ≤ (k : Int) := by omega
      obtain rfl : k = n := by omega
      go_wp2_with fail
      go_ret
      exact ⟨rfl, rfl⟩
end Go.Proofs.Ytpikaohodieeaaa
namespace Go.Proofs.Ytpikaohodieeaaa
open Go.RowKit
set_option linter.unusedSimpArgs false
set_option linter.unusedVariables false
/-- ticks that keep gaps and marks -/
structure Rdg (g : Nat) (G : Nat → Int × Int) (m : Nat) (F : Nat → Int × Int × Int) (T : Nat → Int) : Prop where
  tick : ∀ i, i < g + 1 → 0 ≤ T i ∧ T i ≤ 400
  gap : ∀ i, i < g → hasP (G i) (T (i + 1) - T i)
  mark : ∀ i, i < m → hasP (F i).2 (T (F i).1.toNat)
set_option maxRecDepth 100000 in
set_option maxHeartbeats 1000000 in
theorem isReading_any (GA : Option Addr) (g gc : Nat) (G : Nat → Int × Int) (MA : Option Addr) (m mc : Nat) (F : Nat → Int × Int × Int) (TA : Option Addr) (n tc : Nat) (T : Nat → Int) (R : Bool) (w : World)
    (hg : SpsIn GA g G w.heap.size w) (hm : TrsIn MA m F w.heap.size w) (ht : IntsIn TA n T w.heap.size w) (hcol : ∀ i, i < m → 0 ≤ (F i).1 ∧ (F i).1 ≤ g) (hg5 : g ≤ 1000) (hR : R = true ↔ n = g + 1 ∧ Rdg g G m F T) :
    Calls Try.prog 87 #[.slice GA g gc, .slice MA m mc, .slice TA n tc] w fun e w' => e = .returned (.bool R) ∧ Below w.heap.size w w' := by
  have HG := Lib.hid hg
  have HM := Lib.hid hm
  have HT := Lib.hid ht
  have HC := Lib.hid hcol
  have HR := Lib.hid hR
  have hn := ht.1
  have hm1 := hm.1
  clear hg hm ht hcol hR
  have hgi : IntKind.i64.wrap ((g : Int) + 1) = (g : Int) + 1 := IntWalk.i64_in _ (by omega)
  have bad : Hid (¬ (n = g + 1 ∧ Rdg g G m F T) → R = false) := Lib.hid fun h => by
    cases R with
    | false => rfl
    | true => exact absurd (HR.out.1 rfl) h
  by_cases hl : n = g + 1
  · have hl1 : ((n : Int) == (g : Int) + 1) = true := by rw [beq_iff_eq]; omega
    have hl2 : ((n : Int) != (g : Int) + 1) = false := by rw [bne, hl1]; rfl
    have HL := Lib.hid hl
    clear hl hl1
    obtain ⟨j, j1, j2, j3⟩ := first_no (fun i => 0 ≤ T i ∧ T i ≤ 400) n
    obtain ⟨i, i1, i2, i3⟩ := first_no (fun i => hasP (G i) (T (i + 1) - T i)) g
    obtain ⟨l, l1, l2, l3⟩ := first_no (fun i => hasP (F i).2 (T (F i).1.toNat)) m
    have J2 := Lib.hid j2
    have J3 := Lib.hid j3
    have I2 := Lib.hid i2
    have I3 := Lib.hid i3
    have L2 := Lib.hid l2
    have L3 := Lib.hid l3
    clear j2 j3 i2 i3 l2 l3
    go_enter Try.func87, Try.ntmps87
    go_wp2_with fail
    go_loop [8, 21] (fun _ v => ∃ k : Nat, k ≤ j ∧ v = .int .i64 k) (fun _ v => n - (intOf v).toNat)
    case atStart => exact ⟨0, Nat.zero_le _, rfl⟩
    case round =>
      obtain ⟨k, hk, rfl⟩ := hrel
      have hk0 : (0 : Int) ≤ (k : Int) := by omega
      by_cases hlt : k < n
      · obtain ⟨a, rfl, ab, c0⟩ := HT.out.2 k hlt
        have hki : (k : Int) < (n : Int) := by omega
        by_cases hkj : k < j
        · have KT := Lib.hid fun W => isTick_is (T k) true W ⟨fun _ => J2.out k hkj, fun _ => rfl⟩
          go_wp2_with (go_at_call 99; refine (KT.out _).mono ?_; rintro e w' ⟨rfl, rfl⟩)
          go_round
          case rel => exact ⟨k + 1, by omega, by go_num⟩
          case measure => simp [intOf]; omega
        · obtain rfl : k = j := by omega
          have hbad := J3.out hlt
          obtain rfl := bad.out fun h => hbad (h.2.tick k (h.1 ▸ hlt))
          have KT := Lib.hid fun W => isTick_is (T k) false W ⟨fun h => (by cases h), fun h => absurd h hbad⟩
          clear hbad
          go_wp2_with (go_at_call 99; refine (KT.out _).mono ?_; rintro e w' ⟨rfl, rfl⟩)
          go_ret
          exact ⟨rfl, Below.refl _ _⟩
      · have hki : (n : Int) ≤ (k : Int) := by omega
        obtain rfl : k = n := by omega
        obtain rfl : j = k := by omega
        go_wp2_with fail
        go_loopw [9, 31] (fun _ v wr => ∃ k : Nat, k ≤ i ∧ v = .int .i64 k ∧ Below w.heap.size w wr) (fun _ v _ => g - (intOf v).toNat)
        case atStart => exact ⟨0, Nat.zero_le _, rfl, Below.refl _ _⟩
        case round =>
          obtain ⟨k, hk, rfl, hb⟩ := hrel
          obtain ⟨wo, rfl⟩ : ∃ wo : World, wo = wr := ⟨_, rfl⟩
          have HB := Lib.hid hb
          have hs := HB.out.size
          clear hb
          have hk0 : (0 : Int) ≤ (k : Int) := by omega
          by_cases hlt : k < g
          · obtain ⟨a, rfl, ab, c0, c1⟩ := (HG.out.up HB.out (Nat.le_refl _)).2 k hlt
            have hki : (k : Int) < (g : Int) := by omega
            have hw1 : IntKind.i64.wrap ((k : Int) + 1) = (k : Int) + 1 := IntWalk.i64_in _ (by omega)
            obtain ⟨a3, rfl, ab3, d0⟩ := (HT.out.up HB.out (Nat.le_refl _)).2 k (by have := HL.out; omega)
            obtain ⟨a4, ea4, ab4, d1⟩ := (HT.out.up HB.out (Nat.le_refl _)).2 (k + 1) (by have := HL.out; omega)
            cases ea4
            have hk1 : (k : Int) + 1 < (j : Int) := by have := HL.out; omega
            have hk2 : (0 : Int) ≤ (k : Int) + 1 := by omega
            have hk3 : k < j := by omega
            rw [add_pos _ _ (Nat.succ_pos k)] at d1
            have q1 := J2.out k (by have := HL.out; omega)
            have q2 := J2.out (k + 1) (by have := HL.out; omega)
            have hw2 : IntKind.i64.wrap (T (k + 1) - T k) = T (k + 1) - T k := IntWalk.i64_in _ (by omega)
            clear q1 q2
            obtain ⟨RB, hRB⟩ : ∃ RB : Bool, RB = true ↔ k < i := ⟨decide (k < i), decide_eq_true_iff⟩
            have KH := Lib.hid fun W => has_is (G k) (T (k + 1) - T k) RB W (hRB.trans ⟨fun h => I2.out k h, fun h => by
              rcases Nat.lt_or_ge k i with h2 | h2
              · exact h2
              · obtain rfl : k = i := by omega
                exact absurd h (I3.out hlt)⟩)
            have HRB := Lib.hid hRB
            clear hRB
            go_wp2_with fail
            obtain ⟨w5, hw5⟩ : ∃ w5 : World, w5 = wo.alloc (.cells #[.int .i64 (G k).1, .int .i64 (G k).2] 31) := ⟨_, rfl⟩
            rw [← hw5]
            have hb5 : Below wo.heap.size wo w5 := by rw [hw5]; exact box1 _ _
            have bt5 : Bt wo.heap.size (G k).1 (G k).2 w5 := by rw [hw5]; exact Bt.new _ _ _ _
            clear hw5
            have zo := bt5.lt
            obtain ⟨t0, t1, _, _⟩ := bt5
            have t2 := (hb5.cell (World.block_lt_of_cell? _ _ d0)).trans d0
            have t3 := (hb5.cell (World.block_lt_of_cell? _ _ d1)).trans d1
            have HB5 := Lib.hid hb5
            clear hb5
            refine wp_region_M [] (fun w' => w'.cell? ⟨wo.heap.size, 0, none⟩ = some (.int .i64 (G k).1) ∧ w'.cell? ⟨wo.heap.size, 1, none⟩ = some (.int .i64 (G k).2) ∧ w'.cell? (a3.add k) = some (.int .i64 (T k)) ∧ w'.cell? ⟨a3.block, a3.off + (k + 1), none⟩ = some (.int .i64 (T (k + 1)))) (by kernel_rfl) (by kernel_rfl) (by (try dsimp only); (repeat' apply And.intro); all_goals first | assumption | (go_simp; done)) (fun hT0 => ?_)
            refine M_take (v := ?_) 0 rfl (by kernel_rfl) (by assumption) (fun _ _ _ h => h) (Or.inl ⟨by rfl, ?_⟩) ?_
            rotate_left
            · (intro w hSw; (try dsimp only at hSw); go_simp; (try with_reducible rfl))
            (try simp only [Act.put, List.setIfInBounds_toArray, List.set_cons_zero, List.set_cons_succ])
            refine M_take (v := ?_) 1 rfl (by kernel_rfl) (by assumption) (fun _ _ _ h => h) (Or.inl ⟨by rfl, ?_⟩) ?_
            rotate_left
            · (intro w hSw; (try dsimp only at hSw); go_simp; (try with_reducible rfl))
            (try simp only [Act.put, List.setIfInBounds_toArray, List.set_cons_zero, List.set_cons_succ])
            refine M_take (v := ?_) 2 rfl (by kernel_rfl) (by assumption) (fun _ _ _ h => h) (Or.inl ⟨by rfl, ?_⟩) ?_
            rotate_left
            · (intro w hSw; (try dsimp only at hSw); go_simp; (try with_reducible rfl))
            (try simp only [Act.put, List.setIfInBounds_toArray, List.set_cons_zero, List.set_cons_succ])
            refine M_take (v := ?_) 3 rfl (by kernel_rfl) (by assumption) (fun _ _ _ h => h) (Or.inl ⟨by rfl, ?_⟩) ?_
            rotate_left
            · (intro w hSw; (try dsimp only at hSw); go_simp; (try with_reducible rfl))
            (try simp only [Act.put, List.setIfInBounds_toArray, List.set_cons_zero, List.set_cons_succ])
            refine M_take (v := ?_) 4 rfl (by kernel_rfl) (by assumption) (fun _ _ _ h => h) (Or.inl ⟨by rfl, ?_⟩) ?_
            rotate_left
            · (intro w hSw; (try dsimp only at hSw); go_simp; (try with_reducible rfl))
            (try simp only [Act.put, List.setIfInBounds_toArray, List.set_cons_zero, List.set_cons_succ])
            refine M_take (v := ?_) 5 rfl (by kernel_rfl) (by assumption) (fun _ _ _ h => h) (Or.inl ⟨by rfl, ?_⟩) ?_
            rotate_left
            · (intro w hSw; (try dsimp only at hSw); go_simp; (try with_reducible rfl))
            (try simp only [Act.put, List.setIfInBounds_toArray, List.set_cons_zero, List.set_cons_succ])
            refine M_take (v := ?_) 6 rfl (by kernel_rfl) (by assumption) (fun _ _ _ h => h) (Or.inl ⟨by rfl, ?_⟩) ?_
            rotate_left
            · (intro w hSw; (try dsimp only at hSw); go_simp; (try with_reducible rfl))
            (try simp only [Act.put, List.setIfInBounds_toArray, List.set_cons_zero, List.set_cons_succ])
            refine M_take (v := ?_) 7 rfl (by kernel_rfl) (by assumption) (fun _ _ _ h => h) (Or.inl ⟨by rfl, ?_⟩) ?_
            rotate_left
            · (intro w hSw; (try dsimp only at hSw); go_simp; (try with_reducible rfl))
            (try simp only [Act.put, List.setIfInBounds_toArray, List.set_cons_zero, List.set_cons_succ])
            refine M_take (v := ?_) 8 rfl (by kernel_rfl) (by assumption) (fun _ _ _ h => h) (Or.inl ⟨by rfl, ?_⟩) ?_
            rotate_left
            · (intro w hSw; (try dsimp only at hSw); go_simp; (try with_reducible rfl))
            (try simp only [Act.put, List.setIfInBounds_toArray, List.set_cons_zero, List.set_cons_succ])
            refine M_take (v := ?_) 9 rfl (by kernel_rfl) (by assumption) (fun _ _ _ h => h) (Or.inl ⟨by rfl, ?_⟩) ?_
            rotate_left
            · (intro w hSw; (try dsimp only at hSw); go_simp; (try with_reducible rfl))
            (try simp only [Act.put, List.setIfInBounds_toArray, List.set_cons_zero, List.set_cons_succ])
            refine M_take (v := ?_) 10 rfl (by kernel_rfl) (by assumption) (fun _ _ _ h => h) (Or.inl ⟨by rfl, ?_⟩) ?_
            rotate_left
            · (intro w hSw; (try dsimp only at hSw); go_simp; (try with_reducible rfl))
            (try simp only [Act.put, List.setIfInBounds_toArray, List.set_cons_zero, List.set_cons_succ])
            refine M_step 11 rfl (by kernel_rfl) (fun K hK => ?_)
            go_simp
            go_at_call 113
            refine (KH.out _).mono ?_
            rintro e w6 ⟨rfl, hb2⟩
            have D6 := Lib.hid (nextB HB5.out.drew hb2)
            have hT8 : (fun w' => w'.cell? ⟨wo.heap.size, 0, none⟩ = some (.int .i64 (G k).1) ∧ w'.cell? ⟨wo.heap.size, 1, none⟩ = some (.int .i64 (G k).2) ∧ w'.cell? (a3.add k) = some (.int .i64 (T k)) ∧ w'.cell? ⟨a3.block, a3.off + (k + 1), none⟩ = some (.int .i64 (T (k + 1)))) w6 := ⟨(hb2.cell (World.block_lt_of_cell? _ _ t0)).trans t0, (hb2.cell (World.block_lt_of_cell? _ _ t1)).trans t1, (hb2.cell (World.block_lt_of_cell? _ _ t2)).trans t2, (hb2.cell (World.block_lt_of_cell? _ _ t3)).trans t3⟩
            clear hb2
            refine hK.out _ _ (fun _ => hT8) ?_
            clear hK K
            (try simp only [Act.put, List.setIfInBounds_toArray, List.set_cons_zero, List.set_cons_succ])
            refine M_take (v := ?_) 12 rfl (by kernel_rfl) (by assumption) (fun _ _ _ h => h) (Or.inl ⟨by rfl, ?_⟩) ?_
            rotate_left
            · (intro w hSw; (try dsimp only at hSw); go_simp; (try with_reducible rfl))
            (try simp only [Act.put, List.setIfInBounds_toArray, List.set_cons_zero, List.set_cons_succ])
            refine M_done (by kernel_rfl) ?_ _
            cases RB with
            | true =>
              have hki2 := HRB.out.1 rfl
              go_wp2_with fail
              go_roundw
              case rel => exact ⟨k + 1, by omega, by go_num, HB.out.trans (D6.out.mono (by omega))⟩
              case measure => simp [intOf]; omega
            | false =>
              obtain rfl : i = k := by
                rcases Nat.lt_or_ge k i with h | h
                · exact absurd (HRB.out.2 h) (by simp)
                · omega
              obtain rfl := bad.out fun h => I3.out hlt (h.2.gap i hlt)
              go_wp2_with fail
              go_ret
              exact ⟨rfl, HB.out.trans (D6.out.mono (by omega))⟩
          · have hki : (g : Int) ≤ (k : Int) := by omega
            obtain rfl : k = g := by omega
            obtain rfl : i = k := by omega
            obtain ⟨w3, rfl⟩ : ∃ w3 : World, w3 = wo := ⟨_, rfl⟩
            go_wp2_with fail
            go_loopw [52] (fun v wr => ∃ k : Nat, k ≤ l ∧ v = .int .i64 k ∧ Below w.heap.size w wr) (fun v _ => m - (intOf v).toNat)
            case atStart => exact ⟨0, Nat.zero_le _, rfl, HB.out⟩
            case round =>
              obtain ⟨k, hk, rfl, hb⟩ := hrel
              obtain ⟨w7, rfl⟩ : ∃ w7 : World, w7 = wr := ⟨_, rfl⟩
              have HB7 := Lib.hid hb
              have hs7 := HB7.out.size
              clear hb
              have hk0 : (0 : Int) ≤ (k : Int) := by omega
              by_cases hlt : k < m
              · obtain ⟨a, rfl, ab, c0, c1, c2⟩ := (HM.out.up HB7.out (Nat.le_refl _)).2 k hlt
                have hki : (k : Int) < (m : Int) := by omega
                obtain ⟨cc, hcc⟩ : ∃ cc : Nat, (F k).1 = (cc : Int) := ⟨(F k).1.toNat, (Int.toNat_of_nonneg (HC.out k hlt).1).symm⟩
                have hcj : cc < j := by
                  have := HL.out
                  have := (HC.out k hlt).2
                  omega
                have hc0 : (0 : Int) ≤ (cc : Int) := by omega
                have hc1 : (cc : Int) < (j : Int) := by omega
                obtain ⟨a3, rfl, ab3, d0⟩ := (HT.out.up HB7.out (Nat.le_refl _)).2 cc hcj
                rw [hcc] at c0
                obtain ⟨RB, hRB⟩ : ∃ RB : Bool, RB = true ↔ k < l := ⟨decide (k < l), decide_eq_true_iff⟩
                have KH := Lib.hid fun W => has_is (F k).2 (T cc) RB W (hRB.trans ⟨fun h => by
                  have := L2.out k h
                  rwa [hcc, Int.toNat_natCast] at this, fun h => by
                  rcases Nat.lt_or_ge k l with h2 | h2
                  · exact h2
                  · obtain rfl : k = l := by omega
                    exact absurd (by rw [hcc, Int.toNat_natCast]; exact h) (L3.out hlt)⟩)
                have HRB := Lib.hid hRB
                have HCC := Lib.hid hcc
                clear hRB hcc
                go_wp2_with fail
                obtain ⟨w5, hw5⟩ : ∃ w5 : World, w5 = w7.alloc (.cells #[.int .i64 (cc : Int), .int .i64 (F k).2.1, .int .i64 (F k).2.2] 33) := ⟨_, rfl⟩
                rw [← hw5]
                have hb5 : Below w7.heap.size w7 w5 := by rw [hw5]; exact box1 _ _
                have bt5 : Tr3 ((cc : Int), (F k).2) w7.heap.size w5 := by rw [hw5]; exact tr3_new _ ((cc : Int), (F k).2) _
                clear hw5
                have zo := bt5.lt
                obtain ⟨t0, t1, t2⟩ := bt5
                have t3 := (hb5.cell (World.block_lt_of_cell? _ _ d0)).trans d0
                have HB5 := Lib.hid hb5
                clear hb5
                refine wp_region_M [] (fun w' => w'.cell? ⟨w7.heap.size, 0, none⟩ = some (.int .i64 (cc : Int)) ∧ w'.cell? ⟨w7.heap.size, 1, none⟩ = some (.int .i64 (F k).2.1) ∧ w'.cell? ⟨w7.heap.size, 2, none⟩ = some (.int .i64 (F k).2.2) ∧ w'.cell? (a3.add cc) = some (.int .i64 (T cc))) (by kernel_rfl) (by kernel_rfl) (by (try dsimp only); (repeat' apply And.intro); all_goals first | assumption | (go_simp; done)) (fun hT0 => ?_)
                refine M_take (v := ?_) 0 rfl (by kernel_rfl) (by assumption) (fun _ _ _ h => h) (Or.inl ⟨by rfl, ?_⟩) ?_
                rotate_left
                · (intro w hSw; (try dsimp only at hSw); go_simp; (try with_reducible rfl))
                (try simp only [Act.put, List.setIfInBounds_toArray, List.set_cons_zero, List.set_cons_succ])
                refine M_take (v := ?_) 1 rfl (by kernel_rfl) (by assumption) (fun _ _ _ h => h) (Or.inl ⟨by rfl, ?_⟩) ?_
                rotate_left
                · (intro w hSw; (try dsimp only at hSw); go_simp; (try with_reducible rfl))
                (try simp only [Act.put, List.setIfInBounds_toArray, List.set_cons_zero, List.set_cons_succ])
                refine M_take (v := ?_) 2 rfl (by kernel_rfl) (by assumption) (fun _ _ _ h => h) (Or.inl ⟨by rfl, ?_⟩) ?_
                rotate_left
                · (intro w hSw; (try dsimp only at hSw); go_simp; (try with_reducible rfl))
                (try simp only [Act.put, List.setIfInBounds_toArray, List.set_cons_zero, List.set_cons_succ])
                refine M_take (v := ?_) 3 rfl (by kernel_rfl) (by assumption) (fun _ _ _ h => h) (Or.inl ⟨by rfl, ?_⟩) ?_
                rotate_left
                · (intro w hSw; (try dsimp only at hSw); go_simp; (try with_reducible rfl))
                (try simp only [Act.put, List.setIfInBounds_toArray, List.set_cons_zero, List.set_cons_succ])
                refine M_take (v := ?_) 4 rfl (by kernel_rfl) (by assumption) (fun _ _ _ h => h) (Or.inl ⟨by rfl, ?_⟩) ?_
                rotate_left
                · (intro w hSw; (try dsimp only at hSw); go_simp; (try with_reducible rfl))
                (try simp only [Act.put, List.setIfInBounds_toArray, List.set_cons_zero, List.set_cons_succ])
                refine M_take (v := ?_) 5 rfl (by kernel_rfl) (by assumption) (fun _ _ _ h => h) (Or.inl ⟨by rfl, ?_⟩) ?_
                rotate_left
                · (intro w hSw; (try dsimp only at hSw); go_simp; (try with_reducible rfl))
                (try simp only [Act.put, List.setIfInBounds_toArray, List.set_cons_zero, List.set_cons_succ])
                refine M_take (v := ?_) 6 rfl (by kernel_rfl) (by assumption) (fun _ _ _ h => h) (Or.inl ⟨by rfl, ?_⟩) ?_
                rotate_left
                · (intro w hSw; (try dsimp only at hSw); go_simp; (try with_reducible rfl))
                (try simp only [Act.put, List.setIfInBounds_toArray, List.set_cons_zero, List.set_cons_succ])
                refine M_step 7 rfl (by kernel_rfl) (fun K hK => ?_)
                go_simp
                go_at_call 113
                refine (KH.out _).mono ?_
                rintro e w6 ⟨rfl, hb2⟩
                have D6 := Lib.hid (nextB HB5.out.drew hb2)
                have hT8 : (fun w' => w'.cell? ⟨w7.heap.size, 0, none⟩ = some (.int .i64 (cc : Int)) ∧ w'.cell? ⟨w7.heap.size, 1, none⟩ = some (.int .i64 (F k).2.1) ∧ w'.cell? ⟨w7.heap.size, 2, none⟩ = some (.int .i64 (F k).2.2) ∧ w'.cell? (a3.add cc) = some (.int .i64 (T cc))) w6 := ⟨(hb2.cell (World.block_lt_of_cell? _ _ t0)).trans t0, (hb2.cell (World.block_lt_of_cell? _ _ t1)).trans t1, (hb2.cell (World.block_lt_of_cell? _ _ t2)).trans t2, (hb2.cell (World.block_lt_of_cell? _ _ t3)).trans t3⟩
                clear hb2
                refine hK.out _ _ (fun _ => hT8) ?_
                clear hK K
                (try simp only [Act.put, List.setIfInBounds_toArray, List.set_cons_zero, List.set_cons_succ])
                refine M_take (v := ?_) 8 rfl (by kernel_rfl) (by assumption) (fun _ _ _ h => h) (Or.inl ⟨by rfl, ?_⟩) ?_
                rotate_left
                · (intro w hSw; (try dsimp only at hSw); go_simp; (try with_reducible rfl))
                (try simp only [Act.put, List.setIfInBounds_toArray, List.set_cons_zero, List.set_cons_succ])
                refine M_done (by kernel_rfl) ?_ _
                cases RB with
                | true =>
                  have hki2 := HRB.out.1 rfl
                  go_wp2_with fail
                  go_roundw
                  case rel => exact ⟨k + 1, by omega, by go_num, HB7.out.trans (D6.out.mono (by omega))⟩
                  case measure => simp [intOf]; omega
                | false =>
                  obtain rfl : l = k := by
                    rcases Nat.lt_or_ge k l with h | h
                    · exact absurd (HRB.out.2 h) (by simp)
                    · omega
                  obtain rfl := bad.out fun h => L3.out hlt (h.2.mark l hlt)
                  go_wp2_with fail
                  go_ret
                  exact ⟨rfl, HB7.out.trans (D6.out.mono (by omega))⟩
              · have hki : (m : Int) ≤ (k : Int) := by omega
                obtain rfl : k = m := by omega
                obtain rfl : l = k := by omega
                obtain rfl := HR.out.2 ⟨HL.out, ⟨fun i hi => J2.out i (by have := HL.out; omega), I2.out, L2.out⟩⟩
                go_wp2_with fail
                go_ret
                exact ⟨rfl, HB7.out⟩
  · have hl2 : ((n : Int) != (g : Int) + 1) = true := by rw [bne_iff_ne]; omega
    obtain rfl := bad.out fun h => hl h.1
    clear hl
    go_enter Try.func87, Try.ntmps87
    go_wp2_with fail
    go_ret
    exact ⟨rfl, Below.refl _ _⟩
end Go.Proofs.Ytpikaohodieeaaa
namespace Go.Proofs.Ytpikaohodieeaaa
open Go.RowKit
set_option linter.unusedSimpArgs false
set_option linter.unusedVariables false
def rowS (S : Nat → Int × Int) (n : Nat) : List Value := flatM ((List.range n).map S)
theorem rowS_len (S : Nat → Int × Int) (n : Nat) : (rowS S n).length = n * 2 := by
  induction n with
  | zero => rfl
  | succ n ih =>
    unfold rowS at *
    rw [List.range_succ, List.map_append, List.map_cons, List.map_nil, flatM_snoc, List.length_append, ih]
    simp
    omega
theorem rowS_at {A : Option Addr} {n B : Nat} {S : Nat → Int × Int} {w : World} {a : Addr} (h : SpsIn A n S B w) (ha : A = some a) : ∀ m, m ≤ n → ∀ j u, (rowS S m)[j]? = some u → w.cell? (a.add j) = some u := by
  subst ha
  intro m
  induction m with
  | zero => intro _ j u hj; simp [rowS, flatM] at hj
  | succ m ih =>
    intro hm j u hj
    unfold rowS at hj
    rw [List.range_succ, List.map_append, List.map_cons, List.map_nil, flatM_snoc, List.getElem?_append] at hj
    have hl := rowS_len S m
    unfold rowS at hl
    obtain ⟨a', e, _, c0, c1⟩ := h.2 m (by omega)
    cases e
    split at hj
    · exact ih (by omega) j u hj
    · rename_i hge
      rw [hl] at hj hge
      have hlt : j - m * 2 < 2 := by
        have := (List.getElem?_eq_some_iff.1 hj).1
        simpa using this
      rcases (show j = m * 2 ∨ j = m * 2 + 1 by omega) with e | e
      · subst e
        simp at hj
        rw [← hj]
        exact c0
      · subst e
        have : m * 2 + 1 - m * 2 = 1 := by omega
        rw [this] at hj
        simp at hj
        rw [← hj, ← add_at a (m * 2) 1 (by omega)]
        exact c1
theorem rowS_one (S : Nat → Int × Int) (n : Nat) : ∀ u ∈ rowS S n, u.oneCell' = true := by
  intro u hu
  unfold rowS flatM at hu
  simp only [List.mem_flatMap] at hu
  obtain ⟨s, _, h⟩ := hu
  simp at h
  rcases h with rfl | rfl <;> rfl
theorem own_empty (w : World) (t : TypeId) (size : Nat) : (w.alloc (.cells #[] t)).ownsRow w.heap.size t size (.slice (some ⟨w.heap.size, 0, none⟩) 0 0) 0 [] :=
  ⟨by simp, .inr ⟨w.heap.size, 0, #[], rfl, Nat.le_refl _, World.alloc_heap_new w _, Nat.le_refl _, Nat.zero_le _, by simp, by simp⟩⟩
theorem row_SpR {w : World} {B n : Nat} {S : Nat → Int × Int} {v : Value} (h : w.ownsRow B 31 2 v (0 + n) ([] ++ rowS S n)) (h1 : 1 ≤ n) : ∃ g cap, v = .slice (some ⟨g, 0, none⟩) n cap ∧ B ≤ g ∧ n ≤ cap ∧ SpR g n S w := by
  rw [Nat.zero_add, List.nil_append] at h
  obtain ⟨h0, hx | ⟨g, cap, cur, e1, e2, e3, e4, e5, e6, e7⟩⟩ := h
  · omega
  · subst e1
    refine ⟨g, cap, rfl, e2, e4, ?_⟩
    have hl : ((List.range n).map S).length = n := by simp
    have h2 : w.ownsRow B 31 2 (.slice (some ⟨g, 0, none⟩) ((List.range n).map S).length cap) ((List.range n).map S).length (flatM ((List.range n).map S)) := by
      rw [hl]
      exact ⟨h0, .inr ⟨g, cap, cur, rfl, e2, e3, e4, e5, e6, e7⟩⟩
    have h3 := own_SpR h2
    rw [hl] at h3
    have hS : ∀ i, i < n → ((List.range n).map S).getD i (0, 0) = S i := fun i hi => by simp [hi]
    exact ⟨h3.lt, fun i hi => by rw [← hS i hi]; exact h3.c0 i hi, fun i hi => by rw [← hS i hi]; exact h3.c1 i hi, h3.f⟩
set_option maxRecDepth 100000 in
set_option maxHeartbeats 1000000 in
theorem Clone_any (A : Option Addr) (n c : Nat) (S : Nat → Int × Int) (w : World) (hin : SpsIn A n S w.heap.size w) (h1 : 1 ≤ n) (hn : n ≤ 1000) :
    Calls Try.prog 81 #[.slice A n c] w fun e w' => ∃ g cap, e = .returned (.slice (some ⟨g, 0, none⟩) n cap) ∧ w.heap.size ≤ g ∧ n ≤ cap ∧ SpR g n S w' ∧ Below w.heap.size w w' := by
  have HIN := Lib.hid hin
  obtain ⟨a, rfl, ab, _, _⟩ := hin.2 0 h1
  have HR := Lib.hid (rowS_at (hin.up (box1 w (.cells #[] 31)) (Nat.le_refl _)) rfl n (Nat.le_refl _))
  have HO := Lib.hid (own_empty w 31 2)
  clear hin
  obtain ⟨i0, hi0, hz0, hz1, hz2⟩ := info_parts Try.infoSpan
  have hq : ∀ W : World, (binOp .eql 22 (.slice (some a) n c) (.slice none 0 0)).run Try.prog W = .ok (.bool false) W := fun W => by kernel_rfl
  go_enter Try.func81, Try.ntmps81
  go_wp2_with (at_builtin; refine wpList_append_own _ rfl _ _ 22 rfl w.heap.size 31 i0 (.agg #[.int .i64 0, .int .i64 0]) 2 16 Try.underlying22 hi0 hz0 hz1 hz2 rfl (by decide) _ 0 [] rfl HO.out a n c (rowS S n) rfl (rowS_len S n) HR.out (rowS_one S n) (by unfold maxLen; omega) (by omega) (by simp) ?_; intro v8 w8 hown8 hg8 _; have HW := Lib.hid hown8; have HGR := Lib.hid hg8; clear hown8 hg8)
  go_ret
  have hg8 := HGR.out
  have hb : Below w.heap.size w w8 := (box1 w _).grown hg8 (by simp) (fun r e => by cases e; exact Nat.le_refl _)
  obtain ⟨g, cap, rfl, hge, hc, hS⟩ := row_SpR HW.out h1
  exact ⟨g, cap, rfl, hge, hc, hS, hb⟩
end Go.Proofs.Ytpikaohodieeaaa
namespace Go.Proofs.Ytpikaohodieeaaa
open Go.RowKit
set_option linter.unusedSimpArgs false
set_option linter.unusedVariables false
/-- the gap behind a column, with the first k stops -/
def gapK (d : Drm) : Nat → Nat → Int × Int
  | 0, i => d.G i
  | k + 1, i => if (d.S k).1 = i then addS (gapK d k i) (d.S k).2 else gapK d k i
abbrev gapF (d : Drm) : Nat → Int × Int := gapK d d.m
theorem gapK_bd {d : Drm} (h : DrOk d) (k : Nat) (hk : k ≤ d.m) (i : Nat) (hi : i < d.n) : 1 ≤ (gapK d k i).1 ∧ (gapK d k i).1 ≤ (gapK d k i).2 ∧ (gapK d k i).2 ≤ 40 + 400 * k := by
  induction k with
  | zero => have := h.rates i hi; unfold isS at this; simp only [gapK]; omega
  | succ k ih =>
    have h1 := ih (by omega)
    have h2 := (h.stops k (by omega)).2
    unfold isS at h2
    simp only [gapK]
    split
    · simp only [addS]; omega
    · omega
set_option maxRecDepth 100000 in
set_option maxHeartbeats 1000000 in
theorem gapsOf_any (d : Drm) (w : World) (hin : DrIn d w.heap.size w) (hok : DrOk d) :
    Calls Try.prog 78 #[d.v] w fun e w' => ∃ g cap, e = .returned (.slice (some ⟨g, 0, none⟩) d.n cap) ∧ w.heap.size ≤ g ∧ d.n ≤ cap ∧ SpR g d.n (gapF d) w' ∧ Below w.heap.size w w' := by
  have HIN := Lib.hid hin
  have HOK := Lib.hid hok
  have hn0 := hin.1.1
  have hm0 := hin.2.1
  have hn1 := hok.n1
  have hn2 := hok.n2
  have hm16 := hok.m
  have I1 := Lib.hid ((HIN.out.up (box1 w (drO d)) (Nat.le_refl _)).more (box1 w (drO d)).size)
  have M1 := Lib.hid (HIN.out.2.up (box1 w (drO d)) (Nat.le_refl _))
  obtain ⟨x0, x1⟩ := dr_new w d
  clear hin hok
  go_enter Try.func78, Try.ntmps78
  go_wp2_with fail
  refine (Clone_any d.RA d.n d.rc d.G _ I1.out.1 hn1 (by omega)).mono ?_
  rintro e w2 ⟨g, cap, rfl, hg, hcap, hS, hb2⟩
  have HCAP := Lib.hid hcap
  clear hcap
  have D2 := Lib.hid (nextB (box1 w _) hb2)
  have P2 := (dr_new w d).up hb2
  have M2 := Lib.hid (M1.out.up hb2 (by simp))
  have hg0 : w.heap.size ≤ g := by have := hg; simp only [World.size_alloc] at this; omega
  have HS := Lib.hid hS
  clear x0 x1
  obtain ⟨x0, x1⟩ := P2
  clear hb2 hS hg
  go_wp2_with fail
  go_loopw [12] (fun v wr => ∃ k : Nat, k ≤ d.m ∧ v = .int .i64 k ∧ SpR g d.n (gapK d k) wr ∧ Below w.heap.size w wr ∧ TrsIn d.SA d.m d.S w.heap.size wr) (fun v _ => d.m - (intOf v).toNat)
  case atStart => exact ⟨0, Nat.zero_le _, rfl, HS.out, D2.out, M2.out⟩
  case round =>
    obtain ⟨k, hk, rfl, hS, hb, hM⟩ := hrel
    obtain ⟨wo, rfl⟩ : ∃ wo : World, wo = wr := ⟨_, rfl⟩
    have hk0 : (0 : Int) ≤ (k : Int) := by omega
    have HB := Lib.hid hb
    have hs := HB.out.size
    have HSS := Lib.hid hS
    have HMM := Lib.hid hM
    clear hb hS hM x0 x1
    by_cases hlt : k < d.m
    · have hki : (k : Int) < (d.m : Int) := by omega
      obtain ⟨a, ea, ab, c0, c1, c2⟩ := HMM.out.2 k hlt
      have hst := HOK.out.stops k hlt
      obtain ⟨cc, hcc⟩ : ∃ cc : Nat, (d.S k).1 = (cc : Int) := ⟨(d.S k).1.toNat, (Int.toNat_of_nonneg hst.1.1).symm⟩
      have hc1 : cc < d.n := by have := hst.1.2; omega
      have hci : (cc : Int) < (d.n : Int) := by omega
      have hc0 : (0 : Int) ≤ (cc : Int) := by omega
      have hbd := gapK_bd HOK.out k (by omega) cc hc1
      have hs2 := hst.2
      unfold isS at hs2
      have KS := Lib.hid fun W => sum_any (gapK d k cc) (d.S k).2 W (by unfold Bd; omega) (by unfold Bd; omega)
      have HC := Lib.hid hcc
      rw [hcc] at c0
      clear hcc hst hbd hs2
      have g0 := HSS.out.c0 cc hc1
      have g1 := HSS.out.c1 cc hc1
      have g2 := HSS.out.f (cc * 2)
      have g3 := HSS.out.f (cc * 2 + 1)
      have gl := HSS.out.lt
      rw [ea]
      go_wp2_with fail
      clear g0 g1 g2 g3 gl
      obtain ⟨w5, hw5⟩ : ∃ w5 : World, w5 = wo.alloc (.cells #[.int .i64 (cc : Int), .int .i64 (d.S k).2.1, .int .i64 (d.S k).2.2] 34) := ⟨_, rfl⟩
      rw [← hw5]
      have hb5 : Below wo.heap.size wo w5 := by rw [hw5]; exact box1 _ _
      have bt5 : Tr3 ((cc : Int), (d.S k).2) wo.heap.size w5 := by rw [hw5]; exact tr3_new _ ((cc : Int), (d.S k).2) _
      clear hw5
      have zo := bt5.lt
      obtain ⟨t0, t1, t2⟩ := bt5
      have HS5 := Lib.hid (HSS.out.up hb5)
      have g0 := HS5.out.c0 cc hc1
      have g1 := HS5.out.c1 cc hc1
      have g2 := HS5.out.f (cc * 2)
      have g3 := HS5.out.f (cc * 2 + 1)
      have gl5 := HS5.out.lt
      have HB5 := Lib.hid hb5
      clear hb5
      refine wp_region_M [12] (fun w' => w'.cell? ⟨wo.heap.size, 0, none⟩ = some (.int .i64 (cc : Int)) ∧ w'.cell? ⟨wo.heap.size, 1, none⟩ = some (.int .i64 (d.S k).2.1) ∧ w'.cell? ⟨wo.heap.size, 2, none⟩ = some (.int .i64 (d.S k).2.2) ∧ w'.cell? ⟨g, cc * 2, none⟩ = some (.int .i64 (gapK d k cc).1) ∧ w'.cell? ⟨g, cc * 2 + 1, none⟩ = some (.int .i64 (gapK d k cc).2)) (by kernel_rfl) (by kernel_rfl) (by (try dsimp only); (repeat' apply And.intro); all_goals first | assumption | (go_simp; done)) (fun hT0 => ?_)
      refine M_take (v := ?_) 0 rfl (by kernel_rfl) (by assumption) (fun _ _ _ h => h) (Or.inl ⟨by rfl, ?_⟩) ?_
      rotate_left
      · (intro w hSw; (try dsimp only at hSw); go_simp; (try with_reducible rfl))
      (try simp only [Act.put, List.setIfInBounds_toArray, List.set_cons_zero, List.set_cons_succ])
      refine M_take (v := ?_) 1 rfl (by kernel_rfl) (by assumption) (fun _ _ _ h => h) (Or.inl ⟨by rfl, ?_⟩) ?_
      rotate_left
      · (intro w hSw; (try dsimp only at hSw); go_simp; (try with_reducible rfl))
      (try simp only [Act.put, List.setIfInBounds_toArray, List.set_cons_zero, List.set_cons_succ])
      refine M_take (v := ?_) 2 rfl (by kernel_rfl) (by assumption) (fun _ _ _ h => h) (Or.inl ⟨by rfl, ?_⟩) ?_
      rotate_left
      · (intro w hSw; (try dsimp only at hSw); go_simp; (try with_reducible rfl))
      (try simp only [Act.put, List.setIfInBounds_toArray, List.set_cons_zero, List.set_cons_succ])
      refine M_take (v := ?_) 3 rfl (by kernel_rfl) (by assumption) (fun _ _ _ h => h) (Or.inl ⟨by rfl, ?_⟩) ?_
      rotate_left
      · (intro w hSw; (try dsimp only at hSw); go_simp; (try with_reducible rfl))
      (try simp only [Act.put, List.setIfInBounds_toArray, List.set_cons_zero, List.set_cons_succ])
      refine M_take (v := ?_) 4 rfl (by kernel_rfl) (by assumption) (fun _ _ _ h => h) (Or.inl ⟨by rfl, ?_⟩) ?_
      rotate_left
      · (intro w hSw; (try dsimp only at hSw); go_simp; (try with_reducible rfl))
      (try simp only [Act.put, List.setIfInBounds_toArray, List.set_cons_zero, List.set_cons_succ])
      refine M_take (v := ?_) 5 rfl (by kernel_rfl) (by assumption) (fun _ _ _ h => h) (Or.inl ⟨by rfl, ?_⟩) ?_
      rotate_left
      · (intro w hSw; (try dsimp only at hSw); go_simp; (try with_reducible rfl))
      (try simp only [Act.put, List.setIfInBounds_toArray, List.set_cons_zero, List.set_cons_succ])
      refine M_take (v := ?_) 6 rfl (by kernel_rfl) (by assumption) (fun _ _ _ h => h) (Or.inl ⟨by rfl, ?_⟩) ?_
      rotate_left
      · (intro w hSw; (try dsimp only at hSw); go_simp; (try with_reducible rfl))
      (try simp only [Act.put, List.setIfInBounds_toArray, List.set_cons_zero, List.set_cons_succ])
      refine M_take (v := ?_) 7 rfl (by kernel_rfl) (by assumption) (fun _ _ _ h => h) (Or.inl ⟨by rfl, ?_⟩) ?_
      rotate_left
      · (intro w hSw; (try dsimp only at hSw); go_simp; (try with_reducible rfl))
      (try simp only [Act.put, List.setIfInBounds_toArray, List.set_cons_zero, List.set_cons_succ])
      refine M_take (v := ?_) 8 rfl (by kernel_rfl) (by assumption) (fun _ _ _ h => h) (Or.inl ⟨by rfl, ?_⟩) ?_
      rotate_left
      · (intro w hSw; (try dsimp only at hSw); go_simp; (try with_reducible rfl))
      (try simp only [Act.put, List.setIfInBounds_toArray, List.set_cons_zero, List.set_cons_succ])
      refine M_take (v := ?_) 9 rfl (by kernel_rfl) (by assumption) (fun _ _ _ h => h) (Or.inl ⟨by rfl, ?_⟩) ?_
      rotate_left
      · (intro w hSw; (try dsimp only at hSw); go_simp; (try with_reducible rfl))
      (try simp only [Act.put, List.setIfInBounds_toArray, List.set_cons_zero, List.set_cons_succ])
      refine M_step 10 rfl (by kernel_rfl) (fun K hK => ?_)
      go_simp
      go_at_call 110
      refine (KS.out _).mono ?_
      rintro e w6 ⟨rfl, hb2⟩
      have D6 := Lib.hid (nextB (Below.refl _ _).drew hb2)
      have HS6 := Lib.hid (HS5.out.up D6.out)
      have hT8 : (fun w' => w'.cell? ⟨wo.heap.size, 0, none⟩ = some (.int .i64 (cc : Int)) ∧ w'.cell? ⟨wo.heap.size, 1, none⟩ = some (.int .i64 (d.S k).2.1) ∧ w'.cell? ⟨wo.heap.size, 2, none⟩ = some (.int .i64 (d.S k).2.2) ∧ w'.cell? ⟨g, cc * 2, none⟩ = some (.int .i64 (gapK d k cc).1) ∧ w'.cell? ⟨g, cc * 2 + 1, none⟩ = some (.int .i64 (gapK d k cc).2)) w6 := ⟨(hb2.cell (World.block_lt_of_cell? _ _ t0)).trans t0, (hb2.cell (World.block_lt_of_cell? _ _ t1)).trans t1, (hb2.cell (World.block_lt_of_cell? _ _ t2)).trans t2, HS6.out.c0 cc hc1, HS6.out.c1 cc hc1⟩
      have f0 := HS6.out.f (cc * 2)
      have f1 := HS6.out.f (cc * 2 + 1)
      have h60 := HS6.out.c0 cc hc1
      have h61 := HS6.out.c1 cc hc1
      clear hb2
      refine hK.out _ _ (fun _ => hT8) ?_
      clear hK K
      (try simp only [Act.put, List.setIfInBounds_toArray, List.set_cons_zero, List.set_cons_succ])
      refine M_take (v := ?_) 11 rfl (by kernel_rfl) (by assumption) (fun _ _ _ h => h) (Or.inl ⟨by rfl, ?_⟩) ?_
      rotate_left
      · (intro w hSw; (try dsimp only at hSw); go_simp; (try with_reducible rfl))
      (try simp only [Act.put, List.setIfInBounds_toArray, List.set_cons_zero, List.set_cons_succ])
      refine M_step 12 rfl (by kernel_rfl) (fun K hK => ?_)
      go_simp
      refine hK.out _ _ (fun e => by cases e) ?_
      clear hK K
      (try simp only [Act.put, List.setIfInBounds_toArray, List.set_cons_zero, List.set_cons_succ])
      refine M_done (by kernel_rfl) ?_ _
      have s5 := HB5.out.size
      have hbw : Below w.heap.size wo w6 := (HB5.out.mono hs).trans (D6.out.mono (by omega))
      have NB := Lib.hid (set1 (set1 hbw hg0 (cc * 2) (.int .i64 ((gapK d k cc).1 + (d.S k).2.1))) hg0 (cc * 2 + 1) (.int .i64 ((gapK d k cc).2 + (d.S k).2.2)))
      have NS := HS6.out.set (x := (gapK d k cc).1 + (d.S k).2.1) (y := (gapK d k cc).2 + (d.S k).2.2) hc1
      have e9 : (fun i => if i = cc then ((gapK d k cc).1 + (d.S k).2.1, (gapK d k cc).2 + (d.S k).2.2) else gapK d k i) = gapK d (k + 1) := by
        funext i
        simp only [gapK, HC.out]
        by_cases h : i = cc
        · subst h; rw [if_pos rfl, if_pos rfl]
        · rw [if_neg h, if_neg (by omega)]
      rw [e9] at NS
      have NN := Lib.hid NS
      clear NS e9 hbw hT8 f0 f1 h60 h61 g0 g1 g2 g3 t0 t1 t2
      go_wp2_with fail
      go_roundw
      case rel => exact ⟨k + 1, by omega, by go_num, NN.out, HB.out.trans NB.out, ea ▸ HMM.out.up NB.out (Nat.le_refl _)⟩
      case measure => simp [intOf]; omega
    · have hki : (d.m : Int) ≤ (k : Int) := by omega
      obtain rfl : k = d.m := by omega
      go_wp2_with fail
      go_ret
      exact ⟨g, cap, rfl, hg0, HCAP.out, HSS.out, HB.out⟩
end Go.Proofs.Ytpikaohodieeaaa
namespace Go.Proofs.Ytpikaohodieeaaa
open Go.RowKit
set_option linter.unusedSimpArgs false
set_option linter.unusedVariables false
def sumK (S : Nat → Int × Int) (a : Nat) : Nat → Int × Int
  | 0 => (0, 0)
  | k + 1 => addS (sumK S a k) (S (a + k))
theorem sumK_bd {S : Nat → Int × Int} {a n : Nat} (h : ∀ i, i < n → Bd 1000000 (S i)) (k : Nat) (hk : a + k ≤ n) : Bd (1000000 * k) (sumK S a k) := by
  induction k with
  | zero => unfold Bd sumK; simp
  | succ k ih =>
    have h1 := ih (by omega)
    have h2 := h (a + k) (by omega)
    unfold Bd at *
    simp only [sumK, addS]
    omega
theorem bt_low {b B : Nat} {x y : Int} {W W' : World} (h : Bt b x y W) (hb : Below B W W') (hl : b < B) : Bt b x y W' :=
  ⟨low_cell hb hl h.c0, low_cell hb hl h.c1, low_frozen hb hl h.f0, low_frozen hb hl h.f1⟩
set_option maxRecDepth 100000 in
set_option maxHeartbeats 1000000 in
theorem added_le (g n c : Nat) (S : Nat → Int × Int) (a b : Nat) (w : World) (hin : SpR g n S w) (hc : n ≤ c) (hn : n ≤ 200) (hab : a ≤ b) (hbn : b ≤ n) (hbd : ∀ i, i < n → Bd 1000000 (S i)) :
    Calls Try.prog 115 #[.slice (some ⟨g, 0, none⟩) n c, .int .i64 a, .int .i64 b] w fun e w' => e = .returned (Sp (sumK S a (b - a))) ∧ Below w.heap.size w w' := by
  have HIN := Lib.hid hin
  have HBD := Lib.hid hbd
  clear hin hbd
  have d1 : decide ((a : Int) > (b : Int)) = false := decide_eq_false (by omega)
  have d0 : decide (b < a) = false := decide_eq_false (by omega)
  have f1 : (0 : Int) ≤ (a : Int) := by omega
  have f2 : (a : Int) ≤ (b : Int) := by omega
  have f3 : (b : Int) ≤ (c : Int) := by omega
  have f4 : (0 : Int) ≤ (b : Int) := by omega
  have f5 : b ≤ c := by omega
  by_cases hlt : a < b
  · have f6 : a < c := by omega
    have f7 : (a : Int) < (c : Int) := by omega
    have fs : ((b - a : Nat) : Int) = (b : Int) - a := by omega
    clear fs
    obtain ⟨m, hm⟩ : ∃ m, m = b - a := ⟨_, rfl⟩
    rw [← hm]
    have HM := Lib.hid hm
    go_enter Try.func115, Try.ntmps115
    go_wp2_with fail
    rw [← hm]
    clear hm
    obtain ⟨w2, hw2⟩ : ∃ w2 : World, w2 = (w.alloc (.cells #[.int .i64 0, .int .i64 0] 31)).alloc (.cells #[.int .i64 0, .int .i64 0] 31) := ⟨_, rfl⟩
    rw [← hw2]
    have B2 : Below w.heap.size w w2 := by rw [hw2]; exact box2 _ _ _
    have R2 : Bt w.heap.size 0 0 w2 := by rw [hw2]; exact (Bt.new _ _ _ _).up (box1 _ _)
    have S2 : Bt (w.heap.size + 1) (sumK S a 0).1 (sumK S a 0).2 w2 := by
      rw [hw2]
      have := Bt.new (w.alloc (.cells #[.int .i64 0, .int .i64 0] 31)) 31 0 0
      rw [World.size_alloc] at this
      exact this
    clear hw2
    have BB := Lib.hid B2
    have RR := Lib.hid R2
    have SS := Lib.hid S2
    clear B2 R2 S2
    go_loopw [23] (fun i wr => ∃ k : Nat, k ≤ m ∧ i = .int .i64 k ∧ Bt (w.heap.size + 1) (sumK S a k).1 (sumK S a k).2 wr ∧ Bt w.heap.size 0 0 wr ∧ Below w.heap.size w wr) (fun i _ => m - (intOf i).toNat)
    case atStart => exact ⟨0, Nat.zero_le _, rfl, SS.out, RR.out, BB.out⟩
    case round =>
      obtain ⟨k, hk, rfl, hS, hR, hb⟩ := hrel
      obtain ⟨wo, rfl⟩ : ∃ wo : World, wo = wr := ⟨_, rfl⟩
      have hk0 : (0 : Int) ≤ (k : Int) := by omega
      have HS := Lib.hid hS
      have HR := Lib.hid hR
      have HB := Lib.hid hb
      have hs := HB.out.size
      clear hS hR hb
      by_cases hkm : k < m
      · have hki : (k : Int) < (m : Int) := by omega
        have hak : a + k < n := by have := HM.out; omega
        have e0 := (HIN.out.up HB.out).c0 (a + k) hak
        have e1 := (HIN.out.up HB.out).c1 (a + k) hak
        have eo : (a + k) * 2 = a * 2 + k * 2 := by omega
        rw [eo] at e0 e1
        obtain ⟨s0, s1, s2, s3⟩ := HS.out
        have sl := HS.out.lt
        have h1 := sumK_bd HBD.out k (show a + k ≤ n by omega)
        have h2 := HBD.out (a + k) hak
        have KS := Lib.hid fun W => sum_any (sumK S a k) (S (a + k)) W (h1.more (by omega)) (h2.more (by omega))
        clear h1 h2 eo
        go_wp2_with fail
        refine (KS.out _).mono ?_
        rintro e w3 ⟨rfl, hb2⟩
        have D3 := Lib.hid (nextB (box1 wo _) hb2)
        have S3 := HS.out.up D3.out
        have R3 := HR.out.up D3.out
        have z3 := S3.lt
        clear hb2 s0 s1 s2 s3 e0 e1
        have NS := Lib.hid (S3.store (sumK S a (k + 1)).1 (sumK S a (k + 1)).2)
        have hset : Below (w.heap.size + 1) w3 ((w3.setCell ⟨w.heap.size + 1, 0, none⟩ (.int .i64 (sumK S a (k + 1)).1)).setCell ⟨w.heap.size + 1, 1, none⟩ (.int .i64 (sumK S a (k + 1)).2)) := set1 (set1 (Below.refl _ _) (Nat.le_refl _) _ _) (Nat.le_refl _) _ _
        have NR := Lib.hid (bt_low R3 hset (Nat.lt_succ_self _))
        have NB := Lib.hid ((HB.out.trans (D3.out.mono hs)).trans (hset.mono (by omega)))
        obtain ⟨s0, s1, s2, s3⟩ := S3
        clear R3 hset
        go_wp2_with fail
        go_roundw
        case rel => exact ⟨k + 1, by omega, by go_num, NS.out, NR.out, NB.out⟩
        case measure => simp [intOf]; omega
      · have hki : (m : Int) ≤ (k : Int) := by omega
        obtain rfl : k = m := by omega
        obtain ⟨s0, s1, s2, s3⟩ := HS.out
        obtain ⟨r0, r1, r2, r3⟩ := HR.out
        have sl := HS.out.lt
        have rl := HR.out.lt
        have hset : Below w.heap.size wo ((wo.setCell ⟨w.heap.size, 0, none⟩ (.int .i64 (sumK S a k).1)).setCell ⟨w.heap.size, 1, none⟩ (.int .i64 (sumK S a k).2)) := set1 (set1 (Below.refl _ _) (Nat.le_refl _) _ _) (Nat.le_refl _) _ _
        have HF := Lib.hid (HB.out.trans hset)
        clear hset
        have hq := HR.out.store (sumK S a k).1 (sumK S a k).2
        go_wp2_with fail
        obtain ⟨wf, hwf⟩ : ∃ wf : World, wf = (wo.setCell ⟨w.heap.size, 0, none⟩ (.int .i64 (sumK S a k).1)).setCell ⟨w.heap.size, 1, none⟩ (.int .i64 (sumK S a k).2) := ⟨_, rfl⟩
        have HF2 := HF.out
        rw [← hwf] at hq HF2 ⊢
        obtain ⟨q0, q1, _, _⟩ := hq
        exact bodyPost_ret (v := Sp (sumK S a k)) (by simp [results, Try.results115, go_sem, q0, q1]) rfl ⟨rfl, HF2⟩
  · obtain rfl : a = b := by omega
    have fm : a - a = 0 := by omega
    rw [fm]
    go_enter Try.func115, Try.ntmps115
    go_wp2_with fail
    all_goals
      obtain ⟨w2, hw2⟩ : ∃ w2 : World, w2 = (w.alloc (.cells #[.int .i64 0, .int .i64 0] 31)).alloc (.cells #[.int .i64 0, .int .i64 0] 31) := ⟨_, rfl⟩
      rw [← hw2]
      have B2 : Below w.heap.size w w2 := by rw [hw2]; exact box2 _ _ _
      have R2 : Bt w.heap.size 0 0 w2 := by rw [hw2]; exact (Bt.new _ _ _ _).up (box1 _ _)
      have S2 : Bt (w.heap.size + 1) 0 0 w2 := by
        rw [hw2]
        have := Bt.new (w.alloc (.cells #[.int .i64 0, .int .i64 0] 31)) 31 0 0
        rw [World.size_alloc] at this
        exact this
      clear hw2
      have BB := Lib.hid B2
      have RR := Lib.hid R2
      have SS := Lib.hid S2
      clear B2 R2 S2
      go_loopw [23] (fun i wr => i = .int .i64 0 ∧ wr = w2) (fun _ _ => 0)
      case atStart => exact ⟨rfl, rfl⟩
      case round =>
        obtain ⟨rfl, hw⟩ := hrel
        have hw' := hw.symm
        subst hw'
        clear hw
        obtain ⟨s0, s1, s2, s3⟩ := SS.out
        obtain ⟨r0, r1, r2, r3⟩ := RR.out
        have sl := SS.out.lt
        have rl := RR.out.lt
        have hset : Below w.heap.size w2 ((w2.setCell ⟨w.heap.size, 0, none⟩ (.int .i64 0)).setCell ⟨w.heap.size, 1, none⟩ (.int .i64 0)) := set1 (set1 (Below.refl _ _) (by have := BB.out.size; exact Nat.le_refl _) _ _) (Nat.le_refl _) _ _
        have HF := Lib.hid (BB.out.trans hset)
        clear hset
        have hq := RR.out.store 0 0
        go_wp2_with fail
        obtain ⟨wf, hwf⟩ : ∃ wf : World, wf = (w2.setCell ⟨w.heap.size, 0, none⟩ (.int .i64 0)).setCell ⟨w.heap.size, 1, none⟩ (.int .i64 0) := ⟨_, rfl⟩
        have HF2 := HF.out
        rw [← hwf] at hq HF2 ⊢
        obtain ⟨q0, q1, _, _⟩ := hq
        exact bodyPost_ret (v := Sp (0, 0)) (by simp [results, Try.results115, go_sem, q0, q1]) rfl ⟨rfl, HF2⟩
/-- the ticks from a column to another one, by the gaps alone -/
def addedF (S : Nat → Int × Int) (a b : Nat) : Int × Int := if a ≤ b then sumK S a (b - a) else oppS (sumK S b (a - b))
set_option maxRecDepth 100000 in
set_option maxHeartbeats 1000000 in
theorem added_any (g n c : Nat) (S : Nat → Int × Int) (a b : Nat) (w : World) (hin : SpR g n S w) (hc : n ≤ c) (hn : n ≤ 200) (han : a ≤ n) (hbn : b ≤ n) (hbd : ∀ i, i < n → Bd 1000000 (S i)) :
    Calls Try.prog 115 #[.slice (some ⟨g, 0, none⟩) n c, .int .i64 a, .int .i64 b] w fun e w' => e = .returned (Sp (addedF S a b)) ∧ Below w.heap.size w w' := by
  by_cases hab : a ≤ b
  · unfold addedF
    rw [if_pos hab]
    exact added_le g n c S a b w hin hc hn hab hbn hbd
  · unfold addedF
    rw [if_neg hab]
    have K1 : Hid (∀ W, Below w.heap.size w W → Calls Try.prog 115 #[.slice (some ⟨g, 0, none⟩) n c, .int .i64 b, .int .i64 a] W fun e w' => e = .returned (Sp (sumK S b (a - b))) ∧ Below W.heap.size W w') :=
      Lib.hid fun W hW => added_le g n c S b a W (hin.up hW) hc hn (by omega) han hbd
    have hb := (sumK_bd hbd (a - b) (show b + (a - b) ≤ n by omega)).more (show (1000000 * ((a - b : Nat) : Int)) ≤ 1000000000 by omega)
    generalize sumK S b (a - b) = s at *
    have K2 := Lib.hid fun W => opposite_any s W hb
    have d0 : decide (b < a) = true := decide_eq_true (by omega)
    have d1 : decide ((a : Int) > (b : Int)) = true := decide_eq_true (by omega)
    have d2 : b < a := by omega
    clear hin hbd hb hab
    go_enter Try.func115, Try.ntmps115
    go_wp2_with fail
    refine (K1.out _ (box1 _ _)).mono ?_
    rintro e w2 ⟨rfl, hb2⟩
    have R2 := bt_na hb2
    have D2 := Lib.hid (nextB (box1 w _) hb2)
    clear hb2
    go_wp2_with fail
    refine (K2.out _).mono ?_
    rintro e w3 ⟨rfl, hb3⟩
    have R3 := R2.up hb3
    have D3 := Lib.hid (nextB D2.out hb3)
    have hset : Below w.heap.size w3 ((w3.setCell ⟨w.heap.size, 0, none⟩ (.int .i64 (-s.2))).setCell ⟨w.heap.size, 1, none⟩ (.int .i64 (-s.1))) := set1 (set1 (Below.refl _ _) (Nat.le_refl _) _ _) (Nat.le_refl _) _ _
    have HF := Lib.hid (D3.out.trans hset)
    have hq := R3.store (-s.2) (-s.1)
    clear hset hb3 R2
    obtain ⟨r0, r1, r2, r3⟩ := R3
    go_wp2_with fail
    obtain ⟨wf, hwf⟩ : ∃ wf : World, wf = (w3.setCell ⟨w.heap.size, 0, none⟩ (.int .i64 (-s.2))).setCell ⟨w.heap.size, 1, none⟩ (.int .i64 (-s.1)) := ⟨_, rfl⟩
    have HF2 := HF.out
    rw [← hwf] at hq HF2 ⊢
    obtain ⟨q0, q1, _, _⟩ := hq
    exact bodyPost_ret (v := Sp (oppS s)) (by simp [results, Try.results115, go_sem, q0, q1]) rfl ⟨rfl, HF2⟩
end Go.Proofs.Ytpikaohodieeaaa
namespace Go.Proofs.Ytpikaohodieeaaa
open Go.RowKit
set_option linter.unusedSimpArgs false
set_option linter.unusedVariables false
def KeR (d : Drm) (m : Nat) (F : Nat → Int × Int × Int) (n : Nat) (T : Nat → Int) (E : Int) : Prop :=
  ((E = 20 ∨ E = 21) ∧ ChR d m F E) ∨ (DrOk d ∧ MksOk d m F ∧ ((E = 22 ∧ ¬ (n = d.n + 1 ∧ Rdg d.n (gapF d) m F T)) ∨ (E = 0 ∧ n = d.n + 1 ∧ Rdg d.n (gapF d) m F T)))
theorem keR_ex (d : Drm) (m : Nat) (F : Nat → Int × Int × Int) (n : Nat) (T : Nat → Int) : ∃ E, KeR d m F n T E := by
  obtain ⟨E, h⟩ := chR_ex d m F
  have h' := h
  rcases h with ⟨rfl, _⟩ | ⟨rfl, _, _⟩ | ⟨rfl, h1, h2⟩
  · exact ⟨20, .inl ⟨.inl rfl, h'⟩⟩
  · exact ⟨21, .inl ⟨.inr rfl, h'⟩⟩
  · by_cases hr : n = d.n + 1 ∧ Rdg d.n (gapF d) m F T
    · exact ⟨0, .inr ⟨h1, h2, .inr ⟨rfl, hr⟩⟩⟩
    · exact ⟨22, .inr ⟨h1, h2, .inl ⟨rfl, hr⟩⟩⟩
set_option maxRecDepth 100000 in
set_option maxHeartbeats 1000000 in
theorem Keeps_any (d : Drm) (MA : Option Addr) (m mc : Nat) (F : Nat → Int × Int × Int) (TA : Option Addr) (n tc : Nat) (T : Nat → Int) (E : Int) (w : World)
    (hin : DrIn d w.heap.size w) (hm : TrsIn MA m F w.heap.size w) (ht : IntsIn TA n T w.heap.size w) (hE : KeR d m F n T E) :
    Calls Try.prog 35 #[d.v, .slice MA m mc, .slice TA n tc] w fun e w' => e = .returned (.int .i64 E) ∧ Below w.heap.size w w' := by
  have HIN := Lib.hid hin
  have HM := Lib.hid hm
  have HT := Lib.hid ht
  have KC : Hid (∀ E W, Below w.heap.size w W → ChR d m F E → Calls Try.prog 83 #[d.v, .slice MA m mc] W fun e w' => e = .returned (.int .i64 E) ∧ Below W.heap.size W w') :=
    Lib.hid fun E W hW h => check_any d MA m mc F E W ((HIN.out.up hW (Nat.le_refl _)).more hW.size) ((HM.out.up hW (Nat.le_refl _)).more hW.size) h
  clear hin hm ht
  rcases hE with ⟨h1, h2⟩ | ⟨h1, h2, h3⟩
  · have H2 := Lib.hid h2
    have g : (E != 0) = true := by rcases h1 with rfl | rfl <;> rfl
    clear h1 h2
    go_enter Try.func35, Try.ntmps35
    go_wp2_with fail
    refine (KC.out E _ (box1 _ _) H2.out).mono ?_
    rintro e w2 ⟨rfl, hb2⟩
    have D2 := Lib.hid (nextB (box1 w _) hb2)
    clear hb2 KC
    go_wp2_with fail
    go_ret
    exact ⟨rfl, D2.out⟩
  · have H1 := Lib.hid h1
    have H2 := Lib.hid h2
    obtain ⟨R, hR⟩ : ∃ R : Bool, R = true ↔ n = d.n + 1 ∧ Rdg d.n (gapF d) m F T := by
      by_cases hr : n = d.n + 1 ∧ Rdg d.n (gapF d) m F T
      · exact ⟨true, fun _ => hr, fun _ => rfl⟩
      · exact ⟨false, fun e => (by cases e), fun h => absurd h hr⟩
    have HR := Lib.hid hR
    have H3 := Lib.hid h3
    have KI : Hid (∀ g cap W, Below w.heap.size w W → SpR g d.n (gapF d) W → Calls Try.prog 87 #[.slice (some ⟨g, 0, none⟩) d.n cap, .slice MA m mc, .slice TA n tc] W fun e w' => e = .returned (.bool R) ∧ Below W.heap.size W w') :=
      Lib.hid fun g cap W hW hS => isReading_any _ d.n cap (gapF d) MA m mc F TA n tc T R W (hS.sps (by have := H1.out.n2; omega)) ((HM.out.up hW (Nat.le_refl _)).more hW.size) ((HT.out.up hW (Nat.le_refl _)).more hW.size) (fun i hi => (H2.out.2 i hi).1) (by have := H1.out.n2; omega) HR.out
    clear h1 h2 h3 hR
    obtain ⟨x0, x1⟩ := dr_new w d
    go_enter Try.func35, Try.ntmps35
    go_wp2_with fail
    refine (KC.out 0 _ (box1 _ _) (.inr (.inr ⟨rfl, H1.out, H2.out⟩))).mono ?_
    rintro e w2 ⟨rfl, hb2⟩
    have D2 := Lib.hid (nextB (box1 w _) hb2)
    have P2 := (dr_new w d).up hb2
    clear hb2 KC x0 x1
    obtain ⟨x0, x1⟩ := P2
    go_wp2_with fail
    refine (gapsOf_any d _ ((HIN.out.up D2.out (Nat.le_refl _)).more D2.out.size) H1.out).mono ?_
    rintro e w3 ⟨g, cap, rfl, hg, hcap, hS, hb3⟩
    have D3 := Lib.hid (nextB D2.out hb3)
    have HS := Lib.hid hS
    clear hb3 hS hg hcap x0 x1
    go_wp2_with fail
    refine (KI.out g cap _ D3.out HS.out).mono ?_
    rintro e w4 ⟨rfl, hb4⟩
    have D4 := Lib.hid (nextB D3.out hb4)
    clear hb4
    cases R with
    | true =>
      obtain rfl : E = 0 := by
        rcases H3.out with ⟨_, h⟩ | ⟨h, _⟩
        · exact absurd (HR.out.1 rfl) h
        · exact h
      go_wp2_with fail
      go_ret
      exact ⟨rfl, D4.out⟩
    | false =>
      obtain rfl : E = 22 := by
        rcases H3.out with ⟨h, _⟩ | ⟨_, h⟩
        · exact h
        · exact absurd (HR.out.2 h) (by simp)
      go_wp2_with fail
      go_ret
      exact ⟨rfl, D4.out⟩
end Go.Proofs.Ytpikaohodieeaaa
