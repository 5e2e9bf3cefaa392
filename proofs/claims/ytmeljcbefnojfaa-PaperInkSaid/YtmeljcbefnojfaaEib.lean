import Derived.Test.YtmeljcbefnojfaaCmp
namespace Go.Proofs.Ytmeljcbefnojfaa
open Go.RowKit
theorem eg_both : ∀ args w, (callFunc 109 args).run Try.prog w = .ok (.enter 109 args) w := enters_of Try.func109 (by kernel_rfl) rfl
theorem eg_either : ∀ args w, (callFunc 113 args).run Try.prog w = .ok (.enter 113 args) w := enters_of Try.func113 (by kernel_rfl) rfl
theorem eg_excludes : ∀ args w, (callFunc 116 args).run Try.prog w = .ok (.enter 116 args) w := enters_of Try.func116 (by kernel_rfl) rfl
theorem SetOk.spok {S : Nat → Int × Int} {n : Nat} (h : SetOk S n) : SpOk S n := by
  intro i hi
  have h0 := h i hi
  have hb := (SetOk.lst_bd (k := i) (fun j hj => h j (by omega))).1
  exact ⟨h0.2.1, by omega, by omega⟩
/-- the rows of a sheet are lists; all lies from a block on -/
def ClsL (A : Option Addr) (n : Nat) (Lc : Nat → List (Int × Int)) (B0 : Nat) (w : World) : Prop := ∃ X : Cls, ClsIn A n X w.heap.size w ∧ (∀ c, c < n → X.L c = (Lc c).length ∧ firstK (X.S c) (X.L c) = Lc c) ∧ (∀ a, A = some a → B0 ≤ a.block) ∧ ∀ c, c < n → ∀ a, X.A c = some a → B0 ≤ a.block
theorem ClsL.mono {A : Option Addr} {n B0 B1 : Nat} {Lc : Nat → List (Int × Int)} {w : World} (h : ClsL A n Lc B0 w) (hB : B1 ≤ B0) : ClsL A n Lc B1 w := by
  obtain ⟨X, h1, h2, h3, h4⟩ := h
  exact ⟨X, h1, h2, fun a e => Nat.le_trans hB (h3 a e), fun c hc a e => Nat.le_trans hB (h4 c hc a e)⟩
theorem keepB {w : World} {p : Addr} {b o : Nat} {u v : Value} (h : w.cell? p = some v) (hp : p.block ≠ b) : (w.setCell ⟨b, o, none⟩ u).cell? p = some v := keepA h hp
theorem ClsL.set {A : Option Addr} {n B0 b : Nat} {Lc : Nat → List (Int × Int)} {w : World} (h : ClsL A n Lc B0 w) (hb : b < B0) (o : Nat) (u : Value) : ClsL A n Lc B0 (w.setCell ⟨b, o, none⟩ u) := by
  obtain ⟨X, ⟨h0, h1⟩, h2, h3, h4⟩ := h
  refine ⟨X, ⟨h0, fun i hi => ?_⟩, h2, h3, h4⟩
  obtain ⟨a, e, hl, hc, hs⟩ := h1 i hi
  have ha := h3 a e
  refine ⟨a, e, by rw [World.size_setCell]; exact hl, keepB hc (by rw [add_block]; omega), hs.1, fun j hj => ?_⟩
  obtain ⟨p, e', hl', c0, c1⟩ := hs.2 j hj
  have hp := h4 i hi p e'
  exact ⟨p, e', by rw [World.size_setCell]; exact hl', keepB c0 (by rw [add_block]; omega), keepB c1 (by simp only [add_block]; omega)⟩
theorem ClsL.up {A : Option Addr} {n B0 : Nat} {Lc : Nat → List (Int × Int)} {w w' : World} (h : ClsL A n Lc B0 w) (hb : Below w.heap.size w w') : ClsL A n Lc B0 w' := by
  obtain ⟨X, h1, h2, h3, h4⟩ := h
  exact ⟨X, (h1.up hb (Nat.le_refl _)).more hb.size, h2, h3, h4⟩
/-- columns of one's own, read as rows -/
theorem cols_read {w : World} {G n : Nat} {Lc : Nat → List (Int × Int)} (h : ColsB w G n n Lc w) (hl : ∀ c, c < n → (Lc c).length ≤ 1000) : ∃ X : Cls, (∀ c, c < n → w.cell? ⟨G, c * 2, none⟩ = some (.slice (X.A c) (X.L c) (X.C c)) ∧ X.L c = (Lc c).length ∧ firstK (X.S c) (X.L c) = Lc c ∧ SpsIn (X.A c) (X.L c) (X.S c) w.heap.size w ∧ ∀ a, X.A c = some a → G ≤ a.block) := by
  obtain ⟨_, cur, h2, h3, h4⟩ := h
  have each : ∀ c, c < n → ∃ r : Option Addr × Nat × Nat × (Nat → Int × Int), w.cell? ⟨G, c * 2, none⟩ = some (.slice r.1 r.2.1 r.2.2.1) ∧ r.2.1 = (Lc c).length ∧ firstK r.2.2.2 r.2.1 = Lc c ∧ SpsIn r.1 r.2.1 r.2.2.2 w.heap.size w ∧ ∀ a, r.1 = some a → G ≤ a.block := by
    intro c hc
    obtain ⟨v, hv, ho⟩ := h4 c hc
    have hlc := hl c hc
    obtain ⟨A, cap, rfl⟩ := own_form ho
    refine ⟨(A, (Lc c).length, cap, fun i => (Lc c).getD i (0, 0)), by simp [World.cell?, h2, hv], rfl, ?_, ⟨(by show ((Lc c).length : Int) ≤ _; omega), fun i hi => ?_⟩, fun a e => ?_⟩
    · apply List.ext_getElem?
      intro i
      simp only [firstK]
      by_cases hi : i < (Lc c).length
      · simp [hi, List.getD]
      · rw [List.getElem?_eq_none (by simp; omega), List.getElem?_eq_none (by omega)]
    · have hi : i < (Lc c).length := hi
      have hq : (Lc c)[i]? = some ((Lc c)[i]'hi) := List.getElem?_eq_getElem hi
      have ho' := ho
      obtain ⟨_, hx | ⟨g, cap', cu, e1, e2, e3, e4⟩⟩ := ho
      · omega
      · cases e1
        obtain ⟨u0, u1⟩ := own_span ho' i _ hq
        have hgl := (Array.getElem?_eq_some_iff.1 e3).1
        have hd : (Lc c).getD i (0, 0) = (Lc c)[i]'hi := by simp [List.getD, hq]
        refine ⟨⟨g, 0, none⟩, rfl, hgl, ?_, ?_⟩
        · rw [Addr.add_lit, Nat.zero_add, u0]; simp only [hd]
        · simp only [Addr.add_lit, Nat.zero_add]; rw [u1]; simp only [hd]
    · obtain ⟨_, hx | ⟨g, cap', cu, e1, e2, e3, e4⟩⟩ := ho
      · cases e; cases hx.1
      · cases e1; cases e; exact e2
  haveI : Inhabited (Option Addr × Nat × Nat × (Nat → Int × Int)) := ⟨(none, 0, 0, fun _ => (0, 0))⟩
  obtain ⟨R, hR⟩ := Go.Deep.choose_lt each
  exact ⟨⟨fun c => (R c).1, fun c => (R c).2.1, fun c => (R c).2.2.1, fun c => (R c).2.2.2⟩, fun c hc => hR c hc⟩
/-- a sheet, or an error -/
def InkP (n : Nat) (Lc : Nat → List (Int × Int)) (E : Int) (w : World) (e : Ending) (w' : World) : Prop :=
  ∃ A k c, e = .returned (.tuple #[.agg #[.slice A k c], .int .i64 E]) ∧ Below w.heap.size w w' ∧ (E = 0 ∧ k = n ∧ ClsL A n Lc w.heap.size w' ∨ E ≠ 0 ∧ k = 0)
set_option maxRecDepth 100000 in
set_option maxHeartbeats 4000000 in
theorem Either_err (A B : Option Addr) (n m c d : Nat) (x y : Cls) (E : Int) (w : World) (ha : ClsIn A n x w.heap.size w) (hb : ClsIn B m y w.heap.size w)
    (hE : ¬ InkOk x n ∧ E = 12 ∨ InkOk x n ∧ ¬ InkOk y m ∧ E = 12 ∨ InkOk x n ∧ InkOk y m ∧ n ≠ m ∧ E = 1) (Lc : Nat → List (Int × Int)) :
    Calls Try.prog 58 #[.agg #[.slice A n c], .agg #[.slice B m d]] w (InkP n Lc E w) := by
  have hE0 : E ≠ 0 ∧ 1 ≤ E ∧ E ≤ 12 := by rcases hE with h | h | h <;> omega
  have K : Hid (∀ W, Below w.heap.size w W → Calls Try.prog 108 #[.agg #[.slice A n c], .agg #[.slice B m d], .agg #[.func (.func 113) #[] #[]]] W fun e w' => e = .returned (.tuple #[.slice none 0 0, .int .i64 E]) ∧ Below W.heap.size W w') := Lib.hid fun W h =>
    compare_cerr 113 A B n m c d x y E W ((ha.up h (Nat.le_refl _)).more h.size) ((hb.up h (Nat.le_refl _)).more h.size) hE
  have d1 : (E == 0) = false := by simp; omega
  have d2 : (E != 0) = true := by simp; omega
  have HE0 := Lib.hid hE0
  clear ha hb hE hE0
  go_enter Try.func58, Try.ntmps58
  go_wp2_with fail
  refine (K.out _ (box3 _ _ _ _)).mono ?_
  rintro e w1 ⟨rfl, hb1⟩
  have r0 := low_cell (b := w.heap.size + 1 + 1) (o := 0) (v := .slice none 0 0) hb1 (by simp only [World.size_alloc]; omega) (by go_simp)
  have r1 := low_frozen (b := w.heap.size + 1 + 1) (o := 0) (v := false) hb1 (by simp only [World.size_alloc]; omega) (by go_simp)
  have hB := Lib.hid ((box3 w _ _ _).trans (hb1.mono (by simp only [World.size_alloc]; omega)))
  clear hb1
  go_wp2_with fail
  refine bodyPost_ret (v := .tuple #[.agg #[.slice none 0 0], .int .i64 E]) ?_ rfl ⟨none, 0, 0, rfl, ?_, .inr ⟨HE0.out.1, rfl⟩⟩
  · simp [results, Try.results58, go_sem, r0]
  · first | exact set1 hB.out (by omega) _ _ | exact hB.out
/-- what becomes of columns that are put into a sheet -/
theorem sheet_inkp {w : World} {G n : Nat} {Lc : Nat → List (Int × Int)} (W : World) (hn : n ≤ 200) (hl : ∀ c, c < n → (Lc c).length ≤ 1000) (hC : ColsB W G n n Lc W) (_hW : Below w.heap.size w W) :
    ∃ E : Int, (E = 0 ∧ (∀ c, c < n → (Lc c).length ≤ 8) ∨ E = 2 ∧ ¬ (∀ c, c < n → (Lc c).length ≤ 8)) ∧ Calls Try.prog 106 #[.slice (some ⟨G, 0, none⟩) n n] W fun e w' => ∃ A k c, e = .returned (.tuple #[.agg #[.slice A k c], .int .i64 E]) ∧ Below W.heap.size W w' ∧ (E = 0 ∧ k = n ∧ ClsL A n Lc G w' ∨ E ≠ 0 ∧ k = 0) := by
  obtain ⟨X, hX⟩ := cols_read hC hl
  have hG : G < W.heap.size := by obtain ⟨_, cur, h2, _⟩ := hC; exact (Array.getElem?_eq_some_iff.1 h2).1
  have hXX : ∀ c, c < n → W.cell? ⟨G, c * 2, none⟩ = some (.slice (X.A c) (X.L c) (X.C c)) ∧ X.L c ≤ 1000 := fun c hc => ⟨(hX c hc).1, by rw [(hX c hc).2.1]; exact hl c hc⟩
  by_cases h8 : ∀ c, c < n → (Lc c).length ≤ 8
  · refine ⟨0, .inl ⟨rfl, h8⟩, ?_⟩
    refine (sheet_any G n X W true hn hG hXX ⟨fun _ c hc => by rw [(hX c hc).2.1]; exact h8 c hc, fun _ => rfl⟩).mono fun e w' hq => ?_
    obtain ⟨H, rfl, hb, h1, h2, h3⟩ := hq.1 rfl
    refine ⟨_, _, _, rfl, hb, .inl ⟨rfl, rfl, X, ⟨by omega, fun c hc => ⟨⟨H, 0, none⟩, rfl, h2, ?_, ((hX c hc).2.2.2.1.up hb (Nat.le_refl _)).more hb.size⟩⟩, fun c hc => ⟨(hX c hc).2.1, (hX c hc).2.2.1⟩, fun a e => by cases e; show G ≤ H; omega, fun c hc => (hX c hc).2.2.2.2⟩⟩
    rw [Addr.add_lit, Nat.zero_add]
    exact h3 c hc
  · refine ⟨2, .inr ⟨rfl, h8⟩, ?_⟩
    refine (sheet_any G n X W false hn hG hXX ⟨(fun e => by cases e), fun h => absurd (fun c hc => by have := h c hc; rw [(hX c hc).2.1] at this; exact this) h8⟩).mono fun e w' hq => ?_
    obtain ⟨rfl, hb⟩ := hq.2 rfl
    exact ⟨none, 0, 0, rfl, hb, .inr ⟨by decide, rfl⟩⟩
theorem putAll_len2 (S R : Nat → Int × Int) (n m : Nat) : (putAll (putAll [] (firstK S n)) (firstK R m)).length ≤ n + m := by
  have h1 := putAll_length (putAll [] (firstK S n)) (firstK R m)
  have h2 := putAll_length [] (firstK S n)
  rw [firstK_length] at h1 h2
  simp at h2
  omega
set_option maxRecDepth 100000 in
set_option maxHeartbeats 4000000 in
theorem Either_ok (A B : Option Addr) (n c d : Nat) (x y : Cls) (w : World) (ha : ClsIn A n x w.heap.size w) (hb : ClsIn B n y w.heap.size w) (hx : InkOk x n) (hy : InkOk y n) (Lc : Nat → List (Int × Int)) (hLc : Lc = fun k => eitL (x.S k) (y.S k) (x.L k) (y.L k)) :
    ∃ E : Int, (E = 0 ∧ (∀ c, c < n → (Lc c).length ≤ 8) ∨ E = 2 ∧ ¬ (∀ c, c < n → (Lc c).length ≤ 8)) ∧ Calls Try.prog 58 #[.agg #[.slice A n c], .agg #[.slice B n d]] w (InkP n Lc E w) := by
  have hlen : ∀ c, c < n → (Lc c).length ≤ 1000 := fun c hc => by
    rw [hLc]
    unfold eitL
    have h1 := (hx.2.2 c hc).1
    have h2 := (hy.2.2 c hc).1
    have h3 := putAll_len2 (x.S c) (y.S c) (x.L c) (y.L c)
    simp only
    split <;> simp <;> omega
  obtain ⟨E, hE⟩ : ∃ E : Int, (E = 0 ∧ (∀ c, c < n → (Lc c).length ≤ 8) ∨ E = 2 ∧ ¬ (∀ c, c < n → (Lc c).length ≤ 8)) := by
    by_cases h8 : ∀ c, c < n → (Lc c).length ≤ 8
    · exact ⟨0, .inl ⟨rfl, h8⟩⟩
    · exact ⟨2, .inr ⟨rfl, h8⟩⟩
  refine ⟨E, hE, ?_⟩
  have K : Hid (∀ W, Below w.heap.size w W → Calls Try.prog 108 #[.agg #[.slice A n c], .agg #[.slice B n d], .agg #[.func (.func 113) #[] #[]]] W (ColsP W n Lc)) := Lib.hid fun W h => by
    have ha' := (ha.up h (Nat.le_refl _)).more h.size
    have hb' := (hb.up h (Nat.le_refl _)).more h.size
    refine compare_col 113 eg_either A B n c d x y Lc W ha' hb' hx hy (fun k hk W2 h2 => ?_)
    rw [hLc]
    obtain ⟨_, _, _, _, hsa⟩ := (ha'.up h2 (Nat.le_refl _)).2 k hk
    obtain ⟨_, _, _, _, hsb⟩ := (hb'.up h2 (Nat.le_refl _)).2 k hk
    have r1 := hx.2.2 k hk
    have r2 := hy.2.2 k hk
    exact either_any _ _ _ _ _ _ _ _ W2 (by have := r1.1; omega) (by have := r2.1; omega) (hsa.more h2.size) (hsb.more h2.size) r1.2.spok r2.2.spok
  have KS : Hid (∀ G W, ColsB W G n n Lc W → w.heap.size + 1 + 1 + 1 ≤ G → Below w.heap.size w W → Calls Try.prog 106 #[.slice (some ⟨G, 0, none⟩) n n] W fun e w' => ∃ A k c, e = .returned (.tuple #[.agg #[.slice A k c], .int .i64 E]) ∧ Below W.heap.size W w' ∧ Hid (E = 0 ∧ k = n ∧ ClsL A n Lc (w.heap.size + 1 + 1 + 1) w' ∨ E ≠ 0 ∧ k = 0)) := Lib.hid fun G W hC hGl hW => by
    obtain ⟨E', hE', hc⟩ := sheet_inkp (w := w) W hx.2.1 hlen hC hW
    have : E' = E := by rcases hE with h | h <;> rcases hE' with h' | h' <;> first | omega | exact absurd h.2 h'.2 | exact absurd h'.2 h.2
    subst this
    exact hc.mono fun e w' h => by obtain ⟨a, b, c, h1, h2, h3⟩ := h; exact ⟨a, b, c, h1, h2, Lib.hid (by rcases h3 with h3 | h3; exact .inl ⟨h3.1, h3.2.1, h3.2.2.mono hGl⟩; exact .inr h3)⟩
  clear ha hb hx hy hLc hlen hE
  go_enter Try.func58, Try.ntmps58
  go_wp2_with fail
  refine (K.out _ (box3 _ _ _ _)).mono ?_
  rintro e w1 ⟨G, rfl, hGl, hC, hb1⟩
  simp only [World.size_alloc] at hGl
  have hB0 := (box3 w _ _ _).trans (hb1.mono (by simp only [World.size_alloc]; omega))
  have hz : w.heap.size + 1 + 1 < w1.heap.size := by have := hb1.size; simp only [World.size_alloc] at this; omega
  have r0 := low_cell (b := w.heap.size + 1 + 1) (o := 0) (v := .slice none 0 0) hb1 (by simp only [World.size_alloc]; omega) (by go_simp)
  have r1 := low_frozen (b := w.heap.size + 1 + 1) (o := 0) (v := false) hb1 (by simp only [World.size_alloc]; omega) (by go_simp)
  have KS1 := Lib.hid (KS.out G w1 ⟨Below.refl _ _, hC.blk⟩ hGl hB0)
  have HB0 := Lib.hid hB0
  clear hC hb1 hB0
  go_wp2_with fail
  refine KS1.out.mono ?_
  rintro e w2 ⟨A', k', c', rfl, hb2, HF⟩
  have r2 := cell_up hb2 hz r0
  have r3 := frozen_up hb2 hz r1
  have hB := Lib.hid (HB0.out.trans (hb2.mono HB0.out.size))
  have hz2 : w.heap.size + 1 + 1 < w2.heap.size := Nat.lt_of_lt_of_le hz hb2.size
  clear hb2 r0 r1
  go_wp2_with fail
  refine bodyPost_ret (v := .tuple #[.agg #[.slice A' k' c'], .int .i64 E]) ?_ rfl ⟨A', k', c', rfl, set1 hB.out (by omega) _ _, ?_⟩
  · simp [results, Try.results58, go_sem, r2]
  · rcases HF.out with h | h
    · exact .inl ⟨h.1, h.2.1, (h.2.2.set (by omega) _ _).mono (by omega)⟩
    · exact .inr h
end Go.Proofs.Ytmeljcbefnojfaa
namespace Go.Proofs.Ytmeljcbefnojfaa
open Go.RowKit
/-- what Both answers: too many spans, or nothing that is common, or a sheet -/
def BothE (x : Cls) (n : Nat) (Lc : Nat → List (Int × Int)) (E E2 : Int) : Prop :=
  (E = 2 ∧ E2 = 2 ∧ ¬ (∀ c, c < n → (Lc c).length ≤ 8)) ∨ (E = 0 ∧ E2 = 3 ∧ (∀ c, c < n → (Lc c).length ≤ 8) ∧ ∃ c, c < n ∧ (Lc c).length = 0 ∧ 0 < x.L c) ∨ (E = 0 ∧ E2 = 0 ∧ (∀ c, c < n → (Lc c).length ≤ 8) ∧ ∀ c, c < n → ¬ ((Lc c).length = 0 ∧ 0 < x.L c))
theorem bothE_ex (x : Cls) (n : Nat) (Lc : Nat → List (Int × Int)) (E : Int) (h : E = 0 ∧ (∀ c, c < n → (Lc c).length ≤ 8) ∨ E = 2 ∧ ¬ (∀ c, c < n → (Lc c).length ≤ 8)) : ∃ E2, BothE x n Lc E E2 := by
  rcases h with h | h
  · by_cases h2 : ∃ c, c < n ∧ (Lc c).length = 0 ∧ 0 < x.L c
    · exact ⟨3, .inr (.inl ⟨h.1, rfl, h.2, h2⟩)⟩
    · exact ⟨0, .inr (.inr ⟨h.1, rfl, h.2, fun c hc hh => h2 ⟨c, hc, hh⟩⟩)⟩
  · exact ⟨2, .inl ⟨h.1, rfl, h.2⟩⟩
set_option maxRecDepth 100000 in
set_option maxHeartbeats 4000000 in
theorem Both_err (A B : Option Addr) (n m c d : Nat) (x y : Cls) (E : Int) (w : World) (ha : ClsIn A n x w.heap.size w) (hb : ClsIn B m y w.heap.size w)
    (hE : ¬ InkOk x n ∧ E = 12 ∨ InkOk x n ∧ ¬ InkOk y m ∧ E = 12 ∨ InkOk x n ∧ InkOk y m ∧ n ≠ m ∧ E = 1) (Lc : Nat → List (Int × Int)) :
    Calls Try.prog 56 #[.agg #[.slice A n c], .agg #[.slice B m d]] w (InkP n Lc E w) := by
  have hE0 : E ≠ 0 ∧ 1 ≤ E ∧ E ≤ 12 := by rcases hE with h | h | h <;> omega
  have K : Hid (∀ W, Below w.heap.size w W → Calls Try.prog 108 #[.agg #[.slice A n c], .agg #[.slice B m d], .agg #[.func (.func 109) #[] #[]]] W fun e w' => e = .returned (.tuple #[.slice none 0 0, .int .i64 E]) ∧ Below W.heap.size W w') := Lib.hid fun W h =>
    compare_cerr 109 A B n m c d x y E W ((ha.up h (Nat.le_refl _)).more h.size) ((hb.up h (Nat.le_refl _)).more h.size) hE
  have d1 : (E == 0) = false := by simp; omega
  have d2 : (E != 0) = true := by simp; omega
  have HE0 := Lib.hid hE0
  clear ha hb hE hE0
  go_enter Try.func56, Try.ntmps56
  go_wp2_with fail
  refine (K.out _ (box3 _ _ _ _)).mono ?_
  rintro e w1 ⟨rfl, hb1⟩
  have r0 := low_cell (b := w.heap.size + 1 + 1) (o := 0) (v := .slice none 0 0) hb1 (by simp only [World.size_alloc]; omega) (by go_simp)
  have r1 := low_frozen (b := w.heap.size + 1 + 1) (o := 0) (v := false) hb1 (by simp only [World.size_alloc]; omega) (by go_simp)
  have hB := Lib.hid ((box3 w _ _ _).trans (hb1.mono (by simp only [World.size_alloc]; omega)))
  clear hb1
  go_wp2_with fail
  refine bodyPost_ret (v := .tuple #[.agg #[.slice none 0 0], .int .i64 E]) ?_ rfl ⟨none, 0, 0, rfl, ?_, .inr ⟨HE0.out.1, rfl⟩⟩
  · simp [results, Try.results56, go_sem, r0]
  · first | exact set1 hB.out (by omega) _ _ | exact hB.out
set_option maxRecDepth 100000 in
set_option maxHeartbeats 4000000 in
theorem Both_okk (A B : Option Addr) (n c d : Nat) (x y : Cls) (w : World) (ha : ClsIn A n x w.heap.size w) (hb : ClsIn B n y w.heap.size w) (hx : InkOk x n) (hy : InkOk y n) (Lc : Nat → List (Int × Int)) (hLc : Lc = fun k => bthL (x.S k) (y.S k) (x.L k) (y.L k)) :
    ∃ E E2 : Int, BothE x n Lc E E2 ∧ Calls Try.prog 56 #[.agg #[.slice A n c], .agg #[.slice B n d]] w (InkP n Lc E2 w) := by
  have hlen : ∀ c, c < n → (Lc c).length ≤ 1000 := fun c hc => by
    rw [hLc]
    unfold bthL
    have h1 := (hx.2.2 c hc).1
    have h2 := (hy.2.2 c hc).1
    have h3 := putAll_len2 (x.S c) (y.S c) (x.L c) (y.L c)
    have h4 := bothL_length (x.S c) (firstK (y.S c) (y.L c)) (x.L c)
    rw [firstK_length] at h4
    have h5 : x.L c * y.L c ≤ 8 * 8 := Nat.mul_le_mul h1 h2
    simp only
    split <;> omega
  obtain ⟨E, hE⟩ : ∃ E : Int, (E = 0 ∧ (∀ c, c < n → (Lc c).length ≤ 8) ∨ E = 2 ∧ ¬ (∀ c, c < n → (Lc c).length ≤ 8)) := by
    by_cases h8 : ∀ c, c < n → (Lc c).length ≤ 8
    · exact ⟨0, .inl ⟨rfl, h8⟩⟩
    · exact ⟨2, .inr ⟨rfl, h8⟩⟩
  obtain ⟨E2, hE2⟩ := bothE_ex x n Lc E hE
  refine ⟨E, E2, hE2, ?_⟩
  have K : Hid (∀ W, Below w.heap.size w W → Calls Try.prog 108 #[.agg #[.slice A n c], .agg #[.slice B n d], .agg #[.func (.func 109) #[] #[]]] W (ColsP W n Lc)) := Lib.hid fun W h => by
    have ha' := (ha.up h (Nat.le_refl _)).more h.size
    have hb' := (hb.up h (Nat.le_refl _)).more h.size
    refine compare_col 109 eg_both A B n c d x y Lc W ha' hb' hx hy (fun k hk W2 h2 => ?_)
    rw [hLc]
    obtain ⟨_, _, _, _, hsa⟩ := (ha'.up h2 (Nat.le_refl _)).2 k hk
    obtain ⟨_, _, _, _, hsb⟩ := (hb'.up h2 (Nat.le_refl _)).2 k hk
    have r1 := hx.2.2 k hk
    have r2 := hy.2.2 k hk
    exact both_any _ _ _ _ _ _ _ _ W2 r1.1 r2.1 (hsa.more h2.size) (hsb.more h2.size) r1.2.spok r2.2.spok
  have KS : Hid (∀ G W, ColsB W G n n Lc W → w.heap.size + 1 + 1 + 1 ≤ G → Below w.heap.size w W → Calls Try.prog 106 #[.slice (some ⟨G, 0, none⟩) n n] W fun e w' => ∃ A k c, e = .returned (.tuple #[.agg #[.slice A k c], .int .i64 E]) ∧ Below W.heap.size W w' ∧ Hid (E = 0 ∧ k = n ∧ ClsL A n Lc (w.heap.size + 1 + 1 + 1) w' ∨ E ≠ 0 ∧ k = 0)) := Lib.hid fun G W hC hGl hW => by
    obtain ⟨E', hE', hc⟩ := sheet_inkp (w := w) W hx.2.1 hlen hC hW
    have : E' = E := by rcases hE with h | h <;> rcases hE' with h' | h' <;> first | omega | exact absurd h.2 h'.2 | exact absurd h'.2 h.2
    subst this
    exact hc.mono fun e w' h => by obtain ⟨a, b, c, h1, h2, h3⟩ := h; exact ⟨a, b, c, h1, h2, Lib.hid (by rcases h3 with h3 | h3; exact .inl ⟨h3.1, h3.2.1, h3.2.2.mono hGl⟩; exact .inr h3)⟩
  have HA := Lib.hid ha
  have HBE := Lib.hid hE2
  have hn' : (n : Int) ≤ 200 := by have := hx.2.1; omega
  clear ha hb hx hy hLc hlen hE hE2
  go_enter Try.func56, Try.ntmps56
  go_wp2_with fail
  refine (K.out _ (box3 _ _ _ _)).mono ?_
  rintro e w1 ⟨G, rfl, hGl, hC, hb1⟩
  simp only [World.size_alloc] at hGl
  have hB0 := (box3 w _ _ _).trans (hb1.mono (by simp only [World.size_alloc]; omega))
  have hz : w.heap.size + 1 + 1 < w1.heap.size := by have := hb1.size; simp only [World.size_alloc] at this; omega
  have r0 := low_cell (b := w.heap.size + 1 + 1) (o := 0) (v := .slice none 0 0) hb1 (by simp only [World.size_alloc]; omega) (by go_simp)
  have r1 := low_frozen (b := w.heap.size + 1 + 1) (o := 0) (v := false) hb1 (by simp only [World.size_alloc]; omega) (by go_simp)
  have q0 := low_cell (b := w.heap.size) (o := 0) (v := .slice A n c) hb1 (by simp only [World.size_alloc]; omega) (by go_simp)
  have KS1 := Lib.hid (KS.out G w1 ⟨Below.refl _ _, hC.blk⟩ hGl hB0)
  have HB0 := Lib.hid hB0
  clear hC hb1 hB0
  go_wp2_with fail
  refine KS1.out.mono ?_
  rintro e w2 ⟨A', k', c', rfl, hb2, HF⟩
  have hz2 : w.heap.size + 1 + 1 < w2.heap.size := Nat.lt_of_lt_of_le hz hb2.size
  have r2 := cell_up hb2 hz r0
  have r3 := frozen_up hb2 hz r1
  have q1 := cell_up hb2 (by omega) q0
  have hB := Lib.hid (HB0.out.trans (hb2.mono HB0.out.size))
  clear hb2 r0 r1 q0
  by_cases hE0 : E = 0
  · obtain ⟨he0, hk', hcl⟩ : E = 0 ∧ k' = n ∧ ClsL A' n Lc (w.heap.size + 1 + 1 + 1) w2 := by rcases HF.out with h | h; exact h; exact absurd hE0 h.1
    subst hk'
    subst hE0
    have HCL := Lib.hid hcl
    obtain ⟨X, hX1, hX2, hX3, hX4⟩ := hcl
    obtain ⟨w3, hw3⟩ : ∃ w3, w3 = w2.alloc (.cells #[.slice A' k' c'] 29) := ⟨_, rfl⟩
    have hb3 : Below w2.heap.size w2 w3 := by rw [hw3]; exact box1 _ _
    have hsz3 : w3.heap.size = w2.heap.size + 1 := by rw [hw3]; exact World.size_alloc _ _
    have HX1 := Lib.hid (hX1.up hb3 (Nat.le_refl _))
    have HX2 := Lib.hid hX2
    have HC3 := Lib.hid (HCL.out.up hb3)
    have g0 := cell_up hb3 hz2 r2
    have g1 := frozen_up hb3 hz2 r3
    have g2 := cell_up hb3 (by omega) q1
    have g3 : w3.cell? ⟨w2.heap.size, 0, none⟩ = some (.slice A' k' c') := by rw [hw3]; go_simp
    have hBW := Lib.hid (hB.out.trans (hb3.mono hB.out.size))
    have HA3 := Lib.hid (HA.out.up hBW.out (Nat.le_refl _))
    have H3 := Lib.hid hw3
    clear hX1 hX2 hX3 hX4 hw3 hb3 he0 r2 r3 q1
    go_wp2_with fail
    rw [← H3.out]
    go_loopw [9, 10, 34] (fun _ _ i wr => ∃ j : Nat, j ≤ k' ∧ i = .int .i64 j ∧ (∀ c, c < j → ¬ ((Lc c).length = 0 ∧ 0 < x.L c)) ∧ wr = w3) (fun _ _ i _ => k' - (intOf i).toNat)
    case atStart => exact ⟨0, Nat.zero_le _, rfl, fun c hc => absurd hc (by omega), rfl⟩
    case round =>
      obtain ⟨j, hj, rfl, hno, rfl⟩ := hrel
      have HNO := Lib.hid hno
      have hj0 : (0 : Int) ≤ (j : Int) := by omega
      clear hno
      by_cases hlt : j < k'
      · obtain ⟨a, rfl, _, c0, _⟩ := HX1.out.2 j hlt
        obtain ⟨b, rfl, _, d0, _⟩ := HA3.out.2 j hlt
        have hji : (j : Int) < (k' : Int) := by omega
        have hlj := (HX2.out j hlt).1
        by_cases t1 : X.L j = 0
        · by_cases t2 : 0 < x.L j
          · obtain rfl : E2 = 3 := by
              rcases HBE.out with h | h | h
              · exact absurd h.1 (by decide)
              · exact h.2.1
              · exact absurd ⟨by omega, t2⟩ (h.2.2.2 j hlt)
            have e1 : ((X.L j : Int) == 0) = true := by simp [t1]
            have e2 : decide (0 < x.L j) = true := by simpa using t2
            clear t1 t2 hlj
            go_wp2_with fail
            refine bodyPost_ret (v := .tuple #[.agg #[.slice none 0 0], .int .i64 3]) ?_ rfl ⟨none, 0, 0, rfl, ?_, .inr ⟨by decide, rfl⟩⟩
            · simp [results, Try.results56, go_sem, g0]
            · first | exact set1 hBW.out (by omega) _ _ | exact hBW.out
          · have e1 : ((X.L j : Int) == 0) = true := by simp [t1]
            have e2 : decide (0 < x.L j) = false := by simpa using t2
            have T2 := Lib.hid t2
            clear t1 t2 hlj
            go_wp2_with fail
            go_roundw
            case rel => exact ⟨j + 1, by omega, by go_num, (fun c hc => by
              by_cases hcj : c = j
              · subst hcj; exact fun hh => T2.out hh.2
              · exact HNO.out c (by omega)), by first | rfl | trivial⟩
            case measure => simp [intOf]; omega
        · have e1 : ((X.L j : Int) == 0) = false := by simp [t1]
          have T1 := Lib.hid t1
          have HLJ := Lib.hid hlj
          clear t1 hlj
          go_wp2_with fail
          go_roundw
          case rel => exact ⟨j + 1, by omega, by go_num, (fun c hc => by
            by_cases hcj : c = j
            · subst hcj; exact fun hh => T1.out (by have := HLJ.out; omega)
            · exact HNO.out c (by omega)), by first | rfl | trivial⟩
          case measure => simp [intOf]; omega
      · have hji : (k' : Int) ≤ (j : Int) := by omega
        obtain rfl : k' = j := by omega
        obtain rfl : E2 = 0 := by
          rcases HBE.out with h | h | h
          · exact absurd h.1 (by decide)
          · obtain ⟨c, hc, hh⟩ := h.2.2.2; exact absurd hh (HNO.out c hc)
          · exact h.2.1
        go_wp2_with fail
        refine bodyPost_ret (v := .tuple #[.agg #[.slice A' k' c'], .int .i64 0]) ?_ rfl ⟨A', k', c', rfl, set1 hBW.out (by omega) _ _, .inl ⟨rfl, rfl, (HC3.out.set (by omega) _ _).mono (by omega)⟩⟩
        simp [results, Try.results56, go_sem, g0]
  · have he : E = 2 ∧ E2 = 2 := by
      rcases HBE.out with h | h | h
      · exact ⟨h.1, h.2.1⟩
      · exact absurd h.1 hE0
      · exact absurd h.1 hE0
    obtain ⟨rfl, rfl⟩ := he
    clear hE0
    have hk0 : k' = 0 := by rcases HF.out with h | h; exact absurd h.1 (by decide); exact h.2
    go_wp2_with fail
    refine bodyPost_ret (v := .tuple #[.agg #[.slice none 0 0], .int .i64 2]) ?_ rfl ⟨none, 0, 0, rfl, ?_, .inr ⟨by decide, rfl⟩⟩
    · simp [results, Try.results56, go_sem, r2, hz2]
    · first | exact (set1 hB.out (by omega) _ _).alloc (by rw [World.size_setCell]; exact hB.out.size) _ | exact set1 (hB.out.alloc hB.out.size _) (by omega) _ _ | exact hB.out.alloc hB.out.size _ | exact set1 hB.out (by omega) _ _ | exact hB.out
end Go.Proofs.Ytmeljcbefnojfaa
