import Derived.Test.YtpikaohodieeaaaWth
namespace Go.Proofs.Ytpikaohodieeaaa
open Go.RowKit
set_option linter.unusedSimpArgs false
set_option linter.unusedVariables false
/-- a relation that bears changes of the iterator's own blocks, and of what is no cells -/
def AbO {β : Type} (B : Nat) (J : β → (Nat → Prop) → World → Prop) : Prop :=
  ∀ s O V V' row O', J s O V → V.grownBy V' row → (∀ r, row = some r → O r ∨ (B ≤ r ∧ ∃ o : Obj, V.heap[r]? = some o ∧ o.isCells = false)) → (∀ r, O' r → O r ∨ (V.heap.size ≤ r ∧ r < V'.heap.size)) → J s O' V'
theorem AbO.below {β : Type} {B : Nat} {J : β → (Nat → Prop) → World → Prop} (h : AbO B J) {s : β} {O O' : Nat → Prop} {V V' : World} (hJ : J s O V) (hb : Below V.heap.size V V') (hO : ∀ r, O' r → O r ∨ (V.heap.size ≤ r ∧ r < V'.heap.size)) : J s O' V' :=
  h s O V V' none O' hJ (grown_of_below hb) (fun r e => by cases e) hO
theorem AbO.put {β : Type} {B : Nat} {J : β → (Nat → Prop) → World → Prop} (h : AbO B J) {s : β} {O : Nat → Prop} {V : World} {l : Nat} {o : Obj} (o' : Obj) (hJ : J s O V) (hB : B ≤ l) (hl : V.heap[l]? = some o) (ho : o.isCells = false) : J s O (V.putObj l o') :=
  h s O V _ (some l) O hJ (grownBy_putObj' V l o') (fun r e => by cases e; exact .inr ⟨hB, o, hl, ho⟩) (fun r h => .inl h)
theorem AbO.more {β : Type} {B B' : Nat} {J : β → (Nat → Prop) → World → Prop} (h : AbO B J) (hB : B ≤ B') : AbO B' J := fun s O V V' row O' hJ hg hr hO =>
  h s O V V' row O' hJ hg (fun r e => (hr r e).imp id fun h => ⟨Nat.le_trans hB h.1, h.2⟩) hO
/-- the cells below a block, and those that are the iterator's, stand -/
structure KpO (B : Nat) (O : Nat → Prop) (W W' : World) : Prop where
  size : W.heap.size ≤ W'.heap.size
  block : ∀ b o, W.heap[b]? = some o → o.isCells = true → (b < B ∨ O b) → W'.heap[b]? = some o
theorem KpO.refl (B : Nat) (O : Nat → Prop) (W : World) : KpO B O W W := ⟨Nat.le_refl _, fun _ _ h _ _ => h⟩
theorem KpO.trans {B : Nat} {O : Nat → Prop} {W W' W2 : World} (h : KpO B O W W') (k : KpO B O W' W2) : KpO B O W W2 :=
  ⟨Nat.le_trans h.size k.size, fun b o hb ho hx => k.block b o (h.block b o hb ho hx) ho hx⟩
theorem KpO.of {B : Nat} {O : Nat → Prop} {W W' : World} (h : Below W.heap.size W W') : KpO B O W W' :=
  ⟨h.size, fun b o hb _ _ => (h.block b (Array.getElem?_eq_some_iff.1 hb).1).trans hb⟩
theorem KpO.put {B : Nat} {O : Nat → Prop} {W : World} {l : Nat} {o o' : Obj} (hl : W.heap[l]? = some o) (ho : o.isCells = false) : KpO B O W (W.putObj l o') :=
  ⟨by simp, fun k ob hk hc _ => by
    by_cases e : k = l
    · subst e; rw [hl] at hk; cases hk; rw [ho] at hc; cases hc
    · exact (World.putObj_heap_other e).trans hk⟩
theorem KpO.grown {B : Nat} {O : Nat → Prop} {W W' : World} {row : Option Nat} (h : W.grownBy W' row) (hr : ∀ r, row = some r → ¬ (r < B ∨ O r)) : KpO B O W W' :=
  ⟨h.size, fun k o hk _ hx => (h.block k (Array.getElem?_eq_some_iff.1 hk).1 (fun e => hr k e.symm hx)).trans hk⟩
theorem KpO.cell {B : Nat} {O : Nat → Prop} {W W' : World} (h : KpO B O W W') {b o : Nat} {v : Value} (hx : b < B ∨ O b) (hc : W.cell? ⟨b, o, none⟩ = some v) : W'.cell? ⟨b, o, none⟩ = some v := by
  obtain ⟨ob, h1, h2⟩ := cells_of_cell hc
  have h3 := h.block b ob h1 h2 hx
  simp only at h1
  rw [← hc]
  simp only [World.cell?, h1, h3]
theorem KpO.frozen {B : Nat} {O : Nat → Prop} {W W' : World} (h : KpO B O W W') {b o : Nat} {v : Value} (hx : b < B ∨ O b) (hc : W.cell? ⟨b, o, none⟩ = some v) (p : Nat) : W'.frozen? ⟨b, p, none⟩ = W.frozen? ⟨b, p, none⟩ := by
  obtain ⟨ob, h1, h2⟩ := cells_of_cell hc
  have h3 := h.block b ob h1 h2 hx
  simp only at h1
  simp only [World.frozen?, h1, h3]
section
variable {F : Fence} {n : Nat} {P : Program} {α : Type}
/-- the iterator's contract (C: the blocks that it reads and that aren't its own): it yields L's elements one after the other, as values that stand for them, until a round says no -/
def YieldsO (F : Fence) (n : Nat) (P : Program) (g : Nat) (lb : Array Value) (C : Nat → Prop) (Rl : α → Array Value → (Nat → Prop) → World → Prop) (L : List α) (w : World) : Prop :=
  ∀ (l : Nat) (J Jx : Nat → (Nat → Prop) → World → Prop) (W : World), Below w.heap.size w W → AbO W.heap.size J → AbO W.heap.size Jx →
    (∀ k x v O W1, L[k]? = some x → Rl x v O W1 → J k O W1 → YieldAt F (n - 1) P l v W1 fun e W' => KeepsFrom W.heap.size W1 W' ∧ KpO 0 (fun r => C r ∨ O r) W1 W' ∧ ((e = .returned (.bool true) ∧ J (k + 1) O W') ∨ (e = .returned (.bool false) ∧ Jx k O W'))) →
    J 0 (fun _ => False) W → CallsIn F n P g (#[.func (.yield l) #[] #[]] ++ lb) W fun e W' => (∃ v, e = .returned v) ∧ ∃ O, J L.length O W' ∨ ∃ k, k < L.length ∧ Jx k O W'
/-- how a round's body may be left -/
def goesO (B : Nat) (C O : Nat → Prop) (I : Nat → (Nat → Prop) → World → Prop) (Ix : Code → Nat → (Nat → Prop) → World → Prop) (k : Nat) (W : World) : Exit → Act → World → Prop
  | .normal, _, W' => KeepsFrom B W W' ∧ KpO 0 (fun r => C r ∨ O r) W W' ∧ I (k + 1) O W'
  | .ret, _, W' => KeepsFrom B W W' ∧ KpO 0 (fun r => C r ∨ O r) W W' ∧ Ix .ret k O W'
  | .exit id, _, W' => KeepsFrom B W W' ∧ KpO 0 (fun r => C r ∨ O r) W W' ∧ Ix (.exit id) k O W'
  | .goto t, _, W' => KeepsFrom B W W' ∧ KpO 0 (fun r => C r ∨ O r) W W' ∧ Ix (.goto t) k O W'
  | .panic _, _, _ => False
  | .outgrown, _, _ => False
theorem rangeListO {g : Operand} {ps : Array Tmp} {assign body : Code} {Q : Exit → Act → World → Prop} {a : Act} {w : World}
    (hro : F.round = none) (hn : 1 ≤ n) {gf : Nat} {lb : Array Value} (hg : a.eval g = .func (.func gf) #[] lb) (hF : F.fn gf) (eg : ∀ args w, (callFunc gf args).run P w = .ok (.enter gf args) w)
    {C : Nat → Prop} {Rl : α → Array Value → (Nat → Prop) → World → Prop} {L : List α} {w0 : World} (hseq : YieldsO F (n - 1) P gf lb C Rl L w0) (hb0 : Below w0.heap.size w0 w) (hps : ∀ x v O W, Rl x v O W → v.size = ps.size)
    (hRl : ∀ x v O W W' row, Rl x v O W → W.grownBy W' row → (∀ r, row = some r → ∃ o : Obj, W.heap[r]? = some o ∧ o.isCells = false) → Rl x v O W')
    (I : Nat → (Nat → Prop) → World → Prop) (Ix : Code → Nat → (Nat → Prop) → World → Prop) (hI : AbO w.heap.size I) (hIx : ∀ c, AbO w.heap.size (Ix c)) (h0 : I 0 (fun _ => False) w) (Ax : Array Value → Act → World → Prop) (hAx : ∀ v a', OwnFrom w.heap.size (fun (_ : Unit) W => Ax v a' W))
    (hassign : ∀ (l k : Nat) (x : α) (v : Array Value) (O : Nat → Prop) (W : World) (K : Act → World → Prop), L[k]? = some x → Rl x v O W → I k O W → (∀ r, O r → w.heap.size + 2 ≤ r ∧ r < W.heap.size) → (∀ a' W', Below W.heap.size W W' → Rl x v O W' → Ax v a' W' → K a' W') →
      assign.wpIn (F.inRound l) (n - 1 - 1) P (Exit.then K (fun _ _ _ => False)) { tmps := (ps.zip v).foldl (fun t (p, v) => t.setIfInBounds p v) a.tmps, defers := [] } W)
    (hbody : ∀ (l k : Nat) (x : α) (v : Array Value) (O : Nat → Prop) (a' : Act) (W : World), L[k]? = some x → Rl x v O W → I k O W → (∀ r, O r → w.heap.size + 2 ≤ r ∧ r < W.heap.size) → Ax v a' W → body.wpIn (F.inRound l) (n - 1 - 1) P (goesO w.heap.size C O I Ix k W) a' W)
    (hdone : ∀ (D : Nat) (O : Nat → Prop) (W : World), w.heap.size ≤ D → I L.length O W → W.heap[D]? = some (.deferred (some [])) → Q .normal { a with defers := { target := .collected D, args := #[] } :: a.defers } W)
    (hstop : ∀ (D : Nat) (c : Code) (k : Nat) (O : Nat → Prop) (W : World), w.heap.size ≤ D → k < L.length → Ix c k O W → W.heap[D]? = some (.deferred (some [])) → c.wpIn F n P Q { a with defers := { target := .collected D, args := #[] } :: a.defers } W) :
    (Code.rangeFunc g ps assign body).wpIn F n P Q a w := by
  refine wpIn_rangeFunc fun fn hfn => ?_
  rw [hro]
  let rec' : LoopState → Option Code → Loop := fun st pe => { state := st, pending := pe, fn, tmps := a.tmps, params := ps, assign, body, defers := w.heap.size }
  have kept : ∀ {A B : World} {c : Nat} {o : Obj}, KeepsFrom w.heap.size A B → w.heap.size ≤ c → A.heap[c]? = some o → o.isCells = false → B.heap[c]? = some o := fun hk hc ho hi => hk.same _ _ hc ho hi
  let books : (Nat → Prop) → World → Prop := fun O W => W.heap[w.heap.size + 1]? = some (.loop (rec' .ready none)) ∧ W.heap[w.heap.size]? = some (.deferred (some [])) ∧ ∀ r, O r → w.heap.size + 2 ≤ r ∧ r < W.heap.size
  obtain ⟨W1, hW1⟩ : ∃ W1, W1 = (w.alloc (.deferred (some []))).alloc (.loop (rec' .ready none)) := ⟨_, rfl⟩
  have hb1 : Below w.heap.size w W1 := by rw [hW1]; exact ((Below.refl _ _).alloc (Nat.le_refl _) _).alloc (by simp only [World.size_alloc]; omega) _
  have hs1 : W1.heap.size = w.heap.size + 1 + 1 := by rw [hW1]; simp
  have hk1 : books (fun _ => False) W1 := by
    refine ⟨?_, ?_, fun r h => h.elim⟩
    · rw [hW1]; have := World.alloc_heap_new (w.alloc (.deferred (some []))) (.loop (rec' .ready none)); rwa [World.size_alloc] at this
    · rw [hW1, Below.heap_alloc _ _ _ (by simp)]; exact World.alloc_heap_new w _
  have hi1 : I 0 (fun _ => False) W1 := hI.below h0 hb1 (fun r h => h.elim)
  refine ⟨w.heap.size + 1, [{ target := .collected w.heap.size, args := #[] }], W1, { target := .fn (.func gf) lb, args := #[.func (.yield (w.heap.size + 1)) #[] #[]] }, W1, gf, #[.func (.yield (w.heap.size + 1)) #[] #[]] ++ lb, W1, ?_, ?_, ?_, ?_, fun _ => hn, ?_⟩
  · rw [hW1]; exact run_enterLoop_outer _ _ _ _ _
  · simp only [resolve, hg]
    simp [go_sem]
  · intro f' hf'
    simp [Target.leads] at hf'
    subst hf'; exact hF
  · simp [invoke, go_sem, eg]
  have lt_of : ∀ {A : World} {c : Nat} {o : Obj}, A.heap[c]? = some o → c < A.heap.size := fun h => (Array.getElem?_eq_some_iff.1 h).1
  have bk : ∀ {A B : World} {row : Option Nat} {O O' : Nat → Prop} {st : Loop}, A.heap[w.heap.size + 1]? = some (.loop st) → A.heap[w.heap.size]? = some (.deferred (some [])) → (∀ r, O r → w.heap.size + 2 ≤ r ∧ r < A.heap.size) → A.grownBy B row → (∀ r, row = some r → O r ∨ (W1.heap.size ≤ r ∧ ∃ o : Obj, A.heap[r]? = some o ∧ o.isCells = false)) → (∀ r, O' r → O r ∨ (A.heap.size ≤ r ∧ r < B.heap.size)) →
      B.heap[w.heap.size + 1]? = some (.loop st) ∧ B.heap[w.heap.size]? = some (.deferred (some [])) ∧ ∀ r, O' r → w.heap.size + 2 ≤ r ∧ r < B.heap.size := by
    intro A B row O O' st h1 h2 h3 hgr hr hO
    have hne : ∀ c, c < w.heap.size + 2 → some c ≠ row := fun c hc e => by
      rcases hr c e.symm with h | h
      · have := (h3 c h).1; omega
      · have := h.1; omega
    have hA := lt_of h1
    refine ⟨?_, ?_, fun r h => ?_⟩
    · rw [hgr.block _ (lt_of h1) (hne _ (by omega))]; exact h1
    · rw [hgr.block _ (lt_of h2) (hne _ (by omega))]; exact h2
    · have hs := hgr.size
      rcases hO r h with h | h
      · have := h3 r h; omega
      · omega
  refine (hseq (w.heap.size + 1) (fun k O W => I k O W ∧ books O W) (fun k O W => ∃ c, Ix c k O W ∧ W.heap[w.heap.size + 1]? = some (.loop (rec' .done (some c))) ∧ W.heap[w.heap.size]? = some (.deferred (some [])) ∧ ∀ r, O r → w.heap.size + 2 ≤ r ∧ r < W.heap.size) W1 (hb0.trans (hb1.mono hb0.size)) ?_ ?_ ?_ ⟨hi1, hk1⟩).mono ?_
  · intro k O A B row O' hA hgr hr hO
    exact ⟨hI.more (B' := W1.heap.size) (by omega) k O A B row O' hA.1 hgr hr hO, bk hA.2.1 hA.2.2.1 hA.2.2.2 hgr hr hO⟩
  · rintro k O A B row O' ⟨c, hA, hA1, hA2, hA3⟩ hgr hr hO
    exact ⟨c, (hIx c).more (B' := W1.heap.size) (by omega) k O A B row O' hA hgr hr hO, bk hA1 hA2 hA3 hgr hr hO⟩
  · intro k x v O W hx hR hW
    obtain ⟨hi, hl, hd, ho⟩ := hW
    refine ⟨fn, _, assign, body, run_yield (P := P) (args := v) hl (hps x v O W hR), roundIn_of_wpIn hfn (hassign _ k x v O W _ hx hR hi ho fun a' Wa hba hRa hax => ?_)⟩
    have hka : KeepsFrom w.heap.size W Wa := keepsFrom_below hba
    have hla := kept hka (by omega) hl rfl
    have hda := kept hka (Nat.le_refl _) hd rfl
    have hia := hI.below hi hba (fun r h => .inl h)
    have hoa : ∀ r, O r → w.heap.size + 2 ≤ r ∧ r < Wa.heap.size := fun r h => ⟨(ho r h).1, Nat.lt_of_lt_of_le (ho r h).2 hba.size⟩
    have hkb : KeepsFrom W1.heap.size W (Wa.putObj (w.heap.size + 1) (.loop { rec' .ready none with state := .busy })) := (keeps_more hka (by omega)).trans (keeps_put (by omega))
    have hkp0 : KpO 0 (fun r => C r ∨ O r) W (Wa.putObj (w.heap.size + 1) (.loop { rec' .ready none with state := .busy })) := (KpO.of hba).trans (KpO.put hla rfl)
    refine ⟨_, run_beginRound hla rfl, ?_⟩
    have hlb : (Wa.putObj (w.heap.size + 1) (.loop { rec' .ready none with state := .busy })).heap[w.heap.size + 1]? = some (.loop { rec' .ready none with state := .busy }) := World.putObj_heap_same (lt_of hla)
    have hdb : (Wa.putObj (w.heap.size + 1) (.loop { rec' .ready none with state := .busy })).heap[w.heap.size]? = some (.deferred (some [])) := (World.putObj_heap_other (by omega)).trans hda
    have hRb := hRl _ _ _ _ _ (some (w.heap.size + 1)) hRa (grownBy_putObj' Wa (w.heap.size + 1) (.loop { rec' .ready none with state := .busy })) (fun r e => by cases e; exact ⟨_, hla, rfl⟩)
    have hob : ∀ r, O r → w.heap.size + 2 ≤ r ∧ r < (Wa.putObj (w.heap.size + 1) (.loop { rec' .ready none with state := .busy })).heap.size := fun r h => by rw [World.putObj_size]; exact hoa r h
    refine wpIn_mono (hbody _ k x v O a' _ hx hRb (hI.put _ hia (by omega) hla rfl) hob ((hAx v a').putObj (s := ()) _ hax (by omega) hla rfl)) ?_
    have fin : ∀ {W3 : World} (st : Obj), KeepsFrom w.heap.size (Wa.putObj (w.heap.size + 1) (.loop { rec' .ready none with state := .busy })) W3 → KpO 0 (fun r => C r ∨ O r) (Wa.putObj (w.heap.size + 1) (.loop { rec' .ready none with state := .busy })) W3 →
        W3.heap[w.heap.size + 1]? = some (.loop { rec' .ready none with state := .busy }) ∧ (W3.putObj (w.heap.size + 1) st).heap[w.heap.size + 1]? = some st ∧ (W3.putObj (w.heap.size + 1) st).heap[w.heap.size]? = some (.deferred (some [])) ∧ (∀ r, O r → w.heap.size + 2 ≤ r ∧ r < (W3.putObj (w.heap.size + 1) st).heap.size) ∧
        KeepsFrom W1.heap.size W (W3.putObj (w.heap.size + 1) st) ∧ KpO 0 (fun r => C r ∨ O r) W (W3.putObj (w.heap.size + 1) st) := fun {W3} st hk3 hp3 => by
      have hl3 := kept hk3 (by omega) hlb rfl
      have hd3 := kept hk3 (Nat.le_refl _) hdb rfl
      exact ⟨hl3, World.putObj_heap_same (lt_of hl3), (World.putObj_heap_other (by omega)).trans hd3, fun r h => by rw [World.putObj_size]; exact ⟨(hob r h).1, Nat.lt_of_lt_of_le (hob r h).2 hk3.size⟩, (hkb.trans (keeps_more hk3 (by omega))).trans (keeps_put (by omega)), (hkp0.trans hp3).trans (KpO.put hl3 rfl)⟩
    intro e a3 W3 hp
    cases e
    case normal =>
      obtain ⟨hk3, hkp3, hi3⟩ := hp
      obtain ⟨f1, f2, f3, f4, f5, f6⟩ := fin (.loop (rec' .ready none)) hk3 hkp3
      exact ⟨_, _, run_endRound none f1, f5, f6, .inl ⟨rfl, hI.put _ hi3 (by omega) f1 rfl, f2, f3, f4⟩⟩
    case ret =>
      obtain ⟨hk3, hkp3, hi3⟩ := hp
      obtain ⟨f1, f2, f3, f4, f5, f6⟩ := fin (.loop (rec' .done (some .ret))) hk3 hkp3
      exact ⟨_, _, run_endRound (some .ret) f1, f5, f6, .inr ⟨rfl, .ret, (hIx _).put _ hi3 (by omega) f1 rfl, f2, f3, f4⟩⟩
    case exit id =>
      obtain ⟨hk3, hkp3, hi3⟩ := hp
      obtain ⟨f1, f2, f3, f4, f5, f6⟩ := fin (.loop (rec' .done (some (.exit id)))) hk3 hkp3
      exact ⟨_, _, run_endRound (some (.exit id)) f1, f5, f6, .inr ⟨rfl, .exit id, (hIx _).put _ hi3 (by omega) f1 rfl, f2, f3, f4⟩⟩
    case goto t =>
      obtain ⟨hk3, hkp3, hi3⟩ := hp
      obtain ⟨f1, f2, f3, f4, f5, f6⟩ := fin (.loop (rec' .done (some (.goto t)))) hk3 hkp3
      exact ⟨_, _, run_endRound (some (.goto t)) f1, f5, f6, .inr ⟨rfl, .goto t, (hIx _).put _ hi3 (by omega) f1 rfl, f2, f3, f4⟩⟩
    all_goals exact hp.elim
  · rintro e W2 ⟨⟨v, rfl⟩, O, ⟨hi, hl, hd, _⟩ | ⟨k, hk, c, hi, hl, hd, _⟩⟩
    · exact ⟨none, _, run_endLoop hl (by simp [rec']), hdone _ O _ (Nat.le_refl _) (hI.put _ hi (by omega) hl rfl) ((World.putObj_heap_other (by omega)).trans hd)⟩
    · exact ⟨some c, _, run_endLoop hl (by simp [rec']), hstop _ c k O _ (Nat.le_refl _) hk ((hIx c).put _ hi (by omega) hl rfl) ((World.putObj_heap_other (by omega)).trans hd)⟩
end
end Go.Proofs.Ytpikaohodieeaaa
namespace Go.Proofs.Ytpikaohodieeaaa
open Go.RowKit
set_option linter.unusedSimpArgs false
set_option linter.unusedVariables false
/-- a block of numbers -/
def isInts (w : World) (b : Nat) : Prop := ∃ cur fz, w.heap[b]? = some (.cells cur 3 fz)
theorem isInts.up {w w' : World} {b : Nat} (h : isInts w b) (hb : Below w.heap.size w w') : isInts w' b := by
  obtain ⟨cur, fz, e⟩ := h
  exact ⟨cur, fz, (hb.block _ (Array.getElem?_eq_some_iff.1 e).1).trans e⟩
theorem isInts.row {w w' : World} {b : Nat} {row : Option Nat} (h : isInts w b) (hg : w.grownBy w' row) (hr : some b ≠ row) : isInts w' b := by
  obtain ⟨cur, fz, e⟩ := h
  exact ⟨cur, fz, (hg.block _ (Array.getElem?_eq_some_iff.1 e).1 hr).trans e⟩
def rowI (Z : Nat → Int) (n : Nat) : List Value := intsZ ((List.range n).map Z)
theorem rowI_len (Z : Nat → Int) (n : Nat) : (rowI Z n).length = n := by simp [rowI, intsZ]
theorem rowI_get (Z : Nat → Int) {n i : Nat} (h : i < n) : (rowI Z n)[i]? = some (.int .i64 (Z i)) := by simp [rowI, intsZ, h]
theorem rowI_one (Z : Nat → Int) (n : Nat) : ∀ u ∈ rowI Z n, u.oneCell' = true := by
  intro u hu
  simp [rowI, intsZ] at hu
  obtain ⟨i, _, rfl⟩ := hu
  rfl
set_option maxRecDepth 100000 in
set_option maxHeartbeats 1000000 in
theorem CloneI_any (g n c : Nat) (Z : Nat → Int) (w : World) (hin : InR g n Z w) (hn : n ≤ 1000) :
    Calls Try.prog 131 #[.slice (some ⟨g, 0, none⟩) n c] w fun e w' => ∃ b cap, e = .returned (.slice (some ⟨b, 0, none⟩) n cap) ∧ w.heap.size ≤ b ∧ InR b n Z w' ∧ Below w.heap.size w w' ∧ isInts w' b ∧ n ≤ cap := by
  have gl := hin.lt
  have HR : Hid (∀ j u, (rowI Z n)[j]? = some u → (w.alloc (.cells #[] 3)).cell? ((⟨g, 0, none⟩ : Addr).add j) = some u) := Lib.hid fun j u hj => by
    have hlt : j < n := by
      have := (List.getElem?_eq_some_iff.1 hj).1
      rwa [rowI_len] at this
    rw [rowI_get Z hlt] at hj
    cases hj
    rw [Addr.add_lit, Nat.zero_add]
    exact cell_of (box1 _ _) (hin.c j hlt)
  have HO := Lib.hid (own_empty w 3 1)
  clear hin
  obtain ⟨i0, hi0, hz0, hz1, hz2⟩ := info_parts Try.infoInt
  have hq : ∀ W : World, (binOp .eql 29 (.slice (some ⟨g, 0, none⟩) n c) (.slice none 0 0)).run Try.prog W = .ok (.bool false) W := fun W => by kernel_rfl
  go_enter Try.func131, Try.ntmps131
  go_wp2_with (at_builtin; refine wpList_append_own _ rfl _ _ 29 rfl w.heap.size 3 i0 (.int .i64 0) 1 8 Try.underlying29 hi0 hz0 hz1 hz2 rfl (by decide) _ 0 [] rfl HO.out ⟨g, 0, none⟩ n c (rowI Z n) rfl (by rw [rowI_len, Nat.mul_one]) HR.out (rowI_one Z n) (by unfold maxLen; omega) (by omega) (by simp) ?_; intro v8 w8 hown8 hg8 hnil8; have HW := Lib.hid hown8; have HGR := Lib.hid hg8; have HNL := Lib.hid hnil8; clear hown8 hg8 hnil8)
  go_ret
  have hg8 := HGR.out
  have hb : Below w.heap.size w w8 := (box1 w _).grown hg8 (by simp) (fun r e => by cases e; exact Nat.le_refl _)
  have h := HW.out
  rw [Nat.zero_add, List.nil_append] at h
  obtain ⟨e1, e2 | ⟨b, cap, cur, e2, e3, e4, e5⟩⟩ := id h
  · exact absurd ((HNL.out.1 e2.1).1) (by intro h; cases h)
  · subst e2
    have hc := h.cells (g := b) rfl
    refine ⟨b, cap, rfl, e3, ⟨(Array.getElem?_eq_some_iff.1 e4).1, fun i hi => ?_, fun o => by simp [World.frozen?, e4]⟩, hb, ⟨_, _, e4⟩, e5.1⟩
    have h1 := hc _ _ (rowI_get Z hi)
    rwa [Addr.add_lit, Nat.zero_add] at h1
end Go.Proofs.Ytpikaohodieeaaa
namespace Go.Proofs.Ytpikaohodieeaaa
open Go.RowKit
set_option linter.unusedSimpArgs false
set_option linter.unusedVariables false
attribute [local go_sem] Oper.semAt_some
/-- the sets of r further numbers from lo on, below c -/
def ext (c : Nat) : Nat → Nat → List (List Int)
  | 0, _ => [[]]
  | r + 1, lo => (List.range (c - r - lo)).flatMap fun j => (ext c r (lo + j + 1)).map fun s => ((lo + j : Nat) : Int) :: s
/-- those whose first number is among the first j -/
def extJ (c r lo j : Nat) : List (List Int) := (List.range j).flatMap fun j => (ext c r (lo + j + 1)).map fun s => ((lo + j : Nat) : Int) :: s
theorem ext_succ (c r lo : Nat) : ext c (r + 1) lo = extJ c r lo (c - r - lo) := rfl
theorem extJ_succ (c r lo j : Nat) : extJ c r lo (j + 1) = extJ c r lo j ++ (ext c r (lo + j + 1)).map fun s => ((lo + j : Nat) : Int) :: s := by
  unfold extJ
  rw [List.range_succ, List.flatMap_append]
  simp
theorem extJ_len (c r lo j : Nat) : (extJ c r lo (j + 1)).length = (extJ c r lo j).length + (ext c r (lo + j + 1)).length := by
  rw [extJ_succ, List.length_append, List.length_map]
theorem extJ_mono (c r lo : Nat) {i j : Nat} (h : i ≤ j) : (extJ c r lo i).length ≤ (extJ c r lo j).length := by
  induction j with
  | zero => obtain rfl : i = 0 := by omega
            exact Nat.le_refl _
  | succ j ih =>
    rw [extJ_len]
    by_cases e : i = j + 1
    · subst e; rw [extJ_len]; omega
    · have := ih (by omega); omega
theorem extJ_pre (c r lo : Nat) {i j : Nat} (h : i ≤ j) (k : Nat) (x : List Int) (hk : (extJ c r lo i)[k]? = some x) : (extJ c r lo j)[k]? = some x := by
  induction j with
  | zero => obtain rfl : i = 0 := by omega
            exact hk
  | succ j ih =>
    by_cases e : i = j + 1
    · subst e; exact hk
    · rw [extJ_succ, List.getElem?_append_left (List.getElem?_eq_some_iff.1 (ih (by omega))).1]
      exact ih (by omega)
theorem extJ_at (c r lo j k : Nat) (x : List Int) (h : (ext c r (lo + j + 1))[k]? = some x) : (extJ c r lo (j + 1))[(extJ c r lo j).length + k]? = some (((lo + j : Nat) : Int) :: x) := by
  rw [extJ_succ, List.getElem?_append_right (by omega), show (extJ c r lo j).length + k - (extJ c r lo j).length = k by omega, List.getElem?_map, h]
  rfl
/-- the boxes of the iterator -/
structure SetE where
  l : Nat
  bs : Nat
  bc : Nat
  yb : Nat
  tb : Nat
  fb : Nat
  st : Nat
  count : Nat
  size : Nat
abbrev SetE.v (e : SetE) : Array Value := #[.pointer (some ⟨e.bs, 0, none⟩), .pointer (some ⟨e.yb, 0, none⟩), .pointer (some ⟨e.tb, 0, none⟩), .pointer (some ⟨e.bc, 0, none⟩), .pointer (some ⟨e.fb, 0, none⟩)]
/-- what lies in them -/
structure SetSt (e : SetE) (Z : Nat → Int) (W : World) : Prop where
  s : W.cell? ⟨e.bs, 0, none⟩ = some (.int .i64 (e.size : Int))
  c : W.cell? ⟨e.bc, 0, none⟩ = some (.int .i64 (e.count : Int))
  y : W.cell? ⟨e.yb, 0, none⟩ = some (.func (.yield e.l) #[] #[])
  t : W.cell? ⟨e.tb, 0, none⟩ = some (.slice (some ⟨e.st, 0, none⟩) e.size e.size)
  f : W.cell? ⟨e.fb, 0, none⟩ = some (.func (.func 130) #[] e.v)
  row : InR e.st e.size Z W
  obj : ∃ o : Obj, W.heap[e.st]? = some o ∧ o.isCells = true
theorem SetSt.up {e : SetE} {Z : Nat → Int} {W W' : World} (h : SetSt e Z W) (hb : Below W.heap.size W W') : SetSt e Z W' :=
  ⟨cell_of hb h.s, cell_of hb h.c, cell_of hb h.y, cell_of hb h.t, cell_of hb h.f, h.row.up hb, by obtain ⟨o, h1, h2⟩ := h.obj; exact ⟨o, (hb.block _ h.row.lt).trans h1, h2⟩⟩
theorem SetSt.set {e : SetE} {Z : Nat → Int} {W : World} {k : Nat} {x : Int} (h : SetSt e Z W) (hk : k < e.size) (hd : e.bs ≠ e.st ∧ e.bc ≠ e.st ∧ e.yb ≠ e.st ∧ e.tb ≠ e.st ∧ e.fb ≠ e.st) : SetSt e (fun i => if i = k then x else Z i) (W.setCell ⟨e.st, k, none⟩ (.int .i64 x)) :=
  ⟨cell_ne h.s hd.1, cell_ne h.c hd.2.1, cell_ne h.y hd.2.2.1, cell_ne h.t hd.2.2.2.1, cell_ne h.f hd.2.2.2.2, h.row.set hk, by obtain ⟨o, h1, h2⟩ := cells_of_cell ((h.row.set (x := x) hk).c k hk); exact ⟨o, h1, h2⟩⟩
/-- the blocks that are the iterator's -/
def SetE.own (e : SetE) (r : Nat) : Prop := r = e.yb ∨ r = e.tb ∨ r = e.fb ∨ r = e.st
theorem SetSt.kp {e : SetE} {Z : Nat → Int} {W W' : World} {C : Nat → Prop} (h : SetSt e Z W) (hk : KpO 0 (fun r => C r ∨ e.own r) W W') (h1 : C e.bs) (h2 : C e.bc) : SetSt e Z W' :=
  ⟨hk.cell (.inr (.inl h1)) h.s, hk.cell (.inr (.inl h2)) h.c, hk.cell (.inr (.inr (.inl rfl))) h.y, hk.cell (.inr (.inr (.inr (.inl rfl)))) h.t, hk.cell (.inr (.inr (.inr (.inr (.inl rfl))))) h.f,
    ⟨Nat.lt_of_lt_of_le h.row.lt hk.size, fun i hi => hk.cell (.inr (.inr (.inr (.inr (.inr rfl))))) (h.row.c i hi), fun o => by
      obtain ⟨ob, h3, h4⟩ := h.obj
      have h5 := hk.block _ ob h3 h4 (.inr (.inr (.inr (.inr (.inr rfl)))))
      have h6 := h.row.f o
      simp only [World.frozen?, h3] at h6
      simp only [World.frozen?, h5]
      exact h6⟩, by obtain ⟨o, h3, h4⟩ := h.obj; exact ⟨o, hk.block _ o h3 h4 (.inr (.inr (.inr (.inr (.inr rfl))))), h4⟩⟩
theorem RoundIn.any0 {n n' : Nat} {P : Program} {l : Nat} {f : FuncId} {tmps : Array Value} {assign body : Code} {w : World} {R : Ending → World → Prop} (h : RoundIn Fence.wide n P l f tmps assign body w R) :
    RoundIn Fence.wide n' P l f tmps assign body w R := ⟨trivial, fun c cs _ => h.2 c cs (room_wide _)⟩
/-- the value stands for a list of numbers; its block is not the iterator's -/
def RlS (B0 : Nat) (x : List Int) (v : Array Value) (O : Nat → Prop) (W : World) : Prop :=
  ∃ A c, v = #[.slice A x.length c] ∧ ∀ i, i < x.length → ∃ b, A = some ⟨b, 0, none⟩ ∧ b < W.heap.size ∧ ¬ O b ∧ B0 ≤ b ∧ W.cell? ⟨b, i, none⟩ = some (.int .i64 (x.getD i 0)) ∧ isInts W b ∧ x.length ≤ c
/-- how the closure ends -/
def FillP (e : SetE) (BW at_ q n : Nat) (Z : Nat → Int) (J Jx : Nat → (Nat → Prop) → World → Prop) (W : World) (en : Ending) (W' : World) : Prop :=
  ∃ b, en = .returned (.bool b) ∧ KeepsFrom BW W W' ∧ ((b = true ∧ (∃ Z', SetSt e Z' W' ∧ ∀ i, i < at_ → Z' i = Z i) ∧ J (q + n) e.own W') ∨ (b = false ∧ ∃ k, q ≤ k ∧ k < q + n ∧ Jx k e.own W'))
/-- where the boxes lie -/
structure SetD (e : SetE) (B0 BW : Nat) : Prop where
  s : e.bs < B0
  c : e.bc < B0
  le : B0 ≤ BW
  y : BW ≤ e.yb
  t : BW ≤ e.tb
  f : BW ≤ e.fb
  st : BW ≤ e.st
  ys : e.yb ≠ e.st
  ts : e.tb ≠ e.st
  fs : e.fb ≠ e.st
  n1 : e.count ≤ 1000
  n2 : e.size ≤ 1000
theorem SetD.ne {e : SetE} {B0 BW : Nat} (h : SetD e B0 BW) : e.bs ≠ e.st ∧ e.bc ≠ e.st ∧ e.yb ≠ e.st ∧ e.tb ≠ e.st ∧ e.fb ≠ e.st := by
  have h1 := h.s; have h2 := h.c; have h3 := h.le; have h4 := h.st
  exact ⟨by omega, by omega, h.ys, h.ts, h.fs⟩
set_option maxRecDepth 100000 in
set_option maxHeartbeats 4000000 in
theorem fill_any (e : SetE) (B0 BW : Nat) (C : Nat → Prop) (hC1 : C e.bs) (hC2 : C e.bc) (L : List (List Int)) (J Jx : Nat → (Nat → Prop) → World → Prop) (hA : AbO BW J) (hD : SetD e B0 BW)
    (hY : ∀ k x v O W1, L[k]? = some x → RlS B0 x v O W1 → J k O W1 → YieldAt Fence.wide 8 Try.prog e.l v W1 fun en W' => KeepsFrom BW W1 W' ∧ KpO 0 (fun r => C r ∨ O r) W1 W' ∧ ((en = .returned (.bool true) ∧ J (k + 1) O W') ∨ (en = .returned (.bool false) ∧ Jx k O W'))) :
    ∀ (r at_ lo q : Nat) (pre : List Int) (Z : Nat → Int) (W : World), at_ + r = e.size → pre.length = at_ → lo ≤ 2000 → SetSt e Z W → (∀ i, i < at_ → Z i = pre.getD i 0) → J q e.own W → (∀ j x, (ext e.count r lo)[j]? = some x → L[q + j]? = some (pre ++ x)) →
      CallsIn Fence.wide 9 Try.prog 130 #[.int .i64 at_, .int .i64 lo, .pointer (some ⟨e.bs, 0, none⟩), .pointer (some ⟨e.yb, 0, none⟩), .pointer (some ⟨e.tb, 0, none⟩), .pointer (some ⟨e.bc, 0, none⟩), .pointer (some ⟨e.fb, 0, none⟩)] W (FillP e BW at_ q (ext e.count r lo).length Z J Jx W) := by
  have HA := Lib.hid hA
  have HD := Lib.hid hD
  have HY := Lib.hid hY
  clear hA hY
  have hn1 := hD.n1
  have hn2 := hD.n2
  clear hD
  intro r
  induction r with
  | zero =>
    intro at_ lo q pre Z W har hpre hlo hS hZ hJ hL
    have HS := Lib.hid hS
    have HJ := Lib.hid hJ
    have hL0 : L[q]? = some pre := by have := hL 0 [] rfl; simpa using this
    have HL0 := Lib.hid hL0
    have HZ := Lib.hid hZ
    obtain rfl : at_ = e.size := by omega
    obtain ⟨s0, s1, s2, s3, s4, s5, s6⟩ := hS
    have sl := s5.lt
    clear hJ hL hL0 s5 s6 hZ
    refine callsIn_of_wp Try.func130 rfl trivial ?_ rfl
    simp only [Try.ntmps130, List.size_toArray, List.length_cons, List.length_nil, Nat.reduceAdd, Nat.reduceSub, Array.replicate_succ, Array.replicate_zero, List.push_toArray, List.append_toArray, List.nil_append, List.cons_append]
    gi_wp2
    refine wpIn_region_M [3, 4] (fun w' => w'.cell? ⟨e.yb, 0, none⟩ = some (.func (.yield e.l) #[] #[]) ∧ w'.cell? ⟨e.tb, 0, none⟩ = some (.slice (some ⟨e.st, 0, none⟩) e.size e.size)) (by kernel_rfl) (by kernel_rfl) (by kernel_rfl) (by (try dsimp only); (repeat' apply And.intro); all_goals first | assumption | (go_simp; done)) (fun hT0 => ?_)
    refine MI_take (v := ?_) 0 rfl (by kernel_rfl) (by assumption) (fun _ _ _ h => h) (Or.inl ⟨by rfl, ?_⟩) (fun _ => rfl) ?_
    rotate_left
    · (intro w hSw; (try dsimp only at hSw); go_simp; (try with_reducible rfl))
    (try simp only [Act.put, List.setIfInBounds_toArray, List.set_cons_zero, List.set_cons_succ])
    refine MI_take (v := ?_) 1 rfl (by kernel_rfl) (by assumption) (fun _ _ _ h => h) (Or.inl ⟨by rfl, ?_⟩) (fun _ => rfl) ?_
    rotate_left
    · (intro w hSw; (try dsimp only at hSw); go_simp; (try with_reducible rfl))
    (try simp only [Act.put, List.setIfInBounds_toArray, List.set_cons_zero, List.set_cons_succ])
    refine MI_step 2 rfl (by kernel_rfl) (fun K hK => ?_)
    go_simp
    refine ⟨trivial, (callsIn_wide.2 (CloneI_any e.st e.size e.size Z _ (HS.out.up (Below.refl _ _).drew).row hn2)).mono ?_⟩
    rintro en V5 ⟨b5, cap5, rfl, hb5, hI5, hq5, hT9⟩
    have HT9 := Lib.hid hT9
    clear hT9
    have hr5 : Below W.heap.size W V5 := nextB (Below.refl _ _).drew hq5
    have hS5 := HS.out.up hr5
    have hT5 : (fun w' => w'.cell? ⟨e.yb, 0, none⟩ = some (.func (.yield e.l) #[] #[]) ∧ w'.cell? ⟨e.tb, 0, none⟩ = some (.slice (some ⟨e.st, 0, none⟩) e.size e.size)) V5 := ⟨hS5.y, hS5.t⟩
    have HI5 := Lib.hid hI5
    have HR5 := Lib.hid hr5
    have hbb5 : W.heap.size ≤ b5 := hb5
    clear hI5 hr5 hq5
    refine hK.out _ _ (fun _ => hT5) ?_
    clear hK K
    (try simp only [Act.put, List.setIfInBounds_toArray, List.set_cons_zero, List.set_cons_succ])
    refine MI_step 3 rfl (by kernel_rfl) (fun K hK => ?_)
    go_simp
    have hJ5 : J q e.own V5 := HA.out.below HJ.out HR5.out (fun r h => .inl h)
    have hno : ¬ e.own b5 := fun h => by
      have z1 : e.yb < W.heap.size := World.block_lt_of_cell? _ _ s2
      have z2 : e.tb < W.heap.size := World.block_lt_of_cell? _ _ s3
      have z3 : e.fb < W.heap.size := World.block_lt_of_cell? _ _ s4
      rcases h with h | h | h | h <;> omega
    have hRl : RlS B0 pre #[.slice (some ⟨b5, 0, none⟩) e.size cap5] e.own V5 := by
      refine ⟨some ⟨b5, 0, none⟩, cap5, by rw [hpre], fun i hi => ⟨b5, rfl, HI5.out.lt, hno, ?_, ?_, HT9.out.1, by rw [hpre]; exact HT9.out.2⟩⟩
      · have z1 : e.yb < W.heap.size := World.block_lt_of_cell? _ _ s2
        have z2 := HD.out.le
        have z3 := HD.out.y
        omega
      · have h := HI5.out.c i (by omega)
        rw [HZ.out i (by omega)] at h
        exact h
    obtain ⟨fn, tmps, assign, body, hy, hR⟩ := HY.out q pre _ e.own V5 HL0.out hRl hJ5
    rw [hy]
    go_simp
    refine RoundIn.mono (RoundIn.any0 hR) ?_
    rintro en V6 ⟨hkf, hkp, hE⟩
    obtain ⟨bb, rfl, hDD⟩ : ∃ bb, en = .returned (.bool bb) ∧ ((bb = true ∧ J (q + 1) e.own V6) ∨ (bb = false ∧ Jx q e.own V6)) := by
      rcases hE with ⟨rfl, h1⟩ | ⟨rfl, h1⟩
      · exact ⟨true, rfl, .inl ⟨rfl, h1⟩⟩
      · exact ⟨false, rfl, .inr ⟨rfl, h1⟩⟩
    have HF : Hid (FillP e BW e.size q 1 Z J Jx W (.returned (.bool bb)) V6) := Lib.hid ⟨bb, rfl, (keepsFrom_below HR5.out).trans hkf, hDD.imp (fun h => ⟨h.1, ⟨Z, (HS.out.up HR5.out).kp hkp hC1 hC2, fun i _ => rfl⟩, h.2⟩) (fun h => ⟨h.1, q, Nat.le_refl _, by omega, h.2⟩)⟩
    clear hE hDD hy hR hkf hkp hRl hJ5 hT5 s0 s1 s2 s3 s4 sl hS5
    refine hK.out _ _ (fun e => by cases e) ?_
    clear hK K
    (try simp only [Act.put, List.setIfInBounds_toArray, List.set_cons_zero, List.set_cons_succ])
    refine MI_step 4 rfl (by kernel_rfl) (fun K hK => ?_)
    go_simp
    refine hK.out _ _ (fun e => by cases e) ?_
    clear hK K
    (try simp only [Act.put, List.setIfInBounds_toArray, List.set_cons_zero, List.set_cons_succ])
    refine MI_done (by kernel_rfl) ?_ _
    gi_wp2
    go_ret
    exact HF.out
  | succ r ih =>
    intro at_ lo q pre Z W har hpre hlo hS hZ hJ hL
    have HS := Lib.hid hS
    have HJ := Lib.hid hJ
    have HZ := Lib.hid hZ
    have HL := Lib.hid hL
    have IH := Lib.hid ih
    have hne : ¬ at_ = e.size := by omega
    have hne2 : ¬ ((at_ : Int) = (e.size : Int)) := by omega
    have hnb : ((at_ : Int) == (e.size : Int)) = false := by simpa using hne2
    have hnc : (at_ == e.size) = false := by simpa using hne
    obtain ⟨s0, s1, s2, s3, s4, s5, s6⟩ := hS
    clear hJ hL s5 s6 hZ ih
    refine callsIn_of_wp Try.func130 rfl trivial ?_ rfl
    simp only [Try.ntmps130, List.size_toArray, List.length_cons, List.length_nil, Nat.reduceAdd, Nat.reduceSub, Array.replicate_succ, Array.replicate_zero, List.push_toArray, List.append_toArray, List.nil_append, List.cons_append]
    gi_wp2
    gi_loopw [10] (fun v wr => ∃ j : Nat, v = .int .i64 ((lo + j : Nat) : Int) ∧ j ≤ e.count - r - lo ∧ Hid ((∃ Z', SetSt e Z' wr ∧ ∀ i, i < at_ → Z' i = Z i) ∧ J (q + (extJ e.count r lo j).length) e.own wr ∧ KeepsFrom BW W wr)) (fun v _ => 3000 - (intOf v).toNat)
    case atStart => exact ⟨0, by simp, Nat.zero_le _, Lib.hid ⟨⟨Z, HS.out, fun i _ => rfl⟩, HJ.out, KeepsFrom.refl _ _⟩⟩
    case round =>
      obtain ⟨j, rfl, hj, hR⟩ := hrel
      obtain ⟨⟨Z', hS', hZ'⟩, hJ', hK'⟩ := hR.out
      have HS' := Lib.hid hS'
      have HZ' := Lib.hid hZ'
      have HJ' := Lib.hid hJ'
      have HK' := Lib.hid hK'
      clear s0 s1 s2 s3 s4 hZ' hJ' hK' hR
      obtain ⟨s0, s1, s2, s3, s4, s5, s6⟩ := hS'
      obtain ⟨nn, hnn⟩ : ∃ nn : Nat, nn = lo + j := ⟨_, rfl⟩
      rw [← hnn]
      have w1 : IntKind.i64.wrap ((e.count : Int) - (e.size : Int)) = (e.count : Int) - (e.size : Int) := IntWalk.i64_in _ (by omega)
      have w2 : IntKind.i64.wrap ((e.count : Int) - (e.size : Int) + (at_ : Int)) = (e.count : Int) - (e.size : Int) + (at_ : Int) := IntWalk.i64_in _ (by omega)
      have w3 : IntKind.i64.wrap ((nn : Int) + 1) = (nn : Int) + 1 := IntWalk.i64_in _ (by omega)
      have w4 : IntKind.i64.wrap ((at_ : Int) + 1) = (at_ : Int) + 1 := IntWalk.i64_in _ (by omega)
      have a0 : (0 : Int) ≤ (at_ : Int) := by omega
      have a1 : (at_ : Int) < (e.size : Int) := by omega
      have a2 : at_ < e.size := by omega
      by_cases hlt : j < e.count - r - lo
      · have d1 : decide ((nn : Int) ≤ (e.count : Int) - (e.size : Int) + (at_ : Int)) = true := decide_eq_true (by omega)
        have sc := s5.c at_ a2
        have sf := s5.f at_
        have sl := s5.lt
        have HN := Lib.hid hnn
        have nf1 : ¬ e.fb = e.st := HD.out.fs
        have nf2 : ¬ e.st = e.fb := fun h => nf1 h.symm
        have f' : (wr.setCell ⟨e.st, at_, none⟩ (.int .i64 (nn : Int))).cell? ⟨e.fb, 0, none⟩ = some (.func (.func 130) #[] e.v) := cell_ne s4 nf1
        clear s5 s6 hnn
        gi_wp2
        obtain ⟨V, hV⟩ : ∃ V : World, V = wr.setCell ⟨e.st, at_, none⟩ (.int .i64 (nn : Int)) := ⟨_, rfl⟩
        rw [← hV]
        have hSV : SetSt e (fun i => if i = at_ then (nn : Int) else Z' i) V := by rw [hV]; exact HS'.out.set a2 HD.out.ne
        have hgV : wr.grownBy V (some e.st) := by rw [hV]; exact grown_set1 _ _ _ _
        have hJV : J (q + (extJ e.count r lo j).length) e.own V := HA.out _ _ _ _ _ _ HJ'.out hgV (fun r e' => by cases e'; exact .inl (.inr (.inr (.inr rfl)))) (fun r h => .inl h)
        have hKV : KeepsFrom BW wr V := by rw [hV]; exact (KeepsOthers.setCell _ _ _).from _
        have hN := HN.out
        have hI := IH.out (at_ + 1) (nn + 1) (q + (extJ e.count r lo j).length) (pre ++ [(nn : Int)]) _ V (by omega) (by rw [List.length_append, hpre]; rfl) (by omega) hSV (fun i hi => by
            by_cases hia : i = at_
            · subst hia
              rw [if_pos rfl, List.getD, List.getElem?_append_right (by omega), hpre, Nat.sub_self]
              rfl
            · rw [if_neg hia, HZ'.out i (by omega), HZ.out i (by omega), List.getD, List.getD, List.getElem?_append_left (by omega)]) hJV (fun k x hx => by
            have h1 := extJ_at e.count r lo j k x (by rw [← hN]; exact hx)
            have h2 := extJ_pre e.count r lo (show j + 1 ≤ e.count - r - lo by omega) _ _ h1
            rw [← ext_succ] at h2
            have h3 := HL.out _ _ h2
            rw [← hN] at h3
            rw [Nat.add_assoc, h3, List.append_assoc]
            rfl)
        rw [show ((at_ + 1 : Nat) : Int) = (at_ : Int) + 1 from rfl, show ((nn + 1 : Nat) : Int) = (nn : Int) + 1 from rfl] at hI
        have HKV := Lib.hid (HK'.out.trans hKV)
        have HSV := Lib.hid hSV
        clear hV hSV hgV hJV hKV f' s0 s1 s2 s3 s4 sc sf hN
        refine ⟨trivial, (callsIn_wide.2 (callsIn_wide.1 hI)).mono ?_⟩
        rintro en V6 ⟨bb, rfl, hk6, hD6⟩
        have HK6 := Lib.hid (HKV.out.trans hk6)
        have HD6 := Lib.hid hD6
        have HLN : Hid (q + (extJ e.count r lo j).length + (ext e.count r (nn + 1)).length = q + (extJ e.count r lo (j + 1)).length) := Lib.hid (by rw [extJ_len, HN.out, Nat.add_assoc])
        have HLM : Hid ((extJ e.count r lo (j + 1)).length ≤ (ext e.count (r + 1) lo).length) := Lib.hid (by rw [ext_succ]; exact extJ_mono _ _ _ (by omega))
        clear hI hk6 hD6
        cases bb with
        | true =>
          obtain ⟨⟨Z6, hS6, hZ6⟩, hJ6⟩ : (∃ Z'', SetSt e Z'' V6 ∧ ∀ i, i < at_ + 1 → Z'' i = (if i = at_ then (nn : Int) else Z' i)) ∧ J (q + (extJ e.count r lo (j + 1)).length) e.own V6 := by
            rcases HD6.out with ⟨_, h1, h2⟩ | ⟨h, _⟩
            · rw [HLN.out] at h2; exact ⟨h1, h2⟩
            · cases h
          have hfin : (∃ Z'', SetSt e Z'' V6 ∧ ∀ i, i < at_ → Z'' i = Z i) ∧ J (q + (extJ e.count r lo (j + 1)).length) e.own V6 ∧ KeepsFrom BW W V6 :=
            ⟨⟨Z6, hS6, fun i hi => by rw [hZ6 i (by omega), if_neg (by omega)]; exact HZ'.out i hi⟩, hJ6, HK6.out⟩
          have HFI := Lib.hid hfin
          have HNX : Hid ((nn : Int) + 1 = ((lo + (j + 1) : Nat) : Int)) := Lib.hid (by have := HN.out; omega)
          clear hfin hS6 hZ6 hJ6 HD6
          gi_wp2
          go_roundw
          case rel => exact ⟨j + 1, by rw [HNX.out], by omega, HFI⟩
          case measure => have h9 := HN.out; simp [intOf]; omega
        | false =>
          have hfin : FillP e BW at_ q (ext e.count (r + 1) lo).length Z J Jx W (.returned (.bool false)) V6 := by
            rcases HD6.out with ⟨h, _⟩ | ⟨_, k, k1, k2, k3⟩
            · cases h
            · exact ⟨false, rfl, HK6.out, .inr ⟨rfl, k, by omega, by have h8 := HLN.out; have h9 := HLM.out; omega, k3⟩⟩
          have HFI := Lib.hid hfin
          clear hfin HD6
          gi_wp2
          go_ret
          exact HFI.out
      · have d1 : decide ((nn : Int) ≤ (e.count : Int) - (e.size : Int) + (at_ : Int)) = false := decide_eq_false (by omega)
        have hjj : j = e.count - r - lo := by omega
        have hfin : FillP e BW at_ q (ext e.count (r + 1) lo).length Z J Jx W (.returned (.bool true)) wr := ⟨true, rfl, HK'.out, .inl ⟨rfl, ⟨Z', HS'.out, HZ'.out⟩, by rw [ext_succ, ← hjj]; exact HJ'.out⟩⟩
        have HFI := Lib.hid hfin
        clear hfin hjj hnn s5 s6
        gi_wp2
        go_ret
        exact HFI.out
end Go.Proofs.Ytpikaohodieeaaa
namespace Go.Proofs.Ytpikaohodieeaaa
open Go.RowKit
set_option linter.unusedSimpArgs false
set_option linter.unusedVariables false
attribute [local go_sem] Oper.semAt_some
theorem eg_sets : ∀ args w, (callFunc 129 args).run Try.prog w = .ok (.enter 129 args) w := enters_of Try.func129 (by kernel_rfl) rfl
@[local go_sem] theorem run_store_fn {P : Program} {w : World} (a : Addr) (m : Mode) (t : Fn) (x y : Array Value) : (store a (.func t x y) m).run P w = stored P w a (.func t x y) m := run_store P w a _ m rfl
theorem sets_any (count size : Nat) (w : World) :
    Calls Try.prog 118 #[.int .i64 count, .int .i64 size] w fun e w' => e = .returned (.func (.func 129) #[] #[.pointer (some ⟨w.heap.size + 1, 0, none⟩), .pointer (some ⟨w.heap.size, 0, none⟩)]) ∧ w' = (w.alloc (.cells #[.int .i64 count] 3)).alloc (.cells #[.int .i64 size] 3) := by
  go_enter Try.func118, Try.ntmps118
  go_wp2
  go_ret
  exact ⟨rfl, rfl⟩
set_option maxRecDepth 100000 in
set_option maxHeartbeats 2000000 in
theorem sets_yields (count size bs bc m : Nat) (w : World) (hs : w.cell? ⟨bs, 0, none⟩ = some (.int .i64 (size : Int))) (hc : w.cell? ⟨bc, 0, none⟩ = some (.int .i64 (count : Int))) (h1 : count ≤ 1000) (h2 : size ≤ 1000) :
    YieldsO Fence.wide m Try.prog 129 #[.pointer (some ⟨bs, 0, none⟩), .pointer (some ⟨bc, 0, none⟩)] (fun r => r = bs ∨ r = bc) (RlS w.heap.size) (ext count size 0) w := fun l J Jx W hW hA hAx hY h0 => by
  have hs0 := hW.size
  have hs' := cell_of hW hs
  have hc' := cell_of hW hc
  have zs : bs < w.heap.size := World.block_lt_of_cell? _ _ hs
  have zc : bc < w.heap.size := World.block_lt_of_cell? _ _ hc
  have HA := Lib.hid hA
  have HY : Hid (∀ k x v O W1, (ext count size 0)[k]? = some x → RlS w.heap.size x v O W1 → J k O W1 → YieldAt Fence.wide 8 Try.prog l v W1 fun en W' => KeepsFrom W.heap.size W1 W' ∧ KpO 0 (fun r => (r = bs ∨ r = bc) ∨ O r) W1 W' ∧ ((en = .returned (.bool true) ∧ J (k + 1) O W') ∨ (en = .returned (.bool false) ∧ Jx k O W'))) := Lib.hid fun k x v O W1 hx hr hJ => by
    obtain ⟨fn, tmps, assign, body, hy, hR⟩ := hY k x v O W1 hx hr hJ
    exact ⟨fn, tmps, assign, body, hy, RoundIn.any0 hR⟩
  have H0 := Lib.hid h0
  obtain ⟨W1, hW1⟩ : ∃ W1, W1 = W.alloc (.cells #[.func (.yield l) #[] #[]] 124) := ⟨_, rfl⟩
  have hmk := run_make_ints size h2 W1
  have hsz1 : W1.heap.size = W.heap.size + 1 := by rw [hW1]; simp
  rw [hsz1] at hmk
  have hn0 : (0 : Int) ≤ (size : Int) := by omega
  rw [hW1] at hmk
  have zs' : bs < W.heap.size := by omega
  have zc' : bc < W.heap.size := by omega
  clear hs hc hY h0 hA hAx hsz1 hW1 W1
  refine callsIn_wide.2 ((callsIn_wide (n := 10)).1 ?_)
  refine callsIn_of_wp Try.func129 rfl trivial ?_ rfl
  simp only [Try.ntmps129, List.size_toArray, List.length_cons, List.length_nil, Nat.reduceAdd, Nat.reduceSub, Array.replicate_succ, Array.replicate_zero, List.push_toArray, List.append_toArray, List.nil_append, List.cons_append]
  gi_wp2
  obtain ⟨e, he⟩ : ∃ e : SetE, e = ⟨l, bs, bc, W.heap.size, W.heap.size + 1 + 1, W.heap.size + 1 + 1 + 1, W.heap.size + 1, count, size⟩ := ⟨_, rfl⟩
  obtain ⟨V, hV⟩ : ∃ V : World, V = ((((W.alloc (.cells #[.func (.yield l) #[] #[]] 124)).alloc (.cells (madeCells #[.int .i64 0] size) 3)).alloc (.cells #[.slice (some ⟨W.heap.size + 1, 0, none⟩) size size] 29)).alloc (.cells #[.func (.func 130) #[] e.v] 136)) := ⟨_, rfl⟩
  have zV : V.heap.size = W.heap.size + 4 := by rw [hV]; simp only [World.size_alloc]
  have hbV : Below W.heap.size W V := by rw [hV]; exact (((((Below.refl _ _).alloc (Nat.le_refl _) _).alloc (by simp only [World.size_alloc]; omega) _).alloc (by simp only [World.size_alloc]; omega) _).alloc (by simp only [World.size_alloc]; omega) _)
  have vR : InR (W.heap.size + 1) size (fun _ => 0) V := by
    have h := InR.new (W.alloc (.cells #[.func (.yield l) #[] #[]] 124)) size
    rw [World.size_alloc] at h
    rw [hV]
    exact h.up (((Below.refl _ _).alloc (Nat.le_refl _) _).alloc (by simp only [World.size_alloc]; omega) _)
  have hS : SetSt e (fun _ => 0) V := by
    refine ⟨?_, ?_, ?_, ?_, ?_, ?_, ?_⟩
    · rw [he]; exact cell_of hbV hs'
    · rw [he]; exact cell_of hbV hc'
    · rw [hV, he]; go_simp
    · rw [hV, he]; go_simp
    · rw [hV, he]; go_simp
    · rw [he]; exact vR
    · rw [he]
      refine ⟨.cells (madeCells #[.int .i64 0] size) 3 (0, 0), ?_, rfl⟩
      · rw [hV, Below.heap_alloc _ _ _ (by simp only [World.size_alloc]; omega), Below.heap_alloc _ _ _ (by simp only [World.size_alloc]; omega)]
        have h := World.alloc_heap_new (W.alloc (.cells #[.func (.yield l) #[] #[]] 124)) (.cells (madeCells #[.int .i64 0] size) 3)
        rw [World.size_alloc] at h
        exact h
  have hD : SetD e w.heap.size W.heap.size := by
    rw [he]
    exact ⟨zs, zc, hs0, Nat.le_refl _, by dsimp only; omega, by dsimp only; omega, by dsimp only; omega, by dsimp only; omega, by dsimp only; omega, by dsimp only; omega, h1, h2⟩
  have hown : ∀ r, e.own r → W.heap.size ≤ r ∧ r < V.heap.size := fun r h => by
    rw [he] at h
    simp only [SetE.own] at h
    omega
  have hJV : J 0 e.own V := HA.out.below H0.out hbV (fun r h => .inr (hown r h))
  have hc : e.count = count := by rw [he]
  have hz : e.size = size := by rw [he]
  have hl : e.l = l := by rw [he]
  have hfill := fill_any e w.heap.size W.heap.size (fun r => r = bs ∨ r = bc) (.inl (by rw [he])) (.inr (by rw [he])) (ext count size 0) J Jx HA.out hD (by rw [hl]; exact HY.out) size 0 0 0 [] (fun _ => 0) V (by rw [hz]; omega) rfl (by omega) hS (fun i hi => absurd hi (by omega)) hJV (fun j x hx => by rw [hc] at hx; rw [Nat.zero_add]; exact hx)
  have HF := Lib.hid hfill
  clear hfill hJV hS vR hbV zV hs' hc' hmk
  have hE : (#[.pointer (some ⟨bs, 0, none⟩), .pointer (some ⟨W.heap.size, 0, none⟩), .pointer (some ⟨W.heap.size + 1 + 1, 0, none⟩), .pointer (some ⟨bc, 0, none⟩), .pointer (some ⟨W.heap.size + 1 + 1 + 1, 0, none⟩)] : Array Value) = e.v := by rw [he]
  simp only [hE]
  rw [← hV]
  refine ⟨trivial, ?_⟩
  rw [he]
  have hf := HF.out
  rw [he] at hf
  refine hf.mono ?_
  rintro en V6 ⟨b, rfl, hk6, hR⟩
  gi_wp2
  go_end0
  refine ⟨⟨_, rfl⟩, e.own, ?_⟩
  rw [← he] at hR
  rcases hR with ⟨-, -, h⟩ | ⟨-, k, -, hk, h⟩
  · rw [Nat.zero_add] at h
    exact .inl h
  · rw [Nat.zero_add] at hk
    exact .inr ⟨k, hk, h⟩
end Go.Proofs.Ytpikaohodieeaaa
