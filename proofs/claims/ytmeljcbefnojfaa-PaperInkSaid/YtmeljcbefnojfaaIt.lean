import Derived.Test.YtmeljcbefnojfaaCut
import Derived.Test.YtmeljcbefnojfaaClm
import Derived.Laws.EntriesVeiled
import Derived.Test.YtmeljcbefnojfaaBase
namespace Go.Proofs.Ytmeljcbefnojfaa
open Go.RowKit
attribute [local go_sem] Oper.semAt_some
/-- the slice in the box bm points at block b -/
def PointsAt (bm b : Nat) (W : World) : Prop := ∃ o len cap, W.cell? ⟨bm, 0, none⟩ = some (.slice (some ⟨b, o, none⟩) len cap)
/-- what a round keeps: all cells but those of bm, and of the block at which the slice in bm points -/
def KpM (bm : Nat) (W W' : World) : Prop := W.heap.size ≤ W'.heap.size ∧ ∀ (b : Nat) (c : Array Value) (t : TypeId) (f : Nat × Nat), W.heap[b]? = some (.cells c t f) → b ≠ bm → ¬ PointsAt bm b W → W'.heap[b]? = some (.cells c t f) ∧ ¬ PointsAt bm b W'
theorem KpM.trans {bm : Nat} {A B C : World} (h : KpM bm A B) (k : KpM bm B C) : KpM bm A C :=
  ⟨Nat.le_trans h.1 k.1, fun b c t f h0 h1 h2 => by obtain ⟨g1, g2⟩ := h.2 b c t f h0 h1 h2; exact k.2 b c t f g1 h1 g2⟩
theorem KpM.putObj {bm : Nat} {w : World} (hbm : bm < w.heap.size) (W : World) (l : Nat) (o o' : Obj) (hl : w.heap.size ≤ l) (h : W.heap[l]? = some o) (hc : o.isCells = false) : KpM bm W (W.putObj l o') := by
  have hne : bm ≠ l := by omega
  have hcell : (W.putObj l o').cell? ⟨bm, 0, none⟩ = W.cell? ⟨bm, 0, none⟩ := World.cell?_of_block (World.putObj_heap_other (by show bm ≠ l; omega))
  refine ⟨(grownBy_putObj' W l o').size, fun b c t f h0 h1 h2 => ⟨?_, ?_⟩⟩
  · have : b ≠ l := fun e => by subst e; rw [h0] at h; cases h; cases hc
    rw [World.putObj_heap_other (by omega)]; exact h0
  · intro ⟨o2, len, cap, h3⟩
    exact h2 ⟨o2, len, cap, by rw [← hcell]; exact h3⟩
theorem grown_of_below {W w1 : World} (h : Below W.heap.size W w1) : W.grownBy w1 none := ⟨h.os, h.tape, h.output, h.size, fun k hk _ => h.block k hk⟩
theorem abides_below {β : Type} {B : Nat} {J : β → World → Prop} (hJ : AbidesFrom B J) {s : β} {W w1 : World} (h : J s W) (hb : Below W.heap.size W w1) : J s w1 :=
  hJ s W w1 none h (grown_of_below hb) (fun r e => by cases e)
theorem heap_of_cell {W : World} {b o : Nat} {v : Value} (h : W.cell? ⟨b, o, none⟩ = some v) : ∃ c t f, W.heap[b]? = some (.cells c t f) := by
  unfold World.cell? at h
  split at h
  · rename_i c t f hb; exact ⟨c, t, f, hb⟩
  · cases h
/-- what a round keeps, where the slice in bm was nil -/
theorem KpM.cell {bm b o : Nat} {W W' : World} {v : Value} (hk : KpM bm W W') (hn : W.cell? ⟨bm, 0, none⟩ = some (.slice none 0 0)) (hb : b ≠ bm) (h : W.cell? ⟨b, o, none⟩ = some v) : W'.cell? ⟨b, o, none⟩ = some v := by
  obtain ⟨c, t, f, hh⟩ := heap_of_cell h
  have := (hk.2 b c t f hh hb (fun ⟨o2, len, cap, h3⟩ => by rw [hn] at h3; cases h3)).1
  rw [← h]
  exact World.cell?_of_block (by rw [show (⟨b, o, none⟩ : Addr).block = b from rfl, this, hh])
theorem KpM.pap {p : Pap} {bm b : Nat} {W W' : World} (hk : KpM bm W W') (hn : W.cell? ⟨bm, 0, none⟩ = some (.slice none 0 0)) (hb : b ≠ bm) (h : HasPap p b W) : HasPap p b W' := by
  unfold HasPap at *
  obtain ⟨p0, p1, p2, p3, p4, p5, p6, p7, p8, p9⟩ := h
  exact ⟨hk.cell hn hb p0, hk.cell hn hb p1, hk.cell hn hb p2, hk.cell hn hb p3, hk.cell hn hb p4, hk.cell hn hb p5, hk.cell hn hb p6, hk.cell hn hb p7, hk.cell hn hb p8, hk.cell hn hb p9⟩
theorem KpM.arc {p : Pap} {bm b : Nat} {W W' : World} (hk : KpM bm W W') (hn : W.cell? ⟨bm, 0, none⟩ = some (.slice none 0 0)) (hb : b ≠ bm) (h : ArcCell p b W) : ArcCell p b W' := by
  rcases h with ⟨h, h1⟩ | ⟨h, b', h1, h2⟩
  · exact .inl ⟨h, hk.cell hn hb h1⟩
  · refine .inr ⟨h, b', hk.cell hn hb h1, hk.pap hn (fun e => ?_) h2⟩
    subst e
    rw [h2.1] at hn
    cases hn
def HasPt (t : Pt) (b : Nat) (w : World) : Prop := w.cell? ⟨b, 0, none⟩ = some (.int .i64 t.x) ∧ w.cell? ⟨b, 1, none⟩ = some (.int .i64 t.y) ∧ w.cell? ⟨b, 2, none⟩ = some (.int .i64 t.half)
def leastOf (p : Pap) (t : Pt) (c : Int) : Int := alongLo p t - (c + 1) * p.pitch + 1
def greatOf (p : Pap) (t : Pt) (c : Int) : Int := alongHi p t - c * p.pitch
/-- the ends of a stretch -/
def SC (P1 P2 : Int → Prop) (lo hi K1 K2 : Int) : Prop := (hi < lo ∧ K1 = lo ∧ K2 = lo) ∨ (lo ≤ hi ∧ Cut P1 lo hi K1 ∧ Cut P2 lo hi K2)
theorem eg_h1 : ∀ args w, (callFunc 126 args).run Try.prog w = .ok (.enter 126 args) w := enters_of Try.func126 (by kernel_rfl) rfl
theorem eg_h2 : ∀ args w, (callFunc 127 args).run Try.prog w = .ok (.enter 127 args) w := enters_of Try.func127 (by kernel_rfl) rfl
theorem eg_h3 : ∀ args w, (callFunc 128 args).run Try.prog w = .ok (.enter 128 args) w := enters_of Try.func128 (by kernel_rfl) rfl
theorem eg_h4 : ∀ args w, (callFunc 129 args).run Try.prog w = .ok (.enter 129 args) w := enters_of Try.func129 (by kernel_rfl) rfl
theorem dec_eq {a b : Prop} [Decidable a] [Decidable b] (h : a ↔ b) : decide a = decide b := by simp [h]
theorem stretch_below (p : Pap) (l g : Int) (ba bl bg : Nat) (lo hi K1 K2 : Int) (W : World) (h : p.Ok) (ha : ArcCell p ba W) (hl : W.cell? ⟨bl, 0, none⟩ = some (.int .i64 l)) (hg : W.cell? ⟨bg, 0, none⟩ = some (.int .i64 g))
    (h0 : 0 ≤ lo) (h1 : lo ≤ 1000000000) (h2 : -1000000000 ≤ hi) (h3 : hi ≤ p.height) (hs : SC (fun y => l ≤ arcOf p y) (fun y => g < arcOf p y) lo hi K1 K2) :
    Calls Try.prog 125 #[.agg #[.int .i64 lo, .int .i64 hi], .func (.func 126) #[] #[.pointer (some ⟨ba, 0, none⟩), .pointer (some ⟨bl, 0, none⟩)], .func (.func 127) #[] #[.pointer (some ⟨ba, 0, none⟩), .pointer (some ⟨bg, 0, none⟩)]] W fun e w' => e = .returned (.agg #[.int .i64 K1, .int .i64 (K2 - 1)]) ∧ Below W.heap.size W w' := by
  rcases hs with ⟨hlt, rfl, rfl⟩ | ⟨hle, c1, c2⟩
  · exact stretch_none _ _ _ hi W (by omega) h1 h2 hlt rfl rfl
  · have hh := h.height
    refine stretch_some _ _ _ _ K1 K2 lo hi W h0 (by omega) hle eg_h1 eg_h2 ?_ ?_ ⟨c1.1, c1.2.1⟩ ⟨c2.1, c2.2.1⟩
    · intro W' y hb y1 y2
      have := hi1_any p y l ba bl W' h (by omega) (ha.up hb) (cell_up hb (World.block_lt_of_cell? _ _ hl) hl)
      rw [dec_eq (c1.2.2 y y1 y2)] at this
      exact this
    · intro W' y hb y1 y2
      have := hi2_any p y g ba bg W' h (by omega) (ha.up hb) (cell_up hb (World.block_lt_of_cell? _ _ hg) hg)
      rw [dec_eq (c2.2.2 y y1 y2)] at this
      exact this
theorem stretch_above (p : Pap) (l g : Int) (ba bl bg : Nat) (lo hi K1 K2 : Int) (W : World) (h : p.Ok) (ha : ArcCell p ba W) (hl : W.cell? ⟨bl, 0, none⟩ = some (.int .i64 l)) (hg : W.cell? ⟨bg, 0, none⟩ = some (.int .i64 g))
    (h0 : 0 ≤ lo) (h1 : lo ≤ 1000000000) (h2 : -1000000000 ≤ hi) (h3 : hi ≤ p.height) (hs : SC (fun y => arcOf p y ≤ g) (fun y => arcOf p y < l) lo hi K1 K2) :
    Calls Try.prog 125 #[.agg #[.int .i64 lo, .int .i64 hi], .func (.func 128) #[] #[.pointer (some ⟨ba, 0, none⟩), .pointer (some ⟨bg, 0, none⟩)], .func (.func 129) #[] #[.pointer (some ⟨ba, 0, none⟩), .pointer (some ⟨bl, 0, none⟩)]] W fun e w' => e = .returned (.agg #[.int .i64 K1, .int .i64 (K2 - 1)]) ∧ Below W.heap.size W w' := by
  rcases hs with ⟨hlt, rfl, rfl⟩ | ⟨hle, c1, c2⟩
  · exact stretch_none _ _ _ hi W (by omega) h1 h2 hlt rfl rfl
  · have hh := h.height
    refine stretch_some _ _ _ _ K1 K2 lo hi W h0 (by omega) hle eg_h3 eg_h4 ?_ ?_ ⟨c1.1, c1.2.1⟩ ⟨c2.1, c2.2.1⟩
    · intro W' y hb y1 y2
      have := hi3_any p y g ba bg W' h (by omega) (ha.up hb) (cell_up hb (World.block_lt_of_cell? _ _ hg) hg)
      rw [dec_eq (c1.2.2 y y1 y2)] at this
      exact this
    · intro W' y hb y1 y2
      have := hi4_any p y l ba bl W' h (by omega) (ha.up hb) (cell_up hb (World.block_lt_of_cell? _ _ hl) hl)
      rw [dec_eq (c2.2.2 y y1 y2)] at this
      exact this
end Go.Proofs.Ytmeljcbefnojfaa
namespace Go.Proofs.Ytmeljcbefnojfaa
open Go.RowKit
section
variable {F : Fence} {n : Nat} {P : Program} {α : Type}
/-- the iterator's contract: it yields L's elements one after the other -/
def Yields (F : Fence) (n : Nat) (P : Program) (g : Nat) (lb : Array Value) (encs : α → Array Value) (Kp : World → World → Prop) (L : List α) (w : World) : Prop :=
  ∀ (l : Nat) (J : Nat → World → Prop) (W : World), Below w.heap.size w W → AbidesFrom W.heap.size J →
    (∀ k x W1, L[k]? = some x → J k W1 → YieldAt F (n - 1) P l (encs x) W1 fun e W' => e = .returned (.bool true) ∧ J (k + 1) W' ∧ Kp W1 W') →
    J 0 W → CallsIn F n P g (#[.func (.yield l) #[] #[]] ++ lb) W fun e W' => (∃ v, e = .returned v) ∧ J L.length W'
/-- a round's end: it goes on, or nothing -/
def goesOn (R : World → Prop) : Exit → Act → World → Prop
  | .normal, _, W => R W
  | _, _, _ => False
theorem rangeList {g : Operand} {ps : Array Tmp} {assign body : Code} {Q : Exit → Act → World → Prop} {a : Act} {w : World}
    (hro : F.round = none) (hn : 1 ≤ n) {gf : Nat} {lb : Array Value} (hg : a.eval g = .func (.func gf) #[] lb) (hF : F.fn gf) (eg : ∀ args w, (callFunc gf args).run P w = .ok (.enter gf args) w)
    {encs : α → Array Value} {Kp : World → World → Prop} {L : List α} {w0 : World} (hseq : Yields F (n - 1) P gf lb encs Kp L w0) (hb0 : Below w0.heap.size w0 w) (hps : ∀ x, (encs x).size = ps.size)
    (hKt : ∀ {A B C : World}, Kp A B → Kp B C → Kp A C) (hKb : ∀ (W : World) (l : Nat) (o o' : Obj), w.heap.size ≤ l → W.heap[l]? = some o → o.isCells = false → o.isWalk = false → Kp W (W.putObj l o'))
    (I : Nat → World → Prop) (hI : OwnFrom w.heap.size I) (h0 : I 0 w) (Ax : α → Act → World → Prop) (hAx : ∀ x a', OwnFrom w.heap.size (fun (_ : Unit) W => Ax x a' W))
    (hassign : ∀ (l k : Nat) (x : α) (W : World) (K : Act → World → Prop), L[k]? = some x → I k W → (∀ a' W', KeepsFrom w.heap.size W W' → Kp W W' → I k W' → Ax x a' W' → K a' W') →
      assign.wpIn (F.inRound l) (n - 1 - 1) P (Exit.then K (fun _ _ _ => False)) { tmps := (ps.zip (encs x)).foldl (fun t (p, v) => t.setIfInBounds p v) a.tmps, defers := [] } W)
    (hbody : ∀ (l k : Nat) (x : α) (a' : Act) (W : World), L[k]? = some x → I k W → Ax x a' W → body.wpIn (F.inRound l) (n - 1 - 1) P (goesOn fun W' => KeepsFrom w.heap.size W W' ∧ Kp W W' ∧ I (k + 1) W') a' W)
    (hdone : ∀ (D : Nat) (W : World), w.heap.size ≤ D → I L.length W → W.heap[D]? = some (.deferred (some [])) → Q .normal { a with defers := { target := .collected D, args := #[] } :: a.defers } W) :
    (Code.rangeFunc g ps assign body).wpIn F n P Q a w := by
  refine wpIn_rangeFunc fun fn hfn => ?_
  rw [hro]
  let rec' : LoopState → Loop := fun st => { state := st, pending := none, fn, tmps := a.tmps, params := ps, assign, body, defers := w.heap.size }
  have kept : ∀ {A B : World} {c : Nat} {o : Obj}, KeepsFrom w.heap.size A B → w.heap.size ≤ c → A.heap[c]? = some o → o.isCells = false → B.heap[c]? = some o := fun hk hc ho hi => hk.same _ _ hc ho hi
  let books : World → Prop := fun W => W.heap[w.heap.size + 1]? = some (.loop (rec' .ready)) ∧ W.heap[w.heap.size]? = some (.deferred (some []))
  obtain ⟨W1, hW1⟩ : ∃ W1, W1 = (w.alloc (.deferred (some []))).alloc (.loop (rec' .ready)) := ⟨_, rfl⟩
  have hb1 : Below w.heap.size w W1 := by rw [hW1]; exact ((Below.refl _ _).alloc (Nat.le_refl _) _).alloc (by simp only [World.size_alloc]; omega) _
  have hs1 : W1.heap.size = w.heap.size + 1 + 1 := by rw [hW1]; simp
  have hk1 : books W1 := by
    constructor
    · rw [hW1]; have := World.alloc_heap_new (w.alloc (.deferred (some []))) (.loop (rec' .ready)); rwa [World.size_alloc] at this
    · rw [hW1, Below.heap_alloc _ _ _ (by simp)]; exact World.alloc_heap_new w _
  have hi1 : I 0 W1 := by rw [hW1]; exact hI.alloc _ (hI.alloc _ h0)
  refine ⟨w.heap.size + 1, [{ target := .collected w.heap.size, args := #[] }], W1, { target := .fn (.func gf) lb, args := #[.func (.yield (w.heap.size + 1)) #[] #[]] }, W1, gf, #[.func (.yield (w.heap.size + 1)) #[] #[]] ++ lb, W1, ?_, ?_, ?_, ?_, fun _ => hn, ?_⟩
  · rw [hW1]; exact run_enterLoop_outer _ _ _ _ _
  · simp only [resolve, hg]
    simp [go_sem]
  · intro f' hf'
    simp [Target.leads] at hf'
    subst hf'; exact hF
  · simp [invoke, go_sem, eg]
  have lt_of : ∀ {A : World} {c : Nat} {o : Obj}, A.heap[c]? = some o → c < A.heap.size := fun h => (Array.getElem?_eq_some_iff.1 h).1
  refine (hseq (w.heap.size + 1) (fun k W => I k W ∧ books W) W1 (hb0.trans (hb1.mono hb0.size)) ?_ ?_ ⟨hi1, hk1⟩).mono ?_
  · intro k A B row hA hgr hr
    refine ⟨hI k A B row hA.1 hgr fun r e => ?_, ?_, ?_⟩
    · obtain ⟨h1, o, h2, h3⟩ := hr r e
      exact ⟨by omega, o, h2, Obj.not_cells_of_walk h3⟩
    · rw [hgr.block _ (lt_of hA.2.1) (fun e => by have := (hr _ e.symm).1; omega)]; exact hA.2.1
    · rw [hgr.block _ (lt_of hA.2.2) (fun e => by have := (hr _ e.symm).1; omega)]; exact hA.2.2
  · intro k x W hx hW
    obtain ⟨hi, hl, hd⟩ := hW
    refine ⟨fn, _, assign, body, run_yield (P := P) (args := encs x) hl (hps x), roundIn_of_wpIn hfn (hassign _ k x W _ hx hi fun a' Wa hka hkp hia hax => ?_)⟩
    have hla := kept hka (by omega) hl rfl
    have hda := kept hka (Nat.le_refl _) hd rfl
    refine ⟨_, run_beginRound hla rfl, ?_⟩
    have hlb : (Wa.putObj (w.heap.size + 1) (.loop { rec' .ready with state := .busy })).heap[w.heap.size + 1]? = some (.loop { rec' .ready with state := .busy }) := World.putObj_heap_same (lt_of hla)
    have hdb : (Wa.putObj (w.heap.size + 1) (.loop { rec' .ready with state := .busy })).heap[w.heap.size]? = some (.deferred (some [])) := (World.putObj_heap_other (by omega)).trans hda
    refine wpIn_mono (hbody _ k x a' _ hx (hI.putObj _ hia (by omega) hla rfl) ((hAx x a').putObj (s := ()) _ hax (by omega) hla rfl)) ?_
    intro e a3 W3 hp
    cases e
    case normal =>
      obtain ⟨hk3, hkp3, hi3⟩ := hp
      have hl3 := kept hk3 (by omega) hlb rfl
      have hd3 := kept hk3 (Nat.le_refl _) hdb rfl
      refine ⟨_, _, run_endRound none hl3, rfl, ⟨hI.putObj _ hi3 (by omega) hl3 rfl, ?_, ?_⟩, ?_⟩
      · exact World.putObj_heap_same (lt_of hl3)
      · exact (World.putObj_heap_other (by omega)).trans hd3
      · exact hKt (hKt (hKt hkp (hKb _ _ _ _ (by omega) hla rfl rfl)) hkp3) (hKb _ _ _ _ (by omega) hl3 rfl rfl)
    all_goals exact hp.elim
  · intro e W2 hW
    obtain ⟨⟨v, rfl⟩, hi, hl, hd⟩ := hW
    exact ⟨none, _, run_endLoop hl (by simp [rec']), hdone _ _ (Nat.le_refl _) (hI.putObj _ hi (by omega) hl rfl) ((World.putObj_heap_other (by omega)).trans hd)⟩
end
end Go.Proofs.Ytmeljcbefnojfaa
namespace Go.Proofs.Ytmeljcbefnojfaa
open Go.RowKit
attribute [local go_sem] Oper.semAt_some
def midOf (p : Pap) : Int := p.height / 2
/-- the four ends -/
structure Ends (p : Pap) (t : Pt) (c K1 K2 K3 K4 : Int) : Prop where
  below : SC (fun y => leastOf p t c ≤ arcOf p y) (fun y => greatOf p t c < arcOf p y) (hLo p t) (min (hHi p t) (midOf p)) K1 K2
  above : SC (fun y => arcOf p y ≤ greatOf p t c) (fun y => arcOf p y < leastOf p t c) (max (hLo p t) (midOf p + 1)) (hHi p t) K3 K4
end Go.Proofs.Ytmeljcbefnojfaa
