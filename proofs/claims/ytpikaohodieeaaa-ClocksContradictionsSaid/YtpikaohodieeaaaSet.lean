import Derived.Test.YtpikaohodieeaaaKps
namespace Go.Proofs.Ytpikaohodieeaaa
open Go.RowKit
set_option linter.unusedSimpArgs false
set_option linter.unusedVariables false
theorem ownfrom_below {β : Type} {B : Nat} {J : β → World → Prop} (hJ : OwnFrom B J) {s : β} {W w1 : World} (h : J s W) (hb : Below W.heap.size W w1) : J s w1 :=
  hJ s W w1 none h (grown_of_below hb) (fun r e => by cases e)
theorem Below.putObj_new {B l : Nat} {A W : World} {o : Obj} (h : Below B A W) (hl : B ≤ l) (hW : l < W.heap.size) : Below B A (W.putObj l o) :=
  h.grown (grownBy_putObj' W l o) (by omega) (fun k e => by cases e; omega)
section
variable {F : Fence} {n : Nat} {P : Program} {α : Type}
/-- the iterator's contract: it yields L's elements one after the other, until a round says no -/
def YieldsS (F : Fence) (n : Nat) (P : Program) (g : Nat) (lb : Array Value) (encs : α → Array Value) (Kp : World → World → Prop) (L : List α) (w : World) : Prop :=
  ∀ (l : Nat) (J Jx : Nat → World → Prop) (W : World), Below w.heap.size w W → OwnFrom W.heap.size J → OwnFrom W.heap.size Jx →
    (∀ k x W1, L[k]? = some x → J k W1 → YieldAt F (n - 1) P l (encs x) W1 fun e W' => KeepsFrom W.heap.size W1 W' ∧ ((e = .returned (.bool true) ∧ J (k + 1) W' ∧ Kp W1 W') ∨ (e = .returned (.bool false) ∧ Jx k W'))) →
    J 0 W → CallsIn F n P g (#[.func (.yield l) #[] #[]] ++ lb) W fun e W' => (∃ v, e = .returned v) ∧ (J L.length W' ∨ ∃ k, k < L.length ∧ Jx k W')
theorem YieldsS.later {g : Nat} {lb : Array Value} {encs : α → Array Value} {Kp : World → World → Prop} {L : List α} {w w' : World} (h : YieldsS F n P g lb encs Kp L w) (hb : Below w.heap.size w w') : YieldsS F n P g lb encs Kp L w' :=
  fun l J Jx W hW => h l J Jx W (hb.trans (hW.mono hb.size))
theorem keeps_more {B B' : Nat} {W W' : World} (h : KeepsFrom B W W') (hB : B ≤ B') : KeepsFrom B' W W' := ⟨h.size, fun k o hk => h.same k o (Nat.le_trans hB hk)⟩
theorem keeps_put {B l : Nat} {W : World} {o' : Obj} (hl : l < B) : KeepsFrom B W (W.putObj l o') := ⟨by simp, fun k o hk h _ => (World.putObj_heap_other (by omega)).trans h⟩
/-- how a round's body may be left: on, or out of the loop -/
def goesS (B : Nat) (Kp : World → World → Prop) (I : Nat → World → Prop) (Ix : Code → Nat → World → Prop) (k : Nat) (W : World) : Exit → Act → World → Prop
  | .normal, _, W' => KeepsFrom B W W' ∧ Kp W W' ∧ I (k + 1) W'
  | .ret, _, W' => KeepsFrom B W W' ∧ Ix .ret k W'
  | .exit id, _, W' => KeepsFrom B W W' ∧ Ix (.exit id) k W'
  | .goto t, _, W' => KeepsFrom B W W' ∧ Ix (.goto t) k W'
  | .panic _, _, _ => False
  | .outgrown, _, _ => False
theorem rangeListS {g : Operand} {ps : Array Tmp} {assign body : Code} {Q : Exit → Act → World → Prop} {a : Act} {w : World}
    (hro : F.round = none) (hn : 1 ≤ n) {gf : Nat} {lb : Array Value} (hg : a.eval g = .func (.func gf) #[] lb) (hF : F.fn gf) (eg : ∀ args w, (callFunc gf args).run P w = .ok (.enter gf args) w)
    {encs : α → Array Value} {Kp : World → World → Prop} {L : List α} {w0 : World} (hseq : YieldsS F (n - 1) P gf lb encs Kp L w0) (hb0 : Below w0.heap.size w0 w) (hps : ∀ x, (encs x).size = ps.size)
    (hKt : ∀ {A B C : World}, Kp A B → Kp B C → Kp A C) (hKb : ∀ (W : World) (l : Nat) (o o' : Obj), w.heap.size ≤ l → W.heap[l]? = some o → o.isCells = false → o.isWalk = false → Kp W (W.putObj l o'))
    (I : Nat → World → Prop) (Ix : Code → Nat → World → Prop) (hI : OwnFrom w.heap.size I) (hIx : ∀ c, OwnFrom w.heap.size (Ix c)) (h0 : I 0 w) (Ax : α → Act → World → Prop) (hAx : ∀ x a', OwnFrom w.heap.size (fun (_ : Unit) W => Ax x a' W))
    (hassign : ∀ (l k : Nat) (x : α) (W : World) (K : Act → World → Prop), L[k]? = some x → I k W → (∀ a' W', KeepsFrom w.heap.size W W' → Kp W W' → I k W' → Ax x a' W' → K a' W') →
      assign.wpIn (F.inRound l) (n - 1 - 1) P (Exit.then K (fun _ _ _ => False)) { tmps := (ps.zip (encs x)).foldl (fun t (p, v) => t.setIfInBounds p v) a.tmps, defers := [] } W)
    (hbody : ∀ (l k : Nat) (x : α) (a' : Act) (W : World), L[k]? = some x → I k W → Ax x a' W → body.wpIn (F.inRound l) (n - 1 - 1) P (goesS w.heap.size Kp I Ix k W) a' W)
    (hdone : ∀ (D : Nat) (W : World), w.heap.size ≤ D → I L.length W → W.heap[D]? = some (.deferred (some [])) → Q .normal { a with defers := { target := .collected D, args := #[] } :: a.defers } W)
    (hstop : ∀ (D : Nat) (c : Code) (k : Nat) (W : World), w.heap.size ≤ D → k < L.length → Ix c k W → W.heap[D]? = some (.deferred (some [])) → c.wpIn F n P Q { a with defers := { target := .collected D, args := #[] } :: a.defers } W) :
    (Code.rangeFunc g ps assign body).wpIn F n P Q a w := by
  refine wpIn_rangeFunc fun fn hfn => ?_
  rw [hro]
  let rec' : LoopState → Option Code → Loop := fun st pe => { state := st, pending := pe, fn, tmps := a.tmps, params := ps, assign, body, defers := w.heap.size }
  have kept : ∀ {A B : World} {c : Nat} {o : Obj}, KeepsFrom w.heap.size A B → w.heap.size ≤ c → A.heap[c]? = some o → o.isCells = false → B.heap[c]? = some o := fun hk hc ho hi => hk.same _ _ hc ho hi
  let books : World → Prop := fun W => W.heap[w.heap.size + 1]? = some (.loop (rec' .ready none)) ∧ W.heap[w.heap.size]? = some (.deferred (some []))
  obtain ⟨W1, hW1⟩ : ∃ W1, W1 = (w.alloc (.deferred (some []))).alloc (.loop (rec' .ready none)) := ⟨_, rfl⟩
  have hb1 : Below w.heap.size w W1 := by rw [hW1]; exact ((Below.refl _ _).alloc (Nat.le_refl _) _).alloc (by simp only [World.size_alloc]; omega) _
  have hs1 : W1.heap.size = w.heap.size + 1 + 1 := by rw [hW1]; simp
  have hk1 : books W1 := by
    constructor
    · rw [hW1]; have := World.alloc_heap_new (w.alloc (.deferred (some []))) (.loop (rec' .ready none)); rwa [World.size_alloc] at this
    · rw [hW1, Below.heap_alloc _ _ _ (by simp)]; exact World.alloc_heap_new w _
  have hi1 : I 0 W1 := by rw [hW1]; exact hI.alloc _ (hI.alloc _ h0)
  refine ⟨w.heap.size + 1, [{ target := .collected w.heap.size, args := #[] }], W1, { target := .fn (.func gf) lb, args := #[.func (.yield (w.heap.size + 1)) #[] #[]] }, W1, gf, #[.func (.yield (w.heap.size + 1)) #[] #[]] ++ lb, W1, ?_, ?_, ?_, ?_, fun _ => hn, ?_⟩
  · rw [hW1]; exact run_enterLoop_outer _ _ _ _ _
  · simp only [resolve, hg]
    simp [go_sem]
  · intro f' hf'
    simp [Target.leads] at hf'
    subst hf'; exact hF
  · simp [invoke, go_sem, eg]
  have lt_of : ∀ {A : World} {c : Nat} {o : Obj}, A.heap[c]? = some o → c < A.heap.size := fun h => (Array.getElem?_eq_some_iff.1 h).1
  refine (hseq (w.heap.size + 1) (fun k W => I k W ∧ books W) (fun k W => ∃ c, Ix c k W ∧ W.heap[w.heap.size + 1]? = some (.loop (rec' .done (some c))) ∧ W.heap[w.heap.size]? = some (.deferred (some []))) W1 (hb0.trans (hb1.mono hb0.size)) ?_ ?_ ?_ ⟨hi1, hk1⟩).mono ?_
  · intro k A B row hA hgr hr
    refine ⟨hI k A B row hA.1 hgr fun r e => ?_, ?_, ?_⟩
    · obtain ⟨h1, o, h2, h3⟩ := hr r e
      exact ⟨by omega, o, h2, h3⟩
    · rw [hgr.block _ (lt_of hA.2.1) (fun e => by have := (hr _ e.symm).1; omega)]; exact hA.2.1
    · rw [hgr.block _ (lt_of hA.2.2) (fun e => by have := (hr _ e.symm).1; omega)]; exact hA.2.2
  · rintro k A B row ⟨c, hA, hA1, hA2⟩ hgr hr
    refine ⟨c, hIx c k A B row hA hgr fun r e => ?_, ?_, ?_⟩
    · obtain ⟨h1, o, h2, h3⟩ := hr r e
      exact ⟨by omega, o, h2, h3⟩
    · rw [hgr.block _ (lt_of hA1) (fun e => by have := (hr _ e.symm).1; omega)]; exact hA1
    · rw [hgr.block _ (lt_of hA2) (fun e => by have := (hr _ e.symm).1; omega)]; exact hA2
  · intro k x W hx hW
    obtain ⟨hi, hl, hd⟩ := hW
    refine ⟨fn, _, assign, body, run_yield (P := P) (args := encs x) hl (hps x), roundIn_of_wpIn hfn (hassign _ k x W _ hx hi fun a' Wa hka hkp hia hax => ?_)⟩
    have hla := kept hka (by omega) hl rfl
    have hda := kept hka (Nat.le_refl _) hd rfl
    have hkb : KeepsFrom W1.heap.size W (Wa.putObj (w.heap.size + 1) (.loop { rec' .ready none with state := .busy })) := (keeps_more hka (by omega)).trans (keeps_put (by omega))
    refine ⟨_, run_beginRound hla rfl, ?_⟩
    have hlb : (Wa.putObj (w.heap.size + 1) (.loop { rec' .ready none with state := .busy })).heap[w.heap.size + 1]? = some (.loop { rec' .ready none with state := .busy }) := World.putObj_heap_same (lt_of hla)
    have hdb : (Wa.putObj (w.heap.size + 1) (.loop { rec' .ready none with state := .busy })).heap[w.heap.size]? = some (.deferred (some [])) := (World.putObj_heap_other (by omega)).trans hda
    refine wpIn_mono (hbody _ k x a' _ hx (hI.putObj _ hia (by omega) hla rfl) ((hAx x a').putObj (s := ()) _ hax (by omega) hla rfl)) ?_
    intro e a3 W3 hp
    cases e
    case normal =>
      obtain ⟨hk3, hkp3, hi3⟩ := hp
      have hl3 := kept hk3 (by omega) hlb rfl
      have hd3 := kept hk3 (Nat.le_refl _) hdb rfl
      refine ⟨_, _, run_endRound none hl3, (hkb.trans (keeps_more hk3 (by omega))).trans (keeps_put (by omega)), .inl ⟨rfl, ⟨hI.putObj _ hi3 (by omega) hl3 rfl, ?_, ?_⟩, ?_⟩⟩
      · exact World.putObj_heap_same (lt_of hl3)
      · exact (World.putObj_heap_other (by omega)).trans hd3
      · exact hKt (hKt (hKt hkp (hKb _ _ _ _ (by omega) hla rfl rfl)) hkp3) (hKb _ _ _ _ (by omega) hl3 rfl rfl)
    case ret =>
      obtain ⟨hk3, hi3⟩ := hp
      have hl3 := kept hk3 (by omega) hlb rfl
      have hd3 := kept hk3 (Nat.le_refl _) hdb rfl
      exact ⟨_, _, run_endRound (some .ret) hl3, (hkb.trans (keeps_more hk3 (by omega))).trans (keeps_put (by omega)), .inr ⟨rfl, .ret, (hIx _).putObj _ hi3 (by omega) hl3 rfl, World.putObj_heap_same (lt_of hl3), (World.putObj_heap_other (by omega)).trans hd3⟩⟩
    case exit id =>
      obtain ⟨hk3, hi3⟩ := hp
      have hl3 := kept hk3 (by omega) hlb rfl
      have hd3 := kept hk3 (Nat.le_refl _) hdb rfl
      exact ⟨_, _, run_endRound (some (.exit id)) hl3, (hkb.trans (keeps_more hk3 (by omega))).trans (keeps_put (by omega)), .inr ⟨rfl, .exit id, (hIx _).putObj _ hi3 (by omega) hl3 rfl, World.putObj_heap_same (lt_of hl3), (World.putObj_heap_other (by omega)).trans hd3⟩⟩
    case goto t =>
      obtain ⟨hk3, hi3⟩ := hp
      have hl3 := kept hk3 (by omega) hlb rfl
      have hd3 := kept hk3 (Nat.le_refl _) hdb rfl
      exact ⟨_, _, run_endRound (some (.goto t)) hl3, (hkb.trans (keeps_more hk3 (by omega))).trans (keeps_put (by omega)), .inr ⟨rfl, .goto t, (hIx _).putObj _ hi3 (by omega) hl3 rfl, World.putObj_heap_same (lt_of hl3), (World.putObj_heap_other (by omega)).trans hd3⟩⟩
    all_goals exact hp.elim
  · rintro e W2 ⟨⟨v, rfl⟩, ⟨hi, hl, hd⟩ | ⟨k, hk, c, hi, hl, hd⟩⟩
    · exact ⟨none, _, run_endLoop hl (by simp [rec']), hdone _ _ (Nat.le_refl _) (hI.putObj _ hi (by omega) hl rfl) ((World.putObj_heap_other (by omega)).trans hd)⟩
    · exact ⟨some c, _, run_endLoop hl (by simp [rec']), hstop _ c k _ (Nat.le_refl _) hk ((hIx c).putObj _ hi (by omega) hl rfl) ((World.putObj_heap_other (by omega)).trans hd)⟩
end
end Go.Proofs.Ytpikaohodieeaaa
namespace Go.Proofs.Ytpikaohodieeaaa
open Go.RowKit
set_option linter.unusedSimpArgs false
set_option linter.unusedVariables false
/-- the cells stand, but those of some blocks -/
structure CBut (X : Nat → Prop) (W W' : World) : Prop where
  size : W.heap.size ≤ W'.heap.size
  block : ∀ k o, W.heap[k]? = some o → o.isCells = true → ¬ X k → W'.heap[k]? = some o
theorem CBut.refl (X : Nat → Prop) (W : World) : CBut X W W := ⟨Nat.le_refl _, fun _ _ h _ _ => h⟩
theorem CBut.trans {X : Nat → Prop} {A B C : World} (h : CBut X A B) (k : CBut X B C) : CBut X A C :=
  ⟨Nat.le_trans h.size k.size, fun i o hi ho hx => k.block i o (h.block i o hi ho hx) ho hx⟩
theorem CBut.of {X : Nat → Prop} {W W' : World} (h : Below W.heap.size W W') : CBut X W W' :=
  ⟨h.size, fun k o hk _ _ => (h.block k (Array.getElem?_eq_some_iff.1 hk).1).trans hk⟩
theorem CBut.cell {X : Nat → Prop} {W W' : World} (h : CBut X W W') {b o : Nat} {v : Value} (hx : ¬ X b) (hc : W.cell? ⟨b, o, none⟩ = some v) : W'.cell? ⟨b, o, none⟩ = some v := by
  obtain ⟨ob, h1, h2⟩ := cells_of_cell hc
  have h3 := h.block b ob h1 h2 hx
  simp only at h1
  rw [← hc]
  simp only [World.cell?, h1, h3]
theorem CBut.frozen {X : Nat → Prop} {W W' : World} (h : CBut X W W') {b o : Nat} {v : Value} (hx : ¬ X b) (hc : W.cell? ⟨b, o, none⟩ = some v) (p : Nat) : W'.frozen? ⟨b, p, none⟩ = W.frozen? ⟨b, p, none⟩ := by
  obtain ⟨ob, h1, h2⟩ := cells_of_cell hc
  have h3 := h.block b ob h1 h2 hx
  simp only at h1
  simp only [World.frozen?, h1, h3]
theorem CBut.putObj {X : Nat → Prop} {W : World} {l : Nat} {o o' : Obj} (hl : W.heap[l]? = some o) (ho : o.isCells = false) : CBut X W (W.putObj l o') :=
  ⟨by simp, fun k ob hk hc _ => by
    by_cases e : k = l
    · subst e; rw [hl] at hk; cases hk; rw [ho] at hc; cases hc
    · exact (World.putObj_heap_other e).trans hk⟩
theorem CBut.setCell {X : Nat → Prop} {W : World} {b o : Nat} {v : Value} (hx : X b) : CBut X W (W.setCell ⟨b, o, none⟩ v) :=
  ⟨by simp only [World.setCell, Array.size_modify]; exact Nat.le_refl _, fun k ob hk _ hn => (Below.heap_setCell W _ v k (fun e => hn (by rw [e]; exact hx))).trans hk⟩
theorem CBut.grown {X : Nat → Prop} {W W' : World} {b : Nat} (h : W.grownBy W' (some b)) (hx : X b) : CBut X W W' :=
  ⟨h.size, fun k o hk _ hn => (h.block k (Array.getElem?_eq_some_iff.1 hk).1 (fun e => hn (by cases e; exact hx))).trans hk⟩
theorem CBut.own {X : Nat → Prop} {A : World} {B : Nat} (β : Type) : OwnFrom B (fun (_ : β) W => CBut X A W) := fun _ Y Z row hs hg hr =>
  ⟨Nat.le_trans hs.size hg.size, fun k o hk hc hx => by
    have h1 := hs.block k o hk hc hx
    refine (hg.block k (Array.getElem?_eq_some_iff.1 h1).1 (fun e => ?_)).trans h1
    obtain ⟨_, o2, h2, h3⟩ := hr k e.symm
    rw [h1] at h2
    cases h2
    rw [hc] at h3
    cases h3⟩
theorem cell_of {W W' : World} (h : Below W.heap.size W W') {b o : Nat} {v : Value} (hc : W.cell? ⟨b, o, none⟩ = some v) : W'.cell? ⟨b, o, none⟩ = some v := cell_up h (World.block_lt_of_cell? _ _ hc) hc
abbrev encS (x : Int × Int × Int × Int) : Array Value := #[.agg #[.int .i64 x.1, .int .i64 x.2.1, .int .i64 x.2.2.1, .int .i64 x.2.2.2]]
/-- the first n steps onward -/
def onL (S : Nat → Int × Int) (n : Nat) : List (Int × Int × Int × Int) := (List.range n).map fun (i : Nat) => ((i : Int), (i : Int) + 1, (S i).1, (S i).2)
theorem onL_len (S : Nat → Int × Int) (n : Nat) : (onL S n).length = n := by simp [onL]
theorem onL_at {S : Nat → Int × Int} {n k : Nat} (h : k < n) : (onL S n)[k]? = some ((k : Int), (k : Int) + 1, (S k).1, (S k).2) := by simp [onL, h]
set_option maxRecDepth 100000 in
set_option maxHeartbeats 1000000 in
theorem onward_stops (X : Nat → Prop) (g n c Bm m : Nat) (S : Nat → Int × Int) (w : World) (hin : ∀ i, i < n → w.cell? ⟨g, i * 2, none⟩ = some (.int .i64 (S i).1) ∧ w.cell? ⟨g, i * 2 + 1, none⟩ = some (.int .i64 (S i).2))
    (hm : w.cell? ⟨Bm, 0, none⟩ = some (.slice (some ⟨g, 0, none⟩) n c)) (hgX : ¬ X g) (hBX : ¬ X Bm) (hn : n ≤ 1000) (hm1 : 1 ≤ m) :
    YieldsS Fence.wide m Try.prog 145 #[.pointer (some ⟨Bm, 0, none⟩)] encS (CBut X) (onL S n) w := fun l J Jx W hW hA hAx hY h0 => by
  have HIN : Hid (∀ i, i < n → W.cell? ⟨g, i * 2, none⟩ = some (.int .i64 (S i).1) ∧ W.cell? ⟨g, i * 2 + 1, none⟩ = some (.int .i64 (S i).2)) :=
    Lib.hid fun i hi => ⟨cell_of hW (hin i hi).1, cell_of hW (hin i hi).2⟩
  have hm' : W.cell? ⟨Bm, 0, none⟩ = some (.slice (some ⟨g, 0, none⟩) n c) := cell_of hW hm
  have HY := Lib.hid hY
  have HA := Lib.hid hA
  have HAx := Lib.hid hAx
  have H0 := Lib.hid h0
  clear hin hm hY h0 hA hAx
  refine callsIn_of_wp Try.func145 rfl trivial ?_ rfl
  simp only [Try.ntmps145, List.size_toArray, List.length_cons, List.length_nil, Nat.reduceAdd, Nat.reduceSub, Array.replicate_succ, Array.replicate_zero, List.push_toArray, List.append_toArray, List.nil_append, List.cons_append]
  gi_wp2
  gi_loopw [3, 7] (fun _ i wr => ∃ k : Nat, k ≤ n ∧ i = .int .i64 k ∧ CBut X W wr ∧ Hid (J k wr)) (fun _ i _ => n - (intOf i).toNat)
  case atStart => exact ⟨0, Nat.zero_le _, rfl, CBut.refl _ _, Lib.hid H0.out⟩
  case round =>
    obtain ⟨k, hk, rfl, hb, hJ⟩ := hrel
    have hk0 : (0 : Int) ≤ (k : Int) := by omega
    by_cases hlt : k < n
    · obtain ⟨e0, e1⟩ := HIN.out k hlt
      have c0 := hb.cell hgX e0
      have c1 := hb.cell hgX e1
      have hki : (k : Int) < (n : Int) := by omega
      have hw1 : IntKind.i64.wrap ((k : Int) + 1) = (k : Int) + 1 := IntWalk.i64_in _ (by omega)
      have HB := Lib.hid hb
      clear hb e0 e1
      have hJ2 : J k (wr.alloc (.cells #[.int .i64 (S k).1, .int .i64 (S k).2] 31)) := ownfrom_below HA.out hJ.out (box1 _ _)
      obtain ⟨fn, tmps, assign, body, hy, hR⟩ := HY.out k _ _ (onL_at hlt) hJ2
      have HJ2 := Lib.hid hJ2
      clear hJ2
      gi_wp2
      refine hR.mono ?_
      rintro e W3 ⟨-, ⟨rfl, hJ3, hk3⟩ | ⟨rfl, hJx⟩⟩
      rotate_left
      · have HJX := Lib.hid hJx
        clear hJx hR hy
        gi_wp2
        refine bodyPost_ret (results_none rfl _ _ _) rfl ?_
        exact ⟨⟨_, rfl⟩, .inr ⟨k, by rw [onL_len]; exact hlt, HJX.out⟩⟩
      have HJ3 := Lib.hid hJ3
      have HK3 := Lib.hid ((CBut.of (box1 wr _)).trans hk3)
      clear hJ3 hk3 hR hy
      gi_wp2
      go_roundw
      case rel => exact ⟨k + 1, by omega, by go_num, HB.out.trans HK3.out, HJ3⟩
      case measure => simp [intOf]; omega
    · have hki : (n : Int) ≤ (k : Int) := by omega
      obtain rfl : k = n := by omega
      gi_wp2
      go_end0
      exact ⟨⟨_, rfl⟩, .inl (by rw [onL_len]; exact hJ.out)⟩
end Go.Proofs.Ytpikaohodieeaaa
namespace Go.Proofs.Ytpikaohodieeaaa
open Go.RowKit
set_option linter.unusedSimpArgs false
set_option linter.unusedVariables false
abbrev encB (x : Int × Int × Int) : Array Value := #[.int .i64 x.1, .agg #[.int .i64 x.2.1, .int .i64 x.2.2]]
/-- numbers and spans, from the last one on -/
def bkL (S : Nat → Int × Int) (n : Nat) : List (Int × Int × Int) := (List.range n).map fun (j : Nat) => (((n - 1 - j : Nat) : Int), (S (n - 1 - j)).1, (S (n - 1 - j)).2)
theorem bkL_len (S : Nat → Int × Int) (n : Nat) : (bkL S n).length = n := by simp [bkL]
theorem bkL_at {S : Nat → Int × Int} {n k : Nat} (h : k < n) : (bkL S n)[k]? = some (((n - 1 - k : Nat) : Int), (S (n - 1 - k)).1, (S (n - 1 - k)).2) := by simp [bkL, h]
set_option maxRecDepth 100000 in
set_option maxHeartbeats 1000000 in
theorem back_stops (X : Nat → Prop) (g n c Bm m : Nat) (S : Nat → Int × Int) (w : World) (hin : ∀ i, i < n → w.cell? ⟨g, i * 2, none⟩ = some (.int .i64 (S i).1) ∧ w.cell? ⟨g, i * 2 + 1, none⟩ = some (.int .i64 (S i).2))
    (hm : w.cell? ⟨Bm, 0, none⟩ = some (.slice (some ⟨g, 0, none⟩) n c)) (hgX : ¬ X g) (hBX : ¬ X Bm) (hn : n ≤ 1000) (hm1 : 1 ≤ m) :
    YieldsS Fence.wide m Try.prog 149 #[.pointer (some ⟨Bm, 0, none⟩)] encB (CBut X) (bkL S n) w := fun l J Jx W hW hA hAx hY h0 => by
  have HIN : Hid (∀ i, i < n → W.cell? ⟨g, i * 2, none⟩ = some (.int .i64 (S i).1) ∧ W.cell? ⟨g, i * 2 + 1, none⟩ = some (.int .i64 (S i).2)) :=
    Lib.hid fun i hi => ⟨cell_of hW (hin i hi).1, cell_of hW (hin i hi).2⟩
  have hm' : W.cell? ⟨Bm, 0, none⟩ = some (.slice (some ⟨g, 0, none⟩) n c) := cell_of hW hm
  have HY := Lib.hid hY
  have HA := Lib.hid hA
  have HAx := Lib.hid hAx
  have H0 := Lib.hid h0
  clear hin hm hY h0 hA hAx
  refine callsIn_of_wp Try.func149 rfl trivial ?_ rfl
  simp only [Try.ntmps149, List.size_toArray, List.length_cons, List.length_nil, Nat.reduceAdd, Nat.reduceSub, Array.replicate_succ, Array.replicate_zero, List.push_toArray, List.append_toArray, List.nil_append, List.cons_append]
  have hw0 : IntKind.i64.wrap ((n : Int) - 1) = (n : Int) - 1 := IntWalk.i64_in _ (by omega)
  gi_wp2
  gi_loopw [3] (fun i wr => ∃ k : Nat, k ≤ n ∧ i = .int .i64 ((n : Int) - 1 - k) ∧ CBut X W wr ∧ Hid (J k wr)) (fun i _ => (intOf i + 1).toNat)
  case atStart => exact ⟨0, Nat.zero_le _, by go_num, CBut.refl _ _, Lib.hid H0.out⟩
  case round =>
    obtain ⟨k, hk, rfl, hb, hJ⟩ := hrel
    have hk0 : (0 : Int) ≤ (k : Int) := by omega
    by_cases hlt : k < n
    · obtain ⟨q, hq⟩ : ∃ q : Nat, q = n - 1 - k := ⟨_, rfl⟩
      have hqi : (n : Int) - 1 - (k : Int) = (q : Int) := by omega
      have hqn : q < n := by omega
      have hq0 : (0 : Int) ≤ (q : Int) := by omega
      have hq1 : (q : Int) < (n : Int) := by omega
      have hw1 : IntKind.i64.wrap ((q : Int) - 1) = (q : Int) - 1 := IntWalk.i64_in _ (by omega)
      rw [hqi]
      obtain ⟨e0, e1⟩ := HIN.out q hqn
      have c0 := hb.cell hgX e0
      have c1 := hb.cell hgX e1
      have cm := hb.cell hBX hm'
      have HB := Lib.hid hb
      clear hb e0 e1
      have hat := bkL_at (S := S) hlt
      rw [← hq] at hat
      obtain ⟨fn, tmps, assign, body, hy, hR⟩ := HY.out k _ _ hat hJ.out
      have HQ := Lib.hid hqi
      clear hqi hq hat
      gi_wp2
      refine hR.mono ?_
      rintro e W3 ⟨-, ⟨rfl, hJ3, hk3⟩ | ⟨rfl, hJx⟩⟩
      rotate_left
      · have HJX := Lib.hid hJx
        clear hJx hR hy
        gi_wp2
        refine bodyPost_ret (results_none rfl _ _ _) rfl ?_
        exact ⟨⟨_, rfl⟩, .inr ⟨k, by rw [bkL_len]; exact hlt, HJX.out⟩⟩
      have HJ3 := Lib.hid hJ3
      have HK3 := Lib.hid hk3
      clear hJ3 hk3 hR hy
      gi_wp2
      go_roundw
      case rel => exact ⟨k + 1, by omega, by have := HQ.out; go_num, HB.out.trans HK3.out, HJ3⟩
      case measure => first | (simp [intOf]; done) | (simp [intOf]; omega)
    · have hki : (n : Int) ≤ (k : Int) := by omega
      obtain rfl : k = n := by omega
      have hz : (k : Int) - 1 - (k : Int) = -1 := by omega
      rw [hz]
      gi_wp2
      go_end0
      exact ⟨⟨_, rfl⟩, .inl (by rw [bkL_len]; exact hJ.out)⟩
end Go.Proofs.Ytpikaohodieeaaa
namespace Go.Proofs.Ytpikaohodieeaaa
open Go.RowKit
set_option linter.unusedSimpArgs false
set_option linter.unusedVariables false
section
variable {F : Fence} {n : Nat} {P : Program} {ops : Array Oper} {Q : Exit → Act → World → Prop} {md : Region.Mode} {T : World → Prop} {L : List Nat}
/-- no operation defers a call -/
def noDefer (ops : Array Oper) : Bool := ops.all fun o => match o.op with | .defer _ => false | _ => true
theorem noDefer_spec (h : noDefer ops = true) {j : Nat} {o : Oper} (hj : ops[j]? = some o) : ∀ c, o.op ≠ .defer c := by
  intro c hc
  unfold noDefer at h
  have hm : o ∈ ops := by
    obtain ⟨hlt, rfl⟩ := Array.getElem?_eq_some_iff.1 hj
    exact Array.getElem_mem hlt
  have := Array.all_eq_true_iff_forall_mem.1 h o hm
  rw [hc] at this
  cases this
def FencedIf (P : Program) (ops : Array Oper) (T : World → Prop) (o : Oper) (v : Value) (a : Act) : Prop := YieldsIf P ops T o v a ∧ ∀ w, o.about P w a.eval = none
theorem FencedIf.of_same {o : Oper} {v : Value} {a a' : Act} (hy : FencedIf P ops T o v a) (he : execOp a'.eval o = execOp a.eval o)
    (hw : Region.wanted o (yielded ops a'.tmps) = Region.wanted o (yielded ops a.tmps)) (hb : ∀ w, o.about P w a'.eval = o.about P w a.eval) : FencedIf P ops T o v a' :=
  ⟨hy.1.of_same he hw, fun w => by rw [hb w]; exact hy.2 w⟩
theorem FencedIf.wpOpIn {i : Nat} {o : Oper} {v : Value} {a : Act} (hi : ops[i]? = some o) (hd : ∀ c, o.op ≠ .defer c) (hy : FencedIf P ops T o v a)
    {K : Act → World → Prop} {w : World} (hT : T w) (h : K (a.put o.dst v) w) : wpOpIn F n P ops Q i K a w := by
  unfold Go.wpOpIn
  simp only [hi]
  have hab : ∀ f, o.about P w a.eval = some f → F.fn f := fun f hf => by rw [hy.2 w] at hf; cases hf
  rcases hy.1 with ⟨hw, hv⟩ | ⟨hw, rfl⟩
  · simp only [hw, if_true, Oper.wpIn, Oper.semAt_eq F.round _ _ hd, hv w hT, Oper.uponIn]; exact ⟨hab, h⟩
  · simp only [hw, Bool.false_eq_true, if_false]; exact ⟨hab, h⟩
theorem wpOpIn_putIf {j : Nat} {oi oj : Oper} {v : Value} (hj : ops[j]? = some oj) (hd : ∀ c, oj.op ≠ .defer c) (hap : oi.apart ops oj = true)
    (hsi : ∀ cs b, oi.op ≠ .select cs b) (hsj : ∀ cs b, oj.op ≠ .select cs b)
    (hQ : ∀ c a w, Q (.panic c) (a.put oi.dst v) w → Q (.panic c) a w) {K : Act → World → Prop} {a : Act} {w : World}
    (hy : FencedIf P ops T oi v a) (h : wpOpIn F n P ops Q j K (a.put oi.dst v) w) :
    wpOpIn F n P ops Q j (fun a' w' => FencedIf P ops T oi v a' ∧ K (a'.put oi.dst v) w') a w := by
  obtain ⟨h1, h2, h3⟩ := Oper.apart_spec hap
  have keep : ∀ (a : Act), FencedIf P ops T oi v a → ∀ u, FencedIf P ops T oi v (a.put oj.dst u) := fun a hy u =>
    hy.of_same (execOp_put oi hsi a oj.dst u h3) (wanted_put oi a oj.dst u h3) (fun w => about_put oi w a oj.dst u h3)
  have keepD : ∀ d, FencedIf P ops T oi v { a with defers := d :: a.defers } := fun d => hy.of_same rfl rfl (fun _ => rfl)
  unfold wpOpIn at *
  simp only [hj] at *
  rw [wanted_put oj a oi.dst v h1, about_put oj w a oi.dst v h1] at h
  split
  · rename_i hw
    simp only [hw, if_true] at h
    unfold Oper.wpIn at *
    rw [about_put oj w a oi.dst v h1] at h
    refine ⟨h.1, ?_⟩
    have h := h.2
    rw [Oper.semAt_eq F.round _ _ hd, execOp_put oj hsj a oi.dst v h1] at h
    rw [Oper.semAt_eq F.round _ _ hd]
    generalize (execOp a.eval oj).run P w = r at *
    cases r with
    | ok x w' =>
      cases x <;> simp only [Oper.uponIn] at h ⊢
      case value u => exact ⟨keep a hy u, by rw [← Act.put_comm a v u h2]; exact h⟩
      case skip => exact ⟨keep a hy _, by rw [← Act.put_comm a v undef h2]; exact h⟩
      case defer d =>
        refine ⟨keep _ (keepD d) _, ?_⟩
        rw [← Act.put_comm _ v undef h2, ← Act.put_defers]
        exact h
      case enter f args =>
        refine ⟨h.1, CallsIn.mono h.2 fun e w'' he => ?_⟩
        cases e with
        | returned u => exact ⟨keep a hy u, by rw [← Act.put_comm a v u h2]; exact he⟩
        | panicked c => exact hQ _ _ _ he
        | outgrown => exact he
      case row row args => exact ⟨h.1, RowsIn.mono h.2 fun u w'' he => ⟨keep a hy u, by rw [← Act.put_comm a v u h2]; exact he⟩⟩
      case round l f tmps assign body =>
        refine ⟨h.1, RoundIn.mono h.2 fun e w'' he => ?_⟩
        cases e with
        | returned u => exact ⟨keep a hy u, by rw [← Act.put_comm a v u h2]; exact he⟩
        | panicked c => exact hQ _ _ _ he
        | outgrown => exact he
    | halt x w' =>
      cases x <;> simp only [Oper.uponIn] at h ⊢
      case panic u => exact hQ _ _ _ h
  · rename_i hw
    simp only [hw] at h
    exact ⟨h.1, keep a hy _, by rw [← Act.put_comm a v undef h2]; exact h.2⟩
def wpAnyMIn (F : Fence) (n : Nat) (P : Program) (md : Region.Mode) (ops : Array Oper) (Q : Exit → Act → World → Prop) (T : World → Prop) (L : List Nat) : Nat → Array Bool → Act → World → Prop
  | 0, listed, a, w => Region.ready md ops listed = [] ∧ Q .normal a w
  | g + 1, listed, a, w => (Region.ready md ops listed = [] → Q .normal a w) ∧ ∀ i ∈ Region.ready md ops listed, wpOpIn F n P ops Q i (fun a' w' => (L.contains i = false → T w') ∧ wpAnyMIn F n P md ops Q T L g (listed.setIfInBounds i true) a' w') a w
theorem wpAnyIn_ofM : ∀ (g : Nat) (listed : Array Bool) (a : Act) (w : World), wpAnyMIn F n P md ops Q T L g listed a w → wpAnyIn F n P md ops Q g listed a w
  | 0, _, _, _, h => h
  | g + 1, _, _, _, h => ⟨h.1, fun i hi => wpOpIn_mono (fun a' w' h' => wpAnyIn_ofM g _ a' w' h'.2) (h.2 i hi)⟩
theorem wpAnyMIn_first {i : Nat} {oi : Oper} {v : Value} (hnd : noDefer ops = true) (hi : ops[i]? = some oi) (hsel : ∀ (j : Nat) (o : Oper) cs b, ops[j]? = some o → o.op ≠ .select cs b)
    (hQ : ∀ c a w, Q (.panic c) (a.put oi.dst v) w → Q (.panic c) a w) (hL : ∀ m, L.contains m = true → waitsT md ops 12 m i = true) (hiL : L.contains i = false) :
    ∀ (g : Nat) (listed : Array Bool) (a : Act) (w : World), Closed md ops listed →
      (∀ j oj, ops[j]? = some oj → j ≠ i → listed.getD j true = false → (∀ e ∈ oj.after, Region.binds md e = true → e.on ≠ i) → oi.apart ops oj = true) →
      i ∈ Region.ready md ops listed → FencedIf P ops T oi v a → T w →
      wpAnyMIn F n P md ops Q T L g (listed.setIfInBounds i true) (a.put oi.dst v) w → wpAnyMIn F n P md ops Q T L (g + 1) listed a w
  | 0, listed, a, w, _, _, hr, hy, hT, H => by
    refine ⟨fun e => absurd hr (by rw [e]; exact List.not_mem_nil), fun j hj => ?_⟩
    by_cases hji : j = i
    · rw [hji]
      exact hy.wpOpIn hi (noDefer_spec hnd hi) hT ⟨fun _ => hT, H⟩
    · exact absurd (ready_mono hj hji) (by rw [H.1]; exact List.not_mem_nil)
  | g + 1, listed, a, w, hc, hfree, hr, hy, hT, H => by
    refine ⟨fun e => absurd hr (by rw [e]; exact List.not_mem_nil), fun j hj => ?_⟩
    by_cases hji : j = i
    · rw [hji]
      exact hy.wpOpIn hi (noDefer_spec hnd hi) hT ⟨fun _ => hT, H⟩
    · obtain ⟨hjun, oj, hoj, hall⟩ := mem_ready.1 hj
      have hiun := (mem_ready.1 hr).1
      have hno : ∀ e ∈ oj.after, Region.binds md e = true → e.on ≠ i := fun e he hb heq => unlisted_not hiun (by rw [← heq]; exact hall e he hb)
      have hjm : L.contains j = false := by
        cases hx : L.contains j with
        | false => rfl
        | true => exact (unlisted_not hiun (ready_T hc hj (hL j hx))).elim
      have h2 := wpOpIn_putIf hoj (noDefer_spec hnd hoj) (hfree j oj hoj hji hjun hno) (fun cs b => hsel i oi cs b hi) (fun cs b => hsel j oj cs b hoj) hQ hy (H.2 j (ready_mono hj hji))
      refine wpOpIn_mono (fun a' w' h3 => ?_) h2
      obtain ⟨y3, t3, k3⟩ := h3
      refine ⟨t3, wpAnyMIn_first hnd hi hsel hQ hL hiL g (listed.setIfInBounds j true) a' w' (hc.next hj) (fun k ok hk hki hun hn => hfree k ok hk hki ?_ hn) (ready_mono hr (Ne.symm hji)) y3 (t3 hjm) ?_⟩
      · by_cases hjk : j = k
        · rw [← hjk]; exact hjun
        · rwa [getD_set_ne true hjk] at hun
      · rw [Array.setIfInBounds_comm _ _ hji]
        exact k3
/-- the same, from a state that is closed -/
def wpMI (F : Fence) (n : Nat) (P : Program) (md : Region.Mode) (ops : Array Oper) (Q : Exit → Act → World → Prop) (T : World → Prop) (L : List Nat) (g : Nat) (listed : Array Bool) (a : Act) (w : World) : Prop :=
  Closed md ops listed → Region.noSelect ops = true → noDefer ops = true → wpAnyMIn F n P md ops Q T L g listed a w
theorem MI_take {l r : List Oper} {oi : Oper} {v : Value} {g : Nat} {listed : Array Bool} {a : Act} {w : World} (i : Nat) (hi : l.drop i = oi :: r) (hB : takeB md l.toArray listed L i = true)
    (hT : T w) (hQ : ∀ c a w, Q (.panic c) (a.put oi.dst v) w → Q (.panic c) a w) (hy : YieldsIf P l.toArray T oi v a) (hab : ∀ w, oi.about P w a.eval = none)
    (h : wpMI F n P md l.toArray Q T L g (listed.setIfInBounds i true) (a.put oi.dst v) w) : wpMI F n P md l.toArray Q T L (g + 1) listed a w := fun hc hs hnd => by
  unfold takeB at hB
  simp only [Bool.and_eq_true] at hB
  obtain ⟨⟨⟨h2, h3⟩, h5⟩, h6⟩ := hB
  have hr : i ∈ Region.ready md l.toArray listed := by simpa using h3
  exact wpAnyMIn_first hnd (at_drop hi) (Region.noSelect_spec hs) hQ (fun m hm => List.all_eq_true.1 h5 m (by simpa using hm)) (by simpa using h6) g listed a w hc (Region.free_spec (at_drop hi) h2) hr ⟨hy, hab⟩ hT (h (hc.next hr) hs hnd)
theorem MI_step {l r : List Oper} {o : Oper} {g : Nat} {listed : Array Bool} {a : Act} {w : World} (i : Nat) (hi : l.drop i = o :: r) (hr : Region.ready md l.toArray listed = [i])
    (h : ∀ K' : Act → World → Prop, Hid (∀ a w, (L.contains i = false → T w) → wpMI F n P md l.toArray Q T L g (listed.setIfInBounds i true) a w → K' a w) → if Region.wanted o (yielded l.toArray a.tmps) = true then Oper.wpIn F n P o a w K' Q else (∀ f, o.about P w a.eval = some f → F.fn f) ∧ K' (a.put o.dst undef) w) :
    wpMI F n P md l.toArray Q T L (g + 1) listed a w := fun hc hs hnd =>
  ⟨fun e => (by rw [hr] at e; cases e), fun j hj => by
    have hj' := hj
    rw [hr] at hj
    obtain rfl : j = i := by simpa using hj
    exact wpOpIn_step (at_drop hi) fun K' hK => h K' (Lib.hid fun a w hT hW => hK a w ⟨hT, hW (hc.next hj') hs hnd⟩)⟩
theorem MI_done {listed : Array Bool} {a : Act} {w : World} (hr : Region.ready md ops listed = []) (h : Q .normal a w) : ∀ g, wpMI F n P md ops Q T L g listed a w
  | 0 => fun _ _ _ => ⟨hr, h⟩
  | _ + 1 => fun _ _ _ => ⟨fun _ => h, by rw [hr]; exact fun i hi => absurd hi List.not_mem_nil⟩
theorem wpIn_region_M {id : Nat} {a : Act} {w : World} (L : List Nat) (T : World → Prop) (hm : P.follows .mixedOrders = true) (hs : Region.noSelect ops = true) (hnd : noDefer ops = true) (hT : T w.drew)
    (h : T w.drew → wpMI F n P .any ops Q T L ops.size (Array.replicate ops.size false) a w.drew) : (Code.region id ops true).wpIn F n P Q a w :=
  wpIn_region_any hm (wpAnyIn_ofM _ _ _ _ (h hT (closed_none _) hs hnd))
end
/-- a round of the wide fence, at any depth and in any round -/
theorem RoundIn.any {n n' l' : Nat} {P : Program} {l : Nat} {f : FuncId} {tmps : Array Value} {assign body : Code} {w : World} {R : Ending → World → Prop} (h : RoundIn Fence.wide n P l f tmps assign body w R) :
    RoundIn (Fence.wide.inRound l') n' P l f tmps assign body w R := ⟨trivial, fun c cs _ => h.2 c cs (room_wide _)⟩
theorem RoundIn.anyw {n n' : Nat} {P : Program} {l : Nat} {f : FuncId} {tmps : Array Value} {assign body : Code} {w : World} {R : Ending → World → Prop} (h : RoundIn Fence.wide n P l f tmps assign body w R) :
    RoundIn Fence.wide n' P l f tmps assign body w R := ⟨trivial, fun c cs _ => h.2 c cs (room_wide _)⟩
theorem YieldsS.any {α : Type} {n n' : Nat} {P : Program} {g : Nat} {lb : Array Value} {encs : α → Array Value} {Kp : World → World → Prop} {L : List α} {w : World} (h : YieldsS Fence.wide n P g lb encs Kp L w) : YieldsS Fence.wide n' P g lb encs Kp L w :=
  fun l J Jx W hW hA hAx hY h0 => callsIn_wide.2 (callsIn_wide.1 (h l J Jx W hW hA hAx (fun k x W1 hx hJ => by
    obtain ⟨fn, tmps, assign, body, hy, hR⟩ := hY k x W1 hx hJ
    exact ⟨fn, tmps, assign, body, hy, RoundIn.anyw hR⟩) h0))
end Go.Proofs.Ytpikaohodieeaaa
namespace Go.Proofs.Ytpikaohodieeaaa
open Go.RowKit
set_option linter.unusedSimpArgs false
set_option linter.unusedVariables false
attribute [local go_sem] Oper.semAt_some
theorem Backward_any (A : Option Addr) (n c : Nat) (w : World) :
    Calls Try.prog 147 #[.slice A n c] w fun e w' => e = .returned (.func (.func 149) #[] #[.pointer (some ⟨w.heap.size, 0, none⟩)]) ∧ w' = w.alloc (.cells #[.slice A n c] 22) := by
  go_enter Try.func147, Try.ntmps147
  go_wp2
  go_ret
  exact ⟨rfl, rfl⟩
theorem onward_any (A : Option Addr) (n c : Nat) (w : World) :
    Calls Try.prog 138 #[.slice A n c] w fun e w' => e = .returned (.func (.func 145) #[] #[.pointer (some ⟨w.heap.size, 0, none⟩)]) ∧ w' = w.alloc (.cells #[.slice A n c] 22) := by
  go_enter Try.func138, Try.ntmps138
  go_wp2
  go_ret
  exact ⟨rfl, rfl⟩
theorem backward_any (A : Option Addr) (n c : Nat) (w : World) :
    Calls Try.prog 139 #[.slice A n c] w fun e w' => e = .returned (.func (.func 146) #[] #[.pointer (some ⟨w.heap.size, 0, none⟩)]) ∧ w' = w.alloc (.cells #[.slice A n c] 22) := by
  go_enter Try.func139, Try.ntmps139
  go_wp2
  go_ret
  exact ⟨rfl, rfl⟩
theorem eg_onw : ∀ args w, (callFunc 145 args).run Try.prog w = .ok (.enter 145 args) w := enters_of Try.func145 (by kernel_rfl) rfl
theorem eg_bwd : ∀ args w, (callFunc 146 args).run Try.prog w = .ok (.enter 146 args) w := enters_of Try.func146 (by kernel_rfl) rfl
theorem eg_Bwd : ∀ args w, (callFunc 149 args).run Try.prog w = .ok (.enter 149 args) w := enters_of Try.func149 (by kernel_rfl) rfl
/-- the steps back, from the last one on -/
def bwL (S : Nat → Int × Int) (n : Nat) : List (Int × Int × Int × Int) := (List.range n).map fun (j : Nat) => (((n - 1 - j : Nat) : Int) + 1, ((n - 1 - j : Nat) : Int), -(S (n - 1 - j)).2, -(S (n - 1 - j)).1)
theorem bwL_len (S : Nat → Int × Int) (n : Nat) : (bwL S n).length = n := by simp [bwL]
theorem bwL_at {S : Nat → Int × Int} {n k : Nat} (h : k < n) : (bwL S n)[k]? = some (((n - 1 - k : Nat) : Int) + 1, ((n - 1 - k : Nat) : Int), -(S (n - 1 - k)).2, -(S (n - 1 - k)).1) := by simp [bwL, h]
theorem bkL_get {S : Nat → Int × Int} {n k : Nat} {x : Int × Int × Int} (h : (bkL S n)[k]? = some x) : k < n ∧ x = (((n - 1 - k : Nat) : Int), (S (n - 1 - k)).1, (S (n - 1 - k)).2) := by
  have hk : k < n := by
    have := (List.getElem?_eq_some_iff.1 h).1
    rwa [bkL_len] at this
  rw [bkL_at hk] at h
  exact ⟨hk, (Option.some.inj h).symm⟩
theorem own_more {β : Type} {B B' : Nat} {I : β → World → Prop} (h : OwnFrom B I) (hB : B ≤ B') : OwnFrom B' I := fun s W W' row hs hg hr => h s W W' row hs hg (fun r e => ⟨Nat.le_trans hB (hr r e).1, (hr r e).2⟩)
set_option maxRecDepth 100000 in
set_option maxHeartbeats 2000000 in
theorem bwd_stops (X : Nat → Prop) (g n c Bm m : Nat) (S : Nat → Int × Int) (w : World) (hin : ∀ i, i < n → w.cell? ⟨g, i * 2, none⟩ = some (.int .i64 (S i).1) ∧ w.cell? ⟨g, i * 2 + 1, none⟩ = some (.int .i64 (S i).2))
    (hm : w.cell? ⟨Bm, 0, none⟩ = some (.slice (some ⟨g, 0, none⟩) n c)) (hgX : ¬ X g) (hBX : ¬ X Bm) (hX : ∀ k, X k → k < w.heap.size) (hn : n ≤ 1000) (hbd : ∀ i, i < n → Bd 1000000 (S i)) :
    YieldsS Fence.wide m Try.prog 146 #[.pointer (some ⟨Bm, 0, none⟩)] encS (CBut X) (bwL S n) w := by
  refine YieldsS.any (n := 9) (fun l J Jx W hW hA hAx hY h0 => ?_)
  have hs0 := hW.size
  have hm' : W.cell? ⟨Bm, 0, none⟩ = some (.slice (some ⟨g, 0, none⟩) n c) := cell_of hW hm
  have zb := World.block_lt_of_cell? _ _ hm'
  have HIN : Hid (∀ i, i < n → W.cell? ⟨g, i * 2, none⟩ = some (.int .i64 (S i).1) ∧ W.cell? ⟨g, i * 2 + 1, none⟩ = some (.int .i64 (S i).2)) :=
    Lib.hid fun i hi => ⟨cell_of hW (hin i hi).1, cell_of hW (hin i hi).2⟩
  have HX := Lib.hid hX
  have HBD := Lib.hid hbd
  have HY := Lib.hid hY
  have HA := Lib.hid hA
  have HAx := Lib.hid hAx
  have H0 := Lib.hid h0
  clear hin hm hY h0 hA hAx hX hbd
  refine callsIn_of_wp_marks Try.func146 rfl trivial ?_ rfl
  simp only [Try.ntmps146, List.size_toArray, List.length_cons, List.length_nil, Nat.reduceAdd, Nat.reduceSub, Array.replicate_succ, Array.replicate_zero, List.push_toArray, List.append_toArray, List.nil_append, List.cons_append]
  gi_wp2
  refine ⟨trivial, (callsIn_wide.2 (Backward_any _ _ _ _)).mono ?_⟩
  rintro e w1 ⟨rfl, rfl⟩
  gi_wp2
  obtain ⟨W2, hW2⟩ : ∃ W2 : World, W2 = (W.alloc (.cells #[.func (.yield l) #[] #[]] 158)).alloc (.cells #[.slice (some ⟨g, 0, none⟩) n c] 22) := ⟨_, rfl⟩
  rw [← hW2]
  have hb2 : Below W.heap.size W W2 := by rw [hW2]; exact box2 _ _ _
  have hs2 : W2.heap.size = W.heap.size + 1 + 1 := by rw [hW2]; simp
  have hy2 : W2.cell? ⟨W.heap.size, 0, none⟩ = some (.func (.yield l) #[] #[]) := by rw [hW2]; go_simp
  have hz2 : W2.cell? ⟨W.heap.size + 1, 0, none⟩ = some (.slice (some ⟨g, 0, none⟩) n c) := by rw [hW2]; go_simp
  have HB2 := Lib.hid hb2
  have hyX : ¬ X W.heap.size := fun h => by have := HX.out _ h; omega
  have hzX : ¬ X (W.heap.size + 1) := fun h => by have := HX.out _ h; omega
  have hbs := back_stops X g n c (W.heap.size + 1) 8 S W2 (fun i hi => ⟨cell_of hb2 (HIN.out i hi).1, cell_of hb2 (HIN.out i hi).2⟩) hz2 hgX hzX hn (by omega)
  clear hW2
  refine rangeListS rfl (by omega) (gf := 149) (lb := #[.pointer (some ⟨W.heap.size + 1, 0, none⟩)]) rfl trivial eg_Bwd hbs (Below.refl _ _) (fun _ => rfl) CBut.trans (fun W l o o' h1 h2 h3 h4 => CBut.putObj h2 h3)
    (fun k V => CBut X W2 V ∧ J k V) (fun cd k V => cd = .ret ∧ Jx k V) ((CBut.own _).and (own_more HA.out hb2.size)) (fun cd k V V' row h hg hr => ⟨h.1, own_more HAx.out hb2.size _ _ _ _ h.2 hg hr⟩) ⟨CBut.refl _ _, ownfrom_below HA.out H0.out hb2⟩
    (fun x a' V => ∃ b, V.cell? ⟨b, 0, none⟩ = some (.int .i64 x.2.1) ∧ V.cell? ⟨b, 1, none⟩ = some (.int .i64 x.2.2) ∧ W2.heap.size ≤ b ∧ a' = { tmps := #[.func (.yield l) #[] #[], .pointer (some ⟨Bm, 0, none⟩), .pointer (some ⟨W.heap.size, 0, none⟩), .int .i64 x.1, .pointer (some ⟨b, 0, none⟩), .slice (some ⟨g, 0, none⟩) n c, .func (.func 149) #[] #[.pointer (some ⟨W.heap.size + 1, 0, none⟩)], .int .i64 x.1, .agg #[.int .i64 x.2.1, .int .i64 x.2.2], undef, undef, undef, undef, undef, undef, undef, undef, undef], defers := [] })
    (fun x a' => ?ownx) ?assign ?body ?done ?stop
  case ownx =>
    rintro _ V V' row ⟨b, h1, h2, h3, h4⟩ hg hr
    have hrow : some b ≠ row := fun e => by
      obtain ⟨_, o, e1, e2⟩ := hr b e.symm
      obtain ⟨o', e3, e4⟩ := cells_of_cell h1
      simp only at e3
      rw [e1] at e3
      cases e3
      rw [e2] at e4
      cases e4
    exact ⟨b, cell_row hg (World.block_lt_of_cell? _ _ h1) hrow h1, cell_row hg (World.block_lt_of_cell? _ _ h1) hrow h2, h3, h4⟩
  case assign =>
    rintro l2 k x V K hx ⟨hI1, hI2⟩ hK
    have hsV := hI1.size
    gi_wp2
    have hbV := box1 V (.cells #[.int .i64 x.2.1, .int .i64 x.2.2] 31)
    refine hK _ _ (keepsFrom_below hbV) (CBut.of hbV) ⟨hI1.trans (CBut.of hbV), ownfrom_below (own_more (B' := V.heap.size) HA.out (by omega)) hI2 hbV⟩ ⟨V.heap.size, by go_simp, by go_simp, by omega, ?_⟩
    rfl
  case body =>
    rintro l2 k x a' V hx ⟨hI1, hI2⟩ ⟨b, x0, x1, hb3, rfl⟩
    obtain ⟨hk, rfl⟩ := bkL_get hx
    have hat := bwL_at (S := S) hk
    obtain ⟨q, hq⟩ : ∃ q : Nat, q = n - 1 - k := ⟨_, rfl⟩
    rw [← hq] at x0 x1 hat
    rw [← hq]
    have hqn : q < n := by omega
    have hbq := HBD.out q hqn
    have hw1 : IntKind.i64.wrap ((q : Int) + 1) = (q : Int) + 1 := IntWalk.i64_in _ (by omega)
    have hyV := hI1.cell hyX hy2
    have KO := Lib.hid fun V => opposite_any (S q) V (by unfold Bd at *; omega)
    have hsV := hI1.size
    have HI1 := Lib.hid hI1
    have HI2 := Lib.hid hI2
    have HAT := Lib.hid hat
    have HBX : Hid (¬ X b) := Lib.hid fun h => by have := HX.out _ h; omega
    clear hx hI1 hI2 hq hat hbq
    simp only at x0 x1
    gi_wp2
    refine wpIn_region_M [7, 8] (fun w' => w'.cell? ⟨W.heap.size, 0, none⟩ = some (.func (.yield l) #[] #[]) ∧ w'.cell? ⟨b, 0, none⟩ = some (.int .i64 (S q).1) ∧ w'.cell? ⟨b, 1, none⟩ = some (.int .i64 (S q).2)) (by kernel_rfl) (by kernel_rfl) (by kernel_rfl) (by (try dsimp only); (repeat' apply And.intro); all_goals first | assumption | (go_simp; done)) (fun hT0 => ?_)
    refine MI_take (v := ?_) 0 rfl (by kernel_rfl) (by assumption) (fun _ _ _ h => h) (Or.inl ⟨by rfl, ?_⟩) (fun _ => rfl) ?_
    rotate_left
    · (intro w hSw; (try dsimp only at hSw); go_simp; (try with_reducible rfl))
    (try simp only [Act.put, List.setIfInBounds_toArray, List.set_cons_zero, List.set_cons_succ])
    refine MI_take (v := ?_) 1 rfl (by kernel_rfl) (by assumption) (fun _ _ _ h => h) (Or.inl ⟨by rfl, ?_⟩) (fun _ => rfl) ?_
    rotate_left
    · (intro w hSw; (try dsimp only at hSw); go_simp; (try with_reducible rfl))
    (try simp only [Act.put, List.setIfInBounds_toArray, List.set_cons_zero, List.set_cons_succ])
    refine MI_take (v := ?_) 2 rfl (by kernel_rfl) (by assumption) (fun _ _ _ h => h) (Or.inl ⟨by rfl, ?_⟩) (fun _ => rfl) ?_
    rotate_left
    · (intro w hSw; (try dsimp only at hSw); go_simp; (try with_reducible rfl))
    (try simp only [Act.put, List.setIfInBounds_toArray, List.set_cons_zero, List.set_cons_succ])
    refine MI_take (v := ?_) 3 rfl (by kernel_rfl) (by assumption) (fun _ _ _ h => h) (Or.inl ⟨by rfl, ?_⟩) (fun _ => rfl) ?_
    rotate_left
    · (intro w hSw; (try dsimp only at hSw); go_simp; (try with_reducible rfl))
    (try simp only [Act.put, List.setIfInBounds_toArray, List.set_cons_zero, List.set_cons_succ])
    refine MI_take (v := ?_) 4 rfl (by kernel_rfl) (by assumption) (fun _ _ _ h => h) (Or.inl ⟨by rfl, ?_⟩) (fun _ => rfl) ?_
    rotate_left
    · (intro w hSw; (try dsimp only at hSw); go_simp; (try with_reducible rfl))
    (try simp only [Act.put, List.setIfInBounds_toArray, List.set_cons_zero, List.set_cons_succ])
    refine MI_step 5 rfl (by kernel_rfl) (fun K hK => ?_)
    go_simp
    refine ⟨trivial, (CallsIn.inRound l2 (callsIn_wide.2 (KO.out _))).mono ?_⟩
    rintro e V5 ⟨rfl, hb5⟩
    have y0 := cell_of hb5 (by first | exact hyV | go_simp)
    have y1 := cell_of hb5 (by first | exact x0 | go_simp)
    have y2 := cell_of hb5 (by first | exact x1 | go_simp)
    have hT5 : (fun w' => w'.cell? ⟨W.heap.size, 0, none⟩ = some (.func (.yield l) #[] #[]) ∧ w'.cell? ⟨b, 0, none⟩ = some (.int .i64 (S q).1) ∧ w'.cell? ⟨b, 1, none⟩ = some (.int .i64 (S q).2)) V5 := ⟨y0, y1, y2⟩
    have HB5 := Lib.hid hb5
    clear hb5
    refine hK.out _ _ (fun _ => hT5) ?_
    clear hK K
    (try simp only [Act.put, List.setIfInBounds_toArray, List.set_cons_zero, List.set_cons_succ])
    refine MI_take (v := ?_) 6 rfl (by kernel_rfl) (by assumption) (fun _ _ _ h => h) (Or.inl ⟨by rfl, ?_⟩) (fun _ => rfl) ?_
    rotate_left
    · (intro w hSw; (try dsimp only at hSw); go_simp; (try with_reducible rfl))
    (try simp only [Act.put, List.setIfInBounds_toArray, List.set_cons_zero, List.set_cons_succ])
    refine MI_step 7 rfl (by kernel_rfl) (fun K hK => ?_)
    go_simp
    have hbV : Below V.heap.size V V5 := nextB (Below.refl _ _).drew HB5.out
    obtain ⟨fn, tmps, assign, body, hy, hR⟩ := HY.out k _ V5 HAT.out (ownfrom_below (own_more (B' := V.heap.size) HA.out (by omega)) HI2.out hbV)
    have HC5 := Lib.hid (HI1.out.trans (CBut.of hbV))
    rw [hy]
    go_simp
    refine RoundIn.mono (RoundIn.any hR) ?_
    rintro e V6 ⟨hkf, hE⟩
    have HKF := Lib.hid (keeps_more (B' := W2.heap.size) hkf (by omega))
    obtain ⟨bb, rfl, hD⟩ : ∃ bb, e = .returned (.bool bb) ∧ ((bb = true ∧ J (k + 1) V6 ∧ CBut X V5 V6) ∨ (bb = false ∧ Jx k V6)) := by
      rcases hE with ⟨rfl, h1, h2⟩ | ⟨rfl, h1⟩
      · exact ⟨true, rfl, .inl ⟨rfl, h1, h2⟩⟩
      · exact ⟨false, rfl, .inr ⟨rfl, h1⟩⟩
    have HD := Lib.hid hD
    clear hE hD hy hR hkf hT5 hyV x0 x1
    refine hK.out _ _ (fun e => by cases e) ?_
    clear hK K
    (try simp only [Act.put, List.setIfInBounds_toArray, List.set_cons_zero, List.set_cons_succ])
    refine MI_step 8 rfl (by kernel_rfl) (fun K hK => ?_)
    go_simp
    refine hK.out _ _ (fun e => by cases e) ?_
    clear hK K
    (try simp only [Act.put, List.setIfInBounds_toArray, List.set_cons_zero, List.set_cons_succ])
    refine MI_done (by kernel_rfl) ?_ _
    have HK := Lib.hid ((keepsFrom_below (B := W2.heap.size) hbV).trans HKF.out)
    rcases HD.out with ⟨rfl, h1, h2⟩ | ⟨rfl, h1⟩
    · have h3 := HC5.out.trans h2
      have h4 := (CBut.of (X := X) hbV).trans h2
      clear h2
      gi_wp2
      rw [← hs2]
      exact ⟨HK.out, h4, h3, h1⟩
    · gi_wp2
      rw [← hs2]
      exact ⟨HK.out, rfl, h1⟩
  case done =>
    rintro D V hD ⟨h1, h2⟩ hK
    gi_wp2
    refine ⟨by simp, .inl ⟨_, _, rfl, run_takeDeferred hK, ?_⟩⟩
    refine ⟨.tuple #[], results_none rfl _ _ _, ⟨_, rfl⟩, .inl ?_⟩
    rw [bwL_len]
    rw [bkL_len] at h2
    exact HA.out.putObj _ h2 (by omega) hK rfl
  case stop =>
    rintro D cd k V hD hk ⟨rfl, h2⟩ hK
    gi_wp2
    refine ⟨by simp, .inl ⟨_, _, rfl, run_takeDeferred hK, ?_⟩⟩
    rw [bkL_len] at hk
    refine ⟨.tuple #[], results_none rfl _ _ _, ⟨_, rfl⟩, .inr ⟨k, by rw [bwL_len]; exact hk, ?_⟩⟩
    exact HAx.out.putObj _ h2 (by omega) hK rfl

end Go.Proofs.Ytpikaohodieeaaa
namespace Go.Proofs.Ytpikaohodieeaaa
open Go.RowKit
set_option linter.unusedSimpArgs false
set_option linter.unusedVariables false
/-- all ends are ticks -/
def Tk (n : Nat) (S : Nat → Int × Int) : Prop := ∀ i, i ≤ n → 0 ≤ (S i).1 ∧ (S i).1 ≤ 400 ∧ 0 ≤ (S i).2 ∧ (S i).2 ≤ 400
/-- a reading within spans -/
structure RdS (n : Nat) (G S : Nat → Int × Int) (T : Nat → Int) : Prop where
  tick : ∀ i, i ≤ n → (S i).1 ≤ T i ∧ T i ≤ (S i).2
  gap : ∀ i, i < n → hasP (G i) (T (i + 1) - T i)
/-- a step from a column to a neighbour -/
def stepOk (n : Nat) (G : Nat → Int × Int) (f t : Nat) (l : Int × Int) : Prop := (t = f + 1 ∧ t ≤ n ∧ l = G f) ∨ (f = t + 1 ∧ f ≤ n ∧ l = oppS (G t))
theorem stepOk.f {n : Nat} {G : Nat → Int × Int} {f t : Nat} {l : Int × Int} (h : stepOk n G f t l) : f ≤ n ∧ t ≤ n ∧ f ≠ t := by
  rcases h with ⟨a, b, _⟩ | ⟨a, b, _⟩ <;> omega
/-- the spans behind a step -/
def stepS (S : Nat → Int × Int) (f t : Nat) (l : Int × Int) : Nat → Int × Int := upd S t (nar (S t) (addS (S f) l))
theorem stepS_t (S : Nat → Int × Int) (f t : Nat) (l : Int × Int) : stepS S f t l t = nar (S t) (addS (S f) l) := by unfold stepS upd; rw [if_pos rfl]
theorem stepS_o (S : Nat → Int × Int) (f t i : Nat) (l : Int × Int) (h : i ≠ t) : stepS S f t l i = S i := by unfold stepS upd; rw [if_neg h]
theorem step_sound {n : Nat} {G S : Nat → Int × Int} {f t : Nat} {l : Int × Int} {T : Nat → Int} (h : stepOk n G f t l) (hr : RdS n G S T) : RdS n G (stepS S f t l) T := by
  refine ⟨fun i hi => ?_, hr.gap⟩
  by_cases e : i = t
  · subst e
    rw [stepS_t]
    have h1 := hr.tick i hi
    rcases h with ⟨rfl, b, rfl⟩ | ⟨rfl, b, rfl⟩
    · have h2 := hr.tick f (by omega)
      have h3 := hr.gap f (by omega)
      unfold hasP at h3
      unfold nar addS
      simp only
      omega
    · have h2 := hr.tick (i + 1) (by omega)
      have h3 := hr.gap i (by omega)
      unfold hasP at h3
      unfold nar addS oppS
      simp only
      omega
  · rw [stepS_o _ _ _ _ _ e]; exact hr.tick i hi
theorem step_sub {n : Nat} {G S : Nat → Int × Int} {f t : Nat} {l : Int × Int} {T : Nat → Int} (hr : RdS n G (stepS S f t l) T) : RdS n G S T := by
  refine ⟨fun i hi => ?_, hr.gap⟩
  have h := hr.tick i hi
  by_cases e : i = t
  · subst e
    rw [stepS_t] at h
    unfold nar at h
    simp only at h
    omega
  · rwa [stepS_o _ _ _ _ _ e] at h
/-- a span that is not empty -/
def neS (s : Int × Int) : Prop := s.1 ≤ s.2
theorem step_tk {n : Nat} {S : Nat → Int × Int} {f t : Nat} {l : Int × Int} (h : Tk n S) (ht : t ≤ n) (hne : neS (stepS S f t l t)) : Tk n (stepS S f t l) := fun i hi => by
  by_cases e : i = t
  · subst e
    have h1 := h i hi
    rw [stepS_t] at hne ⊢
    unfold neS nar at hne
    unfold nar
    simp only at hne ⊢
    omega
  · rw [stepS_o _ _ _ _ _ e]; exact h i hi
/-- how much there is left to narrow -/
def wid (S : Nat → Int × Int) : Nat → Nat
  | 0 => ((S 0).2 - (S 0).1 + 400).toNat
  | n + 1 => wid S n + ((S (n + 1)).2 - (S (n + 1)).1 + 400).toNat
theorem wid_le {S S' : Nat → Int × Int} : ∀ n, (∀ i, i ≤ n → (S i).1 ≤ (S' i).1 ∧ (S' i).2 ≤ (S i).2) → wid S' n ≤ wid S n
  | 0, h => by have := h 0 (Nat.le_refl _); unfold wid; omega
  | n + 1, h => by
    have h1 := wid_le n fun i hi => h i (by omega)
    have h2 := h (n + 1) (Nat.le_refl _)
    unfold wid; omega
theorem wid_lt {S S' : Nat → Int × Int} {k : Nat} : ∀ n, (∀ i, i ≤ n → (S i).1 ≤ (S' i).1 ∧ (S' i).2 ≤ (S i).2) → k ≤ n → ((S k).1 < (S' k).1 ∨ (S' k).2 < (S k).2) → 0 ≤ (S k).2 - (S k).1 + 400 → 0 < (S k).2 - (S k).1 + 400 → wid S' n < wid S n
  | 0, h, hk, hl, h0, h1 => by
    have := h 0 (Nat.le_refl _)
    obtain rfl : k = 0 := by omega
    unfold wid; omega
  | n + 1, h, hk, hl, h0, h1 => by
    have h2 := h (n + 1) (Nat.le_refl _)
    by_cases e : k = n + 1
    · subst e
      have h3 := wid_le n fun i hi => h i (by omega)
      unfold wid; omega
    · have h3 := wid_lt n (fun i hi => h i (by omega)) (by omega) hl h0 h1
      unfold wid; omega
theorem step_mono (S : Nat → Int × Int) (f t : Nat) (l : Int × Int) (i : Nat) : (S i).1 ≤ (stepS S f t l i).1 ∧ (stepS S f t l i).2 ≤ (S i).2 := by
  by_cases e : i = t
  · subst e; rw [stepS_t]; unfold nar; simp only; omega
  · rw [stepS_o _ _ _ _ _ e]; omega
/-- whether a step changes anything -/
def chg (S : Nat → Int × Int) (f t : Nat) (l : Int × Int) : Bool := decide ((S t).1 < (addS (S f) l).1) || decide ((addS (S f) l).2 < (S t).2)
theorem chg_no {S : Nat → Int × Int} {f t : Nat} {l : Int × Int} (h : chg S f t l = false) : stepS S f t l = S := by
  funext i
  unfold chg at h
  simp only [Bool.or_eq_false_iff, decide_eq_false_iff_not] at h
  by_cases e : i = t
  · subst e
    rw [stepS_t]
    unfold nar
    exact Prod.ext (by simp only; omega) (by simp only; omega)
  · exact stepS_o _ _ _ _ _ e
theorem chg_wid {n : Nat} {S : Nat → Int × Int} {f t : Nat} {l : Int × Int} (h : chg S f t l = true) (ht : t ≤ n) (hne : neS (stepS S f t l t)) : wid (stepS S f t l) n < wid S n := by
  have hm := step_mono S f t l
  have h0 := hm t
  unfold neS at hne
  refine wid_lt (k := t) n (fun i _ => hm i) ht ?_ (by omega) (by omega)
  unfold chg at h
  rw [stepS_t]
  unfold nar
  simp only [Bool.or_eq_true, decide_eq_true_eq] at h
  simp only
  omega
/-- spans that are exact: all readings lie within them, and both ends are readings -/
structure Ends (n : Nat) (R : (Nat → Int) → Prop) (S : Nat → Int × Int) : Prop where
  all : ∀ T, R T → ∀ i, i ≤ n → (S i).1 ≤ T i ∧ T i ≤ (S i).2
  lo : R fun i => (S i).1
  hi : R fun i => (S i).2
theorem Ends.same {n : Nat} {R : (Nat → Int) → Prop} {S S' : Nat → Int × Int} (h : Ends n R S) (h' : Ends n R S') : ∀ i, i ≤ n → S i = S' i := fun i hi => by
  have a := h.all _ h'.lo i hi
  have b := h.all _ h'.hi i hi
  have c := h'.all _ h.lo i hi
  have d := h'.all _ h.hi i hi
  exact Prod.ext (by omega) (by omega)
theorem ends_of {n : Nat} {G S S0 : Nat → Int × Int} (h1 : 1 ≤ n) (hall : ∀ T, RdS n G S0 T → RdS n G S T) (hsub : ∀ T, RdS n G S T → RdS n G S0 T) (hG : ∀ i, i < n → neS (G i)) (hne : ∀ i, i ≤ n → neS (S i))
    (hon : ∀ i, i < n → stepS S i (i + 1) (G i) = S) (hback : ∀ i, i < n → stepS S (i + 1) i (oppS (G i)) = S) : Ends n (RdS n G S0) S := by
  have hs : ∀ i, i < n → (S i).1 + (G i).1 ≤ (S (i + 1)).1 ∧ (S (i + 1)).2 ≤ (S i).2 + (G i).2 ∧ (S (i + 1)).1 - (G i).2 ≤ (S i).1 ∧ (S i).2 ≤ (S (i + 1)).2 - (G i).1 := fun i hi => by
    have a := congrFun (hon i hi) (i + 1)
    have b := congrFun (hback i hi) i
    rw [stepS_t] at a b
    have a1 := congrArg Prod.fst a
    have a2 := congrArg Prod.snd a
    have b1 := congrArg Prod.fst b
    have b2 := congrArg Prod.snd b
    unfold nar addS at a1 a2
    unfold nar addS oppS at b1 b2
    simp only at a1 a2 b1 b2
    omega
  refine ⟨fun T hT i hi => (hall T hT).tick i hi, hsub _ ⟨fun i hi => ?_, fun i hi => ?_⟩, hsub _ ⟨fun i hi => ?_, fun i hi => ?_⟩⟩
  · have := hne i hi; unfold neS at this; omega
  · have := hs i hi; unfold hasP; omega
  · have := hne i hi; unfold neS at this; omega
  · have := hs i hi; unfold hasP; omega
/-- the spans of marks -/
def mkS (F : Nat → Int × Int × Int) : Nat → Nat → Int × Int
  | 0, _ => (0, 400)
  | k + 1, i => upd (mkS F k) (F k).1.toNat (nar (mkS F k (F k).1.toNat) (F k).2) i
theorem mkS_tk {n : Nat} {F : Nat → Int × Int × Int} (k : Nat) (h : ∀ j, j < k → 0 ≤ (F j).2.1 ∧ (F j).2.1 ≤ (F j).2.2 ∧ (F j).2.2 ≤ 400) : Tk n (mkS F k) := by
  induction k with
  | zero => intro i hi; unfold mkS; simp only; omega
  | succ k ih =>
    have ih := ih fun j hj => h j (by omega)
    have h1 := h k (by omega)
    intro i hi
    have h2 := ih i hi
    unfold mkS upd
    split
    · rename_i e
      rw [← e]
      unfold nar
      simp only
      omega
    · exact h2
theorem mkS_iff {n k : Nat} {G : Nat → Int × Int} {F : Nat → Int × Int × Int} (hc : ∀ j, j < k → 0 ≤ (F j).1 ∧ (F j).1 ≤ n) (T : Nat → Int) : RdS n G (mkS F k) T ↔ Rdg n G k F T := by
  have key : ∀ j, j ≤ k → ((∀ i, i ≤ n → (mkS F j i).1 ≤ T i ∧ T i ≤ (mkS F j i).2) ↔ (∀ i, i ≤ n → 0 ≤ T i ∧ T i ≤ 400) ∧ ∀ i, i < j → hasP (F i).2 (T (F i).1.toNat)) := by
    intro j hj
    induction j with
    | zero => exact ⟨fun h => ⟨h, fun i hi => absurd hi (by omega)⟩, fun h => h.1⟩
    | succ j ih =>
      have ih := ih (by omega)
      have h1 := hc j (by omega)
      have hcn : (F j).1.toNat ≤ n := by omega
      constructor
      · intro h
        have h2 : ∀ i, i ≤ n → (mkS F j i).1 ≤ T i ∧ T i ≤ (mkS F j i).2 := fun i hi => by
          have h3 := h i hi
          unfold mkS upd at h3
          split at h3
          · rename_i e
            rw [← e] at h3
            unfold nar at h3
            simp only at h3
            omega
          · exact h3
        obtain ⟨a, b⟩ := ih.1 h2
        refine ⟨a, fun i hi => ?_⟩
        by_cases e : i = j
        · subst e
          have h3 := h _ hcn
          unfold mkS upd nar at h3
          rw [if_pos rfl] at h3
          simp only at h3
          unfold hasP
          omega
        · exact b i (by omega)
      · rintro ⟨a, b⟩ i hi
        have h2 := ih.2 ⟨a, fun i hi => b i (by omega)⟩
        have h3 := h2 i hi
        have h4 := b j (by omega)
        unfold hasP at h4
        unfold mkS upd
        split
        · rename_i e
          rw [← e] at h4 ⊢
          unfold nar
          simp only
          omega
        · exact h3
  constructor
  · intro h
    obtain ⟨a, b⟩ := (key k (Nat.le_refl _)).1 h.tick
    exact ⟨fun i hi => a i (by omega), h.gap, b⟩
  · intro h
    exact ⟨(key k (Nat.le_refl _)).2 ⟨fun i hi => h.tick i (by omega), h.mark⟩, h.gap⟩
def Marks (B : Nat) (ds : List Deferred) (wr : World) : Prop := (ds.map fun d => d.target).Nodup ∧ ∀ d ∈ ds, ∃ D, d = { target := .collected D, args := #[] } ∧ B ≤ D ∧ wr.heap[D]? = some (.deferred (some []))
theorem leaves_marks {F : Fence} {n B : Nat} {P : Program} {fn : Func} {tmps : Array Value} {R : Ending → World → Prop} (T : World → Prop)
    (hT : ∀ W D, T W → B ≤ D → W.heap[D]? = some (.deferred (some [])) → T (W.putObj D (.deferred none)))
    (hR : ∀ W, T W → LeavesIn F n P fn tmps R [] .returning W) : ∀ (ds : List Deferred) (W : World), Marks B ds W → T W → LeavesInM F n P fn tmps R ds .returning W := by
  intro ds
  induction ds with
  | nil => exact fun W _ h => hR W h
  | cons d ds ih =>
    rintro W ⟨hn, hm⟩ h
    obtain ⟨D, rfl, hD, hK⟩ := hm d (List.mem_cons_self ..)
    refine ⟨by simp, .inl ⟨D, _, rfl, run_takeDeferred hK, ih _ ⟨?_, fun d' hd' => ?_⟩ (hT W D h hD hK)⟩⟩
    · exact (List.nodup_cons.1 hn).2
    · obtain ⟨D', e, hD', hK'⟩ := hm d' (List.mem_cons_of_mem _ hd')
      refine ⟨D', e, hD', (World.putObj_heap_other fun e2 => ?_).trans hK'⟩
      subst e2
      refine (List.nodup_cons.1 hn).1 (List.mem_map.2 ⟨d', hd', ?_⟩)
      rw [e]
theorem Marks.keeps {B : Nat} {ds : List Deferred} {W W' : World} (h : Marks B ds W) (hk : KeepsFrom B W W') : Marks B ds W' :=
  ⟨h.1, fun d hd => by obtain ⟨D, e, hD, hK⟩ := h.2 d hd; exact ⟨D, e, hD, hk.same D _ hD hK rfl⟩⟩
theorem Marks.up {B : Nat} {ds : List Deferred} {W W' : World} (h : Marks B ds W) (hb : Below W.heap.size W W') : Marks B ds W' := h.keeps (keepsFrom_below hb)
theorem Marks.cons {B D : Nat} {ds : List Deferred} {W : World} (h : Marks B ds W) (hn : ∀ d ∈ ds, ∀ D', d.target = .collected D' → D' < D) (hD : B ≤ D) (hK : W.heap[D]? = some (.deferred (some []))) : Marks B ({ target := .collected D, args := #[] } :: ds) W := by
  refine ⟨List.nodup_cons.2 ⟨fun hm => ?_, h.1⟩, fun d hd => ?_⟩
  · obtain ⟨d, hd, e⟩ := List.mem_map.1 hm
    have := hn d hd D e
    omega
  · rcases List.mem_cons.1 hd with rfl | hd
    · exact ⟨D, rfl, hD, hK⟩
    · exact h.2 d hd
theorem Marks.lt {B : Nat} {ds : List Deferred} {W : World} (h : Marks B ds W) : ∀ d ∈ ds, ∀ D', d.target = .collected D' → D' < W.heap.size := by
  intro d hd D' e
  obtain ⟨D, e2, _, hK⟩ := h.2 d hd
  rw [e2] at e
  cases e
  exact (Array.getElem?_eq_some_iff.1 hK).1
/-! a scope within a fence -/
section
variable {F : Fence} {n : Nat} {P : Program} {Q : Exit → Act → World → Prop} {a : Act} {w : World} {b : Frame} {k : List Item} {cs : List Frame}
theorem stepR_scope {c : Code} : step P (lone (b.atR a (.code (.scope c) :: k)) cs w) = .next (lone (b.atR a (.code c :: .inScope c :: k)) cs w) :=
  step_lone_go (by simp [stepG, stepG.exec, Frame.atR])
theorem stepR_inScope {c : Code} : step P (lone (b.atR a (.inScope c :: k)) cs w) = .next (lone (b.atR a k) cs w) :=
  step_lone_go (by simp [stepG, stepG.exec, Frame.atR])
theorem wpIn_scope_straight {c : Code} (h : c.wpIn F n P (Exit.noGoto Q) a w) : (Code.scope c).wpIn F n P Q a w := by
  intro b k cs hro hb hr
  have h0 : (lone (b.atR a (.code (.scope c) :: k)) cs w).fenced P F := fenced_calm hb hr rfl
  obtain ⟨e, a₁, w₁, hq, harr⟩ := h b (.inScope c :: k) cs hro hb hr
  cases e with
  | normal => exact ⟨.normal, a₁, w₁, hq, .head h0 stepR_scope (StepsIn.trans harr (.one (fenced_calm hb hr rfl) stepR_inScope))⟩
  | exit id =>
    have hx : exitTo id (.inScope c :: k) = exitTo id k := by simp [exitTo]
    exact ⟨.exit id, a₁, w₁, hq, fun k' hk => .head h0 stepR_scope (harr.1 k' (by rw [hx]; exact hk)),
      fun hr' hk => let ⟨k₁, h1, h2⟩ := harr.2 hr' (by rw [hx]; exact hk); ⟨k₁, h1, .head h0 stepR_scope h2⟩⟩
  | goto l => exact hq.elim
  | ret => exact ⟨_, a₁, w₁, hq, .of_steps (.one h0 stepR_scope) harr⟩
  | panic ch => exact ⟨_, a₁, w₁, hq, .of_steps (.one h0 stepR_scope) harr⟩
  | outgrown => exact ⟨_, a₁, w₁, hq, .of_steps (.one h0 stepR_scope) harr⟩
end
end Go.Proofs.Ytpikaohodieeaaa
namespace Go.Proofs.Ytpikaohodieeaaa
open Go.RowKit
set_option linter.unusedSimpArgs false
set_option linter.unusedVariables false
attribute [local go_sem] Oper.semAt_some
/-- a loop whose relation bears a number that falls -/
theorem loop_ghost {F : Fence} {rm : Nat} {P : Program} {Q : Exit → Act → World → Prop} {a : Act} {w : World} {c : Code} (I : Nat → Act → World → Prop) (n0 : Nat) (h0 : I n0 a w)
    (round : ∀ m a w, I m a w → ∀ K : Act → World → Prop, Hid (∀ m' a' w', m' < m → I m' a' w' → K a' w') → c.wpIn F rm P (Exit.then K Q) a w) : (Code.loop c).wpIn F rm P Q a w := by
  have H : ∀ a w, ∃ m, (∃ k, I k a w) → I m a w ∧ ∀ i, I i a w → m ≤ i := fun a w => by
    by_cases h : ∃ k, I k a w
    · obtain ⟨m, h1, h2⟩ := least_nat h
      exact ⟨m, fun _ => ⟨h1, fun i hi => Nat.le_of_not_lt fun hlt => h2 i hlt hi⟩⟩
    · exact ⟨0, fun h' => absurd h' h⟩
  refine wpIn_loop (fun a w => ∃ k, I k a w) (fun a w => Classical.choose (H a w)) ⟨n0, h0⟩ ?_
  intro a w hI
  refine round _ a w (Classical.choose_spec (H a w) hI).1 _ (Lib.hid fun m' a' w' hlt hI' => ?_)
  exact ⟨⟨m', hI'⟩, Nat.lt_of_le_of_lt ((Classical.choose_spec (H a' w') ⟨m', hI'⟩).2 m' hI') hlt⟩
theorem SpR.grown {t n : Nat} {S : Nat → Int × Int} {V V' : World} {row : Option Nat} (h : SpR t n S V) (hg : V.grownBy V' row) (hr : some t ≠ row) : SpR t n S V' :=
  ⟨Nat.lt_of_lt_of_le h.lt hg.size, fun i hi => cell_row hg h.lt hr (h.c0 i hi), fun i hi => cell_row hg h.lt hr (h.c1 i hi), fun o => frozen_row hg h.lt hr (h.f o)⟩
theorem grown_more {w V V' : World} {t : Nat} {row : Option Nat} (h : w.grownBy V (some t)) (hg : V.grownBy V' row) (hr : ∀ r, row = some r → w.heap.size ≤ r ∨ r = t) : w.grownBy V' (some t) :=
  ⟨hg.os.trans h.os, hg.tape.trans h.tape, hg.output.trans h.output, Nat.le_trans h.size hg.size, fun k hk hn => by
    refine (hg.block k (Nat.lt_of_lt_of_le hk h.size) (fun e => ?_)).trans (h.block k hk hn)
    rcases hr k e.symm with h1 | h1
    · omega
    · exact hn (by rw [h1])⟩
theorem grown_of_below' {W w1 : World} {t : Nat} (h : Below W.heap.size W w1) : W.grownBy w1 (some t) := ⟨h.os, h.tape, h.output, h.size, fun k hk _ => h.block k hk⟩
/-- what settle has narrowed so far -/
structure StI (w : World) (t n : Nat) (G S0 S : Nat → Int × Int) (V : World) : Prop where
  spr : SpR t (n + 1) S V
  gr : w.grownBy V (some t)
  snd : ∀ T, RdS n G S0 T → RdS n G S T
  sub : ∀ T, RdS n G S T → RdS n G S0 T
  tk : Tk n S
theorem StI.more {w V V' : World} {t n : Nat} {G S0 S : Nat → Int × Int} {row : Option Nat} (h : StI w t n G S0 S V) (hg : V.grownBy V' row) (hr : ∀ r, row = some r → w.heap.size ≤ r) (ht : t < w.heap.size) : StI w t n G S0 S V' :=
  ⟨h.spr.grown hg (fun e => by have := hr t e.symm; omega), grown_more h.gr hg (fun r e => .inl (hr r e)), h.snd, h.sub, h.tk⟩
theorem StI.up {w V V' : World} {t n : Nat} {G S0 S : Nat → Int × Int} (h : StI w t n G S0 S V) (hb : Below V.heap.size V V') (ht : t < w.heap.size) : StI w t n G S0 S V' :=
  h.more (grown_of_below hb) (fun r e => by cases e) ht
/-- a step that changes nothing, to a span that is not empty -/
def quietX (S : Nat → Int × Int) (x : Int × Int × Int × Int) : Prop := stepS S x.1.toNat x.2.1.toNat x.2.2 = S ∧ neS (S x.2.1.toNat)
/-- the steps of both directions -/
def stL (G : Nat → Int × Int) (n i : Nat) : List (Int × Int × Int × Int) := if i = 0 then onL G n else bwL G n
theorem stL_at {G : Nat → Int × Int} {n i k : Nat} {x : Int × Int × Int × Int} (h : (stL G n i)[k]? = some x) : ∃ f t : Nat, x = ((f : Int), (t : Int), x.2.2) ∧ stepOk n G f t x.2.2 := by
  unfold stL at h
  split at h
  · have hk : k < n := by
      have := (List.getElem?_eq_some_iff.1 h).1
      rwa [onL_len] at this
    rw [onL_at hk] at h
    cases h
    exact ⟨k, k + 1, by simp, .inl ⟨rfl, by omega, rfl⟩⟩
  · have hk : k < n := by
      have := (List.getElem?_eq_some_iff.1 h).1
      rwa [bwL_len] at this
    rw [bwL_at hk] at h
    cases h
    exact ⟨n - 1 - k + 1, n - 1 - k, by simp, .inr ⟨rfl, by omega, rfl⟩⟩
theorem stL_len (G : Nat → Int × Int) (n i : Nat) : (stL G n i).length = n := by unfold stL; split; exact onL_len _ _; exact bwL_len _ _
/-- where the spans stand in a sweep: whether anything has changed -/
def swp (G : Nat → Int × Int) (n m : Nat) (S : Nat → Int × Int) (c : Bool) (i k : Nat) : Prop :=
  (c = true ∧ wid S n < m) ∨ (c = false ∧ wid S n ≤ m ∧ (∀ (j : Nat), j < i → ∀ (q : Nat) (x : Int × Int × Int × Int), (stL G n j)[q]? = some x → quietX S x) ∧ ∀ (j : Nat) (x : Int × Int × Int × Int), j < k → (stL G n i)[j]? = some x → quietX S x)
theorem swp.start {G S : Nat → Int × Int} {n m : Nat} (h : wid S n ≤ m) : swp G n m S false 0 0 := Or.inr ⟨rfl, h, fun j hj => absurd hj (by omega), fun j x hj => absurd hj (by omega)⟩
theorem swp.turn {G S : Nat → Int × Int} {n m i : Nat} {c : Bool} (h : swp G n m S c i n) : swp G n m S c (i + 1) 0 := by
  rcases h with h | ⟨h1, h2, h3, h4⟩
  · exact Or.inl h
  · refine Or.inr ⟨h1, h2, fun j hj q x hx => ?_, fun j x hj => absurd hj (by omega)⟩
    by_cases e : j = i
    · subst e
      have hq := (List.getElem?_eq_some_iff.1 hx).1
      rw [stL_len] at hq
      exact h4 q x hq hx
    · exact h3 j (by omega) q x hx
theorem swp.next {G S : Nat → Int × Int} {n m i k f t : Nat} {c : Bool} {l : Int × Int} (h : swp G n m S c i k) (hx : (stL G n i)[k]? = some ((f : Int), (t : Int), l)) (ht : t ≤ n) (hne : neS (stepS S f t l t)) : swp G n m (stepS S f t l) (c || chg S f t l) i (k + 1) := by
  have hm : wid (stepS S f t l) n ≤ wid S n := wid_le n fun i _ => step_mono S f t l i
  rcases h with ⟨h1, h2⟩ | ⟨h1, h2, h3, h4⟩
  · exact Or.inl ⟨by rw [h1]; rfl, by omega⟩
  · subst h1
    cases hc : chg S f t l with
    | true => exact Or.inl ⟨rfl, by have := chg_wid hc ht hne; omega⟩
    | false =>
      have he := chg_no hc
      rw [he] at hne ⊢
      refine Or.inr ⟨rfl, h2, h3, fun j x hj hx' => ?_⟩
      by_cases e : j = k
      · subst e
        rw [hx] at hx'
        cases hx'
        exact ⟨by simpa using he, by simpa using hne⟩
      · exact h4 j x (by omega) hx'
theorem swp.ends {w V : World} {G S0 S : Nat → Int × Int} {t n m : Nat} (h : swp G n m S false 2 0) (hs : StI w t n G S0 S V) (h1 : 1 ≤ n) (hG : ∀ i, i < n → neS (G i)) : Ends n (RdS n G S0) S := by
  rcases h with ⟨h, _⟩ | ⟨_, _, h3, _⟩
  · cases h
  · have ho : ∀ i, i < n → quietX S ((i : Int), (i : Int) + 1, (G i).1, (G i).2) := fun i hi => h3 0 (by omega) i _ (by unfold stL; rw [if_pos rfl]; exact onL_at hi)
    have hb : ∀ i, i < n → quietX S ((i : Int) + 1, (i : Int), -(G i).2, -(G i).1) := fun i hi => h3 1 (by omega) (n - 1 - i) _ (by
      unfold stL
      rw [if_neg (by omega), bwL_at (by omega), show n - 1 - (n - 1 - i) = i by omega])
    have e1 : ∀ i : Nat, ((i : Int) + 1).toNat = i + 1 := fun i => by omega
    refine ends_of h1 hs.snd hs.sub hG (fun i hi => ?_) (fun i hi => ?_) (fun i hi => ?_)
    · by_cases h0 : i = 0
      · subst h0
        have := (hb 0 h1).2
        simpa using this
      · have := (ho (i - 1) (by omega)).2
        simp only [e1] at this
        rwa [show i - 1 + 1 = i by omega] at this
    · have := (ho i hi).1
      simp only [e1, Int.toNat_natCast] at this
      exact this
    · have := (hb i hi).1
      simp only [e1, Int.toNat_natCast] at this
      exact this
/-- a sweep on its way -/
def SwI (w : World) (t n : Nat) (G S0 : Nat → Int × Int) (m i cb : Nat) (X : Nat → Prop) (V2 : World) (k : Nat) (V : World) : Prop :=
  ∃ S c, StI w t n G S0 S V ∧ swp G n m S c i k ∧ V.cell? ⟨cb, 0, none⟩ = some (.bool c) ∧ V.frozen? ⟨cb, 0, none⟩ = false ∧ CBut X V2 V ∧ KeepsFrom w.heap.size V2 V
/-- a sweep that has ended: there is no reading -/
def SwX (w : World) (t n : Nat) (G S0 : Nat → Int × Int) (V2 : World) (V : World) : Prop :=
  (∃ S, SpR t (n + 1) S V) ∧ w.grownBy V (some t) ∧ (∀ T, ¬ RdS n G S0 T) ∧ KeepsFrom w.heap.size V2 V
theorem not_row {V : World} {row : Option Nat} {B b o : Nat} {v : Value} (hr : ∀ r, row = some r → B ≤ r ∧ ∃ o : Obj, V.heap[r]? = some o ∧ o.isCells = false) (h : V.cell? ⟨b, o, none⟩ = some v) : some b ≠ row := fun e => by
  obtain ⟨_, o1, e1, e2⟩ := hr b e.symm
  obtain ⟨o2, e3, e4⟩ := cells_of_cell h
  simp only at e3
  rw [e1] at e3
  cases e3
  rw [e2] at e4
  cases e4
theorem SwI.own {w : World} {t n : Nat} {G S0 : Nat → Int × Int} {m i cb : Nat} {X : Nat → Prop} {V2 : World} (ht : t < w.heap.size) (hV : w.heap.size ≤ V2.heap.size) : OwnFrom V2.heap.size (SwI w t n G S0 m i cb X V2) := by
  rintro k V V' row ⟨S, c, h1, h2, h3, h4, h5, h6⟩ hg hr
  have hn := not_row hr h3
  have hl := World.block_lt_of_cell? _ _ h3
  exact ⟨S, c, h1.more hg (fun r e => Nat.le_trans hV (hr r e).1) ht, h2, cell_row hg hl hn h3, frozen_row hg hl hn h4, CBut.own Nat k V V' row h5 hg hr, ownFrom_keepsFrom (β := Nat) (Nat.le_refl _) k V V' row h6 hg hr⟩
theorem SwX.own {w : World} {t n : Nat} {G S0 : Nat → Int × Int} {V2 : World} (ht : t < w.heap.size) (hV : w.heap.size ≤ V2.heap.size) : OwnFrom V2.heap.size (fun (_ : Nat) V => SwX w t n G S0 V2 V) := by
  rintro k V V' row ⟨⟨S, h1⟩, h2, h3, h4⟩ hg hr
  exact ⟨⟨S, h1.grown hg (fun e => by have := (hr t e.symm).1; omega)⟩, grown_more h2 hg (fun r e => .inl (Nat.le_trans hV (hr r e).1)), h3, ownFrom_keepsFrom (β := Nat) (Nat.le_refl _) k V V' row h4 hg hr⟩
/-- what stands when settle leaves -/
def LVT2 (w : World) (t n : Nat) (S : Nat → Int × Int) (V : World) : Prop := SpR t (n + 1) S V ∧ w.grownBy V (some t)
def LVT (w : World) (t n : Nat) (V : World) : Prop := (∃ S, SpR t (n + 1) S V) ∧ w.grownBy V (some t)
theorem LVT2.put {w V : World} {t n D : Nat} {S : Nat → Int × Int} (h : LVT2 w t n S V) (ht : t < w.heap.size) (hD : w.heap.size ≤ D) : LVT2 w t n S (V.putObj D (.deferred none)) :=
  ⟨h.1.grown (grownBy_putObj' V D _) (fun e => by cases e; omega), grown_more h.2 (grownBy_putObj' V D _) (fun r e => by cases e; exact .inl hD)⟩
theorem LVT.put {w V : World} {t n D : Nat} (h : LVT w t n V) (ht : t < w.heap.size) (hD : w.heap.size ≤ D) : LVT w t n (V.putObj D (.deferred none)) := by
  obtain ⟨⟨S, h1⟩, h2⟩ := h
  have := LVT2.put (S := S) ⟨h1, h2⟩ ht hD
  exact ⟨⟨S, this.1⟩, this.2⟩

end Go.Proofs.Ytpikaohodieeaaa
namespace Go.Proofs.Ytpikaohodieeaaa
open Go.RowKit
set_option linter.unusedSimpArgs false
set_option linter.unusedVariables false
attribute [local go_sem] Oper.semAt_some
set_option maxRecDepth 100000 in
set_option maxHeartbeats 4000000 in
theorem settle_any (g n gc t tc : Nat) (G S0 : Nat → Int × Int) (w : World) (hG : SpR g n G w) (hS : SpR t (n + 1) S0 w) (hgt : g ≠ t) (h1 : 1 ≤ n) (hn : n ≤ 200)
    (hbd : ∀ i, i < n → 0 ≤ (G i).1 ∧ (G i).1 ≤ (G i).2 ∧ (G i).2 ≤ 10000) (hTk : Tk n S0) :
    Calls Try.prog 126 #[.slice (some ⟨g, 0, none⟩) n gc, .slice (some ⟨t, 0, none⟩) (n + 1) tc] w fun e w' => ∃ R S, e = .returned (.bool R) ∧ SpR t (n + 1) S w' ∧ w.grownBy w' (some t) ∧ (R = true → Ends n (RdS n G S0) S) ∧ (R = false → ∀ T, ¬ RdS n G S0 T) := by
  have hgl := hG.lt
  have htl := hS.lt
  have HG := Lib.hid hG
  have HS := Lib.hid hS
  have HBD := Lib.hid hbd
  have HTK := Lib.hid hTk
  clear hG hS hbd hTk
  refine (callsIn_wide (n := 12)).1 ?_
  refine callsIn_of_wp_marks Try.func126 rfl trivial ?_ rfl
  simp only [Try.ntmps126, List.size_toArray, List.length_cons, List.length_nil, Nat.reduceAdd, Nat.reduceSub, Array.replicate_succ, Array.replicate_zero, List.push_toArray, List.append_toArray, List.nil_append, List.cons_append]
  gi_wp2
  refine wpIn_scope_straight ?_
  gi_wp2
  refine wpIn_label ?_
  gi_wp2
  refine loop_ghost (fun m a' V => ∃ (S : Nat → Int × Int) (ds : List Deferred) (u5 u6 u7 u8 u9 u10 u11 u12 u13 u14 u15 u16 u17 u18 u19 u20 u21 u22 u23 u24 u25 u26 u27 u28 u29 u30 u31 u32 u33 u34 u35 u36 u37 u38 u39 u40 u41 u42 u43 u44 u45 u46 u47 u48 u49 : Value), Hid (StI w t n G S0 S V) ∧ wid S n = m ∧ Hid (Marks w.heap.size ds V) ∧ V.cell? ⟨w.heap.size, 0, none⟩ = some (.slice (some ⟨t, 0, none⟩) (n + 1) tc) ∧ a' = { tmps := #[.slice (some ⟨g, 0, none⟩) n gc, .slice (some ⟨t, 0, none⟩) (n + 1) tc, undef, .pointer (some ⟨w.heap.size, 0, none⟩), .bool false, u5, u6, u7, u8, u9, u10, u11, u12, u13, u14, u15, u16, u17, u18, u19, u20, u21, u22, u23, u24, u25, u26, u27, u28, u29, u30, u31, u32, u33, u34, u35, u36, u37, u38, u39, u40, u41, u42, u43, u44, u45, u46, u47, u48, u49], defers := ds }) (wid S0 n) ?start ?round
  case start =>
    have hb := box1 w (.cells #[.slice (some ⟨t, 0, none⟩) (n + 1) tc] 22)
    refine ⟨S0, [], _, _, _, _, _, _, _, _, _, _, _, _, _, _, _, _, _, _, _, _, _, _, _, _, _, _, _, _, _, _, _, _, _, _, _, _, _, _, _, _, _, _, _, _, _, Lib.hid ⟨HS.out.up hb, grown_of_below' hb, fun T h => h, fun T h => h, HTK.out⟩, rfl, Lib.hid ⟨List.nodup_nil, fun d hd => by cases hd⟩, by go_simp, rfl⟩
  case round =>
    rintro m _ V ⟨S, ds, u5, u6, u7, u8, u9, u10, u11, u12, u13, u14, u15, u16, u17, u18, u19, u20, u21, u22, u23, u24, u25, u26, u27, u28, u29, u30, u31, u32, u33, u34, u35, u36, u37, u38, u39, u40, u41, u42, u43, u44, u45, u46, u47, u48, u49, hI, hm, hM, htb, rfl⟩ K1 HK1
    have htbl := World.block_lt_of_cell? _ _ htb
    gi_wp2
    refine ⟨trivial, (callsIn_wide.2 (onward_any _ _ _ _)).mono ?_⟩
    rintro e w1 ⟨rfl, rfl⟩
    gi_wp2
    refine ⟨trivial, (callsIn_wide.2 (backward_any _ _ _ _)).mono ?_⟩
    rintro e w1 ⟨rfl, rfl⟩
    gi_wp2
    obtain ⟨W4, hW4⟩ : ∃ W4 : World, W4 = (((V.alloc (.cells #[.bool false] 4)).alloc (.cells #[.slice (some ⟨g, 0, none⟩) n gc] 22)).alloc (.cells #[.slice (some ⟨g, 0, none⟩) n gc] 22)).alloc (.cells #[.func (.func 145) #[] #[.pointer (some ⟨V.heap.size + 1, 0, none⟩)], .func (.func 146) #[] #[.pointer (some ⟨V.heap.size + 1 + 1, 0, none⟩)]] 145) := ⟨_, rfl⟩
    rw [← hW4]
    have hb4 : Below V.heap.size V W4 := by rw [hW4]; exact box4 _ _ _ _ _
    have hs4 : W4.heap.size = V.heap.size + 1 + 1 + 1 + 1 := by rw [hW4]; simp
    have HI4 := Lib.hid (hI.out.up hb4 htl)
    have HM4 := Lib.hid (hM.out.up hb4)
    have htb4 := cell_of hb4 htb
    have hc4 : W4.cell? ⟨V.heap.size, 0, none⟩ = some (.bool false) := by rw [hW4]; go_simp
    have hf4 : W4.frozen? ⟨V.heap.size, 0, none⟩ = false := by rw [hW4]; go_simp
    have hh4 : W4.cell? ⟨V.heap.size + 1, 0, none⟩ = some (.slice (some ⟨g, 0, none⟩) n gc) := by rw [hW4]; go_simp
    have hk4 : W4.cell? ⟨V.heap.size + 1 + 1, 0, none⟩ = some (.slice (some ⟨g, 0, none⟩) n gc) := by rw [hW4]; go_simp
    have he4 : W4.cell? ⟨V.heap.size + 1 + 1 + 1, 0, none⟩ = some (.func (.func 145) #[] #[.pointer (some ⟨V.heap.size + 1, 0, none⟩)]) := by rw [hW4]; go_simp
    have he5 : W4.cell? ⟨V.heap.size + 1 + 1 + 1, 1, none⟩ = some (.func (.func 146) #[] #[.pointer (some ⟨V.heap.size + 1 + 1, 0, none⟩)]) := by rw [hW4]; go_simp
    clear hW4
    have hgV := hI.out.gr.size
    have HG4 := Lib.hid ((HG.out.grown hI.out.gr (fun e => hgt (by cases e; rfl))).up hb4)
    obtain ⟨X, hX⟩ : ∃ X : Nat → Prop, X = fun b => b = t ∨ b = V.heap.size := ⟨_, rfl⟩
    have hXi : ∀ b, X b ↔ (b = t ∨ b = V.heap.size) := fun b => by rw [hX]
    have HX := Lib.hid hXi
    clear hX hXi
    have hXg : ¬ X g := fun h => by rcases (HX.out _).1 h with h | h <;> omega
    have hX1 : ¬ X (V.heap.size + 1) := fun h => by rcases (HX.out _).1 h with h | h <;> omega
    have hX2 : ¬ X (V.heap.size + 1 + 1) := fun h => by rcases (HX.out _).1 h with h | h <;> omega
    have hX3 : ¬ X (V.heap.size + 1 + 1 + 1) := fun h => by rcases (HX.out _).1 h with h | h <;> omega
    have hXt : ¬ X w.heap.size := fun h => by rcases (HX.out _).1 h with h | h <;> omega
    have HXT : Hid (X t) := Lib.hid ((HX.out _).2 (.inl rfl))
    have HXC : Hid (X V.heap.size) := Lib.hid ((HX.out _).2 (.inr rfl))
    have HSQ : Hid (∀ i, i < 2 → ∃ gf, (∀ args w, (callFunc gf args).run Try.prog w = .ok (.enter gf args) w) ∧ W4.cell? ⟨V.heap.size + 1 + 1 + 1, i, none⟩ = some (.func (.func gf) #[] #[.pointer (some ⟨V.heap.size + 1 + i, 0, none⟩)]) ∧ ∀ Z, CBut X W4 Z → YieldsS Fence.wide 11 Try.prog gf #[.pointer (some ⟨V.heap.size + 1 + i, 0, none⟩)] encS (CBut X) (stL G n i) Z) := Lib.hid fun i hi => by
      have hin : ∀ Z, CBut X W4 Z → ∀ i, i < n → Z.cell? ⟨g, i * 2, none⟩ = some (.int .i64 (G i).1) ∧ Z.cell? ⟨g, i * 2 + 1, none⟩ = some (.int .i64 (G i).2) := fun Z hZ i hi => ⟨hZ.cell hXg (HG4.out.c0 i hi), hZ.cell hXg (HG4.out.c1 i hi)⟩
      match i, hi with
      | 0, _ => exact ⟨145, eg_onw, he4, fun Z hZ => (by have h9 := onward_stops X g n gc (V.heap.size + 1) 11 G Z (hin Z hZ) (hZ.cell hX1 hh4) hXg hX1 (by omega) (by omega); exact h9)⟩
      | 1, _ => exact ⟨146, eg_bwd, he5, fun Z hZ => (by have h9 := bwd_stops X g n gc (V.heap.size + 1 + 1) 11 G Z (hin Z hZ) (hZ.cell hX2 hk4) hXg hX2 (fun k hk => by have := hZ.size; rcases (HX.out _).1 hk with h | h <;> omega) (by omega) (fun i hi => by have := HBD.out i hi; unfold Bd; omega); exact h9)⟩
    clear hh4 hk4 he4 he5 htb hM
    refine loop_ghost (fun q a' V2 => ∃ (i : Nat) (S : Nat → Int × Int) (c : Bool) (ds : List Deferred) (u6 u7 u8 u16 u17 u18 u19 u20 u21 u22 u23 u24 u25 u26 u27 u28 u29 u30 u31 u32 u33 u34 u35 u36 u37 u38 u39 u40 u41 u42 u43 u44 u45 u46 u47 u48 u49 : Value), q = 2 - i ∧ i ≤ 2 ∧ Hid (StI w t n G S0 S V2) ∧ Hid (swp G n m S c i 0) ∧ Hid (Marks w.heap.size ds V2) ∧ Hid (CBut X W4 V2) ∧ V2.cell? ⟨V.heap.size, 0, none⟩ = some (.bool c) ∧ V2.frozen? ⟨V.heap.size, 0, none⟩ = false ∧ a' = { tmps := #[.slice (some ⟨g, 0, none⟩) n gc, .slice (some ⟨t, 0, none⟩) (n + 1) tc, undef, .pointer (some ⟨w.heap.size, 0, none⟩), .bool false, .pointer (some ⟨V.heap.size, 0, none⟩), u6, u7, u8, .slice (some ⟨g, 0, none⟩) n gc, .func (.func 145) #[] #[.pointer (some ⟨V.heap.size + 1, 0, none⟩)], .slice (some ⟨g, 0, none⟩) n gc, .func (.func 146) #[] #[.pointer (some ⟨V.heap.size + 1 + 1, 0, none⟩)], .slice (some ⟨V.heap.size + 1 + 1 + 1, 0, none⟩) 2 2, .int .i64 2, .int .i64 (i : Nat), u16, u17, u18, u19, u20, u21, u22, u23, u24, u25, u26, u27, u28, u29, u30, u31, u32, u33, u34, u35, u36, u37, u38, u39, u40, u41, u42, u43, u44, u45, u46, u47, u48, u49], defers := ds }) 2 ?start2 ?round2
    case start2 =>
      exact ⟨0, S, false, ds, u6, u7, u8, u16, u17, u18, u19, u20, u21, u22, u23, u24, u25, u26, u27, u28, u29, u30, u31, u32, u33, u34, u35, u36, u37, u38, u39, u40, u41, u42, u43, u44, u45, u46, u47, u48, u49, rfl, by omega, HI4, Lib.hid (swp.start (by omega)), HM4, Lib.hid (CBut.refl _ _), hc4, hf4, rfl⟩
    case round2 =>
      clear hI HI4 HM4 hc4 hf4 u5 u6 u7 u8 u9 u10 u11 u12 u13 u14 u15 u16 u17 u18 u19 u20 u21 u22 u23 u24 u25 u26 u27 u28 u29 u30 u31 u32 u33 u34 u35 u36 u37 u38 u39 u40 u41 u42 u43 u44 u45 u46 u47 u48 u49
      rintro q _ V2 ⟨i, S2, c, ds2, u6, u7, u8, u16, u17, u18, u19, u20, u21, u22, u23, u24, u25, u26, u27, u28, u29, u30, u31, u32, u33, u34, u35, u36, u37, u38, u39, u40, u41, u42, u43, u44, u45, u46, u47, u48, u49, rfl, hi2, hI2, hsw, hM2, hCB, hc2, hf2, rfl⟩ K2 HK2
      have hi0 : (0 : Int) ≤ (i : Int) := by omega
      have tb2 := hCB.out.cell hXt htb4
      by_cases hlt : i < 2
      · have hii : (i : Int) < 2 := by omega
        obtain ⟨gf, heg, hce, hseq⟩ := HSQ.out i hlt
        have hce2 := hCB.out.cell hX3 hce
        have HEG := Lib.hid heg
        have HSEQ := Lib.hid (hseq V2 hCB.out)
        clear hce heg hseq
        gi_wp2
        have hs2 := hCB.out.size
        have hwV : w.heap.size ≤ V2.heap.size := by omega
        refine rangeListS rfl (by omega) (gf := gf) (lb := #[.pointer (some ⟨V.heap.size + 1 + i, 0, none⟩)]) rfl trivial HEG.out HSEQ.out (Below.refl _ _) (fun _ => rfl) CBut.trans (fun W l o o' h1 h2 h3 h4 => CBut.putObj h2 h3)
          (SwI w t n G S0 m i V.heap.size X V2) (fun cd _ Z => cd = .exit 0 ∧ SwX w t n G S0 V2 Z) (SwI.own htl hwV) (fun cd k Z Z' row h hg hr => ⟨h.1, SwX.own htl hwV k Z Z' row h.2 hg hr⟩) ⟨S2, c, hI2.out, hsw.out, hc2, hf2, CBut.refl _ _, KeepsFrom.refl _ _⟩
          (fun x a' Z => ∃ b, Z.cell? ⟨b, 0, none⟩ = some (.int .i64 x.1) ∧ Z.cell? ⟨b, 1, none⟩ = some (.int .i64 x.2.1) ∧ Z.cell? ⟨b, 2, none⟩ = some (.int .i64 x.2.2.1) ∧ Z.cell? ⟨b, 3, none⟩ = some (.int .i64 x.2.2.2) ∧ V2.heap.size ≤ b ∧ a' = { tmps := #[.slice (some ⟨g, 0, none⟩) n gc, .slice (some ⟨t, 0, none⟩) (n + 1) tc, undef, .pointer (some ⟨w.heap.size, 0, none⟩), .bool false, .pointer (some ⟨V.heap.size, 0, none⟩), u6, .func (.func gf) #[] #[.pointer (some ⟨V.heap.size + 1 + i, 0, none⟩)], .pointer (some ⟨b, 0, none⟩), .slice (some ⟨g, 0, none⟩) n gc, .func (.func 145) #[] #[.pointer (some ⟨V.heap.size + 1, 0, none⟩)], .slice (some ⟨g, 0, none⟩) n gc, .func (.func 146) #[] #[.pointer (some ⟨V.heap.size + 1 + 1, 0, none⟩)], .slice (some ⟨V.heap.size + 1 + 1 + 1, 0, none⟩) 2 2, .int .i64 2, .int .i64 (i : Nat), .bool true, .pointer (some ⟨V.heap.size + 1 + 1 + 1, i, none⟩), .func (.func gf) #[] #[.pointer (some ⟨V.heap.size + 1 + i, 0, none⟩)], .func (.func gf) #[] #[.pointer (some ⟨V.heap.size + 1 + i, 0, none⟩)], .agg #[.int .i64 x.1, .int .i64 x.2.1, .int .i64 x.2.2.1, .int .i64 x.2.2.2], u21, u22, u23, u24, u25, u26, u27, u28, u29, u30, u31, u32, u33, u34, u35, u36, u37, u38, u39, u40, u41, u42, u43, u44, u45, u46, u47, u48, u49], defers := [] })
          (fun x a' => ?ownx) ?assign ?body ?done ?stop
        case ownx =>
          rintro _ Z Z' row ⟨b, q1, q2, q3, q4, q5, q6⟩ hg hr
          have hrow := not_row hr q1
          have hl := World.block_lt_of_cell? _ _ q1
          exact ⟨b, cell_row hg hl hrow q1, cell_row hg hl hrow q2, cell_row hg hl hrow q3, cell_row hg hl hrow q4, q5, q6⟩
        case assign =>
          rintro l3 k x Z K hx ⟨S3, c3, g1, g2, g3, g4, g5, g6⟩ hK
          have hsZ := g5.size
          gi_wp2
          have hbZ := box1 Z (.cells #[.int .i64 x.1, .int .i64 x.2.1, .int .i64 x.2.2.1, .int .i64 x.2.2.2] 149)
          refine hK _ _ (keepsFrom_below hbZ) (CBut.of hbZ) ⟨S3, c3, g1.up hbZ htl, g2, cell_of hbZ g3, low_frozen hbZ (World.block_lt_of_cell? _ _ g3) g4, g5.trans (CBut.of hbZ), g6.trans (keepsFrom_below hbZ)⟩ ⟨Z.heap.size, by go_simp, by go_simp, by go_simp, by go_simp, by omega, ?_⟩
          rfl
        case body =>
          clear HK1 HK2
          rintro l3 k ⟨xf, xt, l1, l2⟩ a' Z hx ⟨S3, c3, g1, g2, g3, g4, g5, g6⟩ ⟨b, y0, y1, y2, y3, hb3, rfl⟩
          obtain ⟨f, tt, hxe, hst⟩ := stL_at hx
          simp only [Prod.mk.injEq] at hxe
          obtain ⟨rfl, rfl, -⟩ := hxe
          simp only at y0 y1 y2 y3 hst
          obtain ⟨hf, htt, hne⟩ := hst.f
          have hlb : Bd 20000 (l1, l2) := by
            rcases hst with ⟨hh2, hh, e⟩ | ⟨hh2, hh, e⟩
            · have := HBD.out f (by omega); rw [e]; unfold Bd; omega
            · have := HBD.out tt (by omega); rw [e]; unfold Bd oppS; simp only; omega
          have htk := g1.tk f hf
          have KS := Lib.hid fun W => sum_any (S3 f) (l1, l2) W (by unfold Bd; omega) (hlb.more (by omega))
          have KN := Lib.hid fun W (h : SpR t (n + 1) S3 W) => narrow_any t (n + 1) tt S3 (addS (S3 f) (l1, l2)) W h (by omega)
          have hf0 : (0 : Int) ≤ (f : Int) := by omega
          have hf1 : (f : Int) < (n : Int) + 1 := by omega
          have hf2 : f < n + 1 := by omega
          have ht0 : (0 : Int) ≤ (tt : Int) := by omega
          have ht1 : (tt : Int) < (n : Int) + 1 := by omega
          have ht2 : tt < n + 1 := by omega
          have hsZ := g5.size
          have tbZ := g5.cell hXt tb2
          have sf0 := g1.spr.c0 f hf2
          have sf1 := g1.spr.c1 f hf2
          have G1 := Lib.hid g1
          have G2 := Lib.hid g2
          have G5 := Lib.hid g5
          have G6 := Lib.hid g6
          have HX9 := Lib.hid hx
          have HST := Lib.hid hst
          obtain ⟨hZt, hZc, hZb⟩ : t < Z.heap.size ∧ V.heap.size < Z.heap.size ∧ b < Z.heap.size := ⟨by omega, by omega, World.block_lt_of_cell? _ _ y0⟩
          have hZw : w.heap.size < Z.heap.size := World.block_lt_of_cell? _ _ tbZ
          clear hx g1 g2 g5 g6 hst hlb htk
          gi_wp2
          refine wpIn_region_M [12] (fun w' => w'.cell? ⟨w.heap.size, 0, none⟩ = some (.slice (some ⟨t, 0, none⟩) (n + 1) tc) ∧ w'.cell? ⟨b, 0, none⟩ = some (.int .i64 f) ∧ w'.cell? ⟨b, 1, none⟩ = some (.int .i64 tt) ∧ w'.cell? ⟨b, 2, none⟩ = some (.int .i64 l1) ∧ w'.cell? ⟨b, 3, none⟩ = some (.int .i64 l2) ∧ w'.cell? ⟨t, f * 2, none⟩ = some (.int .i64 (S3 f).1) ∧ w'.cell? ⟨t, f * 2 + 1, none⟩ = some (.int .i64 (S3 f).2)) (by kernel_rfl) (by kernel_rfl) (by kernel_rfl) (by (try dsimp only); (repeat' apply And.intro); all_goals first | assumption | (go_simp; done)) (fun hT0 => ?_)
          refine MI_take (v := ?_) 0 rfl (by kernel_rfl) (by assumption) (fun _ _ _ h => h) (Or.inl ⟨by rfl, ?_⟩) (fun _ => rfl) ?_
          rotate_left
          · (intro w hSw; (try dsimp only at hSw); go_simp; (try with_reducible rfl))
          (try simp only [Act.put, List.setIfInBounds_toArray, List.set_cons_zero, List.set_cons_succ])
          refine MI_take (v := ?_) 1 rfl (by kernel_rfl) (by assumption) (fun _ _ _ h => h) (Or.inl ⟨by rfl, ?_⟩) (fun _ => rfl) ?_
          rotate_left
          · (intro w hSw; (try dsimp only at hSw); go_simp; (try with_reducible rfl))
          (try simp only [Act.put, List.setIfInBounds_toArray, List.set_cons_zero, List.set_cons_succ])
          refine MI_take (v := ?_) 2 rfl (by kernel_rfl) (by assumption) (fun _ _ _ h => h) (Or.inl ⟨by rfl, ?_⟩) (fun _ => rfl) ?_
          rotate_left
          · (intro w hSw; (try dsimp only at hSw); go_simp; (try with_reducible rfl))
          (try simp only [Act.put, List.setIfInBounds_toArray, List.set_cons_zero, List.set_cons_succ])
          refine MI_take (v := ?_) 3 rfl (by kernel_rfl) (by assumption) (fun _ _ _ h => h) (Or.inl ⟨by rfl, ?_⟩) (fun _ => rfl) ?_
          rotate_left
          · (intro w hSw; (try dsimp only at hSw); go_simp; (try with_reducible rfl))
          (try simp only [Act.put, List.setIfInBounds_toArray, List.set_cons_zero, List.set_cons_succ])
          refine MI_take (v := ?_) 4 rfl (by kernel_rfl) (by assumption) (fun _ _ _ h => h) (Or.inl ⟨by rfl, ?_⟩) (fun _ => rfl) ?_
          rotate_left
          · (intro w hSw; (try dsimp only at hSw); go_simp; (try with_reducible rfl))
          (try simp only [Act.put, List.setIfInBounds_toArray, List.set_cons_zero, List.set_cons_succ])
          refine MI_take (v := ?_) 5 rfl (by kernel_rfl) (by assumption) (fun _ _ _ h => h) (Or.inl ⟨by rfl, ?_⟩) (fun _ => rfl) ?_
          rotate_left
          · (intro w hSw; (try dsimp only at hSw); go_simp; (try with_reducible rfl))
          (try simp only [Act.put, List.setIfInBounds_toArray, List.set_cons_zero, List.set_cons_succ])
          refine MI_take (v := ?_) 6 rfl (by kernel_rfl) (by assumption) (fun _ _ _ h => h) (Or.inl ⟨by rfl, ?_⟩) (fun _ => rfl) ?_
          rotate_left
          · (intro w hSw; (try dsimp only at hSw); go_simp; (try with_reducible rfl))
          (try simp only [Act.put, List.setIfInBounds_toArray, List.set_cons_zero, List.set_cons_succ])
          refine MI_take (v := ?_) 7 rfl (by kernel_rfl) (by assumption) (fun _ _ _ h => h) (Or.inl ⟨by rfl, ?_⟩) (fun _ => rfl) ?_
          rotate_left
          · (intro w hSw; (try dsimp only at hSw); go_simp; (try with_reducible rfl))
          (try simp only [Act.put, List.setIfInBounds_toArray, List.set_cons_zero, List.set_cons_succ])
          refine MI_take (v := ?_) 8 rfl (by kernel_rfl) (by assumption) (fun _ _ _ h => h) (Or.inl ⟨by rfl, ?_⟩) (fun _ => rfl) ?_
          rotate_left
          · (intro w hSw; (try dsimp only at hSw); go_simp; (try with_reducible rfl))
          (try simp only [Act.put, List.setIfInBounds_toArray, List.set_cons_zero, List.set_cons_succ])
          refine MI_take (v := ?_) 9 rfl (by kernel_rfl) (by assumption) (fun _ _ _ h => h) (Or.inl ⟨by rfl, ?_⟩) (fun _ => rfl) ?_
          rotate_left
          · (intro w hSw; (try dsimp only at hSw); go_simp; (try with_reducible rfl))
          (try simp only [Act.put, List.setIfInBounds_toArray, List.set_cons_zero, List.set_cons_succ])
          refine MI_take (v := ?_) 10 rfl (by kernel_rfl) (by assumption) (fun _ _ _ h => h) (Or.inl ⟨by rfl, ?_⟩) (fun _ => rfl) ?_
          rotate_left
          · (intro w hSw; (try dsimp only at hSw); go_simp; (try with_reducible rfl))
          (try simp only [Act.put, List.setIfInBounds_toArray, List.set_cons_zero, List.set_cons_succ])
          refine MI_step 11 rfl (by kernel_rfl) (fun K hK => ?_)
          go_simp
          refine ⟨trivial, (CallsIn.inRound l3 (callsIn_wide.2 (KS.out _))).mono ?_⟩
          rintro e V5 ⟨rfl, hb5⟩
          have HB5 := Lib.hid (nextB (Below.refl _ _).drew hb5)
          clear hb5
          have hT5 : (fun w' => w'.cell? ⟨w.heap.size, 0, none⟩ = some (.slice (some ⟨t, 0, none⟩) (n + 1) tc) ∧ w'.cell? ⟨b, 0, none⟩ = some (.int .i64 f) ∧ w'.cell? ⟨b, 1, none⟩ = some (.int .i64 tt) ∧ w'.cell? ⟨b, 2, none⟩ = some (.int .i64 l1) ∧ w'.cell? ⟨b, 3, none⟩ = some (.int .i64 l2) ∧ w'.cell? ⟨t, f * 2, none⟩ = some (.int .i64 (S3 f).1) ∧ w'.cell? ⟨t, f * 2 + 1, none⟩ = some (.int .i64 (S3 f).2)) V5 := ⟨cell_of HB5.out tbZ, cell_of HB5.out y0, cell_of HB5.out y1, cell_of HB5.out y2, cell_of HB5.out y3, cell_of HB5.out sf0, cell_of HB5.out sf1⟩
          refine hK.out _ _ (fun _ => hT5) ?_
          clear hK K
          (try simp only [Act.put, List.setIfInBounds_toArray, List.set_cons_zero, List.set_cons_succ])
          refine MI_step 12 rfl (by kernel_rfl) (fun K hK => ?_)
          go_simp
          refine ⟨trivial, (CallsIn.inRound l3 (callsIn_wide.2 (KN.out _ (G1.out.spr.up HB5.out)))).mono ?_⟩
          rintro e V6 ⟨rfl, hs6, hg6⟩
          have HS6 := Lib.hid hs6
          have HG6 := Lib.hid ((grown_of_below' (t := t) HB5.out).trans hg6)
          clear hs6 hg6 hT5
          refine hK.out _ _ (fun e => by cases e) ?_
          clear hK K
          (try simp only [Act.put, List.setIfInBounds_toArray, List.set_cons_zero, List.set_cons_succ])
          refine MI_done (by kernel_rfl) ?_ _
          have hb6 : some b ≠ some t := fun e => by cases e; omega
          have hw6 : some w.heap.size ≠ some t := fun e => by cases e; omega
          have hv6 : some V.heap.size ≠ some t := fun e => by cases e; omega
          obtain ⟨z0, z1, z2, z3, z4, z5, z6⟩ : V6.cell? ⟨b, 0, none⟩ = some (.int .i64 f) ∧ V6.cell? ⟨b, 1, none⟩ = some (.int .i64 tt) ∧ V6.cell? ⟨b, 2, none⟩ = some (.int .i64 l1) ∧ V6.cell? ⟨b, 3, none⟩ = some (.int .i64 l2) ∧ V6.cell? ⟨w.heap.size, 0, none⟩ = some (.slice (some ⟨t, 0, none⟩) (n + 1) tc) ∧ V6.cell? ⟨V.heap.size, 0, none⟩ = some (.bool c3) ∧ V6.frozen? ⟨V.heap.size, 0, none⟩ = false :=
            ⟨cell_row HG6.out hZb hb6 y0, cell_row HG6.out hZb hb6 y1, cell_row HG6.out hZb hb6 y2, cell_row HG6.out hZb hb6 y3, cell_row HG6.out hZw hw6 tbZ, cell_row HG6.out hZc hv6 g3, frozen_row HG6.out hZc hv6 g4⟩
          have hz6 := HG6.out.size
          have C6 : Hid (CBut X Z V6) := Lib.hid (CBut.grown HG6.out HXT.out)
          have K6 : Hid (KeepsFrom w.heap.size Z V6) := Lib.hid (KeepsFrom.of_grownBy HG6.out (fun j e => by cases e; omega))
          have W6 : Hid (w.grownBy V6 (some t)) := Lib.hid (grown_more G1.out.gr HG6.out (fun r e => by cases e; exact .inr rfl))
          have HS7 : Hid (SpR t (n + 1) (stepS S3 f tt (l1, l2)) V6) := HS6
          obtain ⟨cc, hcc⟩ : ∃ cc, cc = chg S3 f tt (l1, l2) := ⟨_, rfl⟩
          have hcf : (decide ((S3 tt).1 < (addS (S3 f) (l1, l2)).1) || decide ((addS (S3 f) (l1, l2)).2 < (S3 tt).2)) = cc := hcc.symm
          rw [hcf]
          have HCC := Lib.hid hcc
          clear hcf hcc HS6 sf0 sf1 y0 y1 y2 y3 tbZ g3 g4 hT0
          cases cc with
          | true =>
            gi_wp2
            obtain ⟨V7, hV7⟩ : ∃ V7 : World, V7 = V6.setCell ⟨V.heap.size, 0, none⟩ (.bool true) := ⟨_, rfl⟩
            rw [← hV7]
            obtain ⟨p0, p1, p2, p3, p4, p5, p6⟩ : V7.cell? ⟨b, 0, none⟩ = some (.int .i64 f) ∧ V7.cell? ⟨b, 1, none⟩ = some (.int .i64 tt) ∧ V7.cell? ⟨b, 2, none⟩ = some (.int .i64 l1) ∧ V7.cell? ⟨b, 3, none⟩ = some (.int .i64 l2) ∧ V7.cell? ⟨w.heap.size, 0, none⟩ = some (.slice (some ⟨t, 0, none⟩) (n + 1) tc) ∧ V7.cell? ⟨V.heap.size, 0, none⟩ = some (.bool true) ∧ V7.frozen? ⟨V.heap.size, 0, none⟩ = false := by
              rw [hV7]
              exact ⟨cell_ne z0 (by simp only; omega), cell_ne z1 (by simp only; omega), cell_ne z2 (by simp only; omega), cell_ne z3 (by simp only; omega), cell_ne z4 (by simp only; omega), World.cell?_setCell_same' _ _ _ (by rw [z5]; rfl), by rw [World.frozen?_setCell]; exact z6⟩
            have C7 : Hid (CBut X Z V7) := Lib.hid (by rw [hV7]; exact C6.out.trans (CBut.setCell HXC.out))
            have K7 : Hid (KeepsFrom w.heap.size Z V7) := Lib.hid (by rw [hV7]; exact K6.out.trans ((KeepsOthers.setCell _ _ _).from _))
            have W7 : Hid (w.grownBy V7 (some t)) := Lib.hid (by rw [hV7]; exact grown_more W6.out (grown_set1 _ _ _ _) (fun r e => by cases e; exact .inl hgV))
            have S7 : Hid (SpR t (n + 1) (stepS S3 f tt (l1, l2)) V7) := Lib.hid (by rw [hV7]; exact HS7.out.other (by omega))
            have hOr : Hid ((c3 || chg S3 f tt (l1, l2)) = true) := Lib.hid (by rw [← HCC.out]; cases c3 <;> rfl)
            clear hV7 z0 z1 z2 z3 z4 z5 z6 C6 K6 W6 HS7
            have q0 := S7.out.c0 tt ht2
            have q1 := S7.out.c1 tt ht2
            generalize hSt : stepS S3 f tt (l1, l2) = S4 at *
            refine wpIn_region_M [] (fun w' => w'.cell? ⟨w.heap.size, 0, none⟩ = some (.slice (some ⟨t, 0, none⟩) (n + 1) tc) ∧ w'.cell? ⟨b, 1, none⟩ = some (.int .i64 tt) ∧ w'.cell? ⟨t, tt * 2, none⟩ = some (.int .i64 (S4 tt).1) ∧ w'.cell? ⟨t, tt * 2 + 1, none⟩ = some (.int .i64 (S4 tt).2)) (by kernel_rfl) (by kernel_rfl) (by kernel_rfl) (by (try dsimp only); (repeat' apply And.intro); all_goals first | assumption | (go_simp; done)) (fun hT0 => ?_)
            refine MI_take (v := ?_) 0 rfl (by kernel_rfl) (by assumption) (fun _ _ _ h => h) (Or.inl ⟨by rfl, ?_⟩) (fun _ => rfl) ?_
            rotate_left
            · (intro w hSw; (try dsimp only at hSw); go_simp; (try with_reducible rfl))
            (try simp only [Act.put, List.setIfInBounds_toArray, List.set_cons_zero, List.set_cons_succ])
            refine MI_take (v := ?_) 1 rfl (by kernel_rfl) (by assumption) (fun _ _ _ h => h) (Or.inl ⟨by rfl, ?_⟩) (fun _ => rfl) ?_
            rotate_left
            · (intro w hSw; (try dsimp only at hSw); go_simp; (try with_reducible rfl))
            (try simp only [Act.put, List.setIfInBounds_toArray, List.set_cons_zero, List.set_cons_succ])
            refine MI_take (v := ?_) 2 rfl (by kernel_rfl) (by assumption) (fun _ _ _ h => h) (Or.inl ⟨by rfl, ?_⟩) (fun _ => rfl) ?_
            rotate_left
            · (intro w hSw; (try dsimp only at hSw); go_simp; (try with_reducible rfl))
            (try simp only [Act.put, List.setIfInBounds_toArray, List.set_cons_zero, List.set_cons_succ])
            refine MI_take (v := ?_) 3 rfl (by kernel_rfl) (by assumption) (fun _ _ _ h => h) (Or.inl ⟨by rfl, ?_⟩) (fun _ => rfl) ?_
            rotate_left
            · (intro w hSw; (try dsimp only at hSw); go_simp; (try with_reducible rfl))
            (try simp only [Act.put, List.setIfInBounds_toArray, List.set_cons_zero, List.set_cons_succ])
            refine MI_take (v := ?_) 4 rfl (by kernel_rfl) (by assumption) (fun _ _ _ h => h) (Or.inl ⟨by rfl, ?_⟩) (fun _ => rfl) ?_
            rotate_left
            · (intro w hSw; (try dsimp only at hSw); go_simp; (try with_reducible rfl))
            (try simp only [Act.put, List.setIfInBounds_toArray, List.set_cons_zero, List.set_cons_succ])
            refine MI_take (v := ?_) 5 rfl (by kernel_rfl) (by assumption) (fun _ _ _ h => h) (Or.inl ⟨by rfl, ?_⟩) (fun _ => rfl) ?_
            rotate_left
            · (intro w hSw; (try dsimp only at hSw); go_simp; (try with_reducible rfl))
            (try simp only [Act.put, List.setIfInBounds_toArray, List.set_cons_zero, List.set_cons_succ])
            refine MI_take (v := ?_) 6 rfl (by kernel_rfl) (by assumption) (fun _ _ _ h => h) (Or.inl ⟨by rfl, ?_⟩) (fun _ => rfl) ?_
            rotate_left
            · (intro w hSw; (try dsimp only at hSw); go_simp; (try with_reducible rfl))
            (try simp only [Act.put, List.setIfInBounds_toArray, List.set_cons_zero, List.set_cons_succ])
            refine MI_take (v := ?_) 7 rfl (by kernel_rfl) (by assumption) (fun _ _ _ h => h) (Or.inl ⟨by rfl, ?_⟩) (fun _ => rfl) ?_
            rotate_left
            · (intro w hSw; (try dsimp only at hSw); go_simp; (try with_reducible rfl))
            (try simp only [Act.put, List.setIfInBounds_toArray, List.set_cons_zero, List.set_cons_succ])
            refine MI_take (v := ?_) 8 rfl (by kernel_rfl) (by assumption) (fun _ _ _ h => h) (Or.inl ⟨by rfl, ?_⟩) (fun _ => rfl) ?_
            rotate_left
            · (intro w hSw; (try dsimp only at hSw); go_simp; (try with_reducible rfl))
            (try simp only [Act.put, List.setIfInBounds_toArray, List.set_cons_zero, List.set_cons_succ])
            refine MI_take (v := ?_) 9 rfl (by kernel_rfl) (by assumption) (fun _ _ _ h => h) (Or.inl ⟨by rfl, ?_⟩) (fun _ => rfl) ?_
            rotate_left
            · (intro w hSw; (try dsimp only at hSw); go_simp; (try with_reducible rfl))
            (try simp only [Act.put, List.setIfInBounds_toArray, List.set_cons_zero, List.set_cons_succ])
            refine MI_take (v := ?_) 10 rfl (by kernel_rfl) (by assumption) (fun _ _ _ h => h) (Or.inl ⟨by rfl, ?_⟩) (fun _ => rfl) ?_
            rotate_left
            · (intro w hSw; (try dsimp only at hSw); go_simp; (try with_reducible rfl))
            (try simp only [Act.put, List.setIfInBounds_toArray, List.set_cons_zero, List.set_cons_succ])
            refine MI_take (v := ?_) 11 rfl (by kernel_rfl) (by assumption) (fun _ _ _ h => h) (Or.inl ⟨by rfl, ?_⟩) (fun _ => rfl) ?_
            rotate_left
            · (intro w hSw; (try dsimp only at hSw); go_simp; (try with_reducible rfl))
            (try simp only [Act.put, List.setIfInBounds_toArray, List.set_cons_zero, List.set_cons_succ])
            refine MI_take (v := ?_) 12 rfl (by kernel_rfl) (by assumption) (fun _ _ _ h => h) (Or.inl ⟨by rfl, ?_⟩) (fun _ => rfl) ?_
            rotate_left
            · (intro w hSw; (try dsimp only at hSw); go_simp; (try with_reducible rfl))
            (try simp only [Act.put, List.setIfInBounds_toArray, List.set_cons_zero, List.set_cons_succ])
            refine MI_done (by kernel_rfl) ?_ _
            have bd : Below V7.heap.size V7 V7.drew := (Below.refl _ _).drew
            have HBD7 := Lib.hid bd
            clear bd
            by_cases hne4 : neS (S4 tt)
            · have FIN : Hid (KeepsFrom V2.heap.size Z V7.drew ∧ CBut X Z V7.drew ∧ SwI w t n G S0 m i V.heap.size X V2 (k + 1) V7.drew) := Lib.hid ⟨keeps_more (K7.out.trans (keepsFrom_below HBD7.out)) hwV, C7.out.trans (CBut.of HBD7.out), S4, _, ⟨S7.out.up HBD7.out, grown_more W7.out (grown_of_below HBD7.out) (fun r e => by cases e), fun T h => by rw [← hSt]; exact step_sound HST.out (G1.out.snd T h), fun T h => G1.out.sub T (step_sub (by rw [hSt]; exact h)), by rw [← hSt] at hne4 ⊢; exact step_tk G1.out.tk htt hne4⟩, by have h9 := swp.next G2.out HX9.out htt (by rw [hSt]; exact hne4); rw [hSt, hOr.out] at h9; exact h9, cell_of HBD7.out p5, low_frozen HBD7.out (World.block_lt_of_cell? _ _ p5) p6, (G5.out.trans C7.out).trans (CBut.of HBD7.out), (G6.out.trans K7.out).trans (keepsFrom_below HBD7.out)⟩
              have d1 : decide ((S4 tt).1 > (S4 tt).2) = false := decide_eq_false (by unfold neS at hne4; omega)
              have d2 : decide ((S4 tt).2 < (S4 tt).1) = false := decide_eq_false (by unfold neS at hne4; omega)
              clear hne4
              first | rw [d1] | rw [d2]
              gi_wp2
              exact FIN.out
            · have FIN : Hid (KeepsFrom V2.heap.size Z V7.drew ∧ Code.exit 0 = .exit 0 ∧ SwX w t n G S0 V2 V7.drew) := Lib.hid ⟨keeps_more (K7.out.trans (keepsFrom_below HBD7.out)) hwV, rfl, ⟨S4, S7.out.up HBD7.out⟩, grown_more W7.out (grown_of_below HBD7.out) (fun r e => by cases e), fun T h => hne4 (by have h9 := (step_sound HST.out (G1.out.snd T h)).tick tt htt; rw [hSt] at h9; unfold neS; omega), (G6.out.trans K7.out).trans (keepsFrom_below HBD7.out)⟩
              have d1 : decide ((S4 tt).1 > (S4 tt).2) = true := decide_eq_true (by unfold neS at hne4; omega)
              have d2 : decide ((S4 tt).2 < (S4 tt).1) = true := decide_eq_true (by unfold neS at hne4; omega)
              clear hne4
              first | rw [d1] | rw [d2]
              gi_wp2
              exact ⟨FIN.out.1, rfl, FIN.out.2.2⟩
          | false =>
            obtain ⟨V7, hV7⟩ : ∃ V7 : World, V7 = V6 := ⟨_, rfl⟩
            subst hV7
            obtain ⟨p0, p1, p2, p3, p4, p5, p6⟩ := And.intro z0 (And.intro z1 (And.intro z2 (And.intro z3 (And.intro z4 (And.intro z5 z6)))))
            have C7 := C6
            have K7 := K6
            have W7 := W6
            have S7 := HS7
            have hOr : Hid ((c3 || chg S3 f tt (l1, l2)) = c3) := Lib.hid (by rw [← HCC.out]; cases c3 <;> rfl)
            clear z0 z1 z2 z3 z4 z5 z6 C6 K6 W6 HS7
            gi_wp2
            have q0 := S7.out.c0 tt ht2
            have q1 := S7.out.c1 tt ht2
            generalize hSt : stepS S3 f tt (l1, l2) = S4 at *
            refine wpIn_region_M [] (fun w' => w'.cell? ⟨w.heap.size, 0, none⟩ = some (.slice (some ⟨t, 0, none⟩) (n + 1) tc) ∧ w'.cell? ⟨b, 1, none⟩ = some (.int .i64 tt) ∧ w'.cell? ⟨t, tt * 2, none⟩ = some (.int .i64 (S4 tt).1) ∧ w'.cell? ⟨t, tt * 2 + 1, none⟩ = some (.int .i64 (S4 tt).2)) (by kernel_rfl) (by kernel_rfl) (by kernel_rfl) (by (try dsimp only); (repeat' apply And.intro); all_goals first | assumption | (go_simp; done)) (fun hT0 => ?_)
            refine MI_take (v := ?_) 0 rfl (by kernel_rfl) (by assumption) (fun _ _ _ h => h) (Or.inl ⟨by rfl, ?_⟩) (fun _ => rfl) ?_
            rotate_left
            · (intro w hSw; (try dsimp only at hSw); go_simp; (try with_reducible rfl))
            (try simp only [Act.put, List.setIfInBounds_toArray, List.set_cons_zero, List.set_cons_succ])
            refine MI_take (v := ?_) 1 rfl (by kernel_rfl) (by assumption) (fun _ _ _ h => h) (Or.inl ⟨by rfl, ?_⟩) (fun _ => rfl) ?_
            rotate_left
            · (intro w hSw; (try dsimp only at hSw); go_simp; (try with_reducible rfl))
            (try simp only [Act.put, List.setIfInBounds_toArray, List.set_cons_zero, List.set_cons_succ])
            refine MI_take (v := ?_) 2 rfl (by kernel_rfl) (by assumption) (fun _ _ _ h => h) (Or.inl ⟨by rfl, ?_⟩) (fun _ => rfl) ?_
            rotate_left
            · (intro w hSw; (try dsimp only at hSw); go_simp; (try with_reducible rfl))
            (try simp only [Act.put, List.setIfInBounds_toArray, List.set_cons_zero, List.set_cons_succ])
            refine MI_take (v := ?_) 3 rfl (by kernel_rfl) (by assumption) (fun _ _ _ h => h) (Or.inl ⟨by rfl, ?_⟩) (fun _ => rfl) ?_
            rotate_left
            · (intro w hSw; (try dsimp only at hSw); go_simp; (try with_reducible rfl))
            (try simp only [Act.put, List.setIfInBounds_toArray, List.set_cons_zero, List.set_cons_succ])
            refine MI_take (v := ?_) 4 rfl (by kernel_rfl) (by assumption) (fun _ _ _ h => h) (Or.inl ⟨by rfl, ?_⟩) (fun _ => rfl) ?_
            rotate_left
            · (intro w hSw; (try dsimp only at hSw); go_simp; (try with_reducible rfl))
            (try simp only [Act.put, List.setIfInBounds_toArray, List.set_cons_zero, List.set_cons_succ])
            refine MI_take (v := ?_) 5 rfl (by kernel_rfl) (by assumption) (fun _ _ _ h => h) (Or.inl ⟨by rfl, ?_⟩) (fun _ => rfl) ?_
            rotate_left
            · (intro w hSw; (try dsimp only at hSw); go_simp; (try with_reducible rfl))
            (try simp only [Act.put, List.setIfInBounds_toArray, List.set_cons_zero, List.set_cons_succ])
            refine MI_take (v := ?_) 6 rfl (by kernel_rfl) (by assumption) (fun _ _ _ h => h) (Or.inl ⟨by rfl, ?_⟩) (fun _ => rfl) ?_
            rotate_left
            · (intro w hSw; (try dsimp only at hSw); go_simp; (try with_reducible rfl))
            (try simp only [Act.put, List.setIfInBounds_toArray, List.set_cons_zero, List.set_cons_succ])
            refine MI_take (v := ?_) 7 rfl (by kernel_rfl) (by assumption) (fun _ _ _ h => h) (Or.inl ⟨by rfl, ?_⟩) (fun _ => rfl) ?_
            rotate_left
            · (intro w hSw; (try dsimp only at hSw); go_simp; (try with_reducible rfl))
            (try simp only [Act.put, List.setIfInBounds_toArray, List.set_cons_zero, List.set_cons_succ])
            refine MI_take (v := ?_) 8 rfl (by kernel_rfl) (by assumption) (fun _ _ _ h => h) (Or.inl ⟨by rfl, ?_⟩) (fun _ => rfl) ?_
            rotate_left
            · (intro w hSw; (try dsimp only at hSw); go_simp; (try with_reducible rfl))
            (try simp only [Act.put, List.setIfInBounds_toArray, List.set_cons_zero, List.set_cons_succ])
            refine MI_take (v := ?_) 9 rfl (by kernel_rfl) (by assumption) (fun _ _ _ h => h) (Or.inl ⟨by rfl, ?_⟩) (fun _ => rfl) ?_
            rotate_left
            · (intro w hSw; (try dsimp only at hSw); go_simp; (try with_reducible rfl))
            (try simp only [Act.put, List.setIfInBounds_toArray, List.set_cons_zero, List.set_cons_succ])
            refine MI_take (v := ?_) 10 rfl (by kernel_rfl) (by assumption) (fun _ _ _ h => h) (Or.inl ⟨by rfl, ?_⟩) (fun _ => rfl) ?_
            rotate_left
            · (intro w hSw; (try dsimp only at hSw); go_simp; (try with_reducible rfl))
            (try simp only [Act.put, List.setIfInBounds_toArray, List.set_cons_zero, List.set_cons_succ])
            refine MI_take (v := ?_) 11 rfl (by kernel_rfl) (by assumption) (fun _ _ _ h => h) (Or.inl ⟨by rfl, ?_⟩) (fun _ => rfl) ?_
            rotate_left
            · (intro w hSw; (try dsimp only at hSw); go_simp; (try with_reducible rfl))
            (try simp only [Act.put, List.setIfInBounds_toArray, List.set_cons_zero, List.set_cons_succ])
            refine MI_take (v := ?_) 12 rfl (by kernel_rfl) (by assumption) (fun _ _ _ h => h) (Or.inl ⟨by rfl, ?_⟩) (fun _ => rfl) ?_
            rotate_left
            · (intro w hSw; (try dsimp only at hSw); go_simp; (try with_reducible rfl))
            (try simp only [Act.put, List.setIfInBounds_toArray, List.set_cons_zero, List.set_cons_succ])
            refine MI_done (by kernel_rfl) ?_ _
            have bd : Below V7.heap.size V7 V7.drew := (Below.refl _ _).drew
            have HBD7 := Lib.hid bd
            clear bd
            by_cases hne4 : neS (S4 tt)
            · have FIN : Hid (KeepsFrom V2.heap.size Z V7.drew ∧ CBut X Z V7.drew ∧ SwI w t n G S0 m i V.heap.size X V2 (k + 1) V7.drew) := Lib.hid ⟨keeps_more (K7.out.trans (keepsFrom_below HBD7.out)) hwV, C7.out.trans (CBut.of HBD7.out), S4, _, ⟨S7.out.up HBD7.out, grown_more W7.out (grown_of_below HBD7.out) (fun r e => by cases e), fun T h => by rw [← hSt]; exact step_sound HST.out (G1.out.snd T h), fun T h => G1.out.sub T (step_sub (by rw [hSt]; exact h)), by rw [← hSt] at hne4 ⊢; exact step_tk G1.out.tk htt hne4⟩, by have h9 := swp.next G2.out HX9.out htt (by rw [hSt]; exact hne4); rw [hSt, hOr.out] at h9; exact h9, cell_of HBD7.out p5, low_frozen HBD7.out (World.block_lt_of_cell? _ _ p5) p6, (G5.out.trans C7.out).trans (CBut.of HBD7.out), (G6.out.trans K7.out).trans (keepsFrom_below HBD7.out)⟩
              have d1 : decide ((S4 tt).1 > (S4 tt).2) = false := decide_eq_false (by unfold neS at hne4; omega)
              have d2 : decide ((S4 tt).2 < (S4 tt).1) = false := decide_eq_false (by unfold neS at hne4; omega)
              clear hne4
              first | rw [d1] | rw [d2]
              gi_wp2
              exact FIN.out
            · have FIN : Hid (KeepsFrom V2.heap.size Z V7.drew ∧ Code.exit 0 = .exit 0 ∧ SwX w t n G S0 V2 V7.drew) := Lib.hid ⟨keeps_more (K7.out.trans (keepsFrom_below HBD7.out)) hwV, rfl, ⟨S4, S7.out.up HBD7.out⟩, grown_more W7.out (grown_of_below HBD7.out) (fun r e => by cases e), fun T h => hne4 (by have h9 := (step_sound HST.out (G1.out.snd T h)).tick tt htt; rw [hSt] at h9; unfold neS; omega), (G6.out.trans K7.out).trans (keepsFrom_below HBD7.out)⟩
              have d1 : decide ((S4 tt).1 > (S4 tt).2) = true := decide_eq_true (by unfold neS at hne4; omega)
              have d2 : decide ((S4 tt).2 < (S4 tt).1) = true := decide_eq_true (by unfold neS at hne4; omega)
              clear hne4
              first | rw [d1] | rw [d2]
              gi_wp2
              exact ⟨FIN.out.1, rfl, FIN.out.2.2⟩
        case done =>
          rintro D Z hD ⟨S3, c3, g1, g2, g3, g4, g5, g6⟩ hKD
          rw [stL_len] at g2
          have hM3 : Hid (Marks w.heap.size ({ target := .collected D, args := #[] } :: ds2) Z) := Lib.hid ((hM2.out.keeps g6).cons (fun d hd D' e => by have := hM2.out.lt d hd D' e; omega) (by omega) hKD)
          have G1 := Lib.hid g1
          have G2 := Lib.hid g2
          have G5 := Lib.hid (hCB.out.trans g5)
          have hw1 : IntKind.i64.wrap ((i : Int) + 1) = (i : Int) + 1 := IntWalk.i64_in _ (by omega)
          clear g1 g2 g5 g6 hKD
          gi_wp2
          exact HK2.out (2 - (i + 1)) _ _ (by omega) ⟨i + 1, S3, c3, _, _, _, _, _, _, _, _, _, _, _, _, _, _, _, _, _, _, _, _, _, _, _, _, _, _, _, _, _, _, _, _, _, _, _, _, _, _, rfl, by omega, G1, Lib.hid (swp.turn G2.out), hM3, G5, g3, g4, rfl⟩
        case stop =>
          rintro D cd k Z hD hk ⟨rfl, ⟨S3, g1⟩, g2, g3, g4⟩ hKD
          have hM3 : Hid (Marks w.heap.size ({ target := .collected D, args := #[] } :: ds2) Z) := Lib.hid ((hM2.out.keeps g4).cons (fun d hd D' e => by have := hM2.out.lt d hd D' e; omega) (by omega) hKD)
          have HX1 : Hid (LVT w t n Z) := Lib.hid ⟨⟨S3, g1⟩, g2⟩
          have HX3 := Lib.hid g3
          clear g1 g2 g3 g4 hKD
          gi_wp2
          rw [Exit.noGoto_ret]
          refine leaves_marks (B := w.heap.size) (LVT w t n) (fun W D hW hD hK => hW.put htl hD) (fun W hW => ?_) _ Z hM3.out HX1.out
          obtain ⟨⟨S9, q1⟩, q2⟩ := hW
          refine ⟨.bool false, ?_, false, S9, rfl, q1, q2, (fun h => by cases h), fun _ => HX3.out⟩
          simp [results, Try.results126, go_sem]
      · obtain rfl : i = 2 := by omega
        rw [show ((2 : Nat) : Int) = 2 from rfl]
        clear HSQ HK2
        cases c with
        | false =>
          have HX1 : Hid (LVT2 w t n S2 V2) := Lib.hid ⟨hI2.out.spr, hI2.out.gr⟩
          have HEN := Lib.hid (hsw.out.ends hI2.out h1 (fun i hi => by have := HBD.out i hi; unfold neS; omega))
          gi_wp2
          rw [Exit.noGoto_ret]
          refine leaves_marks (B := w.heap.size) (LVT2 w t n S2) (fun W D hW hD hK => hW.put htl hD) (fun W hW => ?_) _ V2 hM2.out HX1.out
          obtain ⟨q1, q2⟩ := hW
          refine ⟨.bool true, ?_, true, S2, rfl, q1, q2, fun _ => HEN.out, fun h => by cases h⟩
          simp [results, Try.results126, go_sem]
        | true =>
          have hlt2 : wid S2 n < m := by
            rcases hsw.out with h | h
            · exact h.2
            · cases h.1
          have HLT := Lib.hid hlt2
          clear hlt2
          gi_wp2
          exact HK1.out (wid S2 n) _ _ HLT.out ⟨S2, ds2, _, _, _, _, _, _, _, _, _, _, _, _, _, _, _, _, _, _, _, _, _, _, _, _, _, _, _, _, _, _, _, _, _, _, _, _, _, _, _, _, _, _, _, _, _, hI2, rfl, hM2, tb2, rfl⟩
end Go.Proofs.Ytpikaohodieeaaa
namespace Go.Proofs.Ytpikaohodieeaaa
open Go.RowKit
set_option linter.unusedSimpArgs false
set_option linter.unusedVariables false
def GpR (d : Drm) (x : Int) (s : Int × Int) (E : Int) : Prop :=
  (E = 20 ∧ s = (0, 0) ∧ ¬ DrOk d) ∨ (E = 1 ∧ s = (0, 0) ∧ DrOk d ∧ ¬ (0 ≤ x ∧ x < d.n)) ∨ (E = 0 ∧ DrOk d ∧ 0 ≤ x ∧ x < d.n ∧ s = gapF d x.toNat)
set_option maxRecDepth 100000 in
set_option maxHeartbeats 1000000 in
theorem Gap_any (d : Drm) (x : Int) (s : Int × Int) (E : Int) (w : World) (hin : DrIn d w.heap.size w) (hE : GpR d x s E) :
    Calls Try.prog 23 #[d.v, .int .i64 x] w fun e w' => e = .returned (.tuple #[Sp s, .int .i64 E]) ∧ Below w.heap.size w w' := by
  have HIN := Lib.hid hin
  obtain ⟨w1, hw1⟩ : ∃ w1 : World, w1 = (w.alloc (drO d)).alloc (.cells #[.int .i64 0, .int .i64 0] 31) := ⟨_, rfl⟩
  have B1 : Below w.heap.size w w1 := by rw [hw1]; exact box2 _ _ _
  have P1 : HasDr d w.heap.size w1 := by rw [hw1]; exact (dr_new w d).up (box1 _ _)
  have R1 : Bt (w.heap.size + 1) 0 0 w1 := by
    rw [hw1]
    have := Bt.new (w.alloc (drO d)) 31 0 0
    rw [World.size_alloc] at this
    exact this
  have HB := Lib.hid B1
  have HP := Lib.hid P1
  have HR := Lib.hid R1
  have I1 := Lib.hid ((HIN.out.up B1 (Nat.le_refl _)).more B1.size)
  clear hin B1 P1 R1
  rcases hE with ⟨rfl, rfl, h⟩ | ⟨rfl, rfl, h, hn⟩ | ⟨rfl, h, h1, h2, rfl⟩
  · have H := Lib.hid h
    clear h
    go_enter Try.func23, Try.ntmps23
    go_wp2_with fail
    rw [← hw1]
    clear hw1
    refine (Check_any d 20 w1 I1.out (.inr ⟨rfl, H.out⟩)).mono ?_
    rintro e w2 ⟨rfl, hb2⟩
    have D2 := Lib.hid (nextB HB.out hb2)
    have P2 := HP.out.up hb2
    have R2 := HR.out.up hb2
    have z2 := R2.lt
    have HI2 := Lib.hid ((HIN.out.up D2.out (Nat.le_refl _)).more D2.out.size)
    clear hb2
    obtain ⟨x0, x1⟩ := P2
    have hset : Below (w.heap.size + 1) w2 ((w2.setCell ⟨w.heap.size + 1, 0, none⟩ (.int .i64 (0))).setCell ⟨w.heap.size + 1, 1, none⟩ (.int .i64 (0))) := set1 (set1 (Below.refl _ _) (Nat.le_refl _) _ _) (Nat.le_refl _) _ _
    have HF := Lib.hid (D2.out.trans (hset.mono (by omega)))
    have hq := R2.store (0) (0)
    clear hset
    obtain ⟨r0, r1, r2, r3⟩ := R2
    go_wp2_with fail
    obtain ⟨wf, hwf⟩ : ∃ wf : World, wf = (w2.setCell ⟨w.heap.size + 1, 0, none⟩ (.int .i64 (0))).setCell ⟨w.heap.size + 1, 1, none⟩ (.int .i64 (0)) := ⟨_, rfl⟩
    have HF2 := HF.out
    rw [← hwf] at hq HF2 ⊢
    obtain ⟨q0, q1, _, _⟩ := hq
    exact bodyPost_ret (v := .tuple #[Sp (0, 0), .int .i64 20]) (by simp [results, Try.results23, go_sem, q0, q1]) rfl ⟨rfl, HF2⟩
  · by_cases hx : x < 0
    · have d1 : decide (x < 0) = true := decide_eq_true hx
      have H := Lib.hid h
      clear h
      go_enter Try.func23, Try.ntmps23
      go_wp2_with fail
      rw [← hw1]
      clear hw1
      refine (Check_any d 0 w1 I1.out (.inl ⟨rfl, H.out⟩)).mono ?_
      rintro e w2 ⟨rfl, hb2⟩
      have D2 := Lib.hid (nextB HB.out hb2)
      have P2 := HP.out.up hb2
      have R2 := HR.out.up hb2
      have z2 := R2.lt
      have HI2 := Lib.hid ((HIN.out.up D2.out (Nat.le_refl _)).more D2.out.size)
      clear hb2
      obtain ⟨x0, x1⟩ := P2
      have hset : Below (w.heap.size + 1) w2 ((w2.setCell ⟨w.heap.size + 1, 0, none⟩ (.int .i64 (0))).setCell ⟨w.heap.size + 1, 1, none⟩ (.int .i64 (0))) := set1 (set1 (Below.refl _ _) (Nat.le_refl _) _ _) (Nat.le_refl _) _ _
      have HF := Lib.hid (D2.out.trans (hset.mono (by omega)))
      have hq := R2.store (0) (0)
      clear hset
      obtain ⟨r0, r1, r2, r3⟩ := R2
      go_wp2_with fail
      obtain ⟨wf, hwf⟩ : ∃ wf : World, wf = (w2.setCell ⟨w.heap.size + 1, 0, none⟩ (.int .i64 (0))).setCell ⟨w.heap.size + 1, 1, none⟩ (.int .i64 (0)) := ⟨_, rfl⟩
      have HF2 := HF.out
      rw [← hwf] at hq HF2 ⊢
      obtain ⟨q0, q1, _, _⟩ := hq
      exact bodyPost_ret (v := .tuple #[Sp (0, 0), .int .i64 1]) (by simp [results, Try.results23, go_sem, q0, q1]) rfl ⟨rfl, HF2⟩
    · have d1 : decide (x < 0) = false := decide_eq_false hx
      have d2 : decide (x ≥ (d.n : Int)) = true := decide_eq_true (by omega)
      have H := Lib.hid h
      clear h
      go_enter Try.func23, Try.ntmps23
      go_wp2_with fail
      rw [← hw1]
      clear hw1
      refine (Check_any d 0 w1 I1.out (.inl ⟨rfl, H.out⟩)).mono ?_
      rintro e w2 ⟨rfl, hb2⟩
      have D2 := Lib.hid (nextB HB.out hb2)
      have P2 := HP.out.up hb2
      have R2 := HR.out.up hb2
      have z2 := R2.lt
      have HI2 := Lib.hid ((HIN.out.up D2.out (Nat.le_refl _)).more D2.out.size)
      clear hb2
      obtain ⟨x0, x1⟩ := P2
      have hset : Below (w.heap.size + 1) w2 ((w2.setCell ⟨w.heap.size + 1, 0, none⟩ (.int .i64 (0))).setCell ⟨w.heap.size + 1, 1, none⟩ (.int .i64 (0))) := set1 (set1 (Below.refl _ _) (Nat.le_refl _) _ _) (Nat.le_refl _) _ _
      have HF := Lib.hid (D2.out.trans (hset.mono (by omega)))
      have hq := R2.store (0) (0)
      clear hset
      obtain ⟨r0, r1, r2, r3⟩ := R2
      go_wp2_with fail
      obtain ⟨wf, hwf⟩ : ∃ wf : World, wf = (w2.setCell ⟨w.heap.size + 1, 0, none⟩ (.int .i64 (0))).setCell ⟨w.heap.size + 1, 1, none⟩ (.int .i64 (0)) := ⟨_, rfl⟩
      have HF2 := HF.out
      rw [← hwf] at hq HF2 ⊢
      obtain ⟨q0, q1, _, _⟩ := hq
      exact bodyPost_ret (v := .tuple #[Sp (0, 0), .int .i64 1]) (by simp [results, Try.results23, go_sem, q0, q1]) rfl ⟨rfl, HF2⟩
  · obtain ⟨q, rfl⟩ : ∃ q : Nat, x = (q : Int) := ⟨x.toNat, by omega⟩
    rw [Int.toNat_natCast]
    have hq1 : q < d.n := by omega
    have d1 : decide ((q : Int) < 0) = false := decide_eq_false (by omega)
    have d2 : decide ((q : Int) ≥ (d.n : Int)) = false := decide_eq_false (by omega)
    have d3 : decide (d.n ≤ q) = false := decide_eq_false (by omega)
    have H := Lib.hid h
    clear h
    go_enter Try.func23, Try.ntmps23
    go_wp2_with fail
    rw [← hw1]
    clear hw1
    refine (Check_any d 0 w1 I1.out (.inl ⟨rfl, H.out⟩)).mono ?_
    rintro e w2 ⟨rfl, hb2⟩
    have D2 := Lib.hid (nextB HB.out hb2)
    have P2 := HP.out.up hb2
    have R2 := HR.out.up hb2
    have z2 := R2.lt
    have HI2 := Lib.hid ((HIN.out.up D2.out (Nat.le_refl _)).more D2.out.size)
    clear hb2
    obtain ⟨x0, x1⟩ := P2
    go_wp2_with fail
    refine (gapsOf_any d _ HI2.out H.out).mono ?_
    rintro e w3 ⟨g, cap, rfl, hg, hcap, hS, hb3⟩
    have D3 := Lib.hid (nextB D2.out hb3)
    have R3 := R2.up hb3
    have z3 := R3.lt
    have g0 := hS.c0 q hq1
    have g1 := hS.c1 q hq1
    clear hb3 x0 x1 R2 hS hcap
    obtain ⟨sx, sy, hs9⟩ : ∃ a b, gapF d q = (a, b) := ⟨_, _, rfl⟩
    rw [hs9] at g0 g1
    have H9 := Lib.hid hs9
    clear hs9

    simp only at g0 g1
    have hset : Below (w.heap.size + 1) w3 ((w3.setCell ⟨w.heap.size + 1, 0, none⟩ (.int .i64 (sx))).setCell ⟨w.heap.size + 1, 1, none⟩ (.int .i64 (sy))) := set1 (set1 (Below.refl _ _) (Nat.le_refl _) _ _) (Nat.le_refl _) _ _
    have HF := Lib.hid (D3.out.trans (hset.mono (by omega)))
    have hq := R3.store (sx) (sy)
    clear hset
    obtain ⟨r0, r1, r2, r3⟩ := R3
    go_wp2_with fail
    obtain ⟨wf, hwf⟩ : ∃ wf : World, wf = (w3.setCell ⟨w.heap.size + 1, 0, none⟩ (.int .i64 (sx))).setCell ⟨w.heap.size + 1, 1, none⟩ (.int .i64 (sy)) := ⟨_, rfl⟩
    have HF2 := HF.out
    rw [← hwf] at hq HF2 ⊢
    obtain ⟨q0, q1, _, _⟩ := hq
    exact bodyPost_ret (v := .tuple #[Sp (sx, sy), .int .i64 0]) (by simp [results, Try.results23, go_sem, q0, q1]) rfl ⟨by rw [H9.out], HF2⟩
end Go.Proofs.Ytpikaohodieeaaa
