import Derived.Test.YtkidhmajlpceeaaLst
namespace Go.Proofs.Ytkidhmajlpceeaa
open Go.RowKit
section
variable {F : Fence} {n : Nat} {P : Program} {α : Type}
/-- the iterator's contract: it yields L's elements one after the other -/
def Yields (F : Fence) (n : Nat) (P : Program) (g : Nat) (lb : Array Value) (encs : α → Array Value) (Kp : World → World → Prop) (L : List α) (w : World) : Prop :=
  ∀ (l : Nat) (J : Nat → World → Prop) (W : World), Below w.heap.size w W → AbidesFrom W.heap.size J →
    (∀ k x W1, L[k]? = some x → J k W1 → YieldAt F (n - 1) P l (encs x) W1 fun e W' => e = .returned (.bool true) ∧ J (k + 1) W' ∧ Kp W1 W') →
    J 0 W → CallsIn F n P g (#[.func (.yield l) #[] #[]] ++ lb) W fun e W' => (∃ v, e = .returned v) ∧ J L.length W'
/-- a round's end: it goes on, or nothing -/
def goesOn (R : World → Prop) : Exit → Act → World → Prop
  | .normal, _, W => R W
  | _, _, _ => False
theorem rangeList {g : Operand} {ps : Array Tmp} {assign body : Code} {Q : Exit → Act → World → Prop} {a : Act} {w : World}
    (hro : F.round = none) (hn : 1 ≤ n) {gf : Nat} {lb : Array Value} (hg : a.eval g = .func (.func gf) #[] lb) (hF : F.fn gf) (eg : ∀ args w, (callFunc gf args).run P w = .ok (.enter gf args) w)
    {encs : α → Array Value} {Kp : World → World → Prop} {L : List α} {w0 : World} (hseq : Yields F (n - 1) P gf lb encs Kp L w0) (hb0 : Below w0.heap.size w0 w) (hps : ∀ x, (encs x).size = ps.size)
    (hKt : ∀ {A B C : World}, Kp A B → Kp B C → Kp A C) (hKb : ∀ (W : World) (l : Nat) (o o' : Obj), w.heap.size ≤ l → W.heap[l]? = some o → o.isCells = false → o.isWalk = false → Kp W (W.putObj l o'))
    (I : Nat → World → Prop) (hI : OwnFrom w.heap.size I) (h0 : I 0 w) (Ax : α → Act → World → Prop) (hAx : ∀ x a', OwnFrom w.heap.size (fun (_ : Unit) W => Ax x a' W))
    (hassign : ∀ (l k : Nat) (x : α) (W : World) (K : Act → World → Prop), L[k]? = some x → I k W → (∀ a' W', KeepsFrom w.heap.size W W' → Kp W W' → I k W' → Ax x a' W' → K a' W') →
      assign.wpIn (F.inRound l) (n - 1 - 1) P (Exit.then K (fun _ _ _ => False)) { tmps := (ps.zip (encs x)).foldl (fun t (p, v) => t.setIfInBounds p v) a.tmps, defers := [] } W)
    (hbody : ∀ (l k : Nat) (x : α) (a' : Act) (W : World), L[k]? = some x → I k W → Ax x a' W → body.wpIn (F.inRound l) (n - 1 - 1) P (goesOn fun W' => KeepsFrom w.heap.size W W' ∧ Kp W W' ∧ I (k + 1) W') a' W)
    (hdone : ∀ (D : Nat) (W : World), w.heap.size ≤ D → I L.length W → W.heap[D]? = some (.deferred (some [])) → Q .normal { a with defers := { target := .collected D, args := #[] } :: a.defers } W) :
    (Code.rangeFunc g ps assign body).wpIn F n P Q a w := by
  refine wpIn_rangeFunc fun fn hfn => ?_
  rw [hro]
  let rec' : LoopState → Loop := fun st => { state := st, pending := none, fn, tmps := a.tmps, params := ps, assign, body, defers := w.heap.size }
  have kept : ∀ {A B : World} {c : Nat} {o : Obj}, KeepsFrom w.heap.size A B → w.heap.size ≤ c → A.heap[c]? = some o → o.isCells = false → B.heap[c]? = some o := fun hk hc ho hi => hk.same _ _ hc ho hi
  let books : World → Prop := fun W => W.heap[w.heap.size + 1]? = some (.loop (rec' .ready)) ∧ W.heap[w.heap.size]? = some (.deferred (some []))
  obtain ⟨W1, hW1⟩ : ∃ W1, W1 = (w.alloc (.deferred (some []))).alloc (.loop (rec' .ready)) := ⟨_, rfl⟩
  have hb1 : Below w.heap.size w W1 := by rw [hW1]; exact ((Below.refl _ _).alloc (Nat.le_refl _) _).alloc (by simp only [World.size_alloc]; omega) _
  have hs1 : W1.heap.size = w.heap.size + 1 + 1 := by rw [hW1]; simp
  have hk1 : books W1 := by
    constructor
    · rw [hW1]; have := World.alloc_heap_new (w.alloc (.deferred (some []))) (.loop (rec' .ready)); rwa [World.size_alloc] at this
    · rw [hW1, Below.heap_alloc _ _ _ (by simp)]; exact World.alloc_heap_new w _
  have hi1 : I 0 W1 := by rw [hW1]; exact hI.alloc _ (hI.alloc _ h0)
  refine ⟨w.heap.size + 1, [{ target := .collected w.heap.size, args := #[] }], W1, { target := .fn (.func gf) lb, args := #[.func (.yield (w.heap.size + 1)) #[] #[]] }, W1, gf, #[.func (.yield (w.heap.size + 1)) #[] #[]] ++ lb, W1, ?_, ?_, ?_, ?_, fun _ => hn, ?_⟩
  · rw [hW1]; exact run_enterLoop_outer _ _ _ _ _
  · simp only [resolve, hg]
    simp [go_sem]
  · intro f' hf'
    simp [Target.leads] at hf'
    subst hf'; exact hF
  · simp [invoke, go_sem, eg]
  have lt_of : ∀ {A : World} {c : Nat} {o : Obj}, A.heap[c]? = some o → c < A.heap.size := fun h => (Array.getElem?_eq_some_iff.1 h).1
  refine (hseq (w.heap.size + 1) (fun k W => I k W ∧ books W) W1 (hb0.trans (hb1.mono hb0.size)) ?_ ?_ ⟨hi1, hk1⟩).mono ?_
  · intro k A B row hA hgr hr
    refine ⟨hI k A B row hA.1 hgr fun r e => ?_, ?_, ?_⟩
    · obtain ⟨h1, o, h2, h3⟩ := hr r e
      exact ⟨by omega, o, h2, Obj.not_cells_of_walk h3⟩
    · rw [hgr.block _ (lt_of hA.2.1) (fun e => by have := (hr _ e.symm).1; omega)]; exact hA.2.1
    · rw [hgr.block _ (lt_of hA.2.2) (fun e => by have := (hr _ e.symm).1; omega)]; exact hA.2.2
  · intro k x W hx hW
    obtain ⟨hi, hl, hd⟩ := hW
    refine ⟨fn, _, assign, body, run_yield (P := P) (args := encs x) hl (hps x), roundIn_of_wpIn hfn (hassign _ k x W _ hx hi fun a' Wa hka hkp hia hax => ?_)⟩
    have hla := kept hka (by omega) hl rfl
    have hda := kept hka (Nat.le_refl _) hd rfl
    refine ⟨_, run_beginRound hla rfl, ?_⟩
    have hlb : (Wa.putObj (w.heap.size + 1) (.loop { rec' .ready with state := .busy })).heap[w.heap.size + 1]? = some (.loop { rec' .ready with state := .busy }) := World.putObj_heap_same (lt_of hla)
    have hdb : (Wa.putObj (w.heap.size + 1) (.loop { rec' .ready with state := .busy })).heap[w.heap.size]? = some (.deferred (some [])) := (World.putObj_heap_other (by omega)).trans hda
    refine wpIn_mono (hbody _ k x a' _ hx (hI.putObj _ hia (by omega) hla rfl) ((hAx x a').putObj (s := ()) _ hax (by omega) hla rfl)) ?_
    intro e a3 W3 hp
    cases e
    case normal =>
      obtain ⟨hk3, hkp3, hi3⟩ := hp
      have hl3 := kept hk3 (by omega) hlb rfl
      have hd3 := kept hk3 (Nat.le_refl _) hdb rfl
      refine ⟨_, _, run_endRound none hl3, rfl, ⟨hI.putObj _ hi3 (by omega) hl3 rfl, ?_, ?_⟩, ?_⟩
      · exact World.putObj_heap_same (lt_of hl3)
      · exact (World.putObj_heap_other (by omega)).trans hd3
      · exact hKt (hKt (hKt hkp (hKb _ _ _ _ (by omega) hla rfl rfl)) hkp3) (hKb _ _ _ _ (by omega) hl3 rfl rfl)
    all_goals exact hp.elim
  · intro e W2 hW
    obtain ⟨⟨v, rfl⟩, hi, hl, hd⟩ := hW
    exact ⟨none, _, run_endLoop hl (by simp [rec']), hdone _ _ (Nat.le_refl _) (hI.putObj _ hi (by omega) hl rfl) ((World.putObj_heap_other (by omega)).trans hd)⟩
end
theorem grown_of_below {W w1 : World} (h : Below W.heap.size W w1) : W.grownBy w1 none := ⟨h.os, h.tape, h.output, h.size, fun k hk _ => h.block k hk⟩
theorem abides_below {β : Type} {B : Nat} {J : β → World → Prop} (hJ : AbidesFrom B J) {s : β} {W w1 : World} (h : J s W) (hb : Below W.heap.size W w1) : J s w1 :=
  hJ s W w1 none h (grown_of_below hb) (fun r e => by cases e)
theorem keepsFrom_below {B : Nat} {W W' : World} (hb : Below W.heap.size W W') : KeepsFrom B W W' := ⟨hb.size, fun k o _ h _ => by rw [hb.block k (Array.getElem?_eq_some_iff.1 h).1]; exact h⟩
attribute [local go_sem] Oper.semAt_some
abbrev encI (x : Int) : Array Value := #[.int .i64 x]
/-- what Collect has gathered -/
def CInv (w : World) (L : List Int) (k : Nat) (W : World) : Prop := (∃ v, Boxed W w.heap.size 28 v ∧ W.ownsRow w.heap.size 3 1 v k (intsZ (L.take k)) ∧ True) ∧ Below w.heap.size w W
theorem CInv.own {w : World} {L : List Int} {B : Nat} (hB : w.heap.size ≤ B) : OwnFrom B (CInv w L) :=
  OwnFrom.and (Own.from (holdsRow_own w.heap.size w.heap.size 28 3 1 (fun k => k) (fun k => intsZ (L.take k)) (fun _ _ => True)) _) (ownFrom_below (Nat.le_refl _) hB)
theorem intsZ_take {L : List Int} {k : Nat} {x : Int} (h : L[k]? = some x) : intsZ (L.take (k + 1)) = intsZ (L.take k) ++ [.int .i64 x] := by
  obtain ⟨hk, rfl⟩ := List.getElem?_eq_some_iff.1 h
  rw [List.take_succ_eq_append_getElem hk, intsZ_snoc]
set_option maxRecDepth 100000 in
set_option maxHeartbeats 2000000 in
theorem appendSeq_any (L : List Int) (hl : L.length ≤ 1000) (g : Nat) (lb : Array Value) (w : World) (eg : ∀ args w, (callFunc g args).run Try.prog w = .ok (.enter g args) w)
    (hseq : Yields Fence.wide 7 Try.prog g lb encI (Below w.heap.size) L w) :
    Calls Try.prog 106 #[.slice none 0 0, .func (.func g) #[] lb] w fun e w' => ∃ v, e = .returned v ∧ RowZ w L v w' := by
  obtain ⟨i0, hi, hz0, hz1, hz2⟩ := info_parts Try.infoInt
  have HS := Lib.hid hseq
  clear hseq
  refine (callsIn_wide (n := 8)).1 ?_
  refine callsIn_of_wp_marks Try.func106 rfl trivial ?_ rfl
  simp only [Try.ntmps106, List.size_toArray, List.length_cons, List.length_nil, Nat.reduceAdd, Nat.reduceSub, Array.replicate_succ, Array.replicate_zero, List.push_toArray, List.append_toArray, List.nil_append, List.cons_append]
  gi_wp2
  have hbx : Below w.heap.size w (w.alloc (.cells #[.slice none 0 0] 28)) := box1 _ _
  refine rangeList rfl (by omega) (gf := g) (lb := lb) rfl trivial eg HS.out hbx (fun _ => rfl) Below.trans (fun W l o o' h1 h2 h3 h4 => belowK_b (w := w.alloc (.cells #[.slice none 0 0] 28)) (by simp) W l o o' h1 h2 h3 h4)
    (CInv w L) (CInv.own (by simp)) ⟨⟨_, Boxed.new _ _ _, World.ownsRow_nil _ _ _ _, trivial⟩, hbx⟩
    (fun x a' _ => a' = { tmps := #[.slice none 0 0, .func (.func g) #[] lb, .pointer (some ⟨w.heap.size, 0, none⟩), undef, .slice none 0 0, .int .i64 x, .func (.func g) #[] lb, .int .i64 x, undef, undef, undef, undef, undef], defers := [] })
    (fun x a' => ownFrom_pure _ _) ?assign ?body ?done
  case assign =>
    rintro l k x W K hx hI hK
    gi_wp2
    exact hK _ _ (KeepsFrom.refl _ _) (Below.refl _ _) hI rfl
  case body =>
    rintro l k x a' W hx ⟨⟨v, hv, hrow, -⟩, hB⟩ rfl
    have hk : k < L.length := (List.getElem?_eq_some_iff.1 hx).1
    have hc := hv.cell
    have hsz := hB.size
    have HT := Lib.hid (intsZ_take hx)
    have HB := Lib.hid hB
    clear hx hB
    gi_wp2_with (gi_at_builtin; refine wpListIn_append_own _ rfl _ _ 28 rfl w.heap.size 3 i0 (.int .i64 0) 1 8 Try.underlying28 hi hz0 hz1 hz2 rfl (by decide) _ _ _ rfl (hrow.alloc _) ⟨W.heap.size, 0, none⟩ 1 1 [.int .i64 x] rfl rfl (cell_one_new _ _ _) (by simp [Value.oneCell']) (by unfold maxLen; omega) (by omega) (by simp; omega) ?_; intro v' w1 hown' hgrow _; obtain ⟨g', cap', rfl⟩ := ownsRow_succ hown'; obtain ⟨hv1, hv2, hr2, hk2, hb2⟩ := hv.appended (by decide) hrow hsz (Nat.le_refl _) hown' hgrow; have hc1 := hv1.cell; have hf1 := hv1.frozen)
    exact ⟨hk2.from _, hb2, ⟨_, hv2, by rw [HT.out]; exact hr2, trivial⟩, HB.out.trans hb2⟩
  case done =>
    rintro D W hD ⟨⟨v, hv, hrow, -⟩, hB⟩ hK
    have hc := hv.cell
    rw [List.take_length] at hrow
    have HR := Lib.hid hrow
    have HBD : Hid (Below w.heap.size w (W.putObj D (.deferred none))) := Lib.hid (hB.trans (belowK_b (w := w) (Nat.le_refl _) W D _ _ (by simp at hD; omega) hK rfl rfl))
    clear hrow hB
    gi_wp2
    refine ⟨by simp, .inl ⟨_, _, rfl, run_takeDeferred hK, ?_⟩⟩
    refine ⟨v, ?_, ⟨_, rfl, HBD.out, ownsRow_putObj HR.out _ hK rfl⟩⟩
    simp [results, Try.results106, go_sem]
set_option maxHeartbeats 400000 in
theorem Collect_any (L : List Int) (hl : L.length ≤ 1000) (g : Nat) (lb : Array Value) (w : World) (eg : ∀ args w, (callFunc g args).run Try.prog w = .ok (.enter g args) w)
    (hseq : Yields Fence.wide 7 Try.prog g lb encI (Below w.heap.size) L w) :
    Calls Try.prog 91 #[.func (.func g) #[] lb] w fun e w' => ∃ v, e = .returned v ∧ RowZ w L v w' := by
  have K := Lib.hid (appendSeq_any L hl g lb w eg hseq)
  clear hseq eg
  go_enter Try.func91, Try.ntmps91
  go_wp2_with (go_at_call 106; refine K.out.mono ?_; rintro e w1 ⟨v, rfl, h⟩)
  go_ret
  exact ⟨_, rfl, h⟩
set_option maxHeartbeats 400000 in
theorem Values_any (A : Option Addr) (n c : Nat) (w : World) :
    Calls Try.prog 105 #[.slice A n c] w fun e w' => e = .returned (.func (.func 115) #[] #[.pointer (some ⟨w.heap.size, 0, none⟩)]) ∧ w' = w.alloc (.cells #[.slice A n c] 28) := by
  go_enter Try.func105, Try.ntmps105
  go_wp2
  go_ret
  exact ⟨rfl, rfl⟩
/-- the first numbers of a slice -/
def upTo (Z : Nat → Int) (n : Nat) : List Int := (List.range n).map Z
theorem upTo_len (Z : Nat → Int) (n : Nat) : (upTo Z n).length = n := by simp [upTo]
theorem upTo_at {Z : Nat → Int} {n k : Nat} (h : k < n) : (upTo Z n)[k]? = some (Z k) := by simp [upTo, h]
theorem upTo_succ (Z : Nat → Int) (n : Nat) : upTo Z (n + 1) = upTo Z n ++ [Z n] := by simp [upTo, List.range_succ]
theorem eg_val : ∀ args w, (callFunc 115 args).run Try.prog w = .ok (.enter 115 args) w := enters_of Try.func115 (by kernel_rfl) rfl
set_option maxRecDepth 100000 in
set_option maxHeartbeats 1000000 in
theorem values_yields (A : Option Addr) (n c Bm B m : Nat) (Z : Nat → Int) (w : World) (hin : IntsIn A n Z B w) (hm : w.cell? ⟨Bm, 0, none⟩ = some (.slice A n c)) (hBm : Bm < B) (hB : B ≤ w.heap.size) (hm1 : 1 ≤ m) :
    Yields Fence.wide m Try.prog 115 #[.pointer (some ⟨Bm, 0, none⟩)] encI (Below B) (upTo Z n) w := fun l J W hW _ hY h0 => by
  have HIN := Lib.hid (hin.up hW hB)
  have hn := hin.1
  have hm' : W.cell? ⟨Bm, 0, none⟩ = some (.slice A n c) := cell_up hW (by omega) hm
  have HY := Lib.hid hY
  have H0 := Lib.hid h0
  clear hin hm hY h0
  refine callsIn_of_wp Try.func115 rfl trivial ?_ rfl
  simp only [Try.ntmps115, List.size_toArray, List.length_cons, List.length_nil, Nat.reduceAdd, Nat.reduceSub, Array.replicate_succ, Array.replicate_zero, List.push_toArray, List.append_toArray, List.nil_append, List.cons_append]
  gi_wp2
  gi_loopw [4, 7] (fun _ i wr => ∃ k : Nat, k ≤ n ∧ i = .int .i64 k ∧ Below B W wr ∧ Hid (J k wr)) (fun _ i _ => n - (intOf i).toNat)
  case atStart => exact ⟨0, Nat.zero_le _, rfl, Below.refl _ _, Lib.hid H0.out⟩
  case round =>
    obtain ⟨k, hk, rfl, hb, hJ⟩ := hrel
    have hk0 : (0 : Int) ≤ (k : Int) := by omega
    by_cases hlt : k < n
    · obtain ⟨a, rfl, ab, c0⟩ := (HIN.out.up hb (Nat.le_refl _)).2 k hlt
      have hki : (k : Int) < (n : Int) := by omega
      obtain ⟨fn, tmps, assign, body, hy, hR⟩ := HY.out k (Z k) wr (upTo_at hlt) hJ.out
      have HB := Lib.hid hb
      clear hb
      gi_wp2
      refine hR.mono ?_
      rintro e W3 ⟨rfl, hJ3, hk3⟩
      have HJ3 := Lib.hid hJ3
      have HK3 := Lib.hid hk3
      clear hJ3 hk3 hR hy
      gi_wp2
      go_roundw
      case rel => exact ⟨k + 1, by omega, by go_num, HB.out.trans HK3.out, HJ3⟩
      case measure => simp [intOf]; omega
    · have hki : (n : Int) ≤ (k : Int) := by omega
      obtain rfl : k = n := by omega
      gi_wp2
      go_end0
      exact ⟨⟨_, rfl⟩, by rw [upTo_len]; exact hJ.out⟩
end Go.Proofs.Ytkidhmajlpceeaa
