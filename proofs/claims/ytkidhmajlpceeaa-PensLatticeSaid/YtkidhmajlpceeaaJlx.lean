/- Drawn regions in the text's order: a condition on the world that need not hold behind the last operations. -/
import Derived.Test.YtkidhmajlpceeaaAwk
namespace Go.Proofs.Ytkidhmajlpceeaa
open Go.RowKit
set_option linter.unusedSimpArgs false
set_option linter.unusedVariables false
section
variable {P : Program} {ops : Array Oper} {Q : Exit → Act → World → Prop} {md : Region.Mode} {T : World → Prop} {L : List Nat}
/-- whatever comes up: T holds behind each operation but the late ones -/
def wpAnyM (P : Program) (md : Region.Mode) (ops : Array Oper) (Q : Exit → Act → World → Prop) (T : World → Prop) (L : List Nat) : Nat → Array Bool → Act → World → Prop
  | 0, listed, a, w => Region.ready md ops listed = [] ∧ Q .normal a w
  | g + 1, listed, a, w => (Region.ready md ops listed = [] → Q .normal a w) ∧ ∀ i ∈ Region.ready md ops listed, wpOp P ops Q i (fun a' w' => (L.contains i = false → T w') ∧ wpAnyM P md ops Q T L g (listed.setIfInBounds i true) a' w') a w
theorem wpAny_ofM : ∀ (g : Nat) (listed : Array Bool) (a : Act) (w : World), wpAnyM P md ops Q T L g listed a w → wpAny P md ops Q g listed a w
  | 0, _, _, _, h => h
  | g + 1, _, _, _, h => ⟨h.1, fun i hi => wpOp_mono (fun a' w' h' => wpAny_ofM g _ a' w' h'.2) (h.2 i hi)⟩
theorem unlisted_not {listed : Array Bool} {i : Nat} (h0 : listed.getD i true = false) (h1 : listed.getD i false = true) : False := by
  rcases Nat.lt_or_ge i listed.size with h | h
  · simp [h] at h0 h1
    rw [h0] at h1
    cases h1
  · simp [Array.getElem?_eq_none h] at h1
/-- what has come up has all come up that it waits for -/
def Closed (md : Region.Mode) (ops : Array Oper) (listed : Array Bool) : Prop := ∀ j i, listed.getD j false = true → Region.waitsFor md ops j i = true → listed.getD i false = true
def waitsT (md : Region.Mode) (ops : Array Oper) : Nat → Nat → Nat → Bool
  | 0, j, i => Region.waitsFor md ops j i
  | f + 1, j, i => Region.waitsFor md ops j i || (List.range j).any fun k => Region.waitsFor md ops j k && waitsT md ops f k i
theorem ready_waits {listed : Array Bool} {j i : Nat} (hr : j ∈ Region.ready md ops listed) (h : Region.waitsFor md ops j i = true) : listed.getD i false = true := by
  obtain ⟨_, oj, hoj, hall⟩ := mem_ready.1 hr
  obtain ⟨o, ho, e, he, hb, hon⟩ := Region.waitsFor_spec h
  rw [hoj] at ho
  cases ho
  rw [← hon]
  exact hall e he hb
theorem closed_T {listed : Array Bool} (hc : Closed md ops listed) : ∀ (f j i : Nat), listed.getD j false = true → waitsT md ops f j i = true → listed.getD i false = true
  | 0, j, i, hj, h => hc j i hj h
  | f + 1, j, i, hj, h => by
    unfold waitsT at h
    rcases Bool.or_eq_true _ _ ▸ h with h | h
    · exact hc j i hj h
    · obtain ⟨k, _, h2⟩ := List.any_eq_true.1 h
      rw [Bool.and_eq_true] at h2
      exact closed_T hc f k i (hc j k hj h2.1) h2.2
theorem ready_T {listed : Array Bool} (hc : Closed md ops listed) {f j i : Nat} (hr : j ∈ Region.ready md ops listed) (h : waitsT md ops f j i = true) : listed.getD i false = true := by
  cases f with
  | zero => exact ready_waits hr h
  | succ f =>
    unfold waitsT at h
    rcases Bool.or_eq_true _ _ ▸ h with h | h
    · exact ready_waits hr h
    · obtain ⟨k, _, h2⟩ := List.any_eq_true.1 h
      rw [Bool.and_eq_true] at h2
      exact closed_T hc f k i (ready_waits hr h2.1) h2.2
theorem Closed.next {listed : Array Bool} {j : Nat} (hc : Closed md ops listed) (hr : j ∈ Region.ready md ops listed) : Closed md ops (listed.setIfInBounds j true) := fun k i hk hw => by
  by_cases hjk : j = k
  · subst hjk
    exact getD_set_true (ready_waits hr hw)
  · rw [getD_set_ne false hjk] at hk
    exact getD_set_true (hc k i hk hw)
theorem wpAnyM_first {i : Nat} {oi : Oper} {v : Value} (hi : ops[i]? = some oi) (hsel : ∀ (j : Nat) (o : Oper) cs b, ops[j]? = some o → o.op ≠ .select cs b)
    (hQ : ∀ c a w, Q (.panic c) (a.put oi.dst v) w → Q (.panic c) a w) (hL : ∀ m, L.contains m = true → waitsT md ops 12 m i = true) (hiL : L.contains i = false) :
    ∀ (g : Nat) (listed : Array Bool) (a : Act) (w : World), Closed md ops listed →
      (∀ j oj, ops[j]? = some oj → j ≠ i → listed.getD j true = false → (∀ e ∈ oj.after, Region.binds md e = true → e.on ≠ i) → oi.apart ops oj = true) →
      i ∈ Region.ready md ops listed → YieldsIf P ops T oi v a → T w →
      wpAnyM P md ops Q T L g (listed.setIfInBounds i true) (a.put oi.dst v) w → wpAnyM P md ops Q T L (g + 1) listed a w
  | 0, listed, a, w, _, _, hr, hy, hT, H => by
    refine ⟨fun e => absurd hr (by rw [e]; exact List.not_mem_nil), fun j hj => ?_⟩
    by_cases hji : j = i
    · rw [hji]
      exact hy.wpOp hi hT ⟨fun _ => hT, H⟩
    · exact absurd (ready_mono hj hji) (by rw [H.1]; exact List.not_mem_nil)
  | g + 1, listed, a, w, hc, hfree, hr, hy, hT, H => by
    refine ⟨fun e => absurd hr (by rw [e]; exact List.not_mem_nil), fun j hj => ?_⟩
    by_cases hji : j = i
    · rw [hji]
      exact hy.wpOp hi hT ⟨fun _ => hT, H⟩
    · obtain ⟨hjun, oj, hoj, hall⟩ := mem_ready.1 hj
      have hiun := (mem_ready.1 hr).1
      have hno : ∀ e ∈ oj.after, Region.binds md e = true → e.on ≠ i := fun e he hb heq => unlisted_not hiun (by rw [← heq]; exact hall e he hb)
      have hjm : L.contains j = false := by
        cases hx : L.contains j with
        | false => rfl
        | true => exact (unlisted_not hiun (ready_T hc hj (hL j hx))).elim
      have h2 := wpOp_putIf hoj (hfree j oj hoj hji hjun hno) (fun cs b => hsel i oi cs b hi) (fun cs b => hsel j oj cs b hoj) hQ hy (H.2 j (ready_mono hj hji))
      refine wpOp_mono (fun a' w' h3 => ?_) h2
      obtain ⟨y3, t3, k3⟩ := h3
      refine ⟨t3, wpAnyM_first hi hsel hQ hL hiL g (listed.setIfInBounds j true) a' w' (hc.next hj) (fun k ok hk hki hun hn => hfree k ok hk hki ?_ hn) (ready_mono hr (Ne.symm hji)) y3 (t3 hjm) ?_⟩
      · by_cases hjk : j = k
        · rw [← hjk]; exact hjun
        · rwa [getD_set_ne true hjk] at hun
      · rw [Array.setIfInBounds_comm _ _ hji]
        exact k3
/-- the same, from a state that is closed -/
def wpM (P : Program) (md : Region.Mode) (ops : Array Oper) (Q : Exit → Act → World → Prop) (T : World → Prop) (L : List Nat) (g : Nat) (listed : Array Bool) (a : Act) (w : World) : Prop :=
  Closed md ops listed → Region.noSelect ops = true → wpAnyM P md ops Q T L g listed a w
/-- what is asked of an operation that is taken ahead of others -/
def takeB (md : Region.Mode) (ops : Array Oper) (listed : Array Bool) (L : List Nat) (i : Nat) : Bool :=
  Region.free md ops listed i && (Region.ready md ops listed).contains i && (L.all fun m => waitsT md ops 12 m i) && !L.contains i
theorem closed_none (n : Nat) : Closed md ops (Array.replicate n false) := fun j i hj _ => by
  rw [getD_replicate_false] at hj
  cases hj
theorem at_drop {l r : List Oper} {o : Oper} {i : Nat} (h : l.drop i = o :: r) : l.toArray[i]? = some o := by
  rw [List.getElem?_toArray, ← Nat.add_zero i, ← List.getElem?_drop, h]
  rfl
theorem M_take {l r : List Oper} {oi : Oper} {v : Value} {g : Nat} {listed : Array Bool} {a : Act} {w : World} (i : Nat) (hi : l.drop i = oi :: r) (hB : takeB md l.toArray listed L i = true)
    (hT : T w) (hQ : ∀ c a w, Q (.panic c) (a.put oi.dst v) w → Q (.panic c) a w) (hy : YieldsIf P l.toArray T oi v a)
    (h : wpM P md l.toArray Q T L g (listed.setIfInBounds i true) (a.put oi.dst v) w) : wpM P md l.toArray Q T L (g + 1) listed a w := fun hc hs => by
  unfold takeB at hB
  simp only [Bool.and_eq_true] at hB
  obtain ⟨⟨⟨h2, h3⟩, h5⟩, h6⟩ := hB
  have hr : i ∈ Region.ready md l.toArray listed := by simpa using h3
  exact wpAnyM_first (at_drop hi) (Region.noSelect_spec hs) hQ (fun m hm => List.all_eq_true.1 h5 m (by simpa using hm)) (by simpa using h6) g listed a w hc (Region.free_spec (at_drop hi) h2) hr hy hT (h (hc.next hr) hs)
theorem M_step {l r : List Oper} {o : Oper} {g : Nat} {listed : Array Bool} {a : Act} {w : World} (i : Nat) (hi : l.drop i = o :: r) (hr : Region.ready md l.toArray listed = [i])
    (h : ∀ K' : Act → World → Prop, Hid (∀ a w, (L.contains i = false → T w) → wpM P md l.toArray Q T L g (listed.setIfInBounds i true) a w → K' a w) → if Region.wanted o (yielded l.toArray a.tmps) = true then Oper.wp P o a w K' Q else K' (a.put o.dst undef) w) :
    wpM P md l.toArray Q T L (g + 1) listed a w := fun hc hs =>
  ⟨fun e => (by rw [hr] at e; cases e), fun j hj => by
    have hj' := hj
    rw [hr] at hj
    obtain rfl : j = i := by simpa using hj
    exact wpOp_step (at_drop hi) fun K' hK => h K' (Lib.hid fun a w hT hW => hK a w ⟨hT, hW (hc.next hj') hs⟩)⟩
theorem M_done {listed : Array Bool} {a : Act} {w : World} (hr : Region.ready md ops listed = []) (h : Q .normal a w) : ∀ g, wpM P md ops Q T L g listed a w
  | 0 => fun _ _ => ⟨hr, h⟩
  | _ + 1 => fun _ _ => ⟨fun _ => h, by rw [hr]; exact fun i hi => absurd hi List.not_mem_nil⟩
theorem wp_region_M {id : Nat} {a : Act} {w : World} (L : List Nat) (T : World → Prop) (hm : P.follows .mixedOrders = true) (hs : Region.noSelect ops = true) (hT : T w.drew)
    (h : T w.drew → wpM P .any ops Q T L ops.size (Array.replicate ops.size false) a w.drew) : (Code.region id ops true).wp P Q a w :=
  wp_region_any hm (wpAny_ofM _ _ _ _ (h hT (closed_none _) hs))
end
end Go.Proofs.Ytkidhmajlpceeaa
