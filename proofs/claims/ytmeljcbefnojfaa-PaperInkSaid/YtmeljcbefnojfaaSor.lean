import Derived.Test.YtmeljcbefnojfaaRpa
namespace Go.Proofs.Ytmeljcbefnojfaa
open Go.RowKit
/-- spans in order, with a number between each two -/
def Srt (L : List (Int × Int)) : Prop := (∀ q ∈ L, q.1 ≤ q.2) ∧ L.Pairwise fun p q => p.2 + 2 ≤ q.1
theorem Srt.tail {q : Int × Int} {L : List (Int × Int)} (h : Srt (q :: L)) : Srt L := ⟨fun r hr => h.1 r (List.mem_cons_of_mem _ hr), (List.pairwise_cons.1 h.2).2⟩
/-- the first span that reaches s, and the first that lies behind it -/
theorem spots (L : List (Int × Int)) (s : Int × Int) (h : Srt L) (hs : s.1 ≤ s.2) :
    ∃ f t, f ≤ t ∧ t ≤ L.length ∧ (∀ (i : Nat) (r : Int × Int), L[i]? = some r → (s.1 - 1 ≤ r.2 ↔ f ≤ i)) ∧ (∀ (i : Nat) (r : Int × Int), L[i]? = some r → (s.2 + 1 < r.1 ↔ t ≤ i)) := by
  induction L with
  | nil => exact ⟨0, 0, Nat.le_refl _, Nat.le_refl _, fun i r hr => by simp at hr, fun i r hr => by simp at hr⟩
  | cons q L ih =>
    obtain ⟨f, t, h1, h2, h3, h4⟩ := ih h.tail
    have hq := h.1 q List.mem_cons_self
    have hp := (List.pairwise_cons.1 h.2).1
    have hm : ∀ (i : Nat) (r : Int × Int), L[i]? = some r → q.2 + 2 ≤ r.1 ∧ r.1 ≤ r.2 := fun i r hr => ⟨hp r (List.mem_of_getElem? hr), h.1 r (List.mem_cons_of_mem _ (List.mem_of_getElem? hr))⟩
    by_cases c1 : s.1 - 1 ≤ q.2
    · by_cases c2 : s.2 + 1 < q.1
      · refine ⟨0, 0, Nat.le_refl _, Nat.zero_le _, ?_, ?_⟩ <;> intro i r hr <;> cases i with
        | zero => simp at hr; subst hr; omega
        | succ i => simp at hr; have := hm i r hr; omega
      · refine ⟨0, t + 1, Nat.zero_le _, by simp; omega, ?_, ?_⟩ <;> intro i r hr <;> cases i with
        | zero => simp at hr; subst hr; omega
        | succ i => simp at hr; have := hm i r hr; have := h4 i r hr; omega
    · refine ⟨f + 1, t + 1, by omega, by simp; omega, ?_, ?_⟩ <;> intro i r hr <;> cases i with
      | zero => simp at hr; subst hr; omega
      | succ i => simp at hr; have := h3 i r hr; have := h4 i r hr; omega
/-- a set with a further span -/
def putL : List (Int × Int) → (Int × Int) → List (Int × Int)
  | [], s => [s]
  | q :: L, s => if q.2 + 1 < s.1 then q :: putL L s else if s.2 + 1 < q.1 then s :: q :: L else putL L (min s.1 q.1, max s.2 q.2)
theorem putL_srt (L : List (Int × Int)) : ∀ (s : Int × Int), Srt L → s.1 ≤ s.2 → Srt (putL L s) ∧ ∀ p : Int × Int, (∀ q ∈ L, p.2 + 2 ≤ q.1) → p.2 + 2 ≤ s.1 → ∀ q ∈ putL L s, p.2 + 2 ≤ q.1 := by
  induction L with
  | nil =>
    intro s _ hs
    exact ⟨⟨by simpa [putL] using hs, by simp [putL]⟩, fun p _ hp q hq => by simp [putL] at hq; subst hq; exact hp⟩
  | cons q L ih =>
    intro s h hs
    have hq := h.1 q List.mem_cons_self
    have hp := (List.pairwise_cons.1 h.2).1
    unfold putL
    split
    · rename_i c
      obtain ⟨i1, i2⟩ := ih s h.tail hs
      refine ⟨⟨?_, List.pairwise_cons.2 ⟨fun r hr => i2 q hp (by omega) r hr, i1.2⟩⟩, ?_⟩
      · intro r hr
        rcases List.mem_cons.1 hr with rfl | hr
        · exact hq
        · exact i1.1 r hr
      · intro p h1 h2 r hr
        rcases List.mem_cons.1 hr with rfl | hr
        · exact h1 _ List.mem_cons_self
        · exact i2 p (fun r hr => h1 r (List.mem_cons_of_mem _ hr)) h2 r hr
    · split
      · rename_i c1 c2
        refine ⟨⟨?_, List.pairwise_cons.2 ⟨?_, h.2⟩⟩, ?_⟩
        · intro r hr
          rcases List.mem_cons.1 hr with rfl | hr
          · exact hs
          · exact h.1 r hr
        · intro r hr
          rcases List.mem_cons.1 hr with rfl | hr
          · omega
          · have := hp r hr; omega
        · intro p h1 h2 r hr
          rcases List.mem_cons.1 hr with rfl | hr
          · exact h2
          · exact h1 r hr
      · rename_i c1 c2
        obtain ⟨i1, i2⟩ := ih (min s.1 q.1, max s.2 q.2) h.tail (by simp only; omega)
        refine ⟨i1, fun p h1 h2 r hr => i2 p (fun r hr => h1 r (List.mem_cons_of_mem _ hr)) ?_ r hr⟩
        have := h1 q List.mem_cons_self
        simp only
        omega
theorem putL_length (L : List (Int × Int)) : ∀ s, (putL L s).length ≤ L.length + 1 := by
  induction L with
  | nil => intro s; simp [putL]
  | cons q L ih =>
    intro s
    unfold putL
    split
    · have := ih s; simp; omega
    · split
      · simp
      · have := ih (min s.1 q.1, max s.2 q.2); simp; omega
/-- what is put in place of the spans that s reaches -/
theorem putL_rep (L : List (Int × Int)) : ∀ (s : Int × Int) (f t : Nat), Srt L → s.1 ≤ s.2 → f ≤ t → t ≤ L.length → (∀ (i : Nat) (r : Int × Int), L[i]? = some r → (s.1 - 1 ≤ r.2 ↔ f ≤ i)) → (∀ (i : Nat) (r : Int × Int), L[i]? = some r → (s.2 + 1 < r.1 ↔ t ≤ i)) →
    (f = t → putL L s = repL L f t s) ∧ (f < t → ∀ p q, L[f]? = some p → L[t - 1]? = some q → putL L s = repL L f t (min s.1 p.1, max s.2 q.2)) := by
  induction L with
  | nil =>
    intro s f t _ _ h1 h2 _ _
    simp at h2
    subst h2
    obtain rfl : f = 0 := by omega
    exact ⟨fun _ => by simp [putL, repL], fun h => absurd h (by omega)⟩
  | cons q L ih =>
    intro s f t h hs h1 h2 hF hT
    have hq := h.1 q List.mem_cons_self
    have hp := (List.pairwise_cons.1 h.2).1
    have hF0 := hF 0 q rfl
    have hT0 := hT 0 q rfl
    unfold putL
    by_cases c1 : q.2 + 1 < s.1
    · rw [if_pos c1]
      obtain ⟨f, rfl⟩ : ∃ f', f = f' + 1 := ⟨f - 1, by omega⟩
      obtain ⟨t, rfl⟩ : ∃ t', t = t' + 1 := ⟨t - 1, by omega⟩
      have I := ih s f t h.tail hs (by omega) (by simp at h2; omega) (fun i r hr => by have := hF (i + 1) r (by simpa using hr); omega) (fun i r hr => by have := hT (i + 1) r (by simpa using hr); omega)
      refine ⟨fun e => ?_, fun e p r hp hr => ?_⟩
      · rw [I.1 (by omega)]; simp [repL]
      · obtain ⟨t, rfl⟩ : ∃ t', t = t' + 1 := ⟨t - 1, by omega⟩
        rw [I.2 (by omega) p r (by simpa using hp) (by simpa using hr)]; simp [repL]
    · rw [if_neg c1]
      obtain rfl : f = 0 := by omega
      by_cases c2 : s.2 + 1 < q.1
      · rw [if_pos c2]
        obtain rfl : t = 0 := by omega
        exact ⟨fun _ => by simp [repL], fun e => by omega⟩
      · rw [if_neg c2]
        obtain ⟨t, rfl⟩ : ∃ t', t = t' + 1 := ⟨t - 1, by omega⟩
        have hm : ∀ (i : Nat) (r : Int × Int), L[i]? = some r → q.2 + 2 ≤ r.1 ∧ r.1 ≤ r.2 := fun i r hr => ⟨hp r (List.mem_of_getElem? hr), h.1 r (List.mem_cons_of_mem _ (List.mem_of_getElem? hr))⟩
        have I := ih (min s.1 q.1, max s.2 q.2) 0 t h.tail (by simp only; omega) (Nat.zero_le _) (by simp at h2; omega)
          (fun i r hr => by have := hm i r hr; simp only; omega)
          (fun i r hr => by have := hm i r hr; have := hT (i + 1) r (by simpa using hr); simp only; omega)
        refine ⟨fun e => by omega, fun _ p r hp hr => ?_⟩
        simp at hp
        subst hp
        by_cases ht0 : t = 0
        · subst ht0
          simp at hr
          subst hr
          rw [I.1 rfl]; simp [repL]
        · obtain ⟨t, rfl⟩ : ∃ t', t = t' + 1 := ⟨t - 1, by omega⟩
          have hL0 : ∃ p0, L[0]? = some p0 := ⟨L[0]'(by simp at h2; omega), List.getElem?_eq_getElem _⟩
          obtain ⟨p0, hp0⟩ := hL0
          have hr' : L[t + 1 - 1]? = some r := by simpa using hr
          rw [I.2 (by omega) p0 r hp0 hr']
          have e0 := hm 0 p0 hp0
          have er := hm t r (by simpa using hr)
          simp only [repL, List.take_zero, List.nil_append, List.drop_succ_cons]
          congr 1
          refine Prod.ext ?_ ?_ <;> simp only <;> omega
end Go.Proofs.Ytmeljcbefnojfaa
namespace Go.Proofs.Ytmeljcbefnojfaa
open Go.RowKit
theorem jfold_put (L : List (Int × Int)) : ∀ (out : List (Int × Int)) (y : Int × Int), (∀ q ∈ L, y.2 + 1 < q.1) → (∀ q ∈ L, q.1 ≤ q.2) → y.1 ≤ y.2 → L.foldl jstep (out, true, y) = (out ++ L, true, y) := by
  induction L with
  | nil => intro out y _ _ _; simp
  | cons q L ih =>
    intro out y h1 h2 hy
    have c1 := h1 q List.mem_cons_self
    have c2 := h2 q List.mem_cons_self
    rw [List.foldl_cons]
    have e : jstep (out, true, y) q = (out ++ [q], true, y) := by
      simp only [jstep]
      rw [if_neg (by omega), if_pos (by omega)]
      rfl
    rw [e, ih _ y (fun r hr => h1 r (List.mem_cons_of_mem _ hr)) (fun r hr => h2 r (List.mem_cons_of_mem _ hr)) hy]
    simp
theorem jfold_not (L : List (Int × Int)) : ∀ (out : List (Int × Int)) (s : Int × Int), Srt L → s.1 ≤ s.2 →
    (if (L.foldl jstep (out, false, s)).2.1 then (L.foldl jstep (out, false, s)).1 else (L.foldl jstep (out, false, s)).1 ++ [(L.foldl jstep (out, false, s)).2.2]) = out ++ putL L s := by
  induction L with
  | nil => intro out s _ _; simp [putL]
  | cons q L ih =>
    intro out s h hs
    have hq := h.1 q List.mem_cons_self
    have hp := (List.pairwise_cons.1 h.2).1
    rw [List.foldl_cons]
    unfold putL
    by_cases c1 : q.2 + 1 < s.1
    · have e : jstep (out, false, s) q = (out ++ [q], false, s) := by simp only [jstep]; rw [if_pos c1]
      rw [e, if_pos c1, ih _ s h.tail hs]
      simp
    · rw [if_neg c1]
      by_cases c2 : s.2 + 1 < q.1
      · have e : jstep (out, false, s) q = (out ++ [s] ++ [q], true, s) := by simp only [jstep]; rw [if_neg c1, if_pos c2]; rfl
        rw [e, if_pos c2, jfold_put L _ s (fun r hr => by have := hp r hr; omega) (fun r hr => h.1 r (List.mem_cons_of_mem _ hr)) hs]
        simp
      · have e : jstep (out, false, s) q = (out, false, (min s.1 q.1, max s.2 q.2)) := by simp only [jstep]; rw [if_neg c1, if_neg c2]
        rw [e, if_neg c2, ih _ (min s.1 q.1, max s.2 q.2) h.tail (by simp only; omega)]
/-- the specification's join of a set and a span -/
theorem joinL_put {L : List (Int × Int)} {s : Int × Int} (h : Srt L) (hs : s.1 ≤ s.2) : joinL L s = putL L s := by
  have := jfold_not L [] s h hs
  unfold joinL jst
  rw [if_neg (by omega)]
  simpa using this
end Go.Proofs.Ytmeljcbefnojfaa
