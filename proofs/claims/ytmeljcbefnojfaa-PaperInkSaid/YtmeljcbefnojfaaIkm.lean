import Derived.Test.YtmeljcbefnojfaaTrk
import Derived.Test.YtmeljcbefnojfaaInk
namespace Go.Proofs.Ytmeljcbefnojfaa
open Go.RowKit
open Classical in
/-- the heights at which a point may lie in a column -/
noncomputable def hts (p : Pap) (t : Pt) (c : Nat) : List (Int × Int) := if h : p.Ok ∧ t.Ok then (hts_ex p t c h.1 h.2).choose else []
theorem hts_is {p : Pap} {t : Pt} (h : p.Ok) (ht : t.Ok) (c : Nat) : HtsL p t c (hts p t c) := by
  unfold hts
  rw [dif_pos ⟨h, ht⟩]
  exact (hts_ex p t c h ht).choose_spec
open Classical in
/-- what the first points add to the columns -/
noncomputable def inkC (p : Pap) (bl : Nat → Bool) (Z : Nat → Pt) : Nat → Nat → List (Int × Int)
  | 0 => fun _ => []
  | k + 1 => if ColSome p (Z k) then trcL p (hts p (Z k)) bl (inkC p bl Z k) (cLo p (Z k)) (cHi p (Z k)) else inkC p bl Z k
theorem inkC_len {p : Pap} {bl : Nat → Bool} {Z : Nat → Pt} (h : p.Ok) : ∀ (k : Nat), (∀ i, i < k → (Z i).Ok) → ∀ c, (inkC p bl Z k c).length ≤ 2 * k := by
  intro k
  induction k with
  | zero => intro _ c; simp [inkC]
  | succ k ih =>
    intro hZ c
    have h1 := ih (fun i hi => hZ i (by omega)) c
    unfold inkC
    split
    · unfold trcL
      split
      · have h2 := putAll_length (inkC p bl Z k c) (levH p (hts p (Z k) c))
        have h3 := (levH_okl h (hZ k (by omega)) (hts_is h (hZ k (by omega)) c)).2
        omega
      · omega
    · omega
theorem inkC_srt {p : Pap} {bl : Nat → Bool} {Z : Nat → Pt} (h : p.Ok) : ∀ (k : Nat), (∀ i, i < k → (Z i).Ok) → ∀ c, Srt (inkC p bl Z k c) := by
  intro k
  induction k with
  | zero => intro _ c; exact Srt.nil
  | succ k ih =>
    intro hZ c
    have h1 := ih (fun i hi => hZ i (by omega)) c
    unfold inkC
    split
    · unfold trcL
      split
      · exact putAll_srt h1 (levH_okl h (hZ k (by omega)) (hts_is h (hZ k (by omega)) c)).1
      · exact h1
    · exact h1
/-- what a column holds: what its points mean -/
def PtIn (p : Pap) (t : Pt) (c : Nat) (x : Int) : Prop := ColSome p t ∧ cLo p t ≤ c ∧ (c : Int) ≤ cHi p t ∧ Has (levH p (hts p t c)) x
theorem inkC_has {p : Pap} {bl : Nat → Bool} {Z : Nat → Pt} (h : p.Ok) : ∀ (k : Nat), (∀ i, i < k → (Z i).Ok) → ∀ c x, Has (inkC p bl Z k c) x ↔ bl c = false ∧ ∃ i, i < k ∧ PtIn p (Z i) c x := by
  intro k
  induction k with
  | zero => intro _ c x; simp [inkC, Has]
  | succ k ih =>
    intro hZ c x
    have h1 := ih (fun i hi => hZ i (by omega)) c x
    have h2 := inkC_srt h k (fun i hi => hZ i (by omega)) c (bl := bl)
    have step : (∃ i, i < k + 1 ∧ PtIn p (Z i) c x) ↔ (∃ i, i < k ∧ PtIn p (Z i) c x) ∨ PtIn p (Z k) c x := by
      constructor
      · rintro ⟨i, hi, hp⟩
        rcases Nat.lt_succ_iff_lt_or_eq.1 hi with e | rfl
        · exact .inl ⟨i, e, hp⟩
        · exact .inr hp
      · rintro (⟨i, hi, hp⟩ | hp)
        · exact ⟨i, by omega, hp⟩
        · exact ⟨k, by omega, hp⟩
    rw [step]
    unfold inkC
    split
    · rename_i hs
      unfold trcL
      split
      · rename_i hc
        rw [putAll_has (fun q hq => ((levH_okl h (hZ k (by omega)) (hts_is h (hZ k (by omega)) c)).1 q hq).1) h2, h1]
        have : PtIn p (Z k) c x ↔ Has (levH p (hts p (Z k) c)) x := ⟨fun g => g.2.2.2, fun g => ⟨hs, hc.1, hc.2.1, g⟩⟩
        rw [this]
        constructor
        · rintro (⟨a, b⟩ | b)
          · exact ⟨a, .inl b⟩
          · exact ⟨hc.2.2, .inr b⟩
        · rintro ⟨a, b | b⟩
          · exact .inl ⟨a, b⟩
          · exact .inr b
      · rename_i hc
        rw [h1]
        constructor
        · rintro ⟨a, b⟩; exact ⟨a, .inl b⟩
        · rintro ⟨a, b | b⟩
          · exact ⟨a, b⟩
          · exact absurd ⟨b.2.1, b.2.2.1, a⟩ hc
    · rename_i hs
      rw [h1]
      constructor
      · rintro ⟨a, b⟩; exact ⟨a, .inl b⟩
      · rintro ⟨a, b | b⟩
        · exact ⟨a, b⟩
        · exact absurd b.1 hs
/-- which columns are blotted -/
def blt (B : Nat → Int) (m : Nat) (c : Nat) : Bool := (List.range m).any fun i => B i == (c : Int)
theorem blt_iff {B : Nat → Int} {m c : Nat} : blt B m c = true ↔ ∃ i, i < m ∧ B i = c := by
  unfold blt
  rw [List.any_eq_true]
  constructor
  · rintro ⟨i, hi, e⟩; exact ⟨i, List.mem_range.1 hi, by simpa using e⟩
  · rintro ⟨i, hi, e⟩; exact ⟨i, List.mem_range.2 hi, by simpa using e⟩
theorem blt_succ {B : Nat → Int} {m : Nat} (k : Nat) (hk : (k : Int) = B m) : (fun c => if c = k then true else blt B m c) = blt B (m + 1) := by
  funext c
  by_cases hc : c = k
  · rw [if_pos hc]
    exact (blt_iff.2 ⟨m, by omega, by rw [hc, hk]⟩).symm
  · rw [if_neg hc]
    have : blt B m c = true ↔ blt B (m + 1) c = true := by
      rw [blt_iff, blt_iff]
      constructor
      · rintro ⟨i, hi, e⟩; exact ⟨i, by omega, e⟩
      · rintro ⟨i, hi, e⟩
        rcases Nat.lt_succ_iff_lt_or_eq.1 hi with e2 | rfl
        · exact ⟨i, e2, e⟩
        · omega
    rcases h1 : blt B m c <;> rcases h2 : blt B (m + 1) c <;> simp_all
/-- all columns have few spans -/
def Eight (n : Nat) (L : Nat → List (Int × Int)) : Prop := ∀ c, c < n → (L c).length ≤ 8
/-- the error of Ink -/
def inkR (p : Pap) (n : Nat) (Z : Nat → Pt) (m : Nat) (B : Nat → Int) (E : Int) : Prop :=
  ¬ p.Ok ∧ E = 10 ∨ p.Ok ∧ (2000 < n ∧ E = 2 ∨ n ≤ 2000 ∧ (¬ (∀ i, i < n → (Z i).Ok) ∧ E = 11 ∨ (∀ i, i < n → (Z i).Ok) ∧
    (¬ BlotsOk p.cols B m ∧ E = 1 ∨ BlotsOk p.cols B m ∧ (Eight p.cols.toNat (inkC p (blt B m) Z n) ∧ E = 0 ∨ ¬ Eight p.cols.toNat (inkC p (blt B m) Z n) ∧ E = 2))))
theorem inkR_ex (p : Pap) (n : Nat) (Z : Nat → Pt) (m : Nat) (B : Nat → Int) : ∃ E, inkR p n Z m B E := by
  unfold inkR
  by_cases h1 : p.Ok
  · by_cases h2 : 2000 < n
    · exact ⟨2, .inr ⟨h1, .inl ⟨h2, rfl⟩⟩⟩
    · by_cases h3 : ∀ i, i < n → (Z i).Ok
      · by_cases h4 : BlotsOk p.cols B m
        · by_cases h5 : Eight p.cols.toNat (inkC p (blt B m) Z n)
          · exact ⟨0, .inr ⟨h1, .inr ⟨by omega, .inr ⟨h3, .inr ⟨h4, .inl ⟨h5, rfl⟩⟩⟩⟩⟩⟩
          · exact ⟨2, .inr ⟨h1, .inr ⟨by omega, .inr ⟨h3, .inr ⟨h4, .inr ⟨h5, rfl⟩⟩⟩⟩⟩⟩
        · exact ⟨1, .inr ⟨h1, .inr ⟨by omega, .inr ⟨h3, .inl ⟨h4, rfl⟩⟩⟩⟩⟩
      · exact ⟨11, .inr ⟨h1, .inr ⟨by omega, .inl ⟨h3, rfl⟩⟩⟩⟩
  · exact ⟨10, .inl ⟨h1, rfl⟩⟩
end Go.Proofs.Ytmeljcbefnojfaa
namespace Go.Proofs.Ytmeljcbefnojfaa
open Go.RowKit
/-- what a column shows depends on its own blot alone -/
theorem inkC_alike {p : Pap} {bl bl' : Nat → Bool} {Z : Nat → Pt} {c : Nat} (e : bl c = bl' c) : ∀ k : Nat, inkC p bl Z k c = inkC p bl' Z k c := by
  intro k
  induction k with
  | zero => rfl
  | succ k ih =>
    unfold inkC
    split
    · unfold trcL
      rw [e, ih]
    · exact ih
theorem inkC_blot {p : Pap} {bl : Nat → Bool} {Z : Nat → Pt} {c : Nat} (e : bl c = true) : ∀ k : Nat, inkC p bl Z k c = [] := by
  intro k
  induction k with
  | zero => rfl
  | succ k ih =>
    unfold inkC
    split
    · unfold trcL
      rw [if_neg (by rw [e]; simp)]
      exact ih
    · exact ih
theorem BlotsOk.last_bd2 {cols : Int} {Z : Nat → Int} {m : Nat} (h : BlotsOk cols Z m) : ∀ k, k ≤ m → -1 ≤ lastB Z k := by
  intro k
  induction k with
  | zero => intro _; exact Int.le_refl _
  | succ k ih =>
    intro hk
    have h1 := ih (by omega)
    have h2 := h k (by omega)
    show -1 ≤ Z k
    omega
/-- blots, and a further one in its place -/
def moreK (Z : Nat → Int) (x : Int) : Nat → List Int × Bool
  | 0 => ([], false)
  | k + 1 => if (moreK Z x k).2 = false ∧ x ≤ Z k then (if Z k = x then ((moreK Z x k).1 ++ [x], true) else ((moreK Z x k).1 ++ [x] ++ [Z k], true)) else ((moreK Z x k).1 ++ [Z k], (moreK Z x k).2)
def moreL (Z : Nat → Int) (x : Int) (m : Nat) : List Int := if (moreK Z x m).2 = true then (moreK Z x m).1 else (moreK Z x m).1 ++ [x]
theorem BlotsOk.up_to {cols : Int} {Z : Nat → Int} {m : Nat} (h : BlotsOk cols Z m) : ∀ k, k ≤ m → ∀ i, i < k → Z i ≤ lastB Z k := by
  intro k
  induction k with
  | zero => intro _ i hi; omega
  | succ k ih =>
    intro hk i hi
    have h1 := h k (by omega)
    show Z i ≤ Z k
    rcases Nat.lt_succ_iff_lt_or_eq.1 hi with e | rfl
    · have := ih (by omega) i e
      omega
    · exact Int.le_refl _
structure MoreI (Z : Nat → Int) (x : Int) (k : Nat) (l : List Int) (put : Bool) : Prop where
  no : put = false → ∀ i, i < k → Z i < x
  yes : put = true → x ≤ lastB Z k
  mem : ∀ y, y ∈ l ↔ (∃ i, i < k ∧ Z i = y) ∨ (put = true ∧ y = x)
  srt : l.Pairwise (· < ·)
  len : l.length ≤ k + 1 ∧ (put = false → l.length ≤ k)
theorem ex_succ {P : Nat → Prop} {k : Nat} : (∃ i, i < k + 1 ∧ P i) ↔ (∃ i, i < k ∧ P i) ∨ P k := by
  constructor
  · rintro ⟨i, hi, hp⟩
    rcases Nat.lt_succ_iff_lt_or_eq.1 hi with e | rfl
    · exact .inl ⟨i, e, hp⟩
    · exact .inr hp
  · rintro (⟨i, hi, hp⟩ | hp)
    · exact ⟨i, by omega, hp⟩
    · exact ⟨k, by omega, hp⟩
theorem pairwise_snoc {l : List Int} {a : Int} (h : l.Pairwise (· < ·)) (ha : ∀ y ∈ l, y < a) : (l ++ [a]).Pairwise (· < ·) :=
  List.pairwise_append.2 ⟨h, List.pairwise_singleton _ _, fun y hy z hz => by rw [List.mem_singleton.1 hz]; exact ha y hy⟩
theorem moreK_inv {cols : Int} {Z : Nat → Int} {m : Nat} (x : Int) (h : BlotsOk cols Z m) : ∀ k, k ≤ m → MoreI Z x k (moreK Z x k).1 (moreK Z x k).2 := by
  intro k
  induction k with
  | zero => intro _; exact ⟨fun _ i hi => absurd hi (by omega), fun e => (by cases e), fun y => (by simp [moreK]), List.Pairwise.nil, (by simp [moreK])⟩
  | succ k ih =>
    intro hk
    have I := ih (by omega)
    have hz := h k (by omega)
    have up := h.up_to k (by omega)
    unfold moreK
    split
    · rename_i hp
      obtain ⟨hp, hx⟩ := hp
      have hno := I.no hp
      have hmem : ∀ y ∈ (moreK Z x k).1, y < x := fun y hy => by
        rcases (I.mem y).1 hy with ⟨i, hi, rfl⟩ | ⟨e, _⟩
        · exact hno i hi
        · rw [hp] at e; cases e
      split
      · rename_i he
        refine ⟨(fun e => by cases e), fun _ => by show x ≤ Z k; omega, fun y => ?_, pairwise_snoc I.srt hmem, by have := I.len; simp; omega⟩
        simp only [List.mem_append, List.mem_singleton, I.mem, ex_succ, hp]
        constructor
        · rintro ((h | ⟨e, _⟩) | h)
          · exact .inl (.inl h)
          · cases e
          · exact .inr ⟨trivial, h⟩
        · rintro ((h | h) | ⟨_, h⟩)
          · exact .inl (.inl h)
          · exact .inr (by omega)
          · exact .inr h
      · rename_i he
        refine ⟨(fun e => by cases e), fun _ => by show x ≤ Z k; omega, fun y => ?_, pairwise_snoc (pairwise_snoc I.srt hmem) ?_, by have := I.len.2 hp; simp; omega⟩
        · simp only [List.mem_append, List.mem_singleton, I.mem, ex_succ, hp]
          constructor
          · rintro (((h | ⟨e, _⟩) | h) | h)
            · exact .inl (.inl h)
            · cases e
            · exact .inr ⟨trivial, h⟩
            · exact .inl (.inr h.symm)
          · rintro ((h | h) | ⟨_, h⟩)
            · exact .inl (.inl (.inl h))
            · exact .inr h.symm
            · exact .inl (.inr h)
        · intro y hy
          rcases List.mem_append.1 hy with hy | hy
          · have := hmem y hy; omega
          · rw [List.mem_singleton.1 hy]; omega
    · rename_i hp
      have hall : ∀ y ∈ (moreK Z x k).1, y < Z k := fun y hy => by
        rcases (I.mem y).1 hy with ⟨i, hi, rfl⟩ | ⟨e, rfl⟩
        · have := up i hi; omega
        · have := I.yes e; omega
      refine ⟨fun e i hi => ?_, fun e => ?_, fun y => ?_, pairwise_snoc I.srt hall, ?_⟩
      · have hx : ¬ x ≤ Z k := fun g => hp ⟨e, g⟩
        rcases Nat.lt_succ_iff_lt_or_eq.1 hi with e2 | rfl
        · exact I.no e i e2
        · omega
      · have := I.yes e
        show x ≤ Z k
        omega
      · simp only [List.mem_append, List.mem_singleton, I.mem, ex_succ]
        constructor
        · rintro ((h | h) | h)
          · exact .inl (.inl h)
          · exact .inr h
          · exact .inl (.inr h.symm)
        · rintro ((h | h) | h)
          · exact .inl (.inl h)
          · exact .inr h.symm
          · exact .inl (.inr h)
      · have := I.len
        simp only [List.length_append, List.length_cons, List.length_nil]
        exact ⟨by omega, fun e => by have := this.2 e; omega⟩
theorem moreL_inv {cols : Int} {Z : Nat → Int} {m : Nat} (x : Int) (h : BlotsOk cols Z m) : (∀ y, y ∈ moreL Z x m ↔ (∃ i, i < m ∧ Z i = y) ∨ y = x) ∧ (moreL Z x m).Pairwise (· < ·) ∧ (moreL Z x m).length ≤ m + 1 := by
  have I := moreK_inv x h m (Nat.le_refl _)
  unfold moreL
  by_cases hp : (moreK Z x m).2 = true
  · rw [if_pos hp]
    refine ⟨fun y => ?_, I.srt, I.len.1⟩
    rw [I.mem y]
    simp [hp]
  · rw [if_neg hp]
    have hf : (moreK Z x m).2 = false := by simpa using hp
    refine ⟨fun y => ?_, pairwise_snoc I.srt fun y hy => ?_, by have := I.len.2 hf; simp; omega⟩
    · simp only [List.mem_append, List.mem_singleton, I.mem, hf]
      simp
    · rcases (I.mem y).1 hy with ⟨i, hi, rfl⟩ | ⟨e, _⟩
      · exact I.no hf i hi
      · rw [hf] at e; cases e
/-- a list of numbers as blots -/
def asZ (l : List Int) (i : Nat) : Int := l.getD i 0
theorem asZ_at {l : List Int} {i : Nat} (h : i < l.length) : asZ l i = l[i] := by simp [asZ, h]
theorem blotsOk_list {cols : Int} {l : List Int} (hs : l.Pairwise (· < ·)) : BlotsOk cols (asZ l) l.length ↔ ∀ y ∈ l, 0 ≤ y ∧ y ≤ cols - 1 := by
  constructor
  · intro h y hy
    obtain ⟨i, hi, rfl⟩ := List.mem_iff_getElem.1 hy
    have h1 := h i hi
    rw [asZ_at hi] at h1
    have h2 := h.last_bd2 i (by omega)
    omega
  · intro h i hi
    rw [asZ_at hi]
    have h1 := h l[i] (List.getElem_mem hi)
    refine ⟨?_, h1.2⟩
    cases i with
    | zero => show -1 + 1 ≤ _; omega
    | succ i =>
      show asZ l i + 1 ≤ _
      rw [asZ_at (by omega)]
      have := List.pairwise_iff_getElem.1 hs i (i + 1) (by omega) hi (by omega)
      omega
theorem blt_list {l : List Int} {c : Nat} : blt (asZ l) l.length c = true ↔ (c : Int) ∈ l := by
  rw [blt_iff]
  constructor
  · rintro ⟨i, hi, e⟩
    rw [asZ_at hi] at e
    rw [← e]
    exact List.getElem_mem hi
  · intro h
    obtain ⟨i, hi, e⟩ := List.mem_iff_getElem.1 h
    exact ⟨i, hi, by rw [asZ_at hi]; exact e⟩
/-- what a sheet shows with a further blot -/
theorem ink_more {p : Pap} {cols x : Int} {B : Nat → Int} {m : Nat} {Z : Nat → Pt} (h : BlotsOk cols B m) (n c : Nat) : inkC p (blt (asZ (moreL B x m)) (moreL B x m).length) Z n c = if (c : Int) = x then [] else inkC p (blt B m) Z n c := by
  have hm := (moreL_inv x h).1
  by_cases hc : (c : Int) = x
  · rw [if_pos hc]
    exact inkC_blot (blt_list.2 ((hm c).2 (.inr hc))) n
  · rw [if_neg hc]
    refine inkC_alike ?_ n
    have : blt (asZ (moreL B x m)) (moreL B x m).length c = true ↔ blt B m c = true := by
      rw [blt_list, hm, blt_iff]
      simp [hc]
    rcases h1 : blt (asZ (moreL B x m)) (moreL B x m).length c <;> rcases h2 : blt B m c <;> simp_all
theorem more_ok {cols x : Int} {B : Nat → Int} {m : Nat} (h : BlotsOk cols B m) : BlotsOk cols (asZ (moreL B x m)) (moreL B x m).length ↔ 0 ≤ x ∧ x ≤ cols - 1 := by
  obtain ⟨h1, h2, _⟩ := moreL_inv x h
  rw [blotsOk_list h2]
  constructor
  · intro g; exact g x ((h1 x).2 (.inr rfl))
  · rintro g y hy
    rcases (h1 y).1 hy with ⟨i, hi, rfl⟩ | rfl
    · have a := h i hi
      have b := h.last_bd2 i (by omega)
      omega
    · exact g
end Go.Proofs.Ytmeljcbefnojfaa
