/- The mathematics of the specification of clocks: spans onward and backward, differences tick by tick, sets one behind the other, pairs. -/
import Derived.Test.YtpikaohodieeaaaHas
namespace Go.Proofs.Ytpikaohodieeaaa
open Go.RowKit
set_option linter.unusedSimpArgs false
set_option linter.unusedVariables false
/-- the spans onward -/
def fwd (G S : Nat → Int × Int) : Nat → Int × Int
  | 0 => S 0
  | i + 1 => nar (S (i + 1)) (addS (fwd G S i) (G i))
def fwK (G S : Nat → Int × Int) (k i : Nat) : Int × Int := if i ≤ k then fwd G S i else S i
theorem fwK_0 (G S : Nat → Int × Int) (i : Nat) : fwK G S 0 i = S i := by
  unfold fwK
  split
  · obtain rfl : i = 0 := by omega
    rfl
  · rfl
theorem fwK_succ (G S : Nat → Int × Int) (k i : Nat) : upd (fwK G S k) (k + 1) (nar (fwK G S k (k + 1)) (addS (fwK G S k k) (G k))) i = fwK G S (k + 1) i := by
  unfold upd
  by_cases e : i = k + 1
  · subst e
    rw [if_pos rfl]
    unfold fwK
    rw [if_neg (by omega), if_pos (Nat.le_refl _), if_pos (Nat.le_refl _)]
    rfl
  · rw [if_neg e]
    unfold fwK
    by_cases h : i ≤ k
    · rw [if_pos h, if_pos (by omega)]
    · rw [if_neg h, if_neg (by omega)]
/-- the spans backward, by the distance from the last column -/
def bwd (n : Nat) (G f : Nat → Int × Int) : Nat → Int × Int
  | 0 => f n
  | j + 1 => nar (f (n - 1 - j)) (addS (bwd n G f j) (oppS (G (n - 1 - j))))
def bwK (n : Nat) (G f : Nat → Int × Int) (k i : Nat) : Int × Int := if n ≤ i + k then bwd n G f (n - i) else f i
theorem bwK_0 (n : Nat) (G f : Nat → Int × Int) (i : Nat) (hi : i ≤ n) : bwK n G f 0 i = f i := by
  unfold bwK
  split
  · obtain rfl : i = n := by omega
    rw [Nat.sub_self]; rfl
  · rfl
theorem bwK_succ (n : Nat) (G f : Nat → Int × Int) (k i : Nat) (hk : k < n) (hi : i ≤ n) : upd (bwK n G f k) (n - 1 - k) (nar (bwK n G f k (n - 1 - k)) (addS (bwK n G f k (n - 1 - k + 1)) (oppS (G (n - 1 - k))))) i = bwK n G f (k + 1) i := by
  unfold upd
  by_cases e : i = n - 1 - k
  · subst e
    rw [if_pos rfl]
    unfold bwK
    rw [if_neg (by omega), if_pos (by omega), if_pos (by omega), show n - (n - 1 - k) = k + 1 by omega, show n - (n - 1 - k + 1) = k by omega]
    rfl
  · rw [if_neg e]
    unfold bwK
    by_cases h : n ≤ i + k
    · rw [if_pos h, if_pos (by omega)]
    · rw [if_neg h, if_neg (by omega)]
/-- what the specification's spans are -/
def spF (n : Nat) (G S : Nat → Int × Int) (i : Nat) : Int × Int := bwd n G (fwd G S) (n - i)
theorem spF_n (n : Nat) (G S : Nat → Int × Int) : spF n G S n = fwd G S n := by unfold spF; rw [Nat.sub_self]; rfl
theorem spF_i (n : Nat) (G S : Nat → Int × Int) (i : Nat) (hi : i < n) : spF n G S i = nar (fwd G S i) (addS (spF n G S (i + 1)) (oppS (G i))) := by
  unfold spF
  rw [show n - i = (n - (i + 1)) + 1 by omega]
  show nar _ _ = _
  rw [show n - 1 - (n - (i + 1)) = i by omega]
theorem fwd_in {n : Nat} {G S : Nat → Int × Int} {T : Nat → Int} (h : RdS n G S T) : ∀ i, i ≤ n → hasP (fwd G S i) (T i)
  | 0, hi => h.tick 0 hi
  | i + 1, hi => by
    have h1 := fwd_in h i (by omega)
    have h2 := h.gap i (by omega)
    have h3 := h.tick (i + 1) hi
    show hasP (nar _ _) _
    unfold hasP nar at *
    simp only
    omega
theorem spF_in {n : Nat} {G S : Nat → Int × Int} {T : Nat → Int} (h : RdS n G S T) : ∀ j, j ≤ n → hasP (spF n G S (n - j)) (T (n - j))
  | 0, hi => by rw [Nat.sub_zero, spF_n]; exact fwd_in h n (Nat.le_refl _)
  | j + 1, hi => by
    have h1 := spF_in h j (by omega)
    have h2 := h.gap (n - (j + 1)) (by omega)
    have h3 := fwd_in h (n - (j + 1)) (by omega)
    rw [show n - j = n - (j + 1) + 1 by omega] at h1
    rw [spF_i n G S _ (by omega)]
    unfold hasP nar at *
    simp only
    omega
/-- the specification's spans are exact, or one of them is empty and there is no reading -/
theorem spF_ends {n : Nat} {G S : Nat → Int × Int} (hG : ∀ i, i < n → neS (G i)) (hne : ∀ i, i ≤ n → neS (spF n G S i)) : Ends n (RdS n G S) (spF n G S) := by
  have hf : ∀ i, i ≤ n → (fwd G S i).1 ≤ (spF n G S i).1 ∧ (spF n G S i).2 ≤ (fwd G S i).2 := fun i hi => by
    by_cases e : i = n
    · subst e; rw [spF_n]; omega
    · rw [spF_i n G S i (by omega)]; unfold nar; simp only; omega
  have hS : ∀ i, (S i).1 ≤ (fwd G S i).1 ∧ (fwd G S i).2 ≤ (S i).2 := fun i => by
    cases i with
    | zero => exact ⟨Int.le_refl _, Int.le_refl _⟩
    | succ i => show _ ≤ (nar _ _).1 ∧ (nar _ _).2 ≤ _; unfold nar; simp only; omega
  have hs : ∀ i, i < n → hasP (G i) ((spF n G S (i + 1)).1 - (spF n G S i).1) ∧ hasP (G i) ((spF n G S (i + 1)).2 - (spF n G S i).2) := fun i hi => by
    have h1 := hf (i + 1) hi
    have h2 : fwd G S (i + 1) = nar (S (i + 1)) (addS (fwd G S i) (G i)) := rfl
    have h3 := hG i hi
    rw [spF_i n G S i hi]
    rw [h2] at h1
    unfold hasP nar neS at *
    simp only at *
    omega
  refine ⟨fun T hT i hi => ?_, ⟨fun i hi => ?_, fun i hi => (hs i hi).1⟩, ⟨fun i hi => ?_, fun i hi => (hs i hi).2⟩⟩
  · have := spF_in hT (n - i) (by omega)
    rw [show n - (n - i) = i by omega] at this
    exact this
  · have h1 := hf i hi; have h2 := hS i; have h3 := hne i hi; unfold neS at h3; omega
  · have h1 := hf i hi; have h2 := hS i; have h3 := hne i hi; unfold neS at h3; omega
theorem spF_none {n : Nat} {G S : Nat → Int × Int} {i : Nat} (hi : i ≤ n) (h : ¬ neS (spF n G S i)) (T : Nat → Int) : ¬ RdS n G S T := fun hT => h (by
  have := spF_in hT (n - i) (by omega)
  rw [show n - (n - i) = i by omega] at this
  unfold hasP at this
  unfold neS
  omega)
/-- the differences of two columns in readings whose tick of the first is below k -/
def btI (R : (Nat → Int) → Prop) (a b k : Nat) (s : Int × Int) : Prop :=
  (∀ T, R T → T a < k → hasP s (T b - T a)) ∧ ((s = (800, -800) ∧ ∀ T, R T → ¬ T a < k) ∨ ((∃ T, R T ∧ T a < k ∧ T b - T a = s.1) ∧ ∃ T, R T ∧ T a < k ∧ T b - T a = s.2))
theorem btI_0 {R : (Nat → Int) → Prop} {a b n : Nat} (hR : ∀ T, R T → ∀ i, i < n + 1 → 0 ≤ T i ∧ T i ≤ 400) (ha : a ≤ n) : btI R a b 0 (800, -800) :=
  ⟨fun T hT h => by have := hR T hT a (by omega); omega, .inl ⟨rfl, fun T hT h => by have := hR T hT a (by omega); omega⟩⟩
theorem btI_no {R : (Nat → Int) → Prop} {a b k : Nat} {s : Int × Int} (h : btI R a b k s) (hn : ∀ T, R T → ¬ T a = k) : btI R a b (k + 1) s := by
  have hk : ∀ T, R T → T a < ((k + 1 : Nat) : Int) → T a < k := fun T hT h => by have := hn T hT; omega
  refine ⟨fun T hT e => h.1 T hT (hk T hT e), ?_⟩
  rcases h.2 with ⟨h1, h2⟩ | ⟨⟨T, h1, h2, h3⟩, ⟨U, k1, k2, k3⟩⟩
  · exact .inl ⟨h1, fun T hT e => h2 T hT (hk T hT e)⟩
  · exact .inr ⟨⟨T, h1, by omega, h3⟩, ⟨U, k1, by omega, k3⟩⟩
theorem btI_yes {R : (Nat → Int) → Prop} {a b k n : Nat} {s : Int × Int} {S : Nat → Int × Int} (hR : ∀ T, R T → ∀ i, i < n + 1 → 0 ≤ T i ∧ T i ≤ 400) (ha : a ≤ n) (hb : b ≤ n) (h : btI R a b k s) (hS : Ends n (fun T => R T ∧ T a = k) S) : btI R a b (k + 1) (min s.1 ((S b).1 - k), max s.2 ((S b).2 - k)) := by
  have l1 := hR _ hS.lo.1 b (by omega)
  have l2 := hR _ hS.hi.1 b (by omega)
  have l3 := hR _ hS.lo.1 a (by omega)
  have e1 := hS.lo.2
  have e2 := hS.hi.2
  simp only at l1 l2 l3 e1 e2
  refine ⟨fun T hT e => ?_, .inr ?_⟩
  · by_cases hk : T a = k
    · have := hS.all T ⟨hT, hk⟩ b hb
      unfold hasP; simp only; omega
    · have := h.1 T hT (by omega)
      unfold hasP at *; simp only; omega
  · rcases h.2 with ⟨rfl, h2⟩ | ⟨⟨T, h1, h2, h3⟩, ⟨U, k1, k2, k3⟩⟩
    · exact ⟨⟨_, hS.lo.1, by (try simp only); omega, by (try simp only); omega⟩, ⟨_, hS.hi.1, by (try simp only); omega, by (try simp only); omega⟩⟩
    · refine ⟨?_, ?_⟩
      · by_cases q : s.1 ≤ (S b).1 - k
        · exact ⟨T, h1, by omega, by (try simp only); omega⟩
        · exact ⟨_, hS.lo.1, by (try simp only); omega, by (try simp only); omega⟩
      · by_cases q : (S b).2 - k ≤ s.2
        · exact ⟨U, k1, by omega, by (try simp only); omega⟩
        · exact ⟨_, hS.hi.1, by (try simp only); omega, by (try simp only); omega⟩
theorem btI_end {R : (Nat → Int) → Prop} {a b n : Nat} {s x : Int × Int} (hR : ∀ T, R T → ∀ i, i < n + 1 → 0 ≤ T i ∧ T i ≤ 400) (ha : a ≤ n) (h : btI R a b 401 s) (hx : ∀ T, R T → hasP x (T b - T a)) (h1 : ∃ T, R T ∧ T b - T a = x.1) (h2 : ∃ T, R T ∧ T b - T a = x.2) : s = x := by
  obtain ⟨T, t1, t2⟩ := h1
  obtain ⟨U, u1, u2⟩ := h2
  have a1 := hR T t1 a (by omega)
  have a2 := hR U u1 a (by omega)
  have c1 := h.1 T t1 (by omega)
  have c2 := h.1 U u1 (by omega)
  unfold hasP at *
  rcases h.2 with ⟨_, h2⟩ | ⟨⟨V, v1, v2, v3⟩, ⟨W, k1, k2, k3⟩⟩
  · exact absurd (by omega) (h2 T t1)
  · have d1 := hx V v1
    have d2 := hx W k1
    exact Prod.ext (by omega) (by omega)
/-- what comes one behind the other, from x to the last -/
inductive Itr {α : Type} (f : α → Option α) : α → List α → Prop
  | last {x : α} : f x = none → Itr f x [x]
  | step {x y : α} {L : List α} : f x = some y → Itr f y L → Itr f x (x :: L)
theorem Itr.at {α : Type} {f : α → Option α} : ∀ {x : α} {L : List α}, Itr f x L → L[0]? = some x ∧ ∀ (q : Nat) (s : α), L[q]? = some s → f s = L[q + 1]?
  | _, _, .last h => ⟨rfl, fun q s hq => by
      cases q with
      | zero => simp at hq; subst hq; simpa using h
      | succ q => simp at hq⟩
  | x, _, .step (y := y) (L := L) h k => ⟨rfl, fun q s hq => by
      have ih := k.at
      cases q with
      | zero =>
        simp at hq
        subst hq
        rw [h, List.getElem?_cons_succ]
        exact ih.1.symm
      | succ q =>
        rw [List.getElem?_cons_succ] at hq ⊢
        exact ih.2 q s hq⟩
/-- the numbers from one on -/
def runL (a : Int) : Nat → List Int
  | 0 => []
  | k + 1 => a :: runL (a + 1) k
theorem runL_len (a : Int) (k : Nat) : (runL a k).length = k := by
  induction k generalizing a with
  | zero => rfl
  | succ k ih => rw [runL, List.length_cons, ih]
theorem runL_at (a : Int) : ∀ (k i : Nat), i < k → (runL a k).getD i 0 = a + i
  | k + 1, 0, _ => by simp [runL]
  | k + 1, i + 1, h => by
    have ih := runL_at (a + 1) k i (by omega)
    rw [runL, List.getD_cons_succ, ih]
    omega
/-- the set behind a set -/
def nx (c : Nat) : List Int → Option (List Int)
  | [] => none
  | a :: t => match nx c t with
    | some t' => some (a :: t')
    | none => if a < (c : Int) - (t.length + 1) then some (runL (a + 1) (t.length + 1)) else none
theorem itr_app {c : Nat} {a : Int} {L M : List (List Int)} {x y : List Int} (h : Itr (nx c) x L) (hn : ∀ t : List Int, t.length = x.length → nx c t = none → nx c (a :: t) = some y) (hl : ∀ t t' : List Int, nx c t = some t' → t'.length = t.length) (hM : Itr (nx c) y M) : Itr (nx c) (a :: x) (L.map (a :: ·) ++ M) := by
  induction h with
  | last h0 => exact .step (hn _ rfl h0) hM
  | @step x' y' L' h1 h2 ih =>
    refine .step (y := a :: y') ?_ (ih fun t ht h => hn t (ht.trans (hl _ _ h1)) h)
    show (match nx c x' with | some t' => some (a :: t') | none => _) = _
    rw [h1]
theorem itr_end {c : Nat} {a : Int} {L : List (List Int)} {x : List Int} (h : Itr (nx c) x L) (hn : ∀ t : List Int, t.length = x.length → nx c t = none → nx c (a :: t) = none) (hl : ∀ t t' : List Int, nx c t = some t' → t'.length = t.length) : Itr (nx c) (a :: x) (L.map (a :: ·)) := by
  induction h with
  | last h0 => exact .last (hn _ rfl h0)
  | @step x' y' L' h1 h2 ih =>
    refine .step (y := a :: y') ?_ (ih fun t ht h => hn t (ht.trans (hl _ _ h1)) h)
    show (match nx c x' with | some t' => some (a :: t') | none => _) = _
    rw [h1]
theorem nx_len {c : Nat} : ∀ t t' : List Int, nx c t = some t' → t'.length = t.length
  | [], t', h => by cases h
  | a :: t, t', h => by
    have ih := nx_len (c := c) t
    unfold nx at h
    cases e : nx c t with
    | some u =>
      rw [e] at h
      simp only [Option.some.injEq] at h
      subst h
      rw [List.length_cons, ih u e, List.length_cons]
    | none =>
      rw [e] at h
      simp only at h
      split at h
      · cases h; rw [runL_len, List.length_cons]
      · cases h
/-- the blocks from the j-th on -/
theorem itr_blocks {c r lo : Nat} (hr : ∀ lo', lo' + r ≤ c → Itr (nx c) (runL lo' r) (ext c r lo')) : ∀ (k j : Nat), j + k + 1 = c - r - lo → Itr (nx c) (runL ((lo + j : Nat) : Int) (r + 1)) ((List.range' j (k + 1)).flatMap fun j => (ext c r (lo + j + 1)).map fun s => ((lo + j : Nat) : Int) :: s)
  | 0, j, h => by
    have h1 := hr (lo + j + 1) (by omega)
    have e : (List.range' j (0 + 1)).flatMap (fun j => (ext c r (lo + j + 1)).map fun s => ((lo + j : Nat) : Int) :: s) = (ext c r (lo + j + 1)).map fun s => ((lo + j : Nat) : Int) :: s := by simp [List.range']
    rw [e]
    have h2 := itr_end (a := ((lo + j : Nat) : Int)) h1 (fun t ht hn => by
      rw [runL_len] at ht
      show (match nx c t with | some t' => some (_ :: t') | none => _) = _
      rw [hn]
      show (if _ then _ else _) = _
      rw [if_neg (by omega)]) nx_len
    rw [show ((lo + j + 1 : Nat) : Int) = ((lo + j : Nat) : Int) + 1 by omega] at h2
    exact h2
  | k + 1, j, h => by
    have h1 := hr (lo + j + 1) (by omega)
    have ih := itr_blocks (lo := lo) hr k (j + 1) (by omega)
    have e : (List.range' j (k + 1 + 1)).flatMap (fun j => (ext c r (lo + j + 1)).map fun s => ((lo + j : Nat) : Int) :: s) = ((ext c r (lo + j + 1)).map fun s => ((lo + j : Nat) : Int) :: s) ++ (List.range' (j + 1) (k + 1)).flatMap fun j => (ext c r (lo + j + 1)).map fun s => ((lo + j : Nat) : Int) :: s := by rw [List.range'_succ, List.flatMap_cons]
    rw [e]
    have h2 := itr_app (a := ((lo + j : Nat) : Int)) h1 (y := runL ((lo + (j + 1) : Nat) : Int) (r + 1)) (fun t ht hn => by
      rw [runL_len] at ht
      show (match nx c t with | some t' => some (_ :: t') | none => _) = _
      rw [hn]
      show (if _ then _ else _) = _
      rw [if_pos (by omega), ht, show ((lo + (j + 1) : Nat) : Int) = ((lo + j : Nat) : Int) + 1 by omega]) nx_len ih
    rw [show ((lo + j + 1 : Nat) : Int) = ((lo + j : Nat) : Int) + 1 by omega] at h2
    exact h2
/-- the sets of a size come one behind the other -/
theorem itr_ext {c : Nat} : ∀ (r lo : Nat), lo + r ≤ c → Itr (nx c) (runL lo r) (ext c r lo)
  | 0, lo, _ => .last rfl
  | r + 1, lo, h => by
    have h1 := itr_blocks (c := c) (r := r) (lo := lo) (fun lo' h => itr_ext r lo' h) (c - r - lo - 1) 0 (by omega)
    rw [Nat.add_zero, show c - r - lo - 1 + 1 = c - r - lo by omega, ← List.range_eq_range'] at h1
    exact h1
/-- the loop of next finds no number that can grow -/
theorem nx_none {c : Nat} : ∀ {l : List Int}, (∀ i, i < l.length → ¬ l.getD i 0 < (c : Int) - l.length + i) → nx c l = none
  | [], _ => rfl
  | a :: t, h => by
    have ih : nx c t = none := nx_none fun i hi => by
      have := h (i + 1) (by rw [List.length_cons]; omega)
      rw [List.getD_cons_succ, List.length_cons] at this
      omega
    have h0 := h 0 (by simp)
    rw [List.getD_cons_zero, List.length_cons] at h0
    show (match nx c t with | some t' => some (a :: t') | none => _) = _
    rw [ih]
    show (if _ then _ else _) = _
    rw [if_neg (by omega)]
/-- the loop of next finds the last number that can grow -/
theorem nx_at {c : Nat} : ∀ {l : List Int} {i : Nat}, i < l.length → l.getD i 0 < (c : Int) - l.length + i → (∀ j, i < j → j < l.length → ¬ l.getD j 0 < (c : Int) - l.length + j) → nx c l = some (l.take i ++ runL (l.getD i 0 + 1) (l.length - i))
  | a :: t, 0, hi, h1, h2 => by
    have ih : nx c t = none := nx_none fun i hi => by
      have := h2 (i + 1) (by omega) (by rw [List.length_cons]; omega)
      rw [List.getD_cons_succ, List.length_cons] at this
      omega
    rw [List.getD_cons_zero, List.length_cons] at h1
    show (match nx c t with | some t' => some (a :: t') | none => _) = _
    rw [ih]
    show (if _ then _ else _) = _
    rw [if_pos (by omega)]
    simp
  | a :: t, i + 1, hi, h1, h2 => by
    rw [List.length_cons] at hi
    have ih : nx c t = some (t.take i ++ runL (t.getD i 0 + 1) (t.length - i)) := nx_at (by omega) (by
      rw [List.getD_cons_succ, List.length_cons] at h1
      omega) fun j hj hjl => by
      have := h2 (j + 1) (by omega) (by rw [List.length_cons]; omega)
      rw [List.getD_cons_succ, List.length_cons] at this
      omega
    show (match nx c t with | some t' => some (a :: t') | none => _) = _
    rw [ih]
    simp
/-- the pairs that begin with i, up to j -/
def rowP (i j : Nat) : List (List Int) := (List.range (j - (i + 1))).map fun k => [(i : Int), ((i + 1 + k : Nat) : Int)]
/-- all pairs below m before the pair of i and j -/
def bef (m i j : Nat) : List (List Int) := (List.range i).flatMap (fun a => rowP a m) ++ rowP i j
theorem ext_ones1 (m lo : Nat) : ext m 1 lo = (List.range (m - lo)).map fun k => [((lo + k : Nat) : Int)] := by
  simp only [ext, List.map_cons, List.map_nil, Nat.sub_zero]
  induction (List.range (m - lo)) with
  | nil => rfl
  | cons a t ih => rw [List.flatMap_cons, ih]; rfl
theorem ext_pairs2 (m : Nat) : ext m 2 0 = (List.range (m - 1)).flatMap fun a => rowP a m := by
  rw [show ext m 2 0 = (List.range (m - 1 - 0)).flatMap fun j => (ext m 1 (0 + j + 1)).map fun s => ((0 + j : Nat) : Int) :: s from rfl]
  rw [Nat.sub_zero]
  congr 1
  funext j
  rw [ext_ones1, List.map_map, Nat.zero_add]
  rfl
theorem bef_0 (m : Nat) : bef m 0 1 = [] := by simp [bef, rowP]
theorem bef_k (m i j : Nat) (h : i < j) : bef m i (j + 1) = bef m i j ++ [[(i : Int), (j : Int)]] := by
  unfold bef
  rw [List.append_assoc]
  congr 1
  unfold rowP
  rw [show j + 1 - (i + 1) = (j - (i + 1)) + 1 by omega, List.range_succ, List.map_append, List.map_singleton, show i + 1 + (j - (i + 1)) = j by omega]
theorem bef_i (m i : Nat) : bef m i m = bef m (i + 1) (i + 2) := by
  unfold bef
  rw [List.range_succ, List.flatMap_append]
  simp [rowP]
theorem bef_m (m : Nat) : bef m m (m + 1) = ext m 2 0 := by
  rw [ext_pairs2]
  unfold bef
  cases m with
  | zero => simp [rowP]
  | succ m =>
    rw [List.range_succ, List.flatMap_append]
    simp [rowP]
end Go.Proofs.Ytpikaohodieeaaa
