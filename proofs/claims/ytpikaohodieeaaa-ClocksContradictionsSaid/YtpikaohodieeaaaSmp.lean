import Derived.Test.YtpikaohodieeaaaCtr
namespace Go.Proofs.Ytpikaohodieeaaa
open Go.RowKit
set_option linter.unusedSimpArgs false
set_option linter.unusedVariables false
/-- lists that keep the gaps -/
def Gp (n : Nat) (G : Nat → Int × Int) (T : Nat → Int) : Prop := ∀ i, i < n → hasP (G i) (T (i + 1) - T i)
theorem Gp.min {n : Nat} {G : Nat → Int × Int} {T U : Nat → Int} (h : Gp n G T) (h2 : Gp n G U) : Gp n G fun i => Min.min (T i) (U i) := fun i hi => by
  have a := h i hi
  have b := h2 i hi
  unfold hasP at *
  simp only
  omega
theorem Gp.max {n : Nat} {G : Nat → Int × Int} {T U : Nat → Int} (h : Gp n G T) (h2 : Gp n G U) : Gp n G fun i => Max.max (T i) (U i) := fun i hi => by
  have a := h i hi
  have b := h2 i hi
  unfold hasP at *
  simp only
  omega
theorem sumK_front (G : Nat → Int × Int) (a : Nat) : ∀ k, sumK G a (k + 1) = addS (G a) (sumK G (a + 1) k)
  | 0 => by simp [sumK, addS]
  | k + 1 => by
    rw [sumK, sumK_front G a k, sumK]
    simp only [addS]
    rw [show a + (k + 1) = a + 1 + k by omega]
    ext <;> simp only <;> omega
/-- through a tick of a column, as late as can be -/
theorem Gp.late {n : Nat} {G : Nat → Int × Int} (hG : ∀ i, i < n → (G i).1 ≤ (G i).2) (a : Nat) (t : Int) : Gp n G fun i => t + (addedF G a i).2 := fun i hi => by
  have h := hG i hi
  unfold hasP addedF
  simp only
  by_cases h1 : a ≤ i
  · rw [if_pos h1, if_pos (by omega), show i + 1 - a = i - a + 1 by omega, sumK]
    simp only [addS, show a + (i - a) = i by omega]
    omega
  · rw [if_neg h1]
    by_cases h2 : a ≤ i + 1
    · obtain rfl : a = i + 1 := by omega
      rw [if_pos h2, show i + 1 - (i + 1) = 0 by omega, show i + 1 - i = 0 + 1 by omega, sumK, sumK]
      simp only [addS, oppS, sumK, Nat.add_zero]
      omega
    · rw [if_neg h2, show a - i = (a - (i + 1)) + 1 by omega, sumK_front]
      simp only [addS, oppS]
      omega
theorem Gp.early {n : Nat} {G : Nat → Int × Int} (hG : ∀ i, i < n → (G i).1 ≤ (G i).2) (a : Nat) (t : Int) : Gp n G fun i => t + (addedF G a i).1 := fun i hi => by
  have h := hG i hi
  unfold hasP addedF
  simp only
  by_cases h1 : a ≤ i
  · rw [if_pos h1, if_pos (by omega), show i + 1 - a = i - a + 1 by omega, sumK]
    simp only [addS, show a + (i - a) = i by omega]
    omega
  · rw [if_neg h1]
    by_cases h2 : a ≤ i + 1
    · obtain rfl : a = i + 1 := by omega
      rw [if_pos h2, show i + 1 - (i + 1) = 0 by omega, show i + 1 - i = 0 + 1 by omega, sumK, sumK]
      simp only [addS, oppS, sumK, Nat.add_zero]
      omega
    · rw [if_neg h2, show a - i = (a - (i + 1)) + 1 by omega, sumK_front]
      simp only [addS, oppS]
      omega
theorem added_self (G : Nat → Int × Int) (a : Nat) : addedF G a a = (0, 0) := by
  unfold addedF
  rw [if_pos (Nat.le_refl _), Nat.sub_self]; rfl
theorem added_opp (G : Nat → Int × Int) (a b : Nat) : addedF G b a = oppS (addedF G a b) := by
  unfold addedF
  by_cases h : a = b
  · subst h; simp [sumK, oppS]
  · by_cases h1 : a ≤ b
    · rw [if_pos h1, if_neg (by omega)]
    · rw [if_neg h1, if_pos (by omega)]
      simp only [oppS]
      ext <;> simp
/-- what lies between the ends and keeps the gaps is a reading -/
theorem Ends.mid {n m : Nat} {G S : Nat → Int × Int} {F : Nat → Int × Int × Int} (hk : MkOk n m F) (h : Ends n (Rdg n G m F) S) {T : Nat → Int} (hT : Gp n G T) (hb : ∀ i, i ≤ n → (S i).1 ≤ T i ∧ T i ≤ (S i).2) : Rdg n G m F T :=
  ⟨fun i hi => by
    have a := h.lo.tick i hi
    have b := h.hi.tick i hi
    have c := hb i (by omega)
    omega, hT, fun j hj => by
    have a := h.lo.mark j hj
    have b := h.hi.mark j hj
    have k := hk j hj
    have c := hb (F j).1.toNat (by omega)
    unfold hasP at *
    omega⟩
/-- two columns at two ticks, wherever the spans and the gaps allow it -/
theorem Ends.two {n m : Nat} {G S : Nat → Int × Int} {F : Nat → Int × Int × Int} (hG : ∀ i, i < n → (G i).1 ≤ (G i).2) (hk : MkOk n m F) (h : Ends n (Rdg n G m F) S) {a b : Nat} (ha : a ≤ n) (hb : b ≤ n) {t y : Int}
    (h1 : (S a).1 ≤ t ∧ t ≤ (S a).2) (h2 : (S b).1 ≤ y ∧ y ≤ (S b).2) (h3 : (addedF G a b).1 ≤ y - t ∧ y - t ≤ (addedF G a b).2) : ∃ T, Rdg n G m F T ∧ T a = t ∧ T b = y := by
  have glo : Gp n G fun i => (S i).1 := h.lo.gap
  have ghi : Gp n G fun i => (S i).2 := h.hi.gap
  have hle : ∀ i, i ≤ n → (S i).1 ≤ (S i).2 := fun i hi => (h.all _ h.lo i hi).2
  -- early and late ones through a at t
  have gb : Gp n G fun i => Max.max (S i).1 (t + (addedF G a i).1) := Gp.max glo (Gp.early hG a t)
  have gt : Gp n G fun i => Min.min (S i).2 (t + (addedF G a i).2) := Gp.min ghi (Gp.late hG a t)
  have gz := Gp.min gt (Gp.max gb (Gp.late hG b y))
  have hb1 : ∀ i, i ≤ n → t + (addedF G a i).1 ≤ (S i).2 := fun i hi => by
    have := rdg_added (T := fun i => (S i).2) h.hi.gap ha hi
    unfold hasP at this
    omega
  have hb2 : ∀ i, i ≤ n → (S i).1 ≤ t + (addedF G a i).2 := fun i hi => by
    have := rdg_added (T := fun i => (S i).1) h.lo.gap ha hi
    unfold hasP at this
    omega
  have hb3 : ∀ i, i ≤ n → (addedF G a i).1 ≤ (addedF G a i).2 := fun i hi => by
    have := rdg_added (T := fun i => (S i).1) h.lo.gap ha hi
    unfold hasP at this
    omega
  have sa := added_self G a
  have sb := added_self G b
  refine ⟨_, h.mid hk gz fun i hi => ?_, ?_, ?_⟩
  · have := hle i hi; have := hb1 i hi; have := hb2 i hi; have := hb3 i hi
    omega
  · simp only [sa]; omega
  · simp only [sb]; omega
theorem Ends.one {n m : Nat} {G S : Nat → Int × Int} {F : Nat → Int × Int × Int} (hG : ∀ i, i < n → (G i).1 ≤ (G i).2) (hk : MkOk n m F) (h : Ends n (Rdg n G m F) S) {a : Nat} (ha : a ≤ n) {t : Int} (h1 : (S a).1 ≤ t ∧ t ≤ (S a).2) : ∃ T, Rdg n G m F T ∧ T a = t := by
  obtain ⟨T, h2, h3, _⟩ := h.two hG hk ha ha h1 h1 (by rw [added_self]; simp)
  exact ⟨T, h2, h3⟩
/-- differences are exact -/
theorem Ends.diff {n m : Nat} {G S : Nat → Int × Int} {F : Nat → Int × Int × Int} (hG : ∀ i, i < n → (G i).1 ≤ (G i).2) (hk : MkOk n m F) (h : Ends n (Rdg n G m F) S) {a b : Nat} (ha : a ≤ n) (hb : b ≤ n) (x : Int) :
    (∃ T, Rdg n G m F T ∧ T b - T a = x) ↔ (apS G S a b).1 ≤ x ∧ x ≤ (apS G S a b).2 := by
  constructor
  · rintro ⟨T, hT, rfl⟩
    have h1 := rdg_added hT.gap ha hb
    have h2 := h.all T hT a ha
    have h3 := h.all T hT b hb
    unfold hasP at h1
    unfold apS
    simp only
    omega
  · intro hx
    unfold apS at hx
    simp only at hx
    have ea := (h.all _ h.lo a ha).2
    have eb := (h.all _ h.lo b hb).2
    obtain ⟨t, ht⟩ : ∃ t : Int, t = Max.max (S a).1 ((S b).1 - x) := ⟨_, rfl⟩
    obtain ⟨T, h1, h2, h3⟩ := h.two hG hk ha hb (t := t) (y := t + x) (by omega) (by omega) (by omega)
    exact ⟨T, h1, by omega⟩
theorem apS_ne {n m : Nat} {G S : Nat → Int × Int} {F : Nat → Int × Int × Int} (h : Ends n (Rdg n G m F) S) {a b : Nat} (ha : a ≤ n) (hb : b ≤ n) : (apS G S a b).1 ≤ (apS G S a b).2 := by
  have h1 := rdg_added (T := fun i => (S i).1) h.lo.gap ha hb
  have h2 := h.all _ h.lo a ha
  have h3 := h.all _ h.lo b hb
  unfold hasP at h1
  unfold apS
  simp only
  omega
theorem apS_opp (G S : Nat → Int × Int) (a b : Nat) : apS G S b a = oppS (apS G S a b) := by
  unfold apS
  rw [added_opp G a b]
  simp only [oppS]
  ext <;> simp only <;> omega
/-- the last column that has passed -/
theorem Rdg.up {n m : Nat} {G : Nat → Int × Int} {F : Nat → Int × Int × Int} {T : Nat → Int} (h : Rdg n G m F T) (hG : ∀ i, i < n → 1 ≤ (G i).1) : ∀ k i, i + k ≤ n → T i + k ≤ T (i + k)
  | 0, i, _ => by simp
  | k + 1, i, hk => by
    have h1 := Rdg.up h hG k i (by omega)
    have h2 := h.gap (i + k) (by omega)
    have h3 := hG (i + k) (by omega)
    unfold hasP at h2
    rw [show i + (k + 1) = i + k + 1 by omega]
    omega
theorem Rdg.min {n m : Nat} {G : Nat → Int × Int} {F : Nat → Int × Int × Int} {T U : Nat → Int} (h : Rdg n G m F T) (h2 : Rdg n G m F U) : Rdg n G m F fun i => Min.min (T i) (U i) :=
  ⟨fun i hi => by have := h.tick i hi; have := h2.tick i hi; omega, Gp.min h.gap h2.gap, fun i hi => by have a := h.mark i hi; have b := h2.mark i hi; unfold hasP at *; omega⟩
theorem Rdg.max {n m : Nat} {G : Nat → Int × Int} {F : Nat → Int × Int × Int} {T U : Nat → Int} (h : Rdg n G m F T) (h2 : Rdg n G m F U) : Rdg n G m F fun i => Max.max (T i) (U i) :=
  ⟨fun i hi => by have := h.tick i hi; have := h2.tick i hi; omega, Gp.max h.gap h2.gap, fun i hi => by have a := h.mark i hi; have b := h2.mark i hi; unfold hasP at *; omega⟩
def med (a b c : Int) : Int := Max.max (Min.min a b) (Min.min (Max.max a b) c)
theorem Gp.med {n : Nat} {G : Nat → Int × Int} {T U V : Nat → Int} (h : Gp n G T) (h2 : Gp n G U) (h3 : Gp n G V) : Gp n G fun i => med (T i) (U i) (V i) :=
  Gp.max (Gp.min h h2) (Gp.min (Gp.max h h2) h3)
theorem Rdg.med {n m : Nat} {G : Nat → Int × Int} {F : Nat → Int × Int × Int} {T U V : Nat → Int} (h : Rdg n G m F T) (h2 : Rdg n G m F U) (h3 : Rdg n G m F V) : Rdg n G m F fun i => med (T i) (U i) (V i) :=
  Rdg.max (Rdg.min h h2) (Rdg.min (Rdg.max h h2) h3)

/-- two neighbours, one passed and one not -/
theorem Ends.col {n m : Nat} {G S : Nat → Int × Int} {F : Nat → Int × Int × Int} (hG : ∀ i, i < n → 1 ≤ (G i).1 ∧ (G i).1 ≤ (G i).2) (hk : MkOk n m F) (h : Ends n (Rdg n G m F) S) {k : Nat} (hkn : k < n) (x : Int) :
    (∃ T, Rdg n G m F T ∧ T k ≤ x ∧ x < T (k + 1)) ↔ (S k).1 ≤ x ∧ x < (S (k + 1)).2 := by
  constructor
  · rintro ⟨T, hT, h1, h2⟩
    have a := h.all T hT k (by omega)
    have b := h.all T hT (k + 1) (by omega)
    omega
  · rintro ⟨h1, h2⟩
    have g := hG k hkn
    have lo := h.lo.gap k hkn
    have hi := h.hi.gap k hkn
    have e1 := (h.all _ h.lo k (by omega)).2
    have e2 := (h.all _ h.lo (k + 1) (by omega)).2
    unfold hasP at lo hi
    have ad : addedF G k (k + 1) = G k := by
      unfold addedF
      rw [if_pos (by omega), show k + 1 - k = 0 + 1 by omega, sumK, sumK]
      ext <;> simp [addS]
    obtain ⟨t, ht⟩ : ∃ t : Int, t = Min.min (S k).2 x := ⟨_, rfl⟩
    obtain ⟨y, hy⟩ : ∃ y : Int, y = Max.max (x + 1) (Max.max (S (k + 1)).1 (t + (G k).1)) := ⟨_, rfl⟩
    obtain ⟨T, a, b, c⟩ := h.two (fun i hi => (hG i hi).2) hk (a := k) (b := k + 1) (by omega) (by omega) (t := t) (y := y) (by omega) (by omega) (by rw [ad]; omega)
    exact ⟨T, a, by omega, by omega⟩
/-- in a rising list the last column that has passed -/
theorem lastP_rise {Z : Nat → Int} {x : Int} : ∀ (n : Nat), (∀ i, i + 1 < n → Z i < Z (i + 1)) → -1 ≤ lastP Z x n ∧ lastP Z x n < n ∧ ∀ k : Nat, k < n → (Z k ≤ x ↔ (k : Int) ≤ lastP Z x n)
  | 0, _ => ⟨by simp [lastP], by simp [lastP], fun k h => by omega⟩
  | n + 1, h => by
    obtain ⟨h1, h2, h3⟩ := lastP_rise (Z := Z) (x := x) n (fun i hi => h i (by omega))
    unfold lastP
    split
    · rename_i hz
      refine ⟨by omega, by omega, fun k hk => ⟨fun _ => by omega, fun _ => ?_⟩⟩
      have : ∀ j k, k + j = n → Z k ≤ Z n := by
        intro j
        induction j with
        | zero => intro k e; rw [show k = n by omega]; exact Int.le_refl _
        | succ j ih => intro k e; have a := ih (k + 1) (by omega); have b := h k (by omega); omega
      have := this (n - k) k (by omega)
      omega
    · rename_i hz
      refine ⟨h1, by omega, fun k hk => ?_⟩
      by_cases e : k = n
      · subst e; constructor
        · intro; omega
        · intro; omega
      · exact h3 k (by omega)
/-- marks that can be kept two by two can all be kept -/
theorem helly {B : (Nat → Int) → Prop} (hB : ∀ T U V, B T → B U → B V → B fun i => med (T i) (U i) (V i)) : ∀ (q : Nat) (l : List (Int × Int × Int)), l.length ≤ q → (∃ T, B T) →
    (∀ a b, a ∈ l → b ∈ l → ∃ T, B T ∧ hasP a.2 (T a.1.toNat) ∧ hasP b.2 (T b.1.toNat)) → ∃ T, B T ∧ ∀ a, a ∈ l → hasP a.2 (T a.1.toNat)
  | _, [], _, ⟨T, hT⟩, _ => ⟨T, hT, fun a h => by cases h⟩
  | _, [a], _, _, h => by
    obtain ⟨T, h1, h2, _⟩ := h a a (by simp) (by simp)
    exact ⟨T, h1, fun x hx => by simp at hx; subst hx; exact h2⟩
  | _, [a, b], _, _, h => by
    obtain ⟨T, h1, h2, h3⟩ := h a b (by simp) (by simp)
    exact ⟨T, h1, fun x hx => by simp at hx; rcases hx with rfl | rfl <;> assumption⟩
  | 0, a :: b :: c :: r, hl, _, _ => by simp at hl
  | q + 1, a :: b :: c :: r, hl, h0, h => by
    simp only [List.length_cons] at hl
    obtain ⟨T, t1, t2⟩ := helly hB q (a :: b :: r) (by simp only [List.length_cons]; omega) h0 (fun x y hx hy => h x y (by simp at hx ⊢; rcases hx with h | h | h <;> simp [h]) (by simp at hy ⊢; rcases hy with h | h | h <;> simp [h]))
    obtain ⟨U, u1, u2⟩ := helly hB q (a :: c :: r) (by simp only [List.length_cons]; omega) h0 (fun x y hx hy => h x y (by simp at hx ⊢; rcases hx with h | h | h <;> simp [h]) (by simp at hy ⊢; rcases hy with h | h | h <;> simp [h]))
    obtain ⟨V, v1, v2⟩ := helly hB q (b :: c :: r) (by simp only [List.length_cons]; omega) h0 (fun x y hx hy => h x y (by simp at hx ⊢; rcases hx with h | h | h <;> simp [h]) (by simp at hy ⊢; rcases hy with h | h | h <;> simp [h]))
    refine ⟨_, hB T U V t1 u1 v1, fun x hx => ?_⟩
    have key : ∀ (p q r : Int) (s : Int × Int), (hasP s p ∧ hasP s q) ∨ (hasP s p ∧ hasP s r) ∨ (hasP s q ∧ hasP s r) → hasP s (med p q r) := by
      intro p q r s hh
      unfold hasP at *
      unfold med
      omega
    apply key
    simp only [List.mem_cons] at hx
    rcases hx with rfl | rfl | rfl | hx
    · exact .inl ⟨t2 _ (by simp), u2 _ (by simp)⟩
    · exact .inr (.inl ⟨t2 _ (by simp), v2 _ (by simp)⟩)
    · exact .inr (.inr ⟨u2 _ (by simp), v2 _ (by simp)⟩)
    · exact .inl ⟨t2 _ (by simp [hx]), u2 _ (by simp [hx])⟩
/-- readings of more marks -/
theorem Rdg.none {n : Nat} {G : Nat → Int × Int} {m : Nat} {F : Nat → Int × Int × Int} {T : Nat → Int} : Rdg n G m F T ↔ Rdg n G 0 F T ∧ ∀ i, i < m → hasP (F i).2 (T (F i).1.toNat) :=
  ⟨fun h => ⟨⟨h.tick, h.gap, fun i hi => by omega⟩, h.mark⟩, fun h => ⟨h.1.tick, h.1.gap, h.2⟩⟩
theorem Rdg.zero {n : Nat} {G : Nat → Int × Int} {F F' : Nat → Int × Int × Int} {T : Nat → Int} (h : Rdg n G 0 F T) : Rdg n G 0 F' T := ⟨h.tick, h.gap, fun i hi => by omega⟩
theorem rdg_two {n : Nat} {G : Nat → Int × Int} {m : Nat} {F : Nat → Int × Int × Int} (h0 : ∃ T, Rdg n G 0 F T) (h : ∀ i j, i < m → j < m → ∃ T, Rdg n G 0 F T ∧ hasP (F i).2 (T (F i).1.toNat) ∧ hasP (F j).2 (T (F j).1.toNat)) : ∃ T, Rdg n G m F T := by
  obtain ⟨T, h1, h2⟩ := helly (B := Rdg n G 0 F) (fun T U V a b c => Rdg.med a b c) m ((List.range m).map F) (by simp) h0 (fun a b ha hb => by
    simp only [List.mem_map, List.mem_range] at ha hb
    obtain ⟨i, hi, rfl⟩ := ha
    obtain ⟨j, hj, rfl⟩ := hb
    exact h i j hi hj)
  exact ⟨T, Rdg.none.2 ⟨h1, fun i hi => h2 _ (by simp only [List.mem_map, List.mem_range]; exact ⟨i, hi, rfl⟩)⟩⟩
end Go.Proofs.Ytpikaohodieeaaa
namespace Go.Proofs.Ytpikaohodieeaaa
open Go.RowKit
set_option linter.unusedSimpArgs false
set_option linter.unusedVariables false
/-- the drum of the document's examples, its marks, and one more -/
def smG : Nat → Int × Int := fun i => if i = 2 then (1, 4) else (2, 3)
def smD (a b : Nat) : Drm := ⟨some ⟨a, 0, none⟩, 3, 3, smG, some ⟨b, 0, none⟩, 1, 1, fun _ => (1, 0, 5)⟩
def smF : Nat → Int × Int × Int := fun i => if i = 0 then (0, 10, 12) else if i = 1 then (3, 20, 22) else (2, 10, 13)
theorem smD_ok (a b : Nat) : DrOk (smD a b) := ⟨by show 1 ≤ 3; decide, by show 3 < 200; decide, by show 1 ≤ 16; decide, fun i hi => by
  show isS (smG i) 1 40
  unfold smG
  split <;> decide, fun i hi => by show (0 ≤ (1 : Int) ∧ (1 : Int) < (3 : Nat)) ∧ isS (0, 5) 0 400; decide⟩
theorem smF_ok (a b m : Nat) (h : m ≤ 3) : MksOk (smD a b) m smF := ⟨by omega, fun i hi => by
  show (0 ≤ (smF i).1 ∧ (smF i).1 ≤ (3 : Nat)) ∧ isS (smF i).2 0 400
  unfold smF
  split
  · decide
  · split <;> decide⟩
theorem smG0 (a b : Nat) : gapF (smD a b) 0 = (2, 3) := rfl
theorem smG1 (a b : Nat) : gapF (smD a b) 1 = (2, 8) := rfl
theorem smG2 (a b : Nat) : gapF (smD a b) 2 = (1, 4) := rfl
theorem sm_rd {a b m : Nat} {F : Nat → Int × Int × Int} {T : Nat → Int} (h : Rdg 3 (gapF (smD a b)) m F T) : (0 ≤ T 0 ∧ T 0 ≤ 400) ∧ (2 ≤ T 1 - T 0 ∧ T 1 - T 0 ≤ 3) ∧ (2 ≤ T 2 - T 1 ∧ T 2 - T 1 ≤ 8) ∧ (1 ≤ T 3 - T 2 ∧ T 3 - T 2 ≤ 4) :=
  ⟨h.tick 0 (by omega), h.gap 0 (by omega), h.gap 1 (by omega), h.gap 2 (by omega)⟩
theorem sm_mk {a b m : Nat} {F : Nat → Int × Int × Int} (l : List Int) (h0 : ∀ i, i < 4 → 0 ≤ asZ l i ∧ asZ l i ≤ 400) (h1 : ∀ i, i < 3 → (gapF (smD 0 0) i).1 ≤ asZ l (i + 1) - asZ l i ∧ asZ l (i + 1) - asZ l i ≤ (gapF (smD 0 0) i).2) (h2 : ∀ i, i < m → (F i).2.1 ≤ asZ l (F i).1.toNat ∧ asZ l (F i).1.toNat ≤ (F i).2.2) : Rdg 3 (gapF (smD a b)) m F (asZ l) :=
  ⟨h0, h1, h2⟩
def smS : Nat → Int × Int := fun i => if i = 0 then (10, 12) else if i = 1 then (12, 15) else if i = 2 then (16, 21) else (20, 22)
def smS2 : Nat → Int × Int := fun i => if i = 0 then (12, 12) else if i = 1 then (14, 15) else if i = 2 then (16, 21) else (20, 22)
theorem sm_lt4 {P : Nat → Prop} (h0 : P 0) (h1 : P 1) (h2 : P 2) (h3 : P 3) : ∀ i, i ≤ 3 → P i := fun i hi => by
  match i with
  | 0 => exact h0
  | 1 => exact h1
  | 2 => exact h2
  | 3 => exact h3
  | n + 4 => omega
theorem sm_ends (a b : Nat) : Ends 3 (Rdg 3 (gapF (smD a b)) 2 smF) smS := by
  refine ⟨fun T h => ?_, ⟨by decide, ?_, ?_⟩, ⟨by decide, ?_, ?_⟩⟩
  · obtain ⟨_, h1, h2, h3⟩ := sm_rd h
    have m0 := h.mark 0 (by omega)
    have m1 := h.mark 1 (by omega)
    have m0' : 10 ≤ T 0 ∧ T 0 ≤ 12 := m0
    have m1' : 20 ≤ T 3 ∧ T 3 ≤ 22 := m1
    refine sm_lt4 ?_ ?_ ?_ ?_
    · show 10 ≤ T 0 ∧ T 0 ≤ 12; omega
    · show 12 ≤ T 1 ∧ T 1 ≤ 15; omega
    · show 16 ≤ T 2 ∧ T 2 ≤ 21; omega
    · show 20 ≤ T 3 ∧ T 3 ≤ 22; omega
  · show ∀ i, i < 3 → (gapF (smD 0 0) i).1 ≤ (smS (i + 1)).1 - (smS i).1 ∧ (smS (i + 1)).1 - (smS i).1 ≤ (gapF (smD 0 0) i).2; decide
  · show ∀ i, i < 2 → (smF i).2.1 ≤ (smS (smF i).1.toNat).1 ∧ (smS (smF i).1.toNat).1 ≤ (smF i).2.2; decide
  · show ∀ i, i < 3 → (gapF (smD 0 0) i).1 ≤ (smS (i + 1)).2 - (smS i).2 ∧ (smS (i + 1)).2 - (smS i).2 ≤ (gapF (smD 0 0) i).2; decide
  · show ∀ i, i < 2 → (smF i).2.1 ≤ (smS (smF i).1.toNat).2 ∧ (smS (smF i).1.toNat).2 ≤ (smF i).2.2; decide
theorem sm_ends2 (a b : Nat) : Ends 3 (Rdg 3 (gapF (smD a b)) 3 (catF 2 smF fun _ => (0, 12, 12))) smS2 := by
  refine ⟨fun T h => ?_, ⟨by decide, ?_, ?_⟩, ⟨by decide, ?_, ?_⟩⟩
  · obtain ⟨_, h1, h2, h3⟩ := sm_rd h
    have m0' : 12 ≤ T 0 ∧ T 0 ≤ 12 := h.mark 2 (by omega)
    have m1' : 20 ≤ T 3 ∧ T 3 ≤ 22 := h.mark 1 (by omega)
    refine sm_lt4 ?_ ?_ ?_ ?_
    · show 12 ≤ T 0 ∧ T 0 ≤ 12; omega
    · show 14 ≤ T 1 ∧ T 1 ≤ 15; omega
    · show 16 ≤ T 2 ∧ T 2 ≤ 21; omega
    · show 20 ≤ T 3 ∧ T 3 ≤ 22; omega
  · show ∀ i, i < 3 → (gapF (smD 0 0) i).1 ≤ (smS2 (i + 1)).1 - (smS2 i).1 ∧ (smS2 (i + 1)).1 - (smS2 i).1 ≤ (gapF (smD 0 0) i).2; decide
  · show ∀ i, i < 3 → (catF 2 smF (fun _ => (0, 12, 12)) i).2.1 ≤ (smS2 (catF 2 smF (fun _ => (0, 12, 12)) i).1.toNat).1 ∧ (smS2 (catF 2 smF (fun _ => (0, 12, 12)) i).1.toNat).1 ≤ (catF 2 smF (fun _ => (0, 12, 12)) i).2.2; decide
  · show ∀ i, i < 3 → (gapF (smD 0 0) i).1 ≤ (smS2 (i + 1)).2 - (smS2 i).2 ∧ (smS2 (i + 1)).2 - (smS2 i).2 ≤ (gapF (smD 0 0) i).2; decide
  · show ∀ i, i < 3 → (catF 2 smF (fun _ => (0, 12, 12)) i).2.1 ≤ (smS2 (catF 2 smF (fun _ => (0, 12, 12)) i).1.toNat).2 ∧ (smS2 (catF 2 smF (fun _ => (0, 12, 12)) i).1.toNat).2 ≤ (catF 2 smF (fun _ => (0, 12, 12)) i).2.2; decide
theorem sm_rdr (a b : Nat) : RdR (smD a b) 2 smF true 0 smS := .inr ⟨smD_ok a b, smF_ok a b 2 (by omega), .inr (.inr ⟨rfl, rfl, sm_ends a b⟩)⟩
theorem sm_rwr (a b : Nat) : RwR (smD a b) 2 smF 0 12 0 smS2 := .inr ⟨smD_ok a b, smF_ok a b 2 (by omega), ⟨⟨by decide, by show (0 : Int) ≤ (3 : Nat); decide⟩, by decide⟩, ⟨_, sm_ends a b⟩, .inr ⟨rfl, sm_ends2 a b⟩⟩
theorem sm_some {a b m : Nat} {F : Nat → Int × Int × Int} (l : List Int) (h0 : ∀ i, i < 4 → 0 ≤ asZ l i ∧ asZ l i ≤ 400) (h1 : ∀ i, i < 3 → (gapF (smD 0 0) i).1 ≤ asZ l (i + 1) - asZ l i ∧ asZ l (i + 1) - asZ l i ≤ (gapF (smD 0 0) i).2) (h2 : ∀ i, i < m → (F i).2.1 ≤ asZ l (F i).1.toNat ∧ asZ l (F i).1.toNat ≤ (F i).2.2) :
    ∃ T, Rdg (smD a b).n (gapF (smD a b)) m F T := ⟨asZ l, h0, h1, h2⟩
def smAl : Nat → Bool := fun _ => true
def smPr (i j : Nat) : Bool := !((i == 0 && j == 2) || (i == 2 && j == 0) || (i == 1 && j == 2) || (i == 2 && j == 1))
theorem sm_con (a b : Nat) : ConR (smD a b) 3 smF [[0, 2], [1, 2]] := by
  refine ⟨true, smAl, smPr, by decide, ?_, ?_, ?_⟩
  · exact ⟨fun _ => ⟨asZ [10, 12, 16, 20], by show ∀ i, i < 4 → 0 ≤ asZ [10, 12, 16, 20] i ∧ asZ [10, 12, 16, 20] i ≤ 400; decide, by show ∀ i, i < 3 → (gapF (smD 0 0) i).1 ≤ asZ [10, 12, 16, 20] (i + 1) - asZ [10, 12, 16, 20] i ∧ asZ [10, 12, 16, 20] (i + 1) - asZ [10, 12, 16, 20] i ≤ (gapF (smD 0 0) i).2; decide, fun i hi => by omega⟩, fun _ => rfl⟩
  · intro i hi
    refine ⟨fun _ => ?_, fun _ => rfl⟩
    match i, hi with
    | 0, _ => exact sm_some [10, 12, 16, 20] (by decide) (by decide) (by decide)
    | 1, _ => exact sm_some [10, 12, 16, 20] (by decide) (by decide) (by decide)
    | 2, _ => exact sm_some [6, 8, 10, 11] (by decide) (by decide) (by decide)
  · intro i j hi hj
    match i, hi, j, hj with
    | 0, _, 0, _ => exact ⟨fun _ => sm_some [10, 12, 16, 20] (by decide) (by decide) (by decide), fun _ => rfl⟩
    | 0, _, 1, _ => exact ⟨fun _ => sm_some [10, 12, 16, 20] (by decide) (by decide) (by decide), fun _ => rfl⟩
    | 1, _, 0, _ => exact ⟨fun _ => sm_some [10, 12, 16, 20] (by decide) (by decide) (by decide), fun _ => rfl⟩
    | 1, _, 1, _ => exact ⟨fun _ => sm_some [10, 12, 16, 20] (by decide) (by decide) (by decide), fun _ => rfl⟩
    | 2, _, 2, _ => exact ⟨fun _ => sm_some [6, 8, 10, 11] (by decide) (by decide) (by decide), fun _ => rfl⟩
    | 0, _, 2, _ => 
      refine ⟨fun h => by simp [smPr] at h, fun ⟨T, h⟩ => ?_⟩
      obtain ⟨_, h1, h2, h3⟩ := sm_rd h
      have m0 : 10 ≤ T 0 ∧ T 0 ≤ 12 := h.mark 0 (by omega)
      have m1 : 10 ≤ T 2 ∧ T 2 ≤ 13 := h.mark 1 (by omega)
      omega
    | 2, _, 0, _ => 
      refine ⟨fun h => by simp [smPr] at h, fun ⟨T, h⟩ => ?_⟩
      obtain ⟨_, h1, h2, h3⟩ := sm_rd h
      have m0 : 10 ≤ T 0 ∧ T 0 ≤ 12 := h.mark 1 (by omega)
      have m1 : 10 ≤ T 2 ∧ T 2 ≤ 13 := h.mark 0 (by omega)
      omega
    | 1, _, 2, _ => 
      refine ⟨fun h => by simp [smPr] at h, fun ⟨T, h⟩ => ?_⟩
      obtain ⟨_, h1, h2, h3⟩ := sm_rd h
      have m0 : 20 ≤ T 3 ∧ T 3 ≤ 22 := h.mark 0 (by omega)
      have m1 : 10 ≤ T 2 ∧ T 2 ≤ 13 := h.mark 1 (by omega)
      omega
    | 2, _, 1, _ => 
      refine ⟨fun h => by simp [smPr] at h, fun ⟨T, h⟩ => ?_⟩
      obtain ⟨_, h1, h2, h3⟩ := sm_rd h
      have m0 : 20 ≤ T 3 ∧ T 3 ≤ 22 := h.mark 1 (by omega)
      have m1 : 10 ≤ T 2 ∧ T 2 ≤ 13 := h.mark 0 (by omega)
      omega
theorem sm_par (a b : Nat) : PaR (smD a b) 3 smF [[0, 2], [1, 2]] 0 := .inr ⟨smD_ok a b, smF_ok a b 3 (by omega), sm_con a b, rfl⟩
instance (s x : List Int) : Decidable (meets s x) := by unfold meets; exact inferInstance
theorem dL_dec (P : List (List Int)) (m k : Nat) : dL P m k = (ext m k 0).filter fun s => decide (∀ x, x ∈ P → meets s x) := by
  unfold dL
  congr
  funext s
  congr
theorem sm_dpr (a b : Nat) : DpR (smD a b) 3 smF [[2]] 0 := .inr ⟨smD_ok a b, smF_ok a b 3 (by omega), .inr (.inr ⟨by omega, ⟨asZ [10, 12, 16, 20], by show ∀ i, i < 4 → 0 ≤ asZ [10, 12, 16, 20] i ∧ asZ [10, 12, 16, 20] i ≤ 400; decide, by show ∀ i, i < 3 → (gapF (smD 0 0) i).1 ≤ asZ [10, 12, 16, 20] (i + 1) - asZ [10, 12, 16, 20] i ∧ asZ [10, 12, 16, 20] (i + 1) - asZ [10, 12, 16, 20] i ≤ (gapF (smD 0 0) i).2; decide, fun i hi => by omega⟩, rfl, _, 1, sm_con a b, by omega, by rw [dL_dec]; decide, by decide, fun j hj => by
  obtain rfl : j = 0 := by omega
  rw [dL_dec]; decide⟩)⟩
theorem sm_aps (a b : Nat) : apS (gapF (smD a b)) smS 1 3 = (5, 10) := by show apS (gapF (smD 0 0)) smS 1 3 = (5, 10); decide
theorem sm_rat1 : ratP 5 2 = (5, 2) := by decide
theorem sm_rat2 : ratP 10 2 = (5, 1) := by decide
theorem sm_at : (lastP (fun i => (smS i).2) 16 4, lastP (fun i => (smS i).1) 16 4) = (1, 2) := by decide
end Go.Proofs.Ytpikaohodieeaaa
