import Derived.Test.YtmeljcbefnojfaaRwi
namespace Go.Proofs.Ytmeljcbefnojfaa
open Go.RowKit
theorem bothL_srt' (l r : List (Int × Int)) : Srt (bothL l r) := by
  unfold bothL
  have : ∀ (l : List (Int × Int)) (acc : List (Int × Int)), Srt acc → Srt (l.foldl (fun acc s => bothIn acc s r) acc) := by
    intro l
    induction l with
    | nil => intro acc h; exact h
    | cons s l ih => intro acc h; exact ih _ (bothIn_srt h)
  exact this l [] Srt.nil
theorem putAll_srt2 {l : List (Int × Int)} (hl : ∀ q ∈ l, q.1 ≤ q.2) : ∀ {acc : List (Int × Int)}, Srt acc → Srt (putAll acc l) := by
  induction l with
  | nil => intro acc h; exact h
  | cons s l ih => intro acc h; exact ih (fun q hq => hl q (List.mem_cons_of_mem _ hq)) (putL_srt acc s h (hl s List.mem_cons_self)).1
theorem putAll_has {l : List (Int × Int)} (hl : ∀ q ∈ l, q.1 ≤ q.2) : ∀ {acc : List (Int × Int)}, Srt acc → ∀ t, Has (putAll acc l) t ↔ Has acc t ∨ Has l t := by
  induction l with
  | nil => intro acc h t; simp [putAll, Has]
  | cons s l ih =>
    intro acc h t
    have hs := hl s List.mem_cons_self
    show Has (putAll (putL acc s) l) t ↔ _
    rw [ih (fun q hq => hl q (List.mem_cons_of_mem _ hq)) (putL_srt acc s h hs).1, putL_has acc s h.1 hs, Has.cons]
    constructor
    · rintro ((h | h) | h)
      · exact .inl h
      · exact .inr (.inl h)
      · exact .inr (.inr h)
    · rintro (h | h | h)
      · exact .inl (.inl h)
      · exact .inl (.inr h)
      · exact .inr h
theorem srt_low {q : Int × Int} {L : List (Int × Int)} (h : Srt (q :: L)) {t : Int} (ht : Has L t) : q.2 + 2 ≤ t := by
  obtain ⟨r, hr, h1, _⟩ := ht
  have := (List.pairwise_cons.1 h.2).1 r hr
  omega
/-- spans with numbers between them are told by what they hold -/
theorem srt_ext {L M : List (Int × Int)} (hL : Srt L) (hM : Srt M) (h : ∀ t, Has L t ↔ Has M t) : L = M := by
  induction L generalizing M with
  | nil =>
    cases M with
    | nil => rfl
    | cons r M =>
      obtain ⟨_, hq, _⟩ := (h r.1).2 ⟨r, List.mem_cons_self, Int.le_refl _, hM.1 r List.mem_cons_self⟩
      cases hq
  | cons q L ih =>
    cases M with
    | nil =>
      obtain ⟨_, hq, _⟩ := (h q.1).1 ⟨q, List.mem_cons_self, Int.le_refl _, hL.1 q List.mem_cons_self⟩
      cases hq
    | cons r M =>
      have hq := hL.1 q List.mem_cons_self
      have hr := hM.1 r List.mem_cons_self
      have low1 : ∀ t, Has L t → q.2 + 2 ≤ t := fun t ht => srt_low hL ht
      have low2 : ∀ t, Has M t → r.2 + 2 ≤ t := fun t ht => srt_low hM ht
      have h' : ∀ t, ((q.1 ≤ t ∧ t ≤ q.2) ∨ Has L t) ↔ ((r.1 ≤ t ∧ t ≤ r.2) ∨ Has M t) := fun t => by rw [← Has.cons, ← Has.cons]; exact h t
      have e1 : q.1 = r.1 := by
        have a1 := (h' q.1).1 (.inl ⟨Int.le_refl _, hq⟩)
        have a2 := (h' r.1).2 (.inl ⟨Int.le_refl _, hr⟩)
        rcases a1 with a1 | a1
        · rcases a2 with a2 | a2
          · omega
          · have := low1 _ a2; omega
        · have := low2 _ a1
          rcases a2 with a2 | a2
          · omega
          · have := low1 _ a2; omega
      have e2 : q.2 = r.2 := by
        rcases Int.lt_trichotomy q.2 r.2 with c | c | c
        · rcases (h' (q.2 + 1)).2 (.inl ⟨by omega, by omega⟩) with a | a
          · omega
          · have := low1 _ a; omega
        · exact c
        · rcases (h' (r.2 + 1)).1 (.inl ⟨by omega, by omega⟩) with a | a
          · omega
          · have := low2 _ a; omega
      obtain rfl : q = r := Prod.ext e1 e2
      congr 1
      refine ih hL.tail hM.tail fun t => ?_
      constructor
      · intro ht
        have := low1 t ht
        rcases (h' t).1 (.inr ht) with a | a
        · omega
        · exact a
      · intro ht
        have := low2 t ht
        rcases (h' t).2 (.inr ht) with a | a
        · omega
        · exact a
/-- a column as a set: one that shows nothing excludes nothing -/
def Inn (l : List (Int × Int)) (t : Int) : Prop := l = [] ∨ Has l t
def bc (l r : List (Int × Int)) : List (Int × Int) := if l = [] then r else if r = [] then l else bothL l r
def ec (l r : List (Int × Int)) : List (Int × Int) := if l = [] ∨ r = [] then [] else putAll l r
theorem bc_srt {l r : List (Int × Int)} (hl : Srt l) (hr : Srt r) : Srt (bc l r) := by
  unfold bc
  split
  · exact hr
  · split
    · exact hl
    · exact bothL_srt' _ _
theorem ec_srt {l r : List (Int × Int)} (hl : Srt l) (hr : Srt r) : Srt (ec l r) := by
  unfold ec
  split
  · exact Srt.nil
  · exact putAll_srt2 hr.1 hl
/-- what two columns have in common is nothing -/
def Non (l r : List (Int × Int)) : Prop := l ≠ [] ∧ bc l r = []
theorem has_out (l : List (Int × Int)) : ∃ t, ¬ Has l t := by
  have : ∀ l : List (Int × Int), ∃ B : Int, ∀ q ∈ l, q.2 < B := by
    intro l
    induction l with
    | nil => exact ⟨0, by simp⟩
    | cons q l ih =>
      obtain ⟨B, hB⟩ := ih
      refine ⟨max B (q.2 + 1), fun r hr => ?_⟩
      rcases List.mem_cons.1 hr with rfl | hr
      · omega
      · have := hB r hr; omega
  obtain ⟨B, hB⟩ := this l
  exact ⟨B, fun ⟨q, hq, h1, h2⟩ => by have := hB q hq; omega⟩
theorem srt_has {l : List (Int × Int)} (h : Srt l) (hne : l ≠ []) : ∃ t, Has l t := by
  cases l with
  | nil => exact absurd rfl hne
  | cons q l => exact ⟨q.1, q, List.mem_cons_self, Int.le_refl _, h.1 q List.mem_cons_self⟩
theorem inn_ext {l r : List (Int × Int)} (hl : Srt l) (hr : Srt r) (h : ∀ t, Inn l t ↔ Inn r t) : l = r := by
  by_cases c : l = []
  · by_cases c' : r = []
    · rw [c, c']
    · obtain ⟨t, ht⟩ := has_out r
      rcases (h t).1 (.inl c) with a | a
      · exact absurd a c'
      · exact absurd a ht
  · by_cases c' : r = []
    · obtain ⟨t, ht⟩ := has_out l
      rcases (h t).2 (.inl c') with a | a
      · exact absurd a c
      · exact absurd a ht
    · refine srt_ext hl hr fun t => ?_
      have := h t
      unfold Inn at this
      simpa [c, c'] using this
theorem bc_inn {l r : List (Int × Int)} (hn : ¬ Non l r) (t : Int) : Inn (bc l r) t ↔ Inn l t ∧ Inn r t := by
  by_cases c : l = []
  · subst c
    have : bc [] r = r := by unfold bc; rw [if_pos rfl]
    rw [this]
    exact ⟨fun h => ⟨.inl rfl, h⟩, fun h => h.2⟩
  · by_cases c' : r = []
    · subst c'
      have : bc l [] = l := by unfold bc; rw [if_neg c, if_pos rfl]
      rw [this]
      exact ⟨fun h => ⟨h, .inl rfl⟩, fun h => h.1⟩
    · have e : bc l r = bothL l r := by unfold bc; rw [if_neg c, if_neg c']
      have hne : bothL l r ≠ [] := fun h => hn ⟨c, e.trans h⟩
      rw [e]
      unfold Inn
      simp only [c, c', hne, false_or]
      exact bothL_has l r t
theorem ec_inn {l r : List (Int × Int)} (hl : Srt l) (hr : Srt r) (t : Int) : Inn (ec l r) t ↔ Inn l t ∨ Inn r t := by
  unfold ec
  by_cases c : l = []
  · rw [if_pos (.inl c)]
    exact ⟨fun _ => .inl (.inl c), fun _ => .inl rfl⟩
  · by_cases c' : r = []
    · rw [if_pos (.inr c')]
      exact ⟨fun _ => .inr (.inl c'), fun _ => .inl rfl⟩
    · rw [if_neg (by simp [c, c'])]
      unfold Inn
      have := putAll_ne (l := r) c
      simp only [c, c', this, false_or]
      exact putAll_has hr.1 hl t
/-- each end of a span of the one is in the other -/
def Win (l r : List (Int × Int)) : Prop := ∀ t, Inn l t → Inn r t
theorem non_iff {l r : List (Int × Int)} : Non l r ↔ l ≠ [] ∧ r ≠ [] ∧ ∀ t, ¬ (Has l t ∧ Has r t) := by
  constructor
  · rintro ⟨c, h⟩
    by_cases c' : r = []
    · subst c'
      have : bc l [] = l := by unfold bc; rw [if_neg c, if_pos rfl]
      exact absurd (this.symm.trans h) c
    · have e : bc l r = bothL l r := by unfold bc; rw [if_neg c, if_neg c']
      refine ⟨c, c', fun t ht => ?_⟩
      obtain ⟨q, hq, _⟩ := (bothL_has l r t).2 ht
      rw [← e, h] at hq
      cases hq
  · rintro ⟨c, c', h⟩
    refine ⟨c, ?_⟩
    have e : bc l r = bothL l r := by unfold bc; rw [if_neg c, if_neg c']
    rw [e]
    have hs := bothL_srt' l r
    refine Classical.byContradiction fun hne => ?_
    obtain ⟨t, ht⟩ := srt_has hs hne
    exact h t ((bothL_has l r t).1 ht)
theorem non_symm {l r : List (Int × Int)} (h : Non l r) : Non r l := by
  rw [non_iff] at h ⊢
  exact ⟨h.2.1, h.1, fun t ht => h.2.2 t ⟨ht.2, ht.1⟩⟩
theorem bc_symm {l r : List (Int × Int)} (hl : Srt l) (hr : Srt r) : bc l r = bc r l := by
  by_cases c : Non l r
  · rw [c.2, (non_symm c).2]
  · refine inn_ext (bc_srt hl hr) (bc_srt hr hl) fun t => ?_
    rw [bc_inn c, bc_inn fun h => c (non_symm h)]
    exact ⟨fun h => ⟨h.2, h.1⟩, fun h => ⟨h.2, h.1⟩⟩
theorem ec_symm {l r : List (Int × Int)} (hl : Srt l) (hr : Srt r) : ec l r = ec r l :=
  inn_ext (ec_srt hl hr) (ec_srt hr hl) fun t => by rw [ec_inn hl hr, ec_inn hr hl]; exact ⟨Or.symm, Or.symm⟩
theorem non_self {l : List (Int × Int)} (h : Srt l) : ¬ Non l l := by
  rw [non_iff]
  rintro ⟨c, _, h'⟩
  obtain ⟨t, ht⟩ := srt_has h c
  exact h' t ⟨ht, ht⟩
theorem bc_self {l : List (Int × Int)} (h : Srt l) : bc l l = l :=
  inn_ext (bc_srt h h) h fun t => by rw [bc_inn (non_self h)]; exact ⟨fun h => h.1, fun h => ⟨h, h⟩⟩
theorem ec_self {l : List (Int × Int)} (h : Srt l) : ec l l = l :=
  inn_ext (ec_srt h h) h fun t => by rw [ec_inn h h]; exact ⟨fun h => h.elim id id, .inl⟩
theorem ec_bc {l r : List (Int × Int)} (hl : Srt l) (hr : Srt r) (hn : ¬ Non l r) : ec l (bc l r) = l :=
  inn_ext (ec_srt hl (bc_srt hl hr)) hl fun t => by
    rw [ec_inn hl (bc_srt hl hr), bc_inn hn]
    exact ⟨fun h => h.elim id (fun h => h.1), .inl⟩
theorem non_ec {l r : List (Int × Int)} (hl : Srt l) (hr : Srt r) : ¬ Non l (ec l r) := by
  rw [non_iff]
  rintro ⟨c, c', h⟩
  obtain ⟨t, ht⟩ := srt_has hl c
  refine h t ⟨ht, ?_⟩
  rcases (ec_inn hl hr t).2 (.inl (.inr ht)) with a | a
  · exact absurd a c'
  · exact a
theorem bc_ec {l r : List (Int × Int)} (hl : Srt l) (hr : Srt r) : bc l (ec l r) = l :=
  inn_ext (bc_srt hl (ec_srt hl hr)) hl fun t => by
    rw [bc_inn (non_ec hl hr), ec_inn hl hr]
    exact ⟨fun h => h.1, fun h => ⟨h, .inl h⟩⟩
theorem win_bc {l r : List (Int × Int)} (hl : Srt l) (hr : Srt r) : Win l r ↔ ¬ Non l r ∧ bc l r = l := by
  constructor
  · intro h
    have hn : ¬ Non l r := by
      rw [non_iff]
      rintro ⟨c, c', h'⟩
      obtain ⟨t, ht⟩ := srt_has hl c
      rcases h t (.inr ht) with a | a
      · exact absurd a c'
      · exact h' t ⟨ht, a⟩
    refine ⟨hn, inn_ext (bc_srt hl hr) hl fun t => ?_⟩
    rw [bc_inn hn]
    exact ⟨fun h => h.1, fun ht => ⟨ht, h t ht⟩⟩
  · rintro ⟨hn, e⟩ t ht
    rw [← e, bc_inn hn] at ht
    exact ht.2
theorem win_ec {l r : List (Int × Int)} (hl : Srt l) (hr : Srt r) : Win l r ↔ ec l r = r := by
  constructor
  · intro h
    refine inn_ext (ec_srt hl hr) hr fun t => ?_
    rw [ec_inn hl hr]
    exact ⟨fun h' => h'.elim (h t) id, .inr⟩
  · intro e t ht
    rw [← e, ec_inn hl hr]
    exact .inl ht
theorem win_bc_left {l r : List (Int × Int)} (hn : ¬ Non l r) : Win (bc l r) l := fun t h => ((bc_inn hn t).1 h).1
theorem win_bc_right {l r : List (Int × Int)} (hn : ¬ Non l r) : Win (bc l r) r := fun t h => ((bc_inn hn t).1 h).2
theorem win_bc_iff {k l r : List (Int × Int)} (hn : ¬ Non l r) : Win k (bc l r) ↔ Win k l ∧ Win k r :=
  ⟨fun h => ⟨fun t ht => ((bc_inn hn t).1 (h t ht)).1, fun t ht => ((bc_inn hn t).1 (h t ht)).2⟩, fun h t ht => (bc_inn hn t).2 ⟨h.1 t ht, h.2 t ht⟩⟩
theorem win_non {k l r : List (Int × Int)} (hk : Srt k) (h1 : Win k l) (h2 : Win k r) : ¬ Non l r := by
  rw [non_iff]
  rintro ⟨c, c', h⟩
  by_cases ck : k = []
  · obtain ⟨t, ht⟩ := has_out l
    rcases h1 t (.inl ck) with a | a
    · exact c a
    · exact ht a
  · obtain ⟨t, ht⟩ := srt_has hk ck
    rcases h1 t (.inr ht) with a | a
    · exact c a
    · rcases h2 t (.inr ht) with b | b
      · exact c' b
      · exact h t ⟨a, b⟩
theorem win_ec_left {l r : List (Int × Int)} (hl : Srt l) (hr : Srt r) : Win l (ec l r) := fun t h => (ec_inn hl hr t).2 (.inl h)
theorem win_ec_iff {k l r : List (Int × Int)} (hl : Srt l) (hr : Srt r) : Win (ec l r) k ↔ Win l k ∧ Win r k :=
  ⟨fun h => ⟨fun t ht => h t ((ec_inn hl hr t).2 (.inl ht)), fun t ht => h t ((ec_inn hl hr t).2 (.inr ht))⟩, fun h t ht => ((ec_inn hl hr t).1 ht).elim (h.1 t) (h.2 t)⟩
theorem bc_assoc {k l r : List (Int × Int)} (hk : Srt k) (hl : Srt l) (hr : Srt r) (h1 : ¬ Non k l) (h2 : ¬ Non (bc k l) r) (h3 : ¬ Non l r) (h4 : ¬ Non k (bc l r)) : bc (bc k l) r = bc k (bc l r) :=
  inn_ext (bc_srt (bc_srt hk hl) hr) (bc_srt hk (bc_srt hl hr)) fun t => by
    rw [bc_inn h2, bc_inn h1, bc_inn h4, bc_inn h3]
    exact ⟨fun h => ⟨h.1.1, h.1.2, h.2⟩, fun h => ⟨⟨h.1, h.2.1⟩, h.2.2⟩⟩
theorem ec_assoc {k l r : List (Int × Int)} (hk : Srt k) (hl : Srt l) (hr : Srt r) : ec (ec k l) r = ec k (ec l r) :=
  inn_ext (ec_srt (ec_srt hk hl) hr) (ec_srt hk (ec_srt hl hr)) fun t => by
    rw [ec_inn (ec_srt hk hl) hr, ec_inn hk hl, ec_inn hk (ec_srt hl hr), ec_inn hl hr]
    exact ⟨fun h => h.elim (fun h => h.elim .inl (fun h => .inr (.inl h))) (fun h => .inr (.inr h)), fun h => h.elim (fun h => .inl (.inl h)) (fun h => h.elim (fun h => .inl (.inr h)) .inr)⟩
theorem setOk_of {S : Nat → Int × Int} {n : Nat} (h : Srt (firstK S n)) (hr : ∀ q ∈ firstK S n, 0 ≤ q.1 ∧ q.2 ≤ 12000) : SetOk S n := by
  have mem : ∀ i, i < n → S i ∈ firstK S n := fun i hi => List.mem_map.2 ⟨i, List.mem_range.2 hi, rfl⟩
  intro i hi
  refine ⟨?_, h.1 _ (mem i hi), (hr _ (mem i hi)).2⟩
  cases i with
  | zero => exact (hr _ (mem 0 hi)).1
  | succ j =>
    have hp := List.pairwise_iff_getElem.1 h.2 j (j + 1) (by simp [firstK]; omega) (by simp [firstK]; omega) (by omega)
    simpa [firstK, lst] using hp
def Rng (l : List (Int × Int)) : Prop := ∀ q ∈ l, 0 ≤ q.1 ∧ q.2 ≤ 12000
theorem rng_has {l : List (Int × Int)} (h : Rng l) {t : Int} (ht : Has l t) : 0 ≤ t ∧ t ≤ 12000 := by
  obtain ⟨q, hq, h1, h2⟩ := ht
  have := h q hq
  omega
theorem rng_of {l : List (Int × Int)} (hs : Srt l) (h : ∀ t, Has l t → 0 ≤ t ∧ t ≤ 12000) : Rng l := fun q hq =>
  ⟨(h q.1 ⟨q, hq, Int.le_refl _, hs.1 q hq⟩).1, (h q.2 ⟨q, hq, hs.1 q hq, Int.le_refl _⟩).2⟩
theorem bc_rng {l r : List (Int × Int)} (h : Rng l) (h' : Rng r) : Rng (bc l r) := by
  unfold bc
  split
  · exact h'
  · split
    · exact h
    · exact rng_of (bothL_srt' _ _) fun t ht => rng_has h ((bothL_has l r t).1 ht).1
theorem ec_rng {l r : List (Int × Int)} (hl : Srt l) (hr : Srt r) (h : Rng l) (h' : Rng r) : Rng (ec l r) := by
  unfold ec
  split
  · intro q hq; cases hq
  · exact rng_of (putAll_srt2 hr.1 hl) fun t ht => ((putAll_has hr.1 hl t).1 ht).elim (rng_has h) (rng_has h')
/-- what a valid sheet holds -/
def Good (n : Nat) (M : Nat → List (Int × Int)) : Prop := 1 ≤ n ∧ n ≤ 200 ∧ ∀ c, c < n → (M c).length ≤ 8 ∧ Srt (M c) ∧ Rng (M c)
def Reads (X : Cls) (n : Nat) (M : Nat → List (Int × Int)) : Prop := ∀ c, c < n → X.L c = (M c).length ∧ firstK (X.S c) (X.L c) = M c
theorem good_iff {X : Cls} {n : Nat} {M : Nat → List (Int × Int)} (h : Reads X n M) : InkOk X n ↔ Good n M := by
  constructor
  · rintro ⟨h1, h2, h3⟩
    refine ⟨h1, h2, fun c hc => ?_⟩
    obtain ⟨r1, r2⟩ := h3 c hc
    obtain ⟨e1, e2⟩ := h c hc
    refine ⟨by omega, e2 ▸ r2.srt (Nat.le_refl _), ?_⟩
    rw [← e2]
    intro q hq
    obtain ⟨i, hi, rfl⟩ := List.mem_map.1 hq
    have hi := List.mem_range.1 hi
    have hb := (SetOk.lst_bd (S := X.S c) (k := i) (fun j hj => r2 j (by omega))).1
    have := r2 i hi
    omega
  · rintro ⟨h1, h2, h3⟩
    refine ⟨h1, h2, fun c hc => ?_⟩
    obtain ⟨r1, r2, r3⟩ := h3 c hc
    obtain ⟨e1, e2⟩ := h c hc
    rw [← e2] at r2 r3
    exact ⟨by omega, setOk_of r2 r3⟩
theorem bthL_bc {S R : Nat → Int × Int} {n m : Nat} (hS : Srt (firstK S n)) (hR : Srt (firstK R m)) : bthL S R n m = bc (firstK S n) (firstK R m) := by
  have e : ∀ (T : Nat → Int × Int) (k : Nat), firstK T k = [] ↔ k = 0 := fun T k => by simp [firstK]
  unfold bthL bc
  by_cases c : n = 0
  · rw [if_pos (.inl c), if_pos ((e S n).2 c), (e S n).2 c]
    exact putAll_nil hR
  · by_cases c' : m = 0
    · rw [if_pos (.inr c'), if_neg (fun h => c ((e S n).1 h)), if_pos ((e R m).2 c'), (e R m).2 c', putAll_nil hS]
      rfl
    · rw [if_neg (by omega), if_neg (fun h => c ((e S n).1 h)), if_neg (fun h => c' ((e R m).1 h))]
theorem eitL_ec {S R : Nat → Int × Int} {n m : Nat} (hS : Srt (firstK S n)) : eitL S R n m = ec (firstK S n) (firstK R m) := by
  have e : ∀ (T : Nat → Int × Int) (k : Nat), firstK T k = [] ↔ k = 0 := fun T k => by simp [firstK]
  unfold eitL ec
  simp only [e]
  split
  · rfl
  · rw [putAll_nil hS]
/-- the error of two sheets that must be alike -/
def alE (n m : Nat) (M N : Nat → List (Int × Int)) (E : Int) : Prop := ¬ Good n M ∧ E = 12 ∨ Good n M ∧ ¬ Good m N ∧ E = 12 ∨ Good n M ∧ Good m N ∧ n ≠ m ∧ E = 1 ∨ Good n M ∧ Good m N ∧ n = m ∧ E = 0
theorem alE_ex (n m : Nat) (M N : Nat → List (Int × Int)) : ∃ E, alE n m M N E := by
  by_cases h1 : Good n M
  · by_cases h2 : Good m N
    · by_cases h3 : n = m
      · exact ⟨0, .inr (.inr (.inr ⟨h1, h2, h3, rfl⟩))⟩
      · exact ⟨1, .inr (.inr (.inl ⟨h1, h2, h3, rfl⟩))⟩
    · exact ⟨12, .inr (.inl ⟨h1, h2, rfl⟩)⟩
  · exact ⟨12, .inl ⟨h1, rfl⟩⟩
theorem alE_zero {n m : Nat} {M N : Nat → List (Int × Int)} (h : alE n m M N 0) : Good n M ∧ Good m N ∧ n = m := by
  rcases h with h | h | h | h
  · exact absurd h.2 (by decide)
  · exact absurd h.2.2 (by decide)
  · exact absurd h.2.2.2 (by decide)
  · exact ⟨h.1, h.2.1, h.2.2.1⟩
theorem alE_symm {n m : Nat} {M N : Nat → List (Int × Int)} {E : Int} (h : alE n m M N E) : alE m n N M E := by
  rcases h with h | h | h | h
  · by_cases c : Good m N
    · exact .inr (.inl ⟨c, h.1, h.2⟩)
    · exact .inl ⟨c, h.2⟩
  · exact .inl ⟨h.2.1, h.2.2⟩
  · exact .inr (.inr (.inl ⟨h.2.1, h.1, fun e => h.2.2.1 e.symm, h.2.2.2⟩))
  · exact .inr (.inr (.inr ⟨h.2.1, h.1, h.2.2.1.symm, h.2.2.2⟩))
theorem alE_alk {x y : Cls} {n m : Nat} {M N : Nat → List (Int × Int)} {E : Int} (hx : Reads x n M) (hy : Reads y m N) : alkE x y n m E ↔ alE n m M N E := by
  unfold alkE alE
  rw [good_iff hx, good_iff hy]
def bthE (n m : Nat) (M N : Nat → List (Int × Int)) (E : Int) : Prop :=
  (alE n m M N E ∧ E ≠ 0) ∨ (alE n m M N 0 ∧ ((E = 2 ∧ ¬ ∀ c, c < n → (bc (M c) (N c)).length ≤ 8) ∨ ((∀ c, c < n → (bc (M c) (N c)).length ≤ 8) ∧ ((E = 3 ∧ ∃ c, c < n ∧ Non (M c) (N c)) ∨ (E = 0 ∧ ∀ c, c < n → ¬ Non (M c) (N c))))))
def eitE (n m : Nat) (M N : Nat → List (Int × Int)) (E : Int) : Prop :=
  (alE n m M N E ∧ E ≠ 0) ∨ (alE n m M N 0 ∧ ((E = 2 ∧ ¬ ∀ c, c < n → (ec (M c) (N c)).length ≤ 8) ∨ (E = 0 ∧ ∀ c, c < n → (ec (M c) (N c)).length ≤ 8)))
theorem bthE_ex (n m : Nat) (M N : Nat → List (Int × Int)) : ∃ E, bthE n m M N E := by
  obtain ⟨E, h⟩ := alE_ex n m M N
  by_cases h0 : E = 0
  · subst h0
    by_cases h1 : ∀ c, c < n → (bc (M c) (N c)).length ≤ 8
    · by_cases h2 : ∃ c, c < n ∧ Non (M c) (N c)
      · exact ⟨3, .inr ⟨h, .inr ⟨h1, .inl ⟨rfl, h2⟩⟩⟩⟩
      · exact ⟨0, .inr ⟨h, .inr ⟨h1, .inr ⟨rfl, fun c hc hn => h2 ⟨c, hc, hn⟩⟩⟩⟩⟩
    · exact ⟨2, .inr ⟨h, .inl ⟨rfl, h1⟩⟩⟩
  · exact ⟨E, .inl ⟨h, h0⟩⟩
theorem eitE_ex (n m : Nat) (M N : Nat → List (Int × Int)) : ∃ E, eitE n m M N E := by
  obtain ⟨E, h⟩ := alE_ex n m M N
  by_cases h0 : E = 0
  · subst h0
    by_cases h1 : ∀ c, c < n → (ec (M c) (N c)).length ≤ 8
    · exact ⟨0, .inr ⟨h, .inr ⟨rfl, h1⟩⟩⟩
    · exact ⟨2, .inr ⟨h, .inl ⟨rfl, h1⟩⟩⟩
  · exact ⟨E, .inl ⟨h, h0⟩⟩
theorem bthE_zero {n m : Nat} {M N : Nat → List (Int × Int)} (h : bthE n m M N 0) : Good n M ∧ Good m N ∧ n = m ∧ (∀ c, c < n → (bc (M c) (N c)).length ≤ 8) ∧ ∀ c, c < n → ¬ Non (M c) (N c) := by
  rcases h with h | ⟨h, h' | ⟨h1, h' | h'⟩⟩
  · exact absurd rfl h.2
  · exact absurd h'.1 (by decide)
  · exact absurd h'.1 (by decide)
  · have := alE_zero h
    exact ⟨this.1, this.2.1, this.2.2, h1, h'.2⟩
theorem eitE_zero {n m : Nat} {M N : Nat → List (Int × Int)} (h : eitE n m M N 0) : Good n M ∧ Good m N ∧ n = m ∧ ∀ c, c < n → (ec (M c) (N c)).length ≤ 8 := by
  rcases h with h | ⟨h, h' | h'⟩
  · exact absurd rfl h.2
  · exact absurd h'.1 (by decide)
  · have := alE_zero h
    exact ⟨this.1, this.2.1, this.2.2, h'.2⟩
theorem Good.bc {n : Nat} {M N : Nat → List (Int × Int)} (h : Good n M) (h' : Good n N) (h8 : ∀ c, c < n → (bc (M c) (N c)).length ≤ 8) : Good n fun c => bc (M c) (N c) :=
  ⟨h.1, h.2.1, fun c hc => ⟨h8 c hc, bc_srt (h.2.2 c hc).2.1 (h'.2.2 c hc).2.1, bc_rng (h.2.2 c hc).2.2 (h'.2.2 c hc).2.2⟩⟩
theorem Good.ec {n : Nat} {M N : Nat → List (Int × Int)} (h : Good n M) (h' : Good n N) (h8 : ∀ c, c < n → (ec (M c) (N c)).length ≤ 8) : Good n fun c => ec (M c) (N c) :=
  ⟨h.1, h.2.1, fun c hc => ⟨h8 c hc, ec_srt (h.2.2 c hc).2.1 (h'.2.2 c hc).2.1, ec_rng (h.2.2 c hc).2.1 (h'.2.2 c hc).2.1 (h.2.2 c hc).2.2 (h'.2.2 c hc).2.2⟩⟩
theorem bthE_symm {n m : Nat} {M N : Nat → List (Int × Int)} {E : Int} (h : bthE n m M N E) : bthE m n N M E := by
  rcases h with h | ⟨h, h'⟩
  · exact .inl ⟨alE_symm h.1, h.2⟩
  · obtain ⟨g1, g2, rfl⟩ := alE_zero h
    have e : ∀ c, c < n → (bc (N c) (M c)).length = (bc (M c) (N c)).length := fun c hc => by rw [bc_symm (g2.2.2 c hc).2.1 (g1.2.2 c hc).2.1]
    have e8 : (∀ c, c < n → (bc (N c) (M c)).length ≤ 8) ↔ ∀ c, c < n → (bc (M c) (N c)).length ≤ 8 := ⟨fun h c hc => by rw [← e c hc]; exact h c hc, fun h c hc => by rw [e c hc]; exact h c hc⟩
    refine .inr ⟨alE_symm h, ?_⟩
    rw [e8]
    rcases h' with h' | ⟨h1, ⟨h2, c, hc, h3⟩ | h'⟩
    · exact .inl h'
    · exact .inr ⟨h1, .inl ⟨h2, c, hc, non_symm h3⟩⟩
    · exact .inr ⟨h1, .inr ⟨h'.1, fun c hc hn => h'.2 c hc (non_symm hn)⟩⟩
theorem eitE_symm {n m : Nat} {M N : Nat → List (Int × Int)} {E : Int} (h : eitE n m M N E) : eitE m n N M E := by
  rcases h with h | ⟨h, h'⟩
  · exact .inl ⟨alE_symm h.1, h.2⟩
  · obtain ⟨g1, g2, rfl⟩ := alE_zero h
    have e : ∀ c, c < n → (ec (N c) (M c)).length = (ec (M c) (N c)).length := fun c hc => by rw [ec_symm (g2.2.2 c hc).2.1 (g1.2.2 c hc).2.1]
    have e8 : (∀ c, c < n → (ec (N c) (M c)).length ≤ 8) ↔ ∀ c, c < n → (ec (M c) (N c)).length ≤ 8 := ⟨fun h c hc => by rw [← e c hc]; exact h c hc, fun h c hc => by rw [e c hc]; exact h c hc⟩
    refine .inr ⟨alE_symm h, ?_⟩
    rw [e8]
    exact h'
theorem win_winC {x y : Cls} {n m : Nat} {M N : Nat → List (Int × Int)} (hx : Reads x n M) (hy : Reads y m N) {i : Nat} (hi : i < n) (hj : i < m) (h1 : Srt (M i)) (h2 : Srt (N i)) : WinC x y i ↔ Win (M i) (N i) := by
  have a := hx i hi
  have b := hy i hj
  unfold WinC
  rw [a.2, b.2, a.1, b.1]
  have el : ∀ l : List (Int × Int), 0 < l.length ↔ l ≠ [] := fun l => by cases l <;> simp
  rw [el, el, win_bc h1 h2]
  unfold Non bc
  by_cases c : N i = []
  · simp [c]
  · by_cases c' : M i = []
    · simp [c, c']
    · simp only [c, c', if_false, ne_eq, not_false_eq_true, true_implies, true_and]
      constructor
      · intro h; exact ⟨fun h' => c' (h.symm.trans h'), h⟩
      · intro h; exact h.2
theorem bothE_of {x : Cls} {n : Nat} {M N L : Nat → List (Int × Int)} {E : Int} (hx : Reads x n M) (hL : ∀ c, c < n → L c = bc (M c) (N c)) (h : (E = 2 ∧ ¬ ∀ c, c < n → (bc (M c) (N c)).length ≤ 8) ∨ ((∀ c, c < n → (bc (M c) (N c)).length ≤ 8) ∧ ((E = 3 ∧ ∃ c, c < n ∧ Non (M c) (N c)) ∨ (E = 0 ∧ ∀ c, c < n → ¬ Non (M c) (N c))))) :
    ∃ E0, BothE x n L E0 E := by
  have e8 : (∀ c, c < n → (L c).length ≤ 8) ↔ ∀ c, c < n → (bc (M c) (N c)).length ≤ 8 := ⟨fun h c hc => by rw [← hL c hc]; exact h c hc, fun h c hc => by rw [hL c hc]; exact h c hc⟩
  have en : ∀ c, c < n → ((L c).length = 0 ∧ 0 < x.L c ↔ Non (M c) (N c)) := fun c hc => by
    rw [(hx c hc).1, hL c hc]
    unfold Non
    have el : ∀ l : List (Int × Int), 0 < l.length ↔ l ≠ [] := fun l => by cases l <;> simp
    have el' : ∀ l : List (Int × Int), l.length = 0 ↔ l = [] := fun l => by cases l <;> simp
    rw [el, el']
    exact And.comm
  unfold BothE
  rw [e8]
  rcases h with h | ⟨h1, ⟨h2, c, hc, h3⟩ | h'⟩
  · exact ⟨2, .inl ⟨rfl, h.1, h.2⟩⟩
  · exact ⟨0, .inr (.inl ⟨rfl, h2, h1, c, hc, (en c hc).2 h3⟩)⟩
  · exact ⟨0, .inr (.inr ⟨rfl, h'.1, h1, fun c hc hn => h'.2 c hc ((en c hc).1 hn)⟩)⟩
theorem bothE_one {x : Cls} {n : Nat} {L : Nat → List (Int × Int)} {E0 E1 E E' : Int} (h : BothE x n L E0 E) (h' : BothE x n L E1 E') : E = E' := by
  rcases h with h | h | h <;> rcases h' with h' | h' | h'
  · rw [h.2.1, h'.2.1]
  · exact absurd h'.2.2.1 h.2.2
  · exact absurd h'.2.2.1 h.2.2
  · exact absurd h.2.2.1 h'.2.2
  · rw [h.2.1, h'.2.1]
  · obtain ⟨c, hc, hh⟩ := h.2.2.2; exact absurd hh (h'.2.2.2 c hc)
  · exact absurd h.2.2.1 h'.2.2
  · obtain ⟨c, hc, hh⟩ := h'.2.2.2; exact absurd hh (h.2.2.2 c hc)
  · rw [h.2.1, h'.2.1]
end Go.Proofs.Ytmeljcbefnojfaa
