import Derived.Test.YtmeljcbefnojfaaLtm
namespace Go.Proofs.Ytmeljcbefnojfaa
open Go.RowKit
/-- a sheet in memory, by what its columns hold -/
def Sheet (A : Option Addr) (n : Nat) (M : Nat → List (Int × Int)) (w : World) : Prop := ∃ X : Cls, ClsIn A n X w.heap.size w ∧ Reads X n M
theorem Sheet.up {A : Option Addr} {n : Nat} {M : Nat → List (Int × Int)} {w w' : World} (h : Sheet A n M w) (hb : Below w.heap.size w w') : Sheet A n M w' := by
  obtain ⟨X, h1, h2⟩ := h
  exact ⟨X, (h1.up hb (Nat.le_refl _)).more hb.size, h2⟩
theorem Sheet.zero (A : Option Addr) (M : Nat → List (Int × Int)) (w : World) : Sheet A 0 M w :=
  ⟨⟨fun _ => none, fun _ => 0, fun _ => 0, fun _ _ => (0, 0)⟩, ⟨by omega, fun i hi => absurd hi (by omega)⟩, fun c hc => absurd hc (by omega)⟩
theorem Sheet.turn {A : Option Addr} {n : Nat} {M N : Nat → List (Int × Int)} {w : World} (h : Sheet A n M w) (e : ∀ c, c < n → M c = N c) : Sheet A n N w := by
  obtain ⟨X, h1, h2⟩ := h
  exact ⟨X, h1, fun c hc => by rw [← e c hc]; exact h2 c hc⟩
/-- what a function of two sheets returns: a sheet, or an error and nothing -/
def ShQ (n : Nat) (L : Nat → List (Int × Int)) (E : Int) (A : Option Addr) (k : Nat) (w : World) : Prop := Sheet A k L w ∧ (E = 0 → k = n) ∧ (E ≠ 0 → k = 0)
theorem ShQ.up {n k : Nat} {L : Nat → List (Int × Int)} {E : Int} {A : Option Addr} {w w' : World} (h : ShQ n L E A k w) (hb : Below w.heap.size w w') : ShQ n L E A k w' := ⟨h.1.up hb, h.2⟩
def ShP (n : Nat) (L : Nat → List (Int × Int)) (E : Int) (w : World) (e : Ending) (w' : World) : Prop :=
  ∃ A k c, e = .returned (.tuple #[.agg #[.slice A k c], .int .i64 E]) ∧ Below w.heap.size w w' ∧ Hid (ShQ n L E A k w')
theorem inkP_sh {n : Nat} {Lc L : Nat → List (Int × Int)} {E : Int} {w w' : World} {e : Ending} (h : InkP n Lc E w e w') (hL : ∀ c, c < n → Lc c = L c) : ShP n L E w e w' := by
  obtain ⟨A, k, c, h1, h2, ⟨e0, rfl, X, x1, x2, _⟩ | ⟨e0, rfl⟩⟩ := h
  · exact ⟨A, k, c, h1, h2, Lib.hid ⟨⟨X, x1, fun c hc => by rw [← hL c hc]; exact x2 c hc⟩, fun _ => rfl, fun h => absurd e0 h⟩⟩
  · exact ⟨A, 0, c, h1, h2, Lib.hid ⟨Sheet.zero _ _ _, fun h => absurd h e0, fun _ => rfl⟩⟩
theorem alE_three {x y : Cls} {n m : Nat} {M N : Nat → List (Int × Int)} {E : Int} (hx : Reads x n M) (hy : Reads y m N) (h : alE n m M N E) (h0 : E ≠ 0) : ¬ InkOk x n ∧ E = 12 ∨ InkOk x n ∧ ¬ InkOk y m ∧ E = 12 ∨ InkOk x n ∧ InkOk y m ∧ n ≠ m ∧ E = 1 := by
  rcases (alE_alk hx hy).2 h with h | h | h | h
  · exact .inl h
  · exact .inr (.inl h)
  · exact .inr (.inr h)
  · exact absurd h.2.2.2 h0
theorem bthL_reads {x y : Cls} {n : Nat} {M N : Nat → List (Int × Int)} (rx : Reads x n M) (ry : Reads y n N) (g1 : Good n M) (g2 : Good n N) : ∀ c, c < n → bthL (x.S c) (y.S c) (x.L c) (y.L c) = bc (M c) (N c) := fun c hc => by
  rw [bthL_bc (by rw [(rx c hc).2]; exact (g1.2.2 c hc).2.1) (by rw [(ry c hc).2]; exact (g2.2.2 c hc).2.1), (rx c hc).2, (ry c hc).2]
theorem eitL_reads {x y : Cls} {n : Nat} {M N : Nat → List (Int × Int)} (rx : Reads x n M) (ry : Reads y n N) (g1 : Good n M) : ∀ c, c < n → eitL (x.S c) (y.S c) (x.L c) (y.L c) = ec (M c) (N c) := fun c hc => by
  rw [eitL_ec (by rw [(rx c hc).2]; exact (g1.2.2 c hc).2.1), (rx c hc).2, (ry c hc).2]
theorem Both_sh (A B : Option Addr) (n m c d : Nat) (M N : Nat → List (Int × Int)) (E : Int) (w : World) (ha : Sheet A n M w) (hb : Sheet B m N w) (hE : bthE n m M N E) :
    Calls Try.prog 56 #[.agg #[.slice A n c], .agg #[.slice B m d]] w (ShP n (fun c => bc (M c) (N c)) E w) := by
  obtain ⟨x, hx, rx⟩ := ha
  obtain ⟨y, hy, ry⟩ := hb
  rcases hE with ⟨h, h0⟩ | ⟨h, h'⟩
  · exact (Both_err A B n m c d x y E w hx hy (alE_three rx ry h h0) (fun c => bc (M c) (N c))).mono fun e w' hq => inkP_sh hq fun _ _ => rfl
  · obtain ⟨g1, g2, rfl⟩ := alE_zero h
    obtain ⟨E1, E2, hb2, hc⟩ := Both_okk A B n c d x y w hx hy ((good_iff rx).2 g1) ((good_iff ry).2 g2) _ rfl
    have hL := bthL_reads rx ry g1 g2
    obtain ⟨E0, hb1⟩ := bothE_of rx hL h'
    obtain rfl := bothE_one hb1 hb2
    exact hc.mono fun e w' hq => inkP_sh hq hL
theorem Either_sh (A B : Option Addr) (n m c d : Nat) (M N : Nat → List (Int × Int)) (E : Int) (w : World) (ha : Sheet A n M w) (hb : Sheet B m N w) (hE : eitE n m M N E) :
    Calls Try.prog 58 #[.agg #[.slice A n c], .agg #[.slice B m d]] w (ShP n (fun c => ec (M c) (N c)) E w) := by
  obtain ⟨x, hx, rx⟩ := ha
  obtain ⟨y, hy, ry⟩ := hb
  rcases hE with ⟨h, h0⟩ | ⟨h, h'⟩
  · exact (Either_err A B n m c d x y E w hx hy (alE_three rx ry h h0) (fun c => ec (M c) (N c))).mono fun e w' hq => inkP_sh hq fun _ _ => rfl
  · obtain ⟨g1, g2, rfl⟩ := alE_zero h
    obtain ⟨E1, hb2, hc⟩ := Either_ok A B n c d x y w hx hy ((good_iff rx).2 g1) ((good_iff ry).2 g2) _ rfl
    have hL := eitL_reads rx ry g1
    have e8 : (∀ c, c < n → ((fun k => eitL (x.S k) (y.S k) (x.L k) (y.L k)) c).length ≤ 8) ↔ ∀ c, c < n → (ec (M c) (N c)).length ≤ 8 := ⟨fun h c hc => by rw [← hL c hc]; exact h c hc, fun h c hc => by show (eitL _ _ _ _).length ≤ 8; rw [hL c hc]; exact h c hc⟩
    rw [e8] at hb2
    obtain rfl : E1 = E := by
      rcases hb2 with a | a <;> rcases h' with b | b
      · exact absurd a.2 b.2
      · rw [a.1, b.1]
      · rw [a.1, b.1]
      · exact absurd b.2 a.2
    exact hc.mono fun e w' hq => inkP_sh hq hL
theorem Within_sh (A B : Option Addr) (n m c d : Nat) (M N : Nat → List (Int × Int)) (E : Int) (G : Bool) (w : World) (ha : Sheet A n M w) (hb : Sheet B m N w) (hE : alE n m M N E) (hG : G = true ↔ E = 0 ∧ ∀ i, i < n → Win (M i) (N i)) :
    Calls Try.prog 60 #[.agg #[.slice A n c], .agg #[.slice B m d]] w fun e w' => e = .returned (.tuple #[.bool G, .int .i64 E]) ∧ Below w.heap.size w w' := by
  obtain ⟨x, hx, rx⟩ := ha
  obtain ⟨y, hy, ry⟩ := hb
  refine Within_any A B n m c d x y E G w hx hy ((alE_alk rx ry).2 hE) (hG.trans ?_)
  constructor
  · rintro ⟨rfl, h⟩
    obtain ⟨g1, g2, rfl⟩ := alE_zero hE
    exact ⟨rfl, fun i hi => (win_winC rx ry hi hi (g1.2.2 i hi).2.1 (g2.2.2 i hi).2.1).2 (h i hi)⟩
  · rintro ⟨rfl, h⟩
    obtain ⟨g1, g2, rfl⟩ := alE_zero hE
    exact ⟨rfl, fun i hi => (win_winC rx ry hi hi (g1.2.2 i hi).2.1 (g2.2.2 i hi).2.1).1 (h i hi)⟩
theorem SameSets_sh (A B : Option Addr) (n m c d : Nat) (M N : Nat → List (Int × Int)) (G : Bool) (w : World) (ha : Sheet A n M w) (hb : Sheet B m N w) (hG : G = true ↔ n = m ∧ ∀ c, c < n → M c = N c) :
    Calls Try.prog 55 #[.slice A n c, .slice B m d] w fun e w' => e = .returned (.bool G) ∧ Below w.heap.size w w' := by
  obtain ⟨x, hx, rx⟩ := ha
  obtain ⟨y, hy, ry⟩ := hb
  refine SameSets_any A B n m c d x y G w hx hy (hG.trans ?_)
  unfold ClsEq
  refine and_congr_right fun e => ?_
  subst e
  refine forall_congr' fun i => forall_congr' fun hi => ?_
  rw [← (rx i hi).2, ← (ry i hi).2]
  constructor
  · intro h
    have h1 : x.L i = y.L i := by have := congrArg List.length h; rwa [firstK_length, firstK_length] at this
    refine ⟨h1, fun j hj => ?_⟩
    have := congrArg (fun l => l[j]?) h
    simpa [firstK, hj, ← h1] using this
  · rintro ⟨h1, h2⟩
    rw [← h1]
    exact List.map_congr_left fun j hj => h2 j (List.mem_range.1 hj)
theorem shq_same {n k k' c c' : Nat} {L L' : Nat → List (Int × Int)} {E : Int} {A A' : Option Addr} {w : World} (h : ShQ n L E A k w) (h' : ShQ n L' E A' k' w) (e : E = 0 → ∀ c, c < n → L c = L' c) :
    Calls Try.prog 55 #[.slice A k c, .slice A' k' c'] w fun e w' => e = .returned (.bool true) ∧ Below w.heap.size w w' := by
  refine SameSets_sh A A' k k' c c' L L' true w h.1 h'.1 ⟨fun _ => ?_, fun _ => rfl⟩
  by_cases h0 : E = 0
  · obtain rfl := h.2.1 h0
    obtain rfl := h'.2.1 h0
    exact ⟨rfl, e h0⟩
  · obtain rfl := h.2.2 h0
    obtain rfl := h'.2.2 h0
    exact ⟨rfl, fun c hc => absurd hc (by omega)⟩
end Go.Proofs.Ytmeljcbefnojfaa
