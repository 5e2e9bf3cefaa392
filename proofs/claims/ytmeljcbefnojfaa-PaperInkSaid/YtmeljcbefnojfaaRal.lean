import Derived.Test.YtmeljcbefnojfaaEib
namespace Go.Proofs.Ytmeljcbefnojfaa
open Go.RowKit
/-- whether two sheets are alike, and what is wrong if not -/
def alkE (x y : Cls) (n m : Nat) (E : Int) : Prop := ¬ InkOk x n ∧ E = 12 ∨ InkOk x n ∧ ¬ InkOk y m ∧ E = 12 ∨ InkOk x n ∧ InkOk y m ∧ n ≠ m ∧ E = 1 ∨ InkOk x n ∧ InkOk y m ∧ n = m ∧ E = 0
set_option maxRecDepth 100000 in
set_option maxHeartbeats 2000000 in
theorem alike_any (A B : Option Addr) (n m c d : Nat) (x y : Cls) (E : Int) (w : World) (ha : ClsIn A n x w.heap.size w) (hb : ClsIn B m y w.heap.size w) (hE : alkE x y n m E) :
    Calls Try.prog 110 #[.agg #[.slice A n c], .agg #[.slice B m d]] w fun e w' => e = .returned (.int .i64 E) ∧ Below w.heap.size w w' := by
  have hn' := ha.1
  have hm' := hb.1
  have KA : ∀ G : Bool, (G = true ↔ InkOk x n) → Hid (∀ W, Below w.heap.size w W → Calls Try.prog 30 #[.agg #[.slice A n c]] W fun e w' => e = .returned (.int .i64 (inkE G)) ∧ Below W.heap.size W w') := fun G hG => Lib.hid fun W h => RCheckInked_any A n c x G W ((ha.up h (Nat.le_refl _)).more h.size) hG
  have KB : ∀ G : Bool, (G = true ↔ InkOk y m) → Hid (∀ W, Below w.heap.size w W → Calls Try.prog 30 #[.agg #[.slice B m d]] W fun e w' => e = .returned (.int .i64 (inkE G)) ∧ Below W.heap.size W w') := fun G hG => Lib.hid fun W h => RCheckInked_any B m d y G W ((hb.up h (Nat.le_refl _)).more h.size) hG
  clear ha hb
  unfold alkE at hE
  by_cases h1 : InkOk x n
  · have K1 := KA true ⟨fun _ => h1, fun _ => rfl⟩
    by_cases h2 : InkOk y m
    · have K2 := KB true ⟨fun _ => h2, fun _ => rfl⟩
      by_cases h3 : n = m
      · obtain rfl : E = 0 := by rcases hE with h | h | h | h <;> first | exact absurd h1 h.1 | exact absurd h2 h.2.1 | exact absurd h3 h.2.2.1 | exact h.2.2.2
        have h3' : ((n : Int) == (m : Int)) = true := by simp [h3]
        have h3'' : ((n : Int) != (m : Int)) = false := by simp [h3]
        clear h3 hE KA KB
        unfold inkE at K1 K2
        go_enter Try.func110, Try.ntmps110
        go_wp2_with fail
        refine (K1.out _ (box2 _ _ _)).mono ?_
        rintro e w1 ⟨rfl, hb1⟩
        have r0 := low_cell (b := w.heap.size) (o := 0) (v := .slice A n c) hb1 (by simp only [World.size_alloc]; omega) (by go_simp)
        have r1 := low_cell (b := w.heap.size + 1) (o := 0) (v := .slice B m d) hb1 (by simp only [World.size_alloc]; omega) (by go_simp)
        have hB : Below w.heap.size w w1 := (box2 w _ _).trans (hb1.mono (by simp only [World.size_alloc]; omega))
        have z0 : w.heap.size + 1 < w1.heap.size := by have := hb1.size; simp only [World.size_alloc] at this; omega
        clear hb1
        go_wp2_with fail
        refine (K2.out _ hB).mono ?_
        rintro e w2 ⟨rfl, hb2⟩
        have r2 := cell_up hb2 (by omega) r0
        have r3 := cell_up hb2 z0 r1
        have hB2 := Lib.hid (hB.trans (hb2.mono hB.size))
        clear hb2 r0 r1 hB
        go_wp2_with fail
        go_ret
        exact ⟨rfl, hB2.out⟩
      · obtain rfl : E = 1 := by rcases hE with h | h | h | h <;> first | exact absurd h1 h.1 | exact absurd h2 h.2.1 | exact h.2.2.2 | exact absurd h.2.2.1 h3
        have h3' : ¬ ((n : Int) = (m : Int)) := by omega
        clear h3 hE KA KB
        unfold inkE at K1 K2
        go_enter Try.func110, Try.ntmps110
        go_wp2_with fail
        refine (K1.out _ (box2 _ _ _)).mono ?_
        rintro e w1 ⟨rfl, hb1⟩
        have r0 := low_cell (b := w.heap.size) (o := 0) (v := .slice A n c) hb1 (by simp only [World.size_alloc]; omega) (by go_simp)
        have r1 := low_cell (b := w.heap.size + 1) (o := 0) (v := .slice B m d) hb1 (by simp only [World.size_alloc]; omega) (by go_simp)
        have hB : Below w.heap.size w w1 := (box2 w _ _).trans (hb1.mono (by simp only [World.size_alloc]; omega))
        have z0 : w.heap.size + 1 < w1.heap.size := by have := hb1.size; simp only [World.size_alloc] at this; omega
        clear hb1
        go_wp2_with fail
        refine (K2.out _ hB).mono ?_
        rintro e w2 ⟨rfl, hb2⟩
        have r2 := cell_up hb2 (by omega) r0
        have r3 := cell_up hb2 z0 r1
        have hB2 := Lib.hid (hB.trans (hb2.mono hB.size))
        clear hb2 r0 r1 hB
        go_wp2_with fail
        go_ret
        exact ⟨rfl, hB2.out⟩
    · have K2 := KB false ⟨(fun h => by cases h), fun h => absurd h h2⟩
      obtain rfl : E = 12 := by rcases hE with h | h | h | h <;> first | exact absurd h1 h.1 | exact h.2.2 | exact absurd h.2.1 h2
      clear hE KA KB
      unfold inkE at K1 K2
      go_enter Try.func110, Try.ntmps110
      go_wp2_with fail
      refine (K1.out _ (box2 _ _ _)).mono ?_
      rintro e w1 ⟨rfl, hb1⟩
      have r1 := low_cell (b := w.heap.size + 1) (o := 0) (v := .slice B m d) hb1 (by simp only [World.size_alloc]; omega) (by go_simp)
      have hB : Below w.heap.size w w1 := (box2 w _ _).trans (hb1.mono (by simp only [World.size_alloc]; omega))
      clear hb1
      go_wp2_with fail
      refine (K2.out _ hB).mono ?_
      rintro e w2 ⟨rfl, hb2⟩
      have hB2 := Lib.hid (hB.trans (hb2.mono hB.size))
      clear hb2 r1 hB
      go_wp2_with fail
      go_ret
      exact ⟨rfl, hB2.out⟩
  · have K1 := KA false ⟨(fun h => by cases h), fun h => absurd h h1⟩
    obtain rfl : E = 12 := by rcases hE with h | h | h | h <;> first | exact h.2 | exact absurd h.1 h1
    clear hE KA KB
    unfold inkE at K1
    go_enter Try.func110, Try.ntmps110
    go_wp2_with fail
    refine (K1.out _ (box2 _ _ _)).mono ?_
    rintro e w1 ⟨rfl, hb1⟩
    have hB := Lib.hid ((box2 w _ _).trans (hb1.mono (by simp only [World.size_alloc]; omega)))
    clear hb1
    go_wp2_with fail
    go_ret
    exact ⟨rfl, hB.out⟩
def LimQ (A : Option Addr) (n c : Nat) (G : Bool) (w : World) (e : Ending) (w' : World) : Prop := (e = match G with | true => .returned (.tuple #[.agg #[.slice A n c], .int .i64 0]) | false => .returned (.tuple #[.agg #[.slice none 0 0], .int .i64 2])) ∧ Below w.heap.size w w'
set_option maxRecDepth 100000 in
set_option maxHeartbeats 2000000 in
theorem limited_any (A : Option Addr) (n c : Nat) (X : Cls) (G : Bool) (w : World) (hn : n ≤ 200) (hx : ClsIn A n X w.heap.size w) (hl : ∀ i, i < n → X.L i ≤ 1000) (hG : G = true ↔ ∀ i, i < n → X.L i ≤ 8) :
    Calls Try.prog 112 #[.slice A n c] w (LimQ A n c G w) := by
  have hn' : (n : Int) ≤ 200 := by omega
  obtain ⟨w1, hw1⟩ : ∃ w1, w1 = w.alloc (.cells #[.slice none 0 0] 29) := ⟨_, rfl⟩
  have hb : Below w.heap.size w w1 := by rw [hw1]; exact box1 _ _
  have k0 : w1.cell? ⟨w.heap.size, 0, none⟩ = some (.slice none 0 0) := by rw [hw1]; go_simp
  have k1 : w1.frozen? ⟨w.heap.size, 0, none⟩ = false := by rw [hw1]; go_simp
  have HX := Lib.hid (hx.up hb (Nat.le_refl _))
  have HL := Lib.hid hl
  have HG := Lib.hid hG
  have H1 := Lib.hid hw1
  have HB := Lib.hid hb
  clear hx hl hG hw1 hb
  go_enter Try.func112, Try.ntmps112
  go_wp2_with fail
  rw [← H1.out]
  go_loopw [4] (fun i wr => ∃ k : Nat, k ≤ n ∧ i = .int .i64 k ∧ (∀ c, c < k → X.L c ≤ 8) ∧ wr = w1) (fun i _ => n - (intOf i).toNat)
  case atStart => exact ⟨0, Nat.zero_le _, rfl, fun c hc => absurd hc (by omega), rfl⟩
  case round =>
    obtain ⟨k, hk, rfl, h8, rfl⟩ := hrel
    have H8 := Lib.hid h8
    have hk0 : (0 : Int) ≤ (k : Int) := by omega
    clear h8
    by_cases hlt : k < n
    · obtain ⟨a, rfl, _, c0, _⟩ := HX.out.2 k hlt
      have hki : (k : Int) < (n : Int) := by omega
      have hlk := HL.out k hlt
      by_cases t : 8 < X.L k
      · have d1 : decide (8 < X.L k) = true := by simpa using t
        obtain rfl : G = false := by
          cases G with
          | false => rfl
          | true => have := HG.out.1 rfl k hlt; omega
        go_wp2_with fail
        refine bodyPost_ret (v := .tuple #[.agg #[.slice none 0 0], .int .i64 2]) ?_ rfl ⟨rfl, ?_⟩
        · simp [results, Try.results112, go_sem, k0]
        · first | exact set1 HB.out (Nat.le_refl _) _ _ | exact HB.out
      · have d1 : decide (8 < X.L k) = false := by simpa using t
        have T := Lib.hid t
        go_wp2_with fail
        go_roundw
        case rel => exact ⟨k + 1, by omega, by go_num, (fun c hc => by
          by_cases hck : c = k
          · subst hck; have := T.out; omega
          · exact H8.out c (by omega)), by first | rfl | trivial⟩
        case measure => simp [intOf]; omega
    · have hki : (n : Int) ≤ (k : Int) := by omega
      obtain rfl : n = k := by omega
      obtain rfl : G = true := HG.out.2 H8.out
      go_wp2_with fail
      refine bodyPost_ret (v := .tuple #[.agg #[.slice A n c], .int .i64 0]) ?_ rfl ⟨rfl, set1 HB.out (Nat.le_refl _) _ _⟩
      simp [results, Try.results112, go_sem, k0]
end Go.Proofs.Ytmeljcbefnojfaa
