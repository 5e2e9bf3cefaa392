/- Starts, Swing; how far apart two pens can be: the mathematics. -/
import Derived.Test.YtkidhmajlpceeaaStp
namespace Go.Proofs.Ytkidhmajlpceeaa
open Go.RowKit
/-- the least and the greatest level up to an index -/
def swL (Z : Nat → Int) : Nat → Int
  | 0 => Z 0
  | k + 1 => min (swL Z k) (Z (k + 1))
def swH (Z : Nat → Int) : Nat → Int
  | 0 => Z 0
  | k + 1 => max (swH Z k) (Z (k + 1))
theorem sw_le (Z : Nat → Int) : ∀ k, swL Z k ≤ swH Z k
  | 0 => Int.le_refl _
  | k + 1 => by
    have := sw_le Z k
    show min (swL Z k) (Z (k + 1)) ≤ max (swH Z k) (Z (k + 1))
    omega
theorem apart_at {b : Int} (hb : 0 ≤ b) (Z : Nat → Int) : ∀ k,
    (swH Z k - swL Z k ≤ 2 * b → shw b (Z 0 - b) Z k = swH Z k - b ∧ shw b (Z 0 + b) Z k = swL Z k + b) ∧ (2 * b ≤ swH Z k - swL Z k → shw b (Z 0 - b) Z k = shw b (Z 0 + b) Z k)
  | 0 => by
    show (Z 0 - Z 0 ≤ 2 * b → lz b (Z 0 - b) (Z 0) = Z 0 - b ∧ lz b (Z 0 + b) (Z 0) = Z 0 + b) ∧ (2 * b ≤ Z 0 - Z 0 → lz b (Z 0 - b) (Z 0) = lz b (Z 0 + b) (Z 0))
    unfold lz
    omega
  | k + 1 => by
    obtain ⟨h1, h2⟩ := apart_at hb Z k
    have h3 := sw_le Z k
    show (max (swH Z k) (Z (k + 1)) - min (swL Z k) (Z (k + 1)) ≤ 2 * b → lz b (shw b (Z 0 - b) Z k) (Z (k + 1)) = max (swH Z k) (Z (k + 1)) - b ∧ lz b (shw b (Z 0 + b) Z k) (Z (k + 1)) = min (swL Z k) (Z (k + 1)) + b) ∧ (2 * b ≤ max (swH Z k) (Z (k + 1)) - min (swL Z k) (Z (k + 1)) → lz b (shw b (Z 0 - b) Z k) (Z (k + 1)) = lz b (shw b (Z 0 + b) Z k) (Z (k + 1)))
    unfold lz
    by_cases h : swH Z k - swL Z k ≤ 2 * b
    · obtain ⟨e1, e2⟩ := h1 h
      rw [e1, e2]
      omega
    · have e := h2 (by omega)
      rw [e]
      omega
theorem apart_eq {b : Int} (hb : 0 ≤ b) (Z : Nat → Int) (k : Nat) : shw b (Z 0 + b) Z k - shw b (Z 0 - b) Z k = max 0 (2 * b - (swH Z k - swL Z k)) := by
  obtain ⟨h1, h2⟩ := apart_at hb Z k
  by_cases h : swH Z k - swL Z k ≤ 2 * b
  · obtain ⟨e1, e2⟩ := h1 h
    omega
  · have e := h2 (by omega)
    omega
theorem apart_iff {b : Int} (hb : 0 ≤ b) (Z : Nat → Int) (k : Nat) : shw b (Z 0 - b) Z k = shw b (Z 0 + b) Z k ↔ 2 * b ≤ swH Z k - swL Z k := by
  have := apart_eq hb Z k
  omega
set_option maxHeartbeats 1000000 in
theorem Min_any (A : Option Addr) (n c : Nat) (Z : Nat → Int) (w : World) (hin : IntsIn A n Z w.heap.size w) (h0 : 0 < n) :
    Calls Try.prog 88 #[.slice A n c] w fun e w' => e = .returned (.int .i64 (swL Z (n - 1))) ∧ w = w' := by
  have HIN := Lib.hid hin
  have hn := hin.1
  obtain ⟨a, rfl, _, c0⟩ := hin.2 0 h0
  have d0 : w.cell? a = some (.int .i64 (Z 0)) := by simpa [Addr.add] using c0
  have nn : (0 : Int) < n := by omega
  have n1 : ¬ (n : Int) < 1 := by omega
  have n2 : decide ((n : Int) < 1) = false := decide_eq_false n1
  clear hin c0 n1
  go_enter Try.func88, Try.ntmps88
  go_wp2_with fail
  clear d0
  go_loopw [3, 4] (fun v i wr => ∃ k : Nat, k + 1 ≤ n ∧ v = .int .i64 (swL Z k) ∧ i = .int .i64 ((k + 1 : Nat) : Int) ∧ wr = w) (fun _ i _ => n - (intOf i).toNat)
  case atStart => exact ⟨0, h0, rfl, rfl, rfl⟩
  case round =>
    obtain ⟨k, hk, rfl, rfl, rfl⟩ := hrel
    have hk0 : (0 : Int) ≤ ((k + 1 : Nat) : Int) := by omega
    by_cases hlt : k + 1 < n
    · obtain ⟨a', e', _, c1⟩ := HIN.out.2 (k + 1) hlt
      cases e'
      have hki : ((k + 1 : Nat) : Int) < (n : Int) := by omega
      have es : swL Z (k + 1) = min (swL Z k) (Z (k + 1)) := rfl
      generalize hq : k + 1 = q at *
      have HQ := Lib.hid hq
      have HS := Lib.hid es
      clear hq es
      go_wp2_with fail
      go_roundw
      case rel => exact ⟨q, by omega, by rw [HS.out], by go_num, trivial⟩
      case measure => simp [intOf]; omega
    · have hki : (n : Int) ≤ ((k + 1 : Nat) : Int) := by omega
      obtain rfl : k = n - 1 := by omega
      generalize hq : n - 1 + 1 = q at *
      clear hq
      go_wp2_with fail
      go_ret
      exact ⟨rfl, rfl⟩
set_option maxHeartbeats 1000000 in
theorem Max_any (A : Option Addr) (n c : Nat) (Z : Nat → Int) (w : World) (hin : IntsIn A n Z w.heap.size w) (h0 : 0 < n) :
    Calls Try.prog 89 #[.slice A n c] w fun e w' => e = .returned (.int .i64 (swH Z (n - 1))) ∧ w = w' := by
  have HIN := Lib.hid hin
  have hn := hin.1
  obtain ⟨a, rfl, _, c0⟩ := hin.2 0 h0
  have d0 : w.cell? a = some (.int .i64 (Z 0)) := by simpa [Addr.add] using c0
  have nn : (0 : Int) < n := by omega
  have n1 : ¬ (n : Int) < 1 := by omega
  have n2 : decide ((n : Int) < 1) = false := decide_eq_false n1
  clear hin c0 n1
  go_enter Try.func89, Try.ntmps89
  go_wp2_with fail
  clear d0
  go_loopw [3, 4] (fun v i wr => ∃ k : Nat, k + 1 ≤ n ∧ v = .int .i64 (swH Z k) ∧ i = .int .i64 ((k + 1 : Nat) : Int) ∧ wr = w) (fun _ i _ => n - (intOf i).toNat)
  case atStart => exact ⟨0, h0, rfl, rfl, rfl⟩
  case round =>
    obtain ⟨k, hk, rfl, rfl, rfl⟩ := hrel
    have hk0 : (0 : Int) ≤ ((k + 1 : Nat) : Int) := by omega
    by_cases hlt : k + 1 < n
    · obtain ⟨a', e', _, c1⟩ := HIN.out.2 (k + 1) hlt
      cases e'
      have hki : ((k + 1 : Nat) : Int) < (n : Int) := by omega
      have es : swH Z (k + 1) = max (swH Z k) (Z (k + 1)) := rfl
      generalize hq : k + 1 = q at *
      have HQ := Lib.hid hq
      have HS := Lib.hid es
      clear hq es
      go_wp2_with fail
      go_roundw
      case rel => exact ⟨q, by omega, by rw [HS.out], by go_num, trivial⟩
      case measure => simp [intOf]; omega
    · have hki : (n : Int) ≤ ((k + 1 : Nat) : Int) := by omega
      obtain rfl : k = n - 1 := by omega
      generalize hq : n - 1 + 1 = q at *
      clear hq
      go_wp2_with fail
      go_ret
      exact ⟨rfl, rfl⟩
def swgR (n : Nat) (Z : Nat → Int) (L H E : Int) : Prop := (LsOk Z n ∧ L = swL Z (n - 1) ∧ H = swH Z (n - 1) ∧ E = 0) ∨ (¬ LsOk Z n ∧ L = 0 ∧ H = 0 ∧ E = 1)
theorem swgR_ex (n : Nat) (Z : Nat → Int) : ∃ L H E, swgR n Z L H E := by
  by_cases hl : LsOk Z n
  · exact ⟨_, _, _, .inl ⟨hl, rfl, rfl, rfl⟩⟩
  · exact ⟨_, _, _, .inr ⟨hl, rfl, rfl, rfl⟩⟩
set_option maxHeartbeats 1000000 in
theorem Swing_any (A : Option Addr) (n c : Nat) (Z : Nat → Int) (L H E : Int) (w : World) (hin : IntsIn A n Z w.heap.size w) (hE : swgR n Z L H E) :
    Calls Try.prog 48 #[.slice A n c] w fun e w' => e = .returned (.tuple #[.agg #[.int .i64 L, .int .i64 H], .int .i64 E]) ∧ Below w.heap.size w w' := by
  have hb := box1 w (.cells #[.int .i64 0, .int .i64 0] 23)
  have hin1 := (hin.up hb (Nat.le_refl _)).more hb.size
  rcases hE with ⟨hl, rfl, rfl, rfl⟩ | ⟨hl, rfl, rfl, rfl⟩
  · have K := Lib.hid (isList_any A n c Z true _ hin1 ⟨fun _ => hl, fun _ => rfl⟩)
    have KL := Lib.hid (Min_any A n c Z _ hin1 hl.1)
    have KH := Lib.hid (Max_any A n c Z _ hin1 hl.1)
    clear hin hin1 hl hb
    go_enter Try.func48, Try.ntmps48
    go_wp2_with fail
    refine K.out.mono ?_
    rintro e w' ⟨rfl, rfl⟩
    go_wp2_with fail
    refine KL.out.mono ?_
    rintro e w' ⟨rfl, rfl⟩
    go_wp2_with fail
    refine KH.out.mono ?_
    rintro e w' ⟨rfl, rfl⟩
    go_wp2_with fail
    exact bodyPost_ret (v := .tuple #[.agg #[.int .i64 (swL Z (n - 1)), .int .i64 (swH Z (n - 1))], .int .i64 0]) (by simp [results, Try.results48, go_sem]) rfl ⟨rfl, box1 _ _⟩
  · have K := Lib.hid (isList_any A n c Z false _ hin1 ⟨fun h => (by cases h), fun h => absurd h hl⟩)
    clear hin hin1 hl hb
    go_enter Try.func48, Try.ntmps48
    go_wp2_with fail
    refine K.out.mono ?_
    rintro e w' ⟨rfl, rfl⟩
    go_wp2_with fail
    exact bodyPost_ret (v := .tuple #[.agg #[.int .i64 0, .int .i64 0], .int .i64 1]) (by simp [results, Try.results48, go_sem]) rfl ⟨rfl, box1 _ _⟩
def staR (p : Pn) (r E : Int) : Prop := (¬ p.Ok ∧ E = 30) ∨ p.Ok ∧ ((¬ Lev r ∧ E = 1) ∨ Lev r ∧ E = 0)
theorem staR_ex (p : Pn) (r : Int) : ∃ E, staR p r E := by
  by_cases h : p.Ok
  · by_cases h2 : Lev r
    · exact ⟨0, .inr ⟨h, .inr ⟨h2, rfl⟩⟩⟩
    · exact ⟨1, .inr ⟨h, .inl ⟨h2, rfl⟩⟩⟩
  · exact ⟨30, .inl ⟨h, rfl⟩⟩
def staL (p : Pn) (r E : Int) : Int := if E = 0 then r - p.b else 0
def staH (p : Pn) (r E : Int) : Int := if E = 0 then r + p.b else 0
set_option maxRecDepth 100000 in
set_option maxHeartbeats 2000000 in
theorem Starts_any (p : Pn) (r E : Int) (w : World) (hE : staR p r E) :
    Calls Try.prog 21 #[p.v, .int .i64 r] w fun e w' => e = .returned (.tuple #[.agg #[.int .i64 (staL p r E), .int .i64 (staH p r E)], .int .i64 E]) ∧ Below w.heap.size w w' := by
  have KC : Hid (∀ W N, N = W.heap.size → Calls Try.prog 65 #[p.v, litV N 1] (litB W [r]) fun e w' => e = .returned (.int .i64 E) ∧ Below W.heap.size W w') := Lib.hid (by
    rintro W N rfl
    have hl := lit_ints W [r] (by simp)
    have nx : ∀ {w' : World}, Below (litB W [r]).heap.size (litB W [r]) w' → Below W.heap.size W w' := fun h => nextB (box1 W _) h
    rcases hE with ⟨h, rfl⟩ | ⟨h, ⟨h2, rfl⟩ | ⟨h2, rfl⟩⟩
    · exact (check_bad p _ 1 1 _ h).mono fun _ _ ⟨he, hb⟩ => ⟨he, nx hb⟩
    · exact (check_arg p _ 1 1 _ _ hl h (fun h3 => h2 (lvs1.1 h3))).mono fun _ _ ⟨he, hb⟩ => ⟨he, nx hb⟩
    · exact (check_ok p _ 1 1 _ _ hl h (lvs1.2 h2)).mono fun _ _ ⟨he, hb⟩ => ⟨he, nx hb⟩)
  have hz : (E = 0 ∧ staL p r E = r - p.b ∧ staH p r E = r + p.b ∧ -8 ≤ p.b ∧ p.b ≤ 8 ∧ -50000 ≤ r ∧ r ≤ 50000) ∨ E ≠ 0 ∧ staL p r E = 0 ∧ staH p r E = 0 := by
    rcases hE with ⟨h, rfl⟩ | ⟨h, ⟨h2, rfl⟩ | ⟨h2, rfl⟩⟩
    · exact .inr ⟨by decide, rfl, rfl⟩
    · exact .inr ⟨by decide, rfl, rfl⟩
    · have := h.b
      exact .inl ⟨rfl, rfl, rfl, by omega, by omega, h2.1, h2.2⟩
  generalize hS : staL p r E = S at *
  generalize hX : staH p r E = X at *
  clear hE hS hX
  go_enter Try.func21, Try.ntmps21
  go_wp2_with fail
  refine (KC.out _ _ (by first | rfl | simp)).mono ?_
  rintro e w1 ⟨rfl, hb⟩
  have C1 := Lib.hid (nextB (box2 w _ _) hb)
  have r1 : Bt (w.heap.size + 1) 0 0 w1 := ((by have h := Bt.new (w.alloc (penO p)) 23 0 0; simpa only [World.size_alloc] using h : Bt (w.heap.size + 1) 0 0 _).up hb)
  have p1 : HasPn p w.heap.size w1 := ((pn_new w p.b p.lo p.hi p.r).up (box1 _ _) (by simp)).up hb (by simp only [World.size_alloc]; omega)
  have z1 := r1.lt
  have R1 := Lib.hid r1
  obtain ⟨a0, a1, f0, f1⟩ := r1
  obtain ⟨x0, x1, x2, x3⟩ := p1
  clear hb KC
  rcases hz with ⟨rfl, rfl, rfl, b1, b2, r1, r2⟩ | ⟨h0, rfl, rfl⟩
  · have w1' : IntKind.i64.wrap (r - p.b) = r - p.b := IntWalk.i64_in _ (by omega)
    have w2' : IntKind.i64.wrap (r + p.b) = r + p.b := IntWalk.i64_in _ (by omega)
    have R3 := R1.out.store (r - p.b) (r + p.b)
    have g0 := R3.c0
    have g1 := R3.c1
    go_wp2_with fail
    exact bodyPost_ret (v := .tuple #[.agg #[.int .i64 (r - p.b), .int .i64 (r + p.b)], .int .i64 0]) (by simp [results, Try.results21, go_sem, g0, g1]) rfl ⟨rfl, set1 (set1 C1.out (by omega) _ _) (by omega) _ _⟩
  · have g0 : (E == 0) = false := by simpa using h0
    have H0 := Lib.hid h0
    clear h0
    go_wp2_with fail
    exact bodyPost_ret (v := .tuple #[.agg #[.int .i64 0, .int .i64 0], .int .i64 E]) (by simp [results, Try.results21, go_sem, a0, a1]) rfl ⟨rfl, set1 (set1 C1.out (by omega) _ _) (by omega) _ _⟩
end Go.Proofs.Ytkidhmajlpceeaa
