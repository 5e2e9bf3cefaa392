/- The law's and the specification's small functions: SameInts, SameLists, few, light, is, ahead. -/
import Derived.Test.YtpikaohodieeaaaOcl
import Derived.ArgAppend
namespace Go.Proofs.Ytpikaohodieeaaa
open Go.RowKit
set_option linter.unusedSimpArgs false
set_option linter.unusedVariables false
/-- SameInts, whatever the lists are -/
def eqF (n m : Nat) (Z Y : Nat → Int) : Prop := n = m ∧ ∀ i, i < n → Z i = Y i
theorem first_bad (P : Nat → Prop) (n : Nat) : ∃ j, j ≤ n ∧ (∀ i, i < j → P i) ∧ (j < n → ¬ P j) := first_no P n
set_option maxHeartbeats 1000000 in
theorem SameInts_d (n m : Nat) (A B : Option Addr) (c d : Nat) (Z Y : Nat → Int) (G : Bool) (w : World) (h1 : IntsIn A n Z w.heap.size w) (h2 : IntsIn B m Y w.heap.size w) (hG : G = true ↔ eqF n m Z Y) :
    Calls Try.prog 41 #[.slice A n c, .slice B m d] w fun e w' => e = .returned (.bool G) ∧ ∃ q, w' = w.drewN q := by
  have H1 := Lib.hid h1
  have H2 := Lib.hid h2
  have HG := Lib.hid hG
  have hn := h1.1
  have hm := h2.1
  clear h1 h2 hG
  by_cases hnm : n = m
  · subst hnm
    obtain ⟨j, j1, j2, j3⟩ := first_bad (fun i => Z i = Y i) n
    have J2 := Lib.hid j2
    have J3 := Lib.hid j3
    clear j2 j3
    go_enter Try.func41, Try.ntmps41
    go_wp2_with fail
    go_loopw [5] (fun i wr => ∃ k : Nat, k ≤ j ∧ i = .int .i64 k ∧ ∃ q, wr = w.drewN q) (fun i _ => n - (intOf i).toNat)
    case atStart => exact ⟨0, Nat.zero_le _, rfl, 0, rfl⟩
    case round =>
      obtain ⟨k, hk, rfl, q, rfl⟩ := hrel
      have hk0 : (0 : Int) ≤ (k : Int) := by omega
      by_cases hlt : k < n
      · obtain ⟨g, rfl, g1, c1⟩ := H1.out.2 k hlt
        obtain ⟨g', rfl, g1', c1'⟩ := H2.out.2 k hlt
        have hki : (k : Int) < (n : Int) := by omega
        by_cases hkj : k < j
        · rw [← J2.out k hkj] at c1'
          generalize Z k = z at c1 c1'
          go_wp2_with fail
          go_quiet (fail)
          go_wp2_with fail
          go_roundw
          case rel => exact ⟨k + 1, by omega, by go_num, _, rfl⟩
          case measure => simp [intOf]; omega
        · obtain rfl : k = j := by omega
          have hne := J3.out hlt
          obtain rfl : G = false := by
            cases G with
            | false => rfl
            | true => exact absurd ((HG.out.1 rfl).2 k hlt) hne
          have ne : (Z k == Y k) = false := by simpa using hne
          clear hne
          go_wp2_with fail
          go_quiet (fail)
          go_wp2_with fail
          go_ret
          exact ⟨rfl, q + nq, by rw [World.drewN_drewN]⟩
      · have hki : (n : Int) ≤ (k : Int) := by omega
        obtain rfl : G = true := HG.out.2 ⟨rfl, fun i hi => J2.out i (by omega)⟩
        go_wp2_with fail
        go_ret
        exact ⟨rfl, _, rfl⟩
  · obtain rfl : G = false := by
      cases G with
      | false => rfl
      | true => exact absurd (HG.out.1 rfl).1 hnm
    have ne : (n == m) = false := by simpa using hnm
    have ne2 : ((n : Int) == (m : Int)) = false := by simpa using (by omega : ¬ (n : Int) = m)
    go_enter Try.func41, Try.ntmps41
    go_wp2_with fail
    go_ret
    exact ⟨rfl, 0, rfl⟩
theorem SameInts_any (n m : Nat) (A B : Option Addr) (c d : Nat) (Z Y : Nat → Int) (G : Bool) (w : World) (h1 : IntsIn A n Z w.heap.size w) (h2 : IntsIn B m Y w.heap.size w) (hG : G = true ↔ eqF n m Z Y) :
    Calls Try.prog 41 #[.slice A n c, .slice B m d] w fun e w' => e = .returned (.bool G) ∧ Below w.heap.size w w' :=
  (SameInts_d n m A B c d Z Y G w h1 h2 hG).mono fun _ _ ⟨h, q, hq⟩ => ⟨h, by rw [hq]; exact below_drewN (Below.refl _ _) q⟩
theorem eqF_list (x y : List Int) : eqF x.length y.length (fun j => x.getD j 0) (fun j => y.getD j 0) ↔ x = y := by
  constructor
  · rintro ⟨h1, h2⟩
    refine List.ext_getElem h1 fun i hi hj => ?_
    have := h2 i hi
    simpa [List.getD, hi, hj] using this
  · rintro rfl
    exact ⟨rfl, fun _ _ => rfl⟩
theorem dr_call {f : FuncId} {args : Array Value} {w : World} {q x : Nat} {v : Value} (K : ∀ q, Calls Try.prog f args (w.drewN q) fun e w' => e = .returned v ∧ ∃ m, w' = (w.drewN q).drewN m) :
    Calls Try.prog f args (w.drewN (q + x)) fun e w'' => e = .returned v ∧ ∃ n, w'' = w.drewN (q + n) :=
  (K (q + x)).mono fun _ _ ⟨he, m, hm⟩ => ⟨he, x + m, by rw [hm, World.drewN_drewN, Nat.add_assoc]⟩
set_option maxHeartbeats 1000000 in
theorem SameLists_any (P Q : List (List Int)) (A B : Option Addr) (c d : Nat) (G : Bool) (w : World) (h1 : LssIn A P w) (h2 : LssIn B Q w) (hG : G = true ↔ P = Q) :
    Calls Try.prog 63 #[.slice A P.length c, .slice B Q.length d] w fun e w' => e = .returned (.bool G) ∧ Below w.heap.size w w' := by
  have H1 := Lib.hid h1
  have H2 := Lib.hid h2
  have HG := Lib.hid hG
  have hn := h1.1
  have hm := h2.1
  clear h1 h2 hG
  obtain ⟨n, en⟩ : ∃ n, n = P.length := ⟨_, rfl⟩
  obtain ⟨m, em⟩ : ∃ m, m = Q.length := ⟨_, rfl⟩
  have EN := Lib.hid en
  have EM := Lib.hid em
  rw [← en] at hn ⊢
  rw [← em] at hm ⊢
  clear en em
  by_cases hnm : n = m
  · subst hnm
    obtain ⟨j, j1, j2, j3⟩ := first_bad (fun i => P[i]? = Q[i]?) n
    have J2 := Lib.hid j2
    have J3 := Lib.hid j3
    clear j2 j3
    go_enter Try.func63, Try.ntmps63
    go_wp2_with fail
    go_loopw [5] (fun i wr => ∃ k : Nat, k ≤ j ∧ i = .int .i64 k ∧ ∃ q : Nat, wr = w.drewN q) (fun i _ => n - (intOf i).toNat)
    case atStart => exact ⟨0, Nat.zero_le _, rfl, 0, rfl⟩
    case round =>
      obtain ⟨k, hk, rfl, q, rfl⟩ := hrel
      have hk0 : (0 : Int) ≤ (k : Int) := by omega
      by_cases hlt : k < n
      · have hki : (k : Int) < (n : Int) := by omega
        obtain ⟨x, hx⟩ : ∃ x, P[k]? = some x := ⟨_, List.getElem?_eq_getElem (by have := EN.out; omega)⟩
        obtain ⟨y, hy⟩ : ∃ y, Q[k]? = some y := ⟨_, List.getElem?_eq_getElem (by have := EM.out; omega)⟩
        obtain ⟨a, A', c', rfl, _, ca, ia⟩ := H1.out.2 k x hx
        obtain ⟨b, B', d', rfl, _, cb, ib⟩ := H2.out.2 k y hy
        have KS := fun (G1 : Bool) (h : G1 = true ↔ x = y) => Lib.hid fun q => SameInts_d x.length y.length A' B' c' d' _ _ G1 (w.drewN q) ((ia.up (below_drewN (Below.refl _ _) q))) ((ib.up (below_drewN (Below.refl _ _) q))) (h.trans (eqF_list x y).symm)
        have HX := Lib.hid hx
        have HY := Lib.hid hy
        obtain ⟨lx, elx⟩ : ∃ l, l = x.length := ⟨_, rfl⟩
        obtain ⟨ly, ely⟩ : ∃ l, l = y.length := ⟨_, rfl⟩
        rw [← elx] at ca KS
        rw [← ely] at cb KS
        clear hx hy ia ib elx ely
        by_cases hkj : k < j
        · have e : x = y := by have := J2.out k hkj; rw [HX.out, HY.out] at this; exact Option.some.inj this
          have K := KS true ⟨fun _ => e, fun _ => rfl⟩
          clear e KS
          go_wp2_with fail
          go_quiet ((exact dr_call K.out))
          go_wp2_with fail
          go_roundw
          case rel => exact ⟨k + 1, by omega, by go_num, q + nq, by first | rfl | rw [World.drewN_drewN]⟩
          case measure => simp [intOf]; omega
        · obtain rfl : k = j := by omega
          have e : ¬ x = y := fun e => J3.out hlt (by rw [HX.out, HY.out, e])
          obtain rfl : G = false := by
            cases G with
            | false => rfl
            | true => exact absurd (by have h := HG.out.1 rfl; rw [h] at HX; exact Option.some.inj (HX.out.symm.trans HY.out)) e
          have K := KS false ⟨fun h => (Bool.false_ne_true h).elim, fun h => absurd h e⟩
          clear e KS
          go_wp2_with fail
          go_quiet ((exact dr_call K.out))
          go_wp2_with fail
          go_ret
          exact ⟨rfl, by first | exact below_drewN (below_drewN (Below.refl _ _) _) _ | exact below_drewN (Below.refl _ _) _⟩
      · have hki : (n : Int) ≤ (k : Int) := by omega
        obtain rfl : G = true := HG.out.2 (List.ext_getElem? fun i => by
          by_cases hi : i < n
          · exact J2.out i (by omega)
          · rw [List.getElem?_eq_none (by have := EN.out; omega), List.getElem?_eq_none (by have := EM.out; omega)])
        go_wp2_with fail
        go_ret
        exact ⟨rfl, below_drewN (Below.refl _ _) q⟩
  · obtain rfl : G = false := by
      cases G with
      | false => rfl
      | true => exact absurd (by rw [EN.out, EM.out, HG.out.1 rfl]) hnm
    have ne : (n == m) = false := by simpa using hnm
    have ne2 : ((n : Int) == (m : Int)) = false := by simpa using (by omega : ¬ (n : Int) = m)
    go_enter Try.func63, Try.ntmps63
    go_wp2_with fail
    go_ret
    exact ⟨rfl, Below.refl _ _⟩
/-- few marks and rates, or too many -/
def Few (c : Clo) : Prop := (c.d.n ≤ 12 ∨ (200 ≤ c.d.n ∧ c.d.n ≤ 400)) ∧ c.d.m ≤ 40 ∧ (c.m ≤ 20 ∨ (64 < c.m ∧ c.m ≤ 128))
set_option maxRecDepth 100000 in
set_option maxHeartbeats 2000000 in
theorem few_any (c : Clo) (G : Bool) (w : World) (hG : G = true ↔ Few c) : Calls Try.prog 20 #[c.v] w fun e w' => e = .returned (.bool G) ∧ Below w.heap.size w w' := by
  obtain ⟨⟨RA, n, rc, GG, SA, m, sc, S⟩, MA, k, mc, F⟩ := c
  unfold Few at hG
  simp only at hG
  have HG := Lib.hid hG
  clear hG
  have hA : (n ≤ 12) ∨ (¬ n ≤ 12 ∧ 200 ≤ n ∧ n ≤ 400) ∨ (¬ n ≤ 12 ∧ 200 ≤ n ∧ ¬ n ≤ 400) ∨ (¬ n ≤ 12 ∧ ¬ 200 ≤ n) := by omega
  have hC : (k ≤ 20) ∨ (¬ k ≤ 20 ∧ 64 < k ∧ k ≤ 128) ∨ (¬ k ≤ 20 ∧ 64 < k ∧ ¬ k ≤ 128) ∨ (¬ k ≤ 20 ∧ ¬ 64 < k) := by omega
  rcases hA with hA | hA | hA | hA
  · by_cases hB : m ≤ 40
    · rcases hC with hC | hC | hC | hC
      · obtain rfl : G = true := by
          exact HG.out.2 (by omega)
        have d0Int : decide ((n: Int) ≤ 12) = true := by simp only [decide_eq_true_eq, decide_eq_false_iff_not]; omega
        have d0Nat : decide (n ≤ 12) = true := by simp only [decide_eq_true_eq, decide_eq_false_iff_not]; omega
        have d1Int : decide ((m: Int) ≤ 40) = true := by simp only [decide_eq_true_eq, decide_eq_false_iff_not]; omega
        have d1Nat : decide (m ≤ 40) = true := by simp only [decide_eq_true_eq, decide_eq_false_iff_not]; omega
        have d2Int : decide ((k: Int) ≤ 20) = true := by simp only [decide_eq_true_eq, decide_eq_false_iff_not]; omega
        have d2Nat : decide (k ≤ 20) = true := by simp only [decide_eq_true_eq, decide_eq_false_iff_not]; omega
        clear hA hB hC
        go_enter Try.func20, Try.ntmps20
        go_wp2_with fail
        go_ret
        exact ⟨rfl, box1 _ _⟩
      · obtain rfl : G = true := by
          exact HG.out.2 (by omega)
        have d0Int : decide ((n: Int) ≤ 12) = true := by simp only [decide_eq_true_eq, decide_eq_false_iff_not]; omega
        have d0Nat : decide (n ≤ 12) = true := by simp only [decide_eq_true_eq, decide_eq_false_iff_not]; omega
        have d1Int : decide ((m: Int) ≤ 40) = true := by simp only [decide_eq_true_eq, decide_eq_false_iff_not]; omega
        have d1Nat : decide (m ≤ 40) = true := by simp only [decide_eq_true_eq, decide_eq_false_iff_not]; omega
        have d2Int : decide ((k: Int) ≤ 20) = false := by simp only [decide_eq_true_eq, decide_eq_false_iff_not]; omega
        have d2Nat : decide (k ≤ 20) = false := by simp only [decide_eq_true_eq, decide_eq_false_iff_not]; omega
        have d3Int : decide (64 < (k: Int)) = true := by simp only [decide_eq_true_eq, decide_eq_false_iff_not]; omega
        have d3Nat : decide (64 < k) = true := by simp only [decide_eq_true_eq, decide_eq_false_iff_not]; omega
        have d4Int : decide ((k: Int) ≤ 128) = true := by simp only [decide_eq_true_eq, decide_eq_false_iff_not]; omega
        have d4Nat : decide (k ≤ 128) = true := by simp only [decide_eq_true_eq, decide_eq_false_iff_not]; omega
        clear hA hB hC
        go_enter Try.func20, Try.ntmps20
        go_wp2_with fail
        go_ret
        exact ⟨rfl, box1 _ _⟩
      · obtain rfl : G = false := by
          cases G with
          | false => rfl
          | true => exact absurd (HG.out.1 rfl) (by omega)
        have d0Int : decide ((n: Int) ≤ 12) = true := by simp only [decide_eq_true_eq, decide_eq_false_iff_not]; omega
        have d0Nat : decide (n ≤ 12) = true := by simp only [decide_eq_true_eq, decide_eq_false_iff_not]; omega
        have d1Int : decide ((m: Int) ≤ 40) = true := by simp only [decide_eq_true_eq, decide_eq_false_iff_not]; omega
        have d1Nat : decide (m ≤ 40) = true := by simp only [decide_eq_true_eq, decide_eq_false_iff_not]; omega
        have d2Int : decide ((k: Int) ≤ 20) = false := by simp only [decide_eq_true_eq, decide_eq_false_iff_not]; omega
        have d2Nat : decide (k ≤ 20) = false := by simp only [decide_eq_true_eq, decide_eq_false_iff_not]; omega
        have d3Int : decide (64 < (k: Int)) = true := by simp only [decide_eq_true_eq, decide_eq_false_iff_not]; omega
        have d3Nat : decide (64 < k) = true := by simp only [decide_eq_true_eq, decide_eq_false_iff_not]; omega
        have d4Int : decide ((k: Int) ≤ 128) = false := by simp only [decide_eq_true_eq, decide_eq_false_iff_not]; omega
        have d4Nat : decide (k ≤ 128) = false := by simp only [decide_eq_true_eq, decide_eq_false_iff_not]; omega
        clear hA hB hC
        go_enter Try.func20, Try.ntmps20
        go_wp2_with fail
        go_ret
        exact ⟨rfl, box1 _ _⟩
      · obtain rfl : G = false := by
          cases G with
          | false => rfl
          | true => exact absurd (HG.out.1 rfl) (by omega)
        have d0Int : decide ((n: Int) ≤ 12) = true := by simp only [decide_eq_true_eq, decide_eq_false_iff_not]; omega
        have d0Nat : decide (n ≤ 12) = true := by simp only [decide_eq_true_eq, decide_eq_false_iff_not]; omega
        have d1Int : decide ((m: Int) ≤ 40) = true := by simp only [decide_eq_true_eq, decide_eq_false_iff_not]; omega
        have d1Nat : decide (m ≤ 40) = true := by simp only [decide_eq_true_eq, decide_eq_false_iff_not]; omega
        have d2Int : decide ((k: Int) ≤ 20) = false := by simp only [decide_eq_true_eq, decide_eq_false_iff_not]; omega
        have d2Nat : decide (k ≤ 20) = false := by simp only [decide_eq_true_eq, decide_eq_false_iff_not]; omega
        have d3Int : decide (64 < (k: Int)) = false := by simp only [decide_eq_true_eq, decide_eq_false_iff_not]; omega
        have d3Nat : decide (64 < k) = false := by simp only [decide_eq_true_eq, decide_eq_false_iff_not]; omega
        clear hA hB hC
        go_enter Try.func20, Try.ntmps20
        go_wp2_with fail
        go_ret
        exact ⟨rfl, box1 _ _⟩
    · obtain rfl : G = false := by
        cases G with
        | false => rfl
        | true => exact absurd (HG.out.1 rfl) (by omega)
      have d0Int : decide ((n: Int) ≤ 12) = true := by simp only [decide_eq_true_eq, decide_eq_false_iff_not]; omega
      have d0Nat : decide (n ≤ 12) = true := by simp only [decide_eq_true_eq, decide_eq_false_iff_not]; omega
      have d1Int : decide ((m: Int) ≤ 40) = false := by simp only [decide_eq_true_eq, decide_eq_false_iff_not]; omega
      have d1Nat : decide (m ≤ 40) = false := by simp only [decide_eq_true_eq, decide_eq_false_iff_not]; omega
      clear hA hB hC
      go_enter Try.func20, Try.ntmps20
      go_wp2_with fail
      go_ret
      exact ⟨rfl, box1 _ _⟩
  · by_cases hB : m ≤ 40
    · rcases hC with hC | hC | hC | hC
      · obtain rfl : G = true := by
          exact HG.out.2 (by omega)
        have d0Int : decide ((n: Int) ≤ 12) = false := by simp only [decide_eq_true_eq, decide_eq_false_iff_not]; omega
        have d0Nat : decide (n ≤ 12) = false := by simp only [decide_eq_true_eq, decide_eq_false_iff_not]; omega
        have d1Int : decide (200 ≤ (n: Int)) = true := by simp only [decide_eq_true_eq, decide_eq_false_iff_not]; omega
        have d1Nat : decide (200 ≤ n) = true := by simp only [decide_eq_true_eq, decide_eq_false_iff_not]; omega
        have d2Int : decide ((n: Int) ≤ 400) = true := by simp only [decide_eq_true_eq, decide_eq_false_iff_not]; omega
        have d2Nat : decide (n ≤ 400) = true := by simp only [decide_eq_true_eq, decide_eq_false_iff_not]; omega
        have d3Int : decide ((m: Int) ≤ 40) = true := by simp only [decide_eq_true_eq, decide_eq_false_iff_not]; omega
        have d3Nat : decide (m ≤ 40) = true := by simp only [decide_eq_true_eq, decide_eq_false_iff_not]; omega
        have d4Int : decide ((k: Int) ≤ 20) = true := by simp only [decide_eq_true_eq, decide_eq_false_iff_not]; omega
        have d4Nat : decide (k ≤ 20) = true := by simp only [decide_eq_true_eq, decide_eq_false_iff_not]; omega
        clear hA hB hC
        go_enter Try.func20, Try.ntmps20
        go_wp2_with fail
        go_ret
        exact ⟨rfl, box1 _ _⟩
      · obtain rfl : G = true := by
          exact HG.out.2 (by omega)
        have d0Int : decide ((n: Int) ≤ 12) = false := by simp only [decide_eq_true_eq, decide_eq_false_iff_not]; omega
        have d0Nat : decide (n ≤ 12) = false := by simp only [decide_eq_true_eq, decide_eq_false_iff_not]; omega
        have d1Int : decide (200 ≤ (n: Int)) = true := by simp only [decide_eq_true_eq, decide_eq_false_iff_not]; omega
        have d1Nat : decide (200 ≤ n) = true := by simp only [decide_eq_true_eq, decide_eq_false_iff_not]; omega
        have d2Int : decide ((n: Int) ≤ 400) = true := by simp only [decide_eq_true_eq, decide_eq_false_iff_not]; omega
        have d2Nat : decide (n ≤ 400) = true := by simp only [decide_eq_true_eq, decide_eq_false_iff_not]; omega
        have d3Int : decide ((m: Int) ≤ 40) = true := by simp only [decide_eq_true_eq, decide_eq_false_iff_not]; omega
        have d3Nat : decide (m ≤ 40) = true := by simp only [decide_eq_true_eq, decide_eq_false_iff_not]; omega
        have d4Int : decide ((k: Int) ≤ 20) = false := by simp only [decide_eq_true_eq, decide_eq_false_iff_not]; omega
        have d4Nat : decide (k ≤ 20) = false := by simp only [decide_eq_true_eq, decide_eq_false_iff_not]; omega
        have d5Int : decide (64 < (k: Int)) = true := by simp only [decide_eq_true_eq, decide_eq_false_iff_not]; omega
        have d5Nat : decide (64 < k) = true := by simp only [decide_eq_true_eq, decide_eq_false_iff_not]; omega
        have d6Int : decide ((k: Int) ≤ 128) = true := by simp only [decide_eq_true_eq, decide_eq_false_iff_not]; omega
        have d6Nat : decide (k ≤ 128) = true := by simp only [decide_eq_true_eq, decide_eq_false_iff_not]; omega
        clear hA hB hC
        go_enter Try.func20, Try.ntmps20
        go_wp2_with fail
        go_ret
        exact ⟨rfl, box1 _ _⟩
      · obtain rfl : G = false := by
          cases G with
          | false => rfl
          | true => exact absurd (HG.out.1 rfl) (by omega)
        have d0Int : decide ((n: Int) ≤ 12) = false := by simp only [decide_eq_true_eq, decide_eq_false_iff_not]; omega
        have d0Nat : decide (n ≤ 12) = false := by simp only [decide_eq_true_eq, decide_eq_false_iff_not]; omega
        have d1Int : decide (200 ≤ (n: Int)) = true := by simp only [decide_eq_true_eq, decide_eq_false_iff_not]; omega
        have d1Nat : decide (200 ≤ n) = true := by simp only [decide_eq_true_eq, decide_eq_false_iff_not]; omega
        have d2Int : decide ((n: Int) ≤ 400) = true := by simp only [decide_eq_true_eq, decide_eq_false_iff_not]; omega
        have d2Nat : decide (n ≤ 400) = true := by simp only [decide_eq_true_eq, decide_eq_false_iff_not]; omega
        have d3Int : decide ((m: Int) ≤ 40) = true := by simp only [decide_eq_true_eq, decide_eq_false_iff_not]; omega
        have d3Nat : decide (m ≤ 40) = true := by simp only [decide_eq_true_eq, decide_eq_false_iff_not]; omega
        have d4Int : decide ((k: Int) ≤ 20) = false := by simp only [decide_eq_true_eq, decide_eq_false_iff_not]; omega
        have d4Nat : decide (k ≤ 20) = false := by simp only [decide_eq_true_eq, decide_eq_false_iff_not]; omega
        have d5Int : decide (64 < (k: Int)) = true := by simp only [decide_eq_true_eq, decide_eq_false_iff_not]; omega
        have d5Nat : decide (64 < k) = true := by simp only [decide_eq_true_eq, decide_eq_false_iff_not]; omega
        have d6Int : decide ((k: Int) ≤ 128) = false := by simp only [decide_eq_true_eq, decide_eq_false_iff_not]; omega
        have d6Nat : decide (k ≤ 128) = false := by simp only [decide_eq_true_eq, decide_eq_false_iff_not]; omega
        clear hA hB hC
        go_enter Try.func20, Try.ntmps20
        go_wp2_with fail
        go_ret
        exact ⟨rfl, box1 _ _⟩
      · obtain rfl : G = false := by
          cases G with
          | false => rfl
          | true => exact absurd (HG.out.1 rfl) (by omega)
        have d0Int : decide ((n: Int) ≤ 12) = false := by simp only [decide_eq_true_eq, decide_eq_false_iff_not]; omega
        have d0Nat : decide (n ≤ 12) = false := by simp only [decide_eq_true_eq, decide_eq_false_iff_not]; omega
        have d1Int : decide (200 ≤ (n: Int)) = true := by simp only [decide_eq_true_eq, decide_eq_false_iff_not]; omega
        have d1Nat : decide (200 ≤ n) = true := by simp only [decide_eq_true_eq, decide_eq_false_iff_not]; omega
        have d2Int : decide ((n: Int) ≤ 400) = true := by simp only [decide_eq_true_eq, decide_eq_false_iff_not]; omega
        have d2Nat : decide (n ≤ 400) = true := by simp only [decide_eq_true_eq, decide_eq_false_iff_not]; omega
        have d3Int : decide ((m: Int) ≤ 40) = true := by simp only [decide_eq_true_eq, decide_eq_false_iff_not]; omega
        have d3Nat : decide (m ≤ 40) = true := by simp only [decide_eq_true_eq, decide_eq_false_iff_not]; omega
        have d4Int : decide ((k: Int) ≤ 20) = false := by simp only [decide_eq_true_eq, decide_eq_false_iff_not]; omega
        have d4Nat : decide (k ≤ 20) = false := by simp only [decide_eq_true_eq, decide_eq_false_iff_not]; omega
        have d5Int : decide (64 < (k: Int)) = false := by simp only [decide_eq_true_eq, decide_eq_false_iff_not]; omega
        have d5Nat : decide (64 < k) = false := by simp only [decide_eq_true_eq, decide_eq_false_iff_not]; omega
        clear hA hB hC
        go_enter Try.func20, Try.ntmps20
        go_wp2_with fail
        go_ret
        exact ⟨rfl, box1 _ _⟩
    · obtain rfl : G = false := by
        cases G with
        | false => rfl
        | true => exact absurd (HG.out.1 rfl) (by omega)
      have d0Int : decide ((n: Int) ≤ 12) = false := by simp only [decide_eq_true_eq, decide_eq_false_iff_not]; omega
      have d0Nat : decide (n ≤ 12) = false := by simp only [decide_eq_true_eq, decide_eq_false_iff_not]; omega
      have d1Int : decide (200 ≤ (n: Int)) = true := by simp only [decide_eq_true_eq, decide_eq_false_iff_not]; omega
      have d1Nat : decide (200 ≤ n) = true := by simp only [decide_eq_true_eq, decide_eq_false_iff_not]; omega
      have d2Int : decide ((n: Int) ≤ 400) = true := by simp only [decide_eq_true_eq, decide_eq_false_iff_not]; omega
      have d2Nat : decide (n ≤ 400) = true := by simp only [decide_eq_true_eq, decide_eq_false_iff_not]; omega
      have d3Int : decide ((m: Int) ≤ 40) = false := by simp only [decide_eq_true_eq, decide_eq_false_iff_not]; omega
      have d3Nat : decide (m ≤ 40) = false := by simp only [decide_eq_true_eq, decide_eq_false_iff_not]; omega
      clear hA hB hC
      go_enter Try.func20, Try.ntmps20
      go_wp2_with fail
      go_ret
      exact ⟨rfl, box1 _ _⟩
  · obtain rfl : G = false := by
      cases G with
      | false => rfl
      | true => exact absurd (HG.out.1 rfl) (by omega)
    have d0Int : decide ((n: Int) ≤ 12) = false := by simp only [decide_eq_true_eq, decide_eq_false_iff_not]; omega
    have d0Nat : decide (n ≤ 12) = false := by simp only [decide_eq_true_eq, decide_eq_false_iff_not]; omega
    have d1Int : decide (200 ≤ (n: Int)) = true := by simp only [decide_eq_true_eq, decide_eq_false_iff_not]; omega
    have d1Nat : decide (200 ≤ n) = true := by simp only [decide_eq_true_eq, decide_eq_false_iff_not]; omega
    have d2Int : decide ((n: Int) ≤ 400) = false := by simp only [decide_eq_true_eq, decide_eq_false_iff_not]; omega
    have d2Nat : decide (n ≤ 400) = false := by simp only [decide_eq_true_eq, decide_eq_false_iff_not]; omega
    clear hA hC
    go_enter Try.func20, Try.ntmps20
    go_wp2_with fail
    go_ret
    exact ⟨rfl, box1 _ _⟩
  · obtain rfl : G = false := by
      cases G with
      | false => rfl
      | true => exact absurd (HG.out.1 rfl) (by omega)
    have d0Int : decide ((n: Int) ≤ 12) = false := by simp only [decide_eq_true_eq, decide_eq_false_iff_not]; omega
    have d0Nat : decide (n ≤ 12) = false := by simp only [decide_eq_true_eq, decide_eq_false_iff_not]; omega
    have d1Int : decide (200 ≤ (n: Int)) = false := by simp only [decide_eq_true_eq, decide_eq_false_iff_not]; omega
    have d1Nat : decide (200 ≤ n) = false := by simp only [decide_eq_true_eq, decide_eq_false_iff_not]; omega
    clear hA hC
    go_enter Try.func20, Try.ntmps20
    go_wp2_with fail
    go_ret
    exact ⟨rfl, box1 _ _⟩
def Light (x : Aks) : Prop := x.n1 ≤ 400 ∧ x.n2 ≤ 400 ∧ x.n3 ≤ 400
set_option maxRecDepth 100000 in
set_option maxHeartbeats 2000000 in
theorem light_any (x : Aks) (G : Bool) (w : World) (hG : G = true ↔ Light x) : Calls Try.prog 32 #[x.v] w fun e w' => e = .returned (.bool G) ∧ Below w.heap.size w w' := by
  obtain ⟨xA, xB, xt, A1, a, c1, Z1, A2, b, c2, Z2, A3, c, c3, Z3, f, s, p⟩ := x
  unfold Light at hG
  simp only at hG
  have HG := Lib.hid hG
  clear hG
  by_cases h1 : a ≤ 400
  · by_cases h2 : b ≤ 400
    · by_cases h3 : c ≤ 400
      · obtain rfl : G = true := by
          exact HG.out.2 (by omega)
        have d0Int : decide ((a: Int) ≤ 400) = true := by simp only [decide_eq_true_eq, decide_eq_false_iff_not]; omega
        have d0Nat : decide (a ≤ 400) = true := by simp only [decide_eq_true_eq, decide_eq_false_iff_not]; omega
        have d1Int : decide ((b: Int) ≤ 400) = true := by simp only [decide_eq_true_eq, decide_eq_false_iff_not]; omega
        have d1Nat : decide (b ≤ 400) = true := by simp only [decide_eq_true_eq, decide_eq_false_iff_not]; omega
        have d2Int : decide ((c: Int) ≤ 400) = true := by simp only [decide_eq_true_eq, decide_eq_false_iff_not]; omega
        have d2Nat : decide (c ≤ 400) = true := by simp only [decide_eq_true_eq, decide_eq_false_iff_not]; omega
        clear h1 h2 h3
        go_enter Try.func32, Try.ntmps32
        go_wp2_with fail
        go_ret
        exact ⟨rfl, box1 _ _⟩
      · obtain rfl : G = false := by
          cases G with
          | false => rfl
          | true => exact absurd (HG.out.1 rfl) (by omega)
        have d0Int : decide ((a: Int) ≤ 400) = true := by simp only [decide_eq_true_eq, decide_eq_false_iff_not]; omega
        have d0Nat : decide (a ≤ 400) = true := by simp only [decide_eq_true_eq, decide_eq_false_iff_not]; omega
        have d1Int : decide ((b: Int) ≤ 400) = true := by simp only [decide_eq_true_eq, decide_eq_false_iff_not]; omega
        have d1Nat : decide (b ≤ 400) = true := by simp only [decide_eq_true_eq, decide_eq_false_iff_not]; omega
        have d2Int : decide ((c: Int) ≤ 400) = false := by simp only [decide_eq_true_eq, decide_eq_false_iff_not]; omega
        have d2Nat : decide (c ≤ 400) = false := by simp only [decide_eq_true_eq, decide_eq_false_iff_not]; omega
        clear h1 h2 h3
        go_enter Try.func32, Try.ntmps32
        go_wp2_with fail
        go_ret
        exact ⟨rfl, box1 _ _⟩
    · obtain rfl : G = false := by
        cases G with
        | false => rfl
        | true => exact absurd (HG.out.1 rfl) (by omega)
      have d0Int : decide ((a: Int) ≤ 400) = true := by simp only [decide_eq_true_eq, decide_eq_false_iff_not]; omega
      have d0Nat : decide (a ≤ 400) = true := by simp only [decide_eq_true_eq, decide_eq_false_iff_not]; omega
      have d1Int : decide ((b: Int) ≤ 400) = false := by simp only [decide_eq_true_eq, decide_eq_false_iff_not]; omega
      have d1Nat : decide (b ≤ 400) = false := by simp only [decide_eq_true_eq, decide_eq_false_iff_not]; omega
      clear h1 h2
      go_enter Try.func32, Try.ntmps32
      go_wp2_with fail
      go_ret
      exact ⟨rfl, box1 _ _⟩
  · obtain rfl : G = false := by
      cases G with
      | false => rfl
      | true => exact absurd (HG.out.1 rfl) (by omega)
    have d0Int : decide ((a: Int) ≤ 400) = false := by simp only [decide_eq_true_eq, decide_eq_false_iff_not]; omega
    have d0Nat : decide (a ≤ 400) = false := by simp only [decide_eq_true_eq, decide_eq_false_iff_not]; omega
    clear h1
    go_enter Try.func32, Try.ntmps32
    go_wp2_with fail
    go_ret
    exact ⟨rfl, box1 _ _⟩
/-- a reading -/
def IsR (c : Clo) (n : Nat) (T : Nat → Int) : Prop := DrOk c.d ∧ MksOk c.d c.m c.F ∧ n = c.d.n + 1 ∧ Rdg c.d.n (gapF c.d) c.m c.F T
set_option maxRecDepth 100000 in
set_option maxHeartbeats 1000000 in
theorem is_any (c : Clo) (A : Option Addr) (n tc : Nat) (T : Nat → Int) (G : Bool) (w : World) (hin : ClIn c w.heap.size w) (ht : IntsIn A n T w.heap.size w) (hG : G = true ↔ IsR c n T) :
    Calls Try.prog 64 #[c.v, .slice A n tc] w fun e w' => e = .returned (.bool G) ∧ Below w.heap.size w w' := by
  obtain ⟨E, hE⟩ := keR_ex c.d c.m c.F n T
  have hGE : G = (E == 0) := by
    apply Bool.eq_iff_iff.2
    rw [hG, beq_iff_eq]
    unfold IsR
    rcases hE with ⟨h, hc⟩ | ⟨h1, h2, ⟨h, h3⟩ | ⟨h, h3⟩⟩
    · refine ⟨fun ⟨k1, k2, _⟩ => ?_, fun e => by omega⟩
      rcases hc with ⟨e, hn⟩ | ⟨e, _, hn⟩ | ⟨e, _⟩
      · exact absurd k1 hn
      · exact absurd k2 hn
      · exact e
    · exact ⟨fun ⟨_, _, k⟩ => absurd k h3, fun e => by omega⟩
    · exact ⟨fun _ => h, fun _ => ⟨h1, h2, h3⟩⟩
  have B1 := box1 w (cloO c)
  have K := Lib.hid (Keeps_any c.d c.MA c.m c.mc c.F A n tc T E (w.alloc (cloO c)) ((hin.1.up B1 (Nat.le_refl _)).more B1.size) ((hin.2.up B1 (Nat.le_refl _)).more B1.size) ((ht.up B1 (Nat.le_refl _)).more B1.size) hE)
  have HG := Lib.hid hGE
  clear hG hE hGE hin ht B1
  go_enter Try.func64, Try.ntmps64
  go_wp2_with fail
  refine K.out.mono ?_
  rintro e w2 ⟨rfl, hb2⟩
  have D2 := Lib.hid (nextB (box1 w (cloO c)) hb2)
  clear hb2
  go_wp2_with fail
  go_ret
  exact ⟨by rw [HG.out]; rfl, D2.out⟩
def AhR (n : Nat) (Z : Nat → Int) (m : Nat) (Y : Nat → Int) : Prop := n = m ∧ ∀ i, i < n → Z i ≤ Y i
set_option maxRecDepth 100000 in
set_option maxHeartbeats 1000000 in
theorem ahead_any (n m : Nat) (A B : Option Addr) (c d : Nat) (Z Y : Nat → Int) (G : Bool) (w : World) (h1 : IntsIn A n Z w.heap.size w) (h2 : IntsIn B m Y w.heap.size w) (hG : G = true ↔ AhR n Z m Y) :
    Calls Try.prog 65 #[.slice A n c, .slice B m d] w fun e w' => e = .returned (.bool G) ∧ Below w.heap.size w w' := by
  have H1 := Lib.hid h1
  have H2 := Lib.hid h2
  have HG := Lib.hid hG
  have hn := h1.1
  have hm := h2.1
  clear h1 h2 hG
  obtain ⟨j, j1, j2, j3⟩ := first_bad (fun i => i < m ∧ Z i ≤ Y i) n
  have J2 := Lib.hid j2
  have J3 := Lib.hid j3
  clear j2 j3
  go_enter Try.func65, Try.ntmps65
  go_wp2_with fail
  go_loopw [5] (fun i wr => ∃ k : Nat, k ≤ j ∧ i = .int .i64 k ∧ ∃ q, wr = w.drewN q) (fun i _ => n - (intOf i).toNat)
  case atStart => exact ⟨0, Nat.zero_le _, rfl, 0, rfl⟩
  case round =>
    obtain ⟨k, hk, rfl, q, rfl⟩ := hrel
    have hk0 : (0 : Int) ≤ (k : Int) := by omega
    by_cases hlt : k < n
    · obtain ⟨g, rfl, g1, c1⟩ := H1.out.2 k hlt
      have hki : (k : Int) < (n : Int) := by omega
      by_cases hkm : k < m
      · obtain ⟨g', rfl, g1', c1'⟩ := H2.out.2 k hkm
        have d1 : decide ((m : Int) ≤ (k : Int)) = false := by simp only [decide_eq_false_iff_not]; omega
        have d2 : decide (m ≤ k) = false := by simp only [decide_eq_false_iff_not]; omega
        have hkmi : (k : Int) < (m : Int) := by omega
        by_cases hkj : k < j
        · have d3 : decide (Y k < Z k) = false := by have := (J2.out k hkj).2; simp only [decide_eq_false_iff_not]; omega
          generalize Z k = z at c1 d3
          generalize Y k = y at c1' d3
          go_wp2_with fail
          go_quiet (fail)
          go_wp2_with fail
          go_roundw
          case rel => exact ⟨k + 1, by omega, by go_num, _, rfl⟩
          case measure => simp [intOf]; omega
        · obtain rfl : k = j := by omega
          have hne := J3.out hlt
          have d3 : decide (Y k < Z k) = true := by simp only [decide_eq_true_eq]; omega
          obtain rfl : G = false := by
            cases G with
            | false => rfl
            | true => exact absurd (by have h := HG.out.1 rfl; exact ⟨hkm, h.2 k hlt⟩) hne
          generalize Z k = z at c1 d3
          generalize Y k = y at c1' d3
          clear hne
          go_wp2_with fail
          go_quiet (fail)
          go_wp2_with fail
          go_ret
          exact ⟨rfl, below_drewN (below_drewN (Below.refl _ _) _) _⟩
      · have d1 : decide ((m : Int) ≤ (k : Int)) = true := by simp only [decide_eq_true_eq]; omega
        have d2 : decide (m ≤ k) = true := by simp only [decide_eq_true_eq]; omega
        obtain rfl : G = false := by
          cases G with
          | false => rfl
          | true => exact absurd (HG.out.1 rfl).1 (by omega)
        go_wp2_with fail
        go_quiet (fail)
        go_wp2_with fail
        go_ret
        exact ⟨rfl, below_drewN (below_drewN (Below.refl _ _) _) _⟩
    · have hki : (n : Int) ≤ (k : Int) := by omega
      have hg : G = ((n : Int) == (m : Int)) := by
        apply Bool.eq_iff_iff.2
        rw [HG.out, beq_iff_eq]
        exact ⟨fun h => by rw [h.1], fun h => ⟨by omega, fun i hi => (J2.out i (by omega)).2⟩⟩
      have HGE := Lib.hid hg
      clear hg
      go_wp2_with fail
      go_ret
      exact ⟨by rw [HGE.out]; first | rfl | (congr 2; exact Bool.eq_iff_iff.2 (by rw [beq_iff_eq, beq_iff_eq]; omega)), below_drewN (Below.refl _ _) q⟩
end Go.Proofs.Ytpikaohodieeaaa
