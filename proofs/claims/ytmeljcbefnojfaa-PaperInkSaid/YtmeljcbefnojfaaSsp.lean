import Derived.Test.YtmeljcbefnojfaaRjn
import Derived.Test.YtmeljcbefnojfaaSam
namespace Go.Proofs.Ytmeljcbefnojfaa
open Go.RowKit
set_option maxHeartbeats 1000000 in
/-- whether two rows hold the same spans -/
theorem SameSpans_dr (A B : Option Addr) (n m c d : Nat) (S R : Nat → Int × Int) (G : Bool) (w : World) (ha : SpsIn A n S w.heap.size w) (hb : SpsIn B m R w.heap.size w) (hG : G = true ↔ n = m ∧ ∀ i, i < n → S i = R i) :
    Calls Try.prog 52 #[.slice A n c, .slice B m d] w fun e w' => e = .returned (.bool G) ∧ ∃ q, w' = w.drewN q := by
  have HA := Lib.hid ha
  have HB := Lib.hid hb
  have hn := ha.1
  have hm := hb.1
  clear ha hb
  by_cases hnm : n = m
  · have HG : Hid (G = true ↔ ∀ i, i < n → S i = R i) := Lib.hid (hG.trans ⟨fun h => h.2, fun h => ⟨hnm, h⟩⟩)
    clear hG
    subst hnm
    go_enter Try.func52, Try.ntmps52
    go_wp2_with fail
    go_loopw [5] (fun i wr => ∃ k q : Nat, k ≤ n ∧ i = .int .i64 k ∧ (∀ j, j < k → S j = R j) ∧ wr = w.drewN q) (fun i _ => n - (intOf i).toNat)
    case atStart => exact ⟨0, 0, Nat.zero_le _, rfl, fun j hj => absurd hj (by omega), rfl⟩
    case round =>
      obtain ⟨k, q, hk, rfl, hok, rfl⟩ := hrel
      have HOK := Lib.hid hok
      clear hok
      by_cases hlt : k < n
      · obtain ⟨a, rfl, ab, a0, a1⟩ := HA.out.2 k hlt
        obtain ⟨b, rfl, bb, b0, b1⟩ := HB.out.2 k hlt
        have hki : (k : Int) < (n : Int) := by omega
        have hk0 : (0 : Int) ≤ (k : Int) := by omega
        by_cases t : S k = R k
        · have HN := Lib.hid fun j (hj : j < k + 1) => show S j = R j from (Nat.lt_succ_iff_lt_or_eq.1 hj).elim (HOK.out j) (fun e => e ▸ t)
          rw [← t] at b0 b1
          clear t
          go_wp2_with fail
          go_quiet (fail)
          go_wp2_with fail
          exact ⟨⟨k + 1, q + nq, by omega, by go_num, HN.out, rfl⟩, by simp [intOf]; omega⟩
        · obtain rfl : G = false := by
            cases G with
            | false => rfl
            | true => exact absurd (HG.out.1 rfl k hlt) t
          by_cases t1 : (S k).1 = (R k).1
          · have t2 : (S k).2 ≠ (R k).2 := fun h => t (Prod.ext t1 h)
            have d2 : decide ((S k).2 = (R k).2) = false := by simpa using t2
            have d3 : ((S k).2 == (R k).2) = false := by simpa using t2
            rw [← t1] at b0
            clear t t1
            go_wp2_with fail
            go_quiet (fail)
            go_wp2_with fail
            go_ret
            exact ⟨rfl, q + nq, by rw [World.drewN_drewN]⟩
          · have d2 : decide ((S k).1 = (R k).1) = false := by simpa using t1
            have d3 : ((S k).1 == (R k).1) = false := by simpa using t1
            clear t
            go_wp2_with fail
            go_quiet (fail)
            go_wp2_with fail
            go_ret
            exact ⟨rfl, q + nq, by rw [World.drewN_drewN]⟩
      · have hki : (n : Int) ≤ (k : Int) := by omega
        obtain rfl : k = n := by omega
        obtain rfl : G = true := HG.out.2 HOK.out
        go_wp2_with fail
        go_ret
        exact ⟨rfl, q, rfl⟩
  · obtain rfl : G = false := by
      cases G with
      | false => rfl
      | true => exact absurd (hG.1 rfl).1 hnm
    have h3' : ((n : Int) == (m : Int)) = false := by simp; omega
    have h3'' : ((n : Int) != (m : Int)) = true := by simp; omega
    go_enter Try.func52, Try.ntmps52
    go_wp2_with fail
    go_ret
    exact ⟨rfl, 0, rfl⟩
theorem SameSpans_any (A B : Option Addr) (n m c d : Nat) (S R : Nat → Int × Int) (G : Bool) (w : World) (ha : SpsIn A n S w.heap.size w) (hb : SpsIn B m R w.heap.size w) (hG : G = true ↔ n = m ∧ ∀ i, i < n → S i = R i) :
    Calls Try.prog 52 #[.slice A n c, .slice B m d] w fun e w' => e = .returned (.bool G) ∧ Below w.heap.size w w' :=
  (SameSpans_dr A B n m c d S R G w ha hb hG).mono fun _ _ ⟨he, q, hq⟩ => ⟨he, by rw [hq]; exact below_drewN (Below.refl _ _) q⟩
/-- a value that reads as a list of spans, as a row -/
theorem RdS.sps {v : Value} {L : List (Int × Int)} {w : World} (h : RdS v L w) : ∃ A c, v = .slice A L.length c ∧ SpsIn A L.length (fun i => L[i]?.getD (0, 0)) w.heap.size w := by
  obtain ⟨A, cap, e, h1, h2, h3, h4⟩ := h
  refine ⟨A, cap, e, by unfold maxLen at h2; omega, fun i hi => ?_⟩
  have hs : L[i]? = some L[i] := List.getElem?_eq_getElem hi
  obtain ⟨g, o, rfl, hl, c0, c1⟩ := h4 i L[i] hs
  refine ⟨⟨g, o, none⟩, rfl, hl, ?_, ?_⟩
  · simp only [hs, Option.getD_some]
    rw [← c0]
    congr 1
    by_cases h0 : i = 0
    · subst h0; rw [Nat.zero_mul, add_zero, Nat.add_zero]
    · rw [add_pos _ _ (by omega)]
  · simp only [hs, Option.getD_some]
    rw [← c1]
    congr 1
    by_cases h0 : i = 0
    · subst h0; rw [Nat.zero_mul, add_zero]
    · rw [add_pos _ _ (by omega)]
/-- two values that read as lists of spans are the same iff the lists are -/
theorem same_rd {v u : Value} {L M : List (Int × Int)} {w : World} (h : RdS v L w) (k : RdS u M w) (G : Bool) (hG : G = true ↔ L = M) :
    Calls Try.prog 52 #[v, u] w fun e w' => e = .returned (.bool G) ∧ Below w.heap.size w w' := by
  obtain ⟨A, c, rfl, h1⟩ := h.sps
  obtain ⟨B, d, rfl, h2⟩ := k.sps
  refine SameSpans_any A B L.length M.length c d _ _ G w h1 h2 (hG.trans ⟨fun e => by subst e; exact ⟨rfl, fun _ _ => rfl⟩, fun ⟨e, hi⟩ => List.ext_getElem? fun i => ?_⟩)
  by_cases c : i < L.length
  · have := hi i c
    rw [List.getElem?_eq_getElem c, List.getElem?_eq_getElem (by omega)] at this ⊢
    simpa using this
  · rw [List.getElem?_eq_none (by omega), List.getElem?_eq_none (by omega)]
end Go.Proofs.Ytmeljcbefnojfaa
namespace Go.Proofs.Ytmeljcbefnojfaa
open Go.RowKit
/-- a call that draws and does nothing else, in a drawn world -/
theorem dr_call {f : FuncId} {args : Array Value} {w : World} {q x : Nat} {v : Value} (K : ∀ q, Calls Try.prog f args (w.drewN q) fun e w' => e = .returned v ∧ ∃ m, w' = (w.drewN q).drewN m) :
    Calls Try.prog f args (w.drewN (q + x)) fun e w'' => e = .returned v ∧ ∃ n, w'' = w.drewN (q + n) :=
  (K (q + x)).mono fun _ _ ⟨he, m, hm⟩ => ⟨he, x + m, by rw [hm, World.drewN_drewN, Nat.add_assoc]⟩
/-- two sheets' columns hold the same -/
def ClsEq (x y : Cls) (n m : Nat) : Prop := n = m ∧ ∀ i, i < n → x.L i = y.L i ∧ ∀ j, j < x.L i → x.S i j = y.S i j
set_option maxHeartbeats 1000000 in
/-- whether two sheets' columns hold the same -/
theorem SameSets_any (A B : Option Addr) (n m c d : Nat) (x y : Cls) (G : Bool) (w : World) (ha : ClsIn A n x w.heap.size w) (hb : ClsIn B m y w.heap.size w) (hG : G = true ↔ ClsEq x y n m) :
    Calls Try.prog 55 #[.slice A n c, .slice B m d] w fun e w' => e = .returned (.bool G) ∧ Below w.heap.size w w' := by
  have HA := Lib.hid ha
  have HB := Lib.hid hb
  have hn := ha.1
  have hm := hb.1
  clear ha hb
  by_cases hnm : n = m
  · have HG : Hid (G = true ↔ ∀ i, i < n → x.L i = y.L i ∧ ∀ j, j < x.L i → x.S i j = y.S i j) := Lib.hid (hG.trans ⟨fun h => h.2, fun h => ⟨hnm, h⟩⟩)
    clear hG
    subst hnm
    go_enter Try.func55, Try.ntmps55
    go_wp2_with fail
    go_loopw [5] (fun i wr => ∃ k : Nat, k ≤ n ∧ i = .int .i64 k ∧ (∀ i, i < k → x.L i = y.L i ∧ ∀ j, j < x.L i → x.S i j = y.S i j) ∧ ∃ q : Nat, wr = w.drewN q) (fun i _ => n - (intOf i).toNat)
    case atStart => exact ⟨0, Nat.zero_le _, rfl, fun j hj => absurd hj (by omega), 0, rfl⟩
    case round =>
      obtain ⟨k, hk, rfl, hok, q, rfl⟩ := hrel
      have HOK := Lib.hid hok
      clear hok
      by_cases hlt : k < n
      · obtain ⟨a, rfl, ab, a0, aS⟩ := HA.out.2 k hlt
        obtain ⟨b, rfl, bb, b0, bS⟩ := HB.out.2 k hlt
        have hki : (k : Int) < (n : Int) := by omega
        have hk0 : (0 : Int) ≤ (k : Int) := by omega
        have KS : ∀ T : Bool, (T = true ↔ x.L k = y.L k ∧ ∀ j, j < x.L k → x.S k j = y.S k j) → Hid (∀ q, Calls Try.prog 52 #[.slice (x.A k) (x.L k) (x.C k), .slice (y.A k) (y.L k) (y.C k)] (w.drewN q) fun e w' => e = .returned (.bool T) ∧ ∃ m, w' = (w.drewN q).drewN m) := fun T hT => Lib.hid fun q => SameSpans_dr _ _ _ _ _ _ _ _ T (w.drewN q) (aS.up (below_drewN (Below.refl _ _) q) (Nat.le_refl _)) (bS.up (below_drewN (Below.refl _ _) q) (Nat.le_refl _)) hT
        clear aS bS
        by_cases t : x.L k = y.L k ∧ ∀ j, j < x.L k → x.S k j = y.S k j
        · have K := KS true ⟨fun _ => t, fun _ => rfl⟩
          have HN := Lib.hid fun i (hi : i < k + 1) => show x.L i = y.L i ∧ ∀ j, j < x.L i → x.S i j = y.S i j from (Nat.lt_succ_iff_lt_or_eq.1 hi).elim (HOK.out i) (fun e => e ▸ t)
          clear t KS
          go_wp2_with fail
          go_quiet ((exact dr_call K.out))
          go_wp2_with fail
          go_roundw
          case rel => exact ⟨k + 1, by omega, by go_num, HN.out, q + nq, by first | rfl | rw [World.drewN_drewN]⟩
          case measure => simp [intOf]; omega
        · obtain rfl : G = false := by
            cases G with
            | false => rfl
            | true => exact absurd (HG.out.1 rfl k hlt) t
          have K := KS false ⟨fun h => (Bool.false_ne_true h).elim, fun h => absurd h t⟩
          clear t KS
          go_wp2_with fail
          go_quiet ((exact dr_call K.out))
          go_wp2_with fail
          go_ret
          exact ⟨rfl, below_drewN (below_drewN (Below.refl _ _) _) _⟩
      · have hki : (n : Int) ≤ (k : Int) := by omega
        obtain rfl : k = n := by omega
        obtain rfl : G = true := HG.out.2 HOK.out
        go_wp2_with fail
        go_ret
        exact ⟨rfl, below_drewN (Below.refl _ _) _⟩
  · obtain rfl : G = false := by
      cases G with
      | false => rfl
      | true => exact absurd (hG.1 rfl).1 hnm
    have h3' : ((n : Int) == (m : Int)) = false := by simp; omega
    have h3'' : ((n : Int) != (m : Int)) = true := by simp; omega
    go_enter Try.func55, Try.ntmps55
    go_wp2_with fail
    go_ret
    exact ⟨rfl, Below.refl _ _⟩
end Go.Proofs.Ytmeljcbefnojfaa
