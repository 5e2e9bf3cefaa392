import Derived.Test.YtmeljcbefnojfaaSsp
namespace Go.Proofs.Ytmeljcbefnojfaa
open Go.RowKit
/-- a column of the first sheet shows no more than that of the second one -/
def WinC (x y : Cls) (i : Nat) : Prop := 0 < y.L i → 0 < x.L i ∧ bothL (firstK (x.S i) (x.L i)) (firstK (y.S i) (y.L i)) = firstK (x.S i) (x.L i)
theorem eq_firstK (L : List (Int × Int)) (S : Nat → Int × Int) (n : Nat) : (L.length = n ∧ ∀ i, i < L.length → L[i]?.getD (0, 0) = S i) ↔ L = firstK S n := by
  constructor
  · rintro ⟨rfl, h⟩
    refine List.ext_getElem (firstK_length S L.length).symm fun i h1 h2 => ?_
    have := h i h1
    rw [List.getElem?_eq_getElem h1] at this
    simpa [firstK] using this
  · rintro rfl
    refine ⟨firstK_length S n, fun i hi => ?_⟩
    rw [firstK_length] at hi
    simp [firstK, hi]
/-- whether a value that reads as a list of spans holds what a row holds -/
theorem same_as_row {v : Value} {L : List (Int × Int)} {w : World} (h : RdS v L w) {B : Option Addr} {m d : Nat} {R : Nat → Int × Int} (hb : SpsIn B m R w.heap.size w) (G : Bool) (hG : G = true ↔ L = firstK R m) :
    Calls Try.prog 52 #[v, .slice B m d] w fun e w' => e = .returned (.bool G) ∧ Below w.heap.size w w' := by
  obtain ⟨A, c, rfl, h1⟩ := h.sps
  exact SameSpans_any A B L.length m c d _ R G w h1 hb (hG.trans (eq_firstK L R m).symm)
set_option maxRecDepth 100000 in
set_option maxHeartbeats 4000000 in
theorem RWithin_any (A B : Option Addr) (n m c d : Nat) (x y : Cls) (E : Int) (G : Bool) (w : World) (ha : ClsIn A n x w.heap.size w) (hb : ClsIn B m y w.heap.size w) (hE : alkE x y n m E) (hG : G = true ↔ E = 0 ∧ ∀ i, i < n → WinC x y i) :
    Calls Try.prog 61 #[.agg #[.slice A n c], .agg #[.slice B m d]] w fun e w' => e = .returned (.tuple #[.bool G, .int .i64 E]) ∧ Below w.heap.size w w' := by
  have hn := ha.1
  have hm := hb.1
  have HA := Lib.hid ha
  have HB := Lib.hid hb
  have KA : Hid (∀ W, Below w.heap.size w W → Calls Try.prog 110 #[.agg #[.slice A n c], .agg #[.slice B m d]] W fun e w' => e = .returned (.int .i64 E) ∧ Below W.heap.size W w') := Lib.hid fun W h => alike_any A B n m c d x y E W ((ha.up h (Nat.le_refl _)).more h.size) ((hb.up h (Nat.le_refl _)).more h.size) hE
  clear ha hb
  by_cases e0 : E = 0
  · subst e0
    obtain ⟨ix, iy, rfl⟩ : InkOk x n ∧ InkOk y m ∧ n = m := by
      rcases hE with h | h | h | h
      · exact absurd h.2 (by decide)
      · exact absurd h.2.2 (by decide)
      · exact absurd h.2.2.2 (by decide)
      · exact ⟨h.1, h.2.1, h.2.2.1⟩
    have hn200 := ix.2.1
    have IX := Lib.hid ix
    have IY := Lib.hid iy
    have HG : Hid (G = true ↔ ∀ i, i < n → WinC x y i) := Lib.hid (hG.trans ⟨fun h => h.2, fun h => ⟨rfl, h⟩⟩)
    clear hE hG ix iy
    go_enter Try.func61, Try.ntmps61
    go_wp2_with fail
    refine (KA.out _ (box2 _ _ _)).mono ?_
    rintro e w1 ⟨rfl, hb1⟩
    have r0 := low_cell (b := w.heap.size) (o := 0) (v := .slice A n c) hb1 (by simp only [World.size_alloc]; omega) (by go_simp)
    have r1 := low_cell (b := w.heap.size + 1) (o := 0) (v := .slice B n d) hb1 (by simp only [World.size_alloc]; omega) (by go_simp)
    have hB : Below w.heap.size w w1 := (box2 w _ _).trans (hb1.mono (by simp only [World.size_alloc]; omega))
    have z0 : w.heap.size + 1 < w1.heap.size := by have := hb1.size; simp only [World.size_alloc] at this; omega
    clear hb1
    go_wp2_with fail
    have R0 := Lib.hid r0
    have R1 := Lib.hid r1
    have HB1 := Lib.hid hB
    clear r0 r1 hB
    go_loopw [7] (fun i wr => ∃ k : Nat, k ≤ n ∧ i = .int .i64 k ∧ (∀ j, j < k → WinC x y j) ∧ Below w1.heap.size w1 wr) (fun i _ => n - (intOf i).toNat)
    case atStart => exact ⟨0, Nat.zero_le _, rfl, fun j hj => absurd hj (by omega), Below.refl _ _⟩
    case round =>
      obtain ⟨k, hk, rfl, hok, hBw⟩ := hrel
      obtain ⟨wo, rfl⟩ : ∃ wo : World, wo = wr := ⟨_, rfl⟩
      have HOK := Lib.hid hok
      have HBW := Lib.hid hBw
      have HBO := Lib.hid (HB1.out.trans (hBw.mono HB1.out.size))
      have r0 := low_cell hBw (by omega) R0.out
      have r1 := low_cell hBw z0 R1.out
      clear hok hBw
      have hk0 : (0 : Int) ≤ (k : Int) := by omega
      by_cases hlt : k < n
      · obtain ⟨a, rfl, _, a0, aS⟩ := (HA.out.up HBO.out (Nat.le_refl _)).2 k hlt
        obtain ⟨b, rfl, _, b0, bS⟩ := (HB.out.up HBO.out (Nat.le_refl _)).2 k hlt
        have AS := Lib.hid (aS.more HBO.out.size)
        have BS := Lib.hid (bS.more HBO.out.size)
        clear aS bS
        have hki : (k : Int) < (n : Int) := by omega
        by_cases ty : 0 < y.L k
        · have e1 : decide (0 < y.L k) = true := by simpa using ty
          by_cases tx : 0 < x.L k
          · have e2 : x.L k ≠ 0 := by omega
            have e4 : (x.L k == 0) = false := by simpa using e2
            have e5 : ((x.L k : Int) == 0) = false := by simp; omega
            have rx := IX.out.2.2 k hlt
            have ry := IY.out.2.2 k hlt
            obtain ⟨T, hT⟩ : ∃ T : Bool, T = true ↔ bothL (firstK (x.S k) (x.L k)) (firstK (y.S k) (y.L k)) = firstK (x.S k) (x.L k) := ⟨decide (bothL (firstK (x.S k) (x.L k)) (firstK (y.S k) (y.L k)) = firstK (x.S k) (x.L k)), decide_eq_true_iff⟩
            have KM : Hid (Calls Try.prog 111 #[.slice (x.A k) (x.L k) (x.C k), .slice (y.A k) (y.L k) (y.C k)] wo fun e w' => ∃ v, e = .returned v ∧ Below wo.heap.size wo w' ∧ Hid (Calls Try.prog 52 #[v, .slice (x.A k) (x.L k) (x.C k)] w' fun e w'' => e = .returned (.bool T) ∧ Below w'.heap.size w' w'')) := Lib.hid ((meet_any _ _ _ _ _ _ _ _ wo rx.1 ry.1 AS.out BS.out rx.2.spok ry.2.spok).mono fun e w' ⟨v, h1, h2, h3⟩ => ⟨v, h1, h2, Lib.hid (same_as_row h3 ((AS.out.up h2 (Nat.le_refl _)).more h2.size) T hT)⟩)
            clear rx ry
            have HT := Lib.hid hT
            clear hT
            cases T with
            | true =>
              have HN := Lib.hid fun j (hj : j < k + 1) => show WinC x y j from (Nat.lt_succ_iff_lt_or_eq.1 hj).elim (HOK.out j) (fun e => e ▸ fun _ => ⟨tx, HT.out.1 rfl⟩)
              clear ty tx
              go_wp2_with fail
              refine KM.out.mono ?_
              rintro e w2 ⟨v, rfl, hb2, K2⟩
              have HB2 := Lib.hid hb2
              clear hb2
              go_wp2_with fail
              refine K2.out.mono ?_
              rintro e w3 ⟨rfl, hb3⟩
              have HB3 := Lib.hid (HBW.out.trans ((HB2.out.trans (hb3.mono HB2.out.size)).mono HBW.out.size))
              clear hb3
              go_wp2_with fail
              go_roundw
              case rel => exact ⟨k + 1, by omega, by go_num, HN.out, HB3.out⟩
              case measure => simp [intOf]; omega
            | false =>
              obtain rfl : G = false := by
                cases G with
                | false => rfl
                | true => exact absurd (HT.out.2 (HG.out.1 rfl k hlt ty).2) (by decide)
              clear ty tx
              go_wp2_with fail
              refine KM.out.mono ?_
              rintro e w2 ⟨v, rfl, hb2, K2⟩
              have HB2 := Lib.hid hb2
              clear hb2
              go_wp2_with fail
              refine K2.out.mono ?_
              rintro e w3 ⟨rfl, hb3⟩
              have HB3 := Lib.hid (HBO.out.trans ((HB2.out.trans (hb3.mono HB2.out.size)).mono HBO.out.size))
              clear hb3
              go_wp2_with fail
              go_ret2
              exact ⟨rfl, HB3.out⟩
          · have e2 : x.L k = 0 := by omega
            obtain rfl : G = false := by
              cases G with
              | false => rfl
              | true => exact absurd (HG.out.1 rfl k hlt ty).1 tx
            have e3 : Value.slice (x.A k) (x.L k) (x.C k) = .slice (x.A k) 0 (x.C k) := by rw [e2]
            rw [e3] at a0
            clear e2 e3 ty tx
            go_wp2_with fail
            go_ret2
            exact ⟨rfl, HBO.out⟩
        · have e1 : y.L k = 0 := by omega
          have HN := Lib.hid fun j (hj : j < k + 1) => show WinC x y j from (Nat.lt_succ_iff_lt_or_eq.1 hj).elim (HOK.out j) (fun e => e ▸ fun h => absurd h ty)
          have e3 : Value.slice (y.A k) (y.L k) (y.C k) = .slice (y.A k) 0 (y.C k) := by rw [e1]
          rw [e3] at b0
          clear e1 e3 ty
          go_wp2_with fail
          go_roundw
          case rel => exact ⟨k + 1, by omega, by go_num, HN.out, HBW.out⟩
          case measure => simp [intOf]; omega
      · have hki : (n : Int) ≤ (k : Int) := by omega
        obtain rfl : n = k := by omega
        obtain rfl : G = true := HG.out.2 HOK.out
        go_wp2_with fail
        go_ret2
        exact ⟨rfl, HBO.out⟩
  · obtain rfl : G = false := by
      cases G with
      | false => rfl
      | true => exact absurd (hG.1 rfl).1 e0
    have d1 : (E == 0) = false := by simpa using e0
    have d2 : (E != 0) = true := by simpa using e0
    clear hG hE
    go_enter Try.func61, Try.ntmps61
    go_wp2_with fail
    refine (KA.out _ (box2 _ _ _)).mono ?_
    rintro e w1 ⟨rfl, hb1⟩
    have hB : Below w.heap.size w w1 := (box2 w _ _).trans (hb1.mono (by simp only [World.size_alloc]; omega))
    clear hb1
    go_wp2_with fail
    go_ret2
    exact ⟨rfl, hB⟩
end Go.Proofs.Ytmeljcbefnojfaa
namespace Go.Proofs.Ytmeljcbefnojfaa
open Go.RowKit
set_option maxHeartbeats 1000000 in
/-- slices.IndexFunc over spans: whether one of them passes the test -/
theorem IndexFunc_any (g : Nat) (cb : Array Value) (A : Option Addr) (n c : Nat) (S : Nat → Int × Int) (T : Nat → Bool) (w : World) (hin : SpsIn A n S w.heap.size w) (eg : ∀ args w, (callFunc g args).run Try.prog w = .ok (.enter g args) w)
    (hf : ∀ (W : World) (i : Nat), i < n → Below w.heap.size w W → Calls Try.prog g (#[.agg #[.int .i64 (S i).1, .int .i64 (S i).2]] ++ cb) W fun e w' => e = .returned (.bool (T i)) ∧ Below W.heap.size W w') :
    Calls Try.prog 148 #[.slice A n c, .func (.func g) #[] cb] w fun e w' => ∃ v : Int, e = .returned (.int .i64 v) ∧ (0 ≤ v ↔ ∃ i, i < n ∧ T i = true) ∧ -1 ≤ v ∧ Below w.heap.size w w' := by
  have hn := hin.1
  have HF := Lib.hid hf
  have HIN := Lib.hid hin
  clear hf hin
  go_enter Try.func148, Try.ntmps148
  go_wp2_with fail
  go_loopw [8] (fun i wr => ∃ k : Nat, k ≤ n ∧ i = .int .i64 k ∧ (∀ j, j < k → T j = false) ∧ Below w.heap.size w wr) (fun i _ => n - (intOf i).toNat)
  case atStart => exact ⟨0, Nat.zero_le _, rfl, fun j hj => absurd hj (by omega), Below.refl _ _⟩
  case round =>
    obtain ⟨k, hk, rfl, hok, hB⟩ := hrel
    obtain ⟨wo, rfl⟩ : ∃ wo : World, wo = wr := ⟨_, rfl⟩
    have hk0 : (0 : Int) ≤ (k : Int) := by omega
    have HOK := Lib.hid hok
    have HB := Lib.hid hB
    clear hok
    by_cases hlt : k < n
    · obtain ⟨a, rfl, _, c0, c1⟩ := (HIN.out.up hB (Nat.le_refl _)).2 k hlt
      have HC := Lib.hid (HF.out wo k hlt hB)
      have hki : (k : Int) < (n : Int) := by omega
      clear hB
      obtain ⟨t, ht⟩ : ∃ t, t = T k := ⟨_, rfl⟩
      rw [← ht] at HC
      have HT := Lib.hid ht
      clear ht
      cases t with
      | true =>
        go_wp2_with (go_at_fn g; refine HC.out.mono ?_; rintro e w' ⟨rfl, hb1⟩)
        go_ret
        exact ⟨_, rfl, ⟨fun _ => ⟨k, hlt, HT.out.symm⟩, fun _ => hk0⟩, by omega, HB.out.trans (hb1.mono HB.out.size)⟩
      | false =>
        go_wp2_with (go_at_fn g; refine HC.out.mono ?_; rintro e w' ⟨rfl, hb1⟩)
        go_roundw
        case rel => exact ⟨k + 1, by omega, by go_num, fun j hj => (Nat.lt_succ_iff_lt_or_eq.1 hj).elim (HOK.out j) (fun e => e ▸ HT.out.symm), HB.out.trans (hb1.mono HB.out.size)⟩
        case measure => simp [intOf]; omega
    · have hki : (n : Int) ≤ (k : Int) := by omega
      obtain rfl : n = k := by omega
      clear hB
      go_wp2_with fail
      go_ret
      exact ⟨-1, rfl, ⟨fun h => absurd h (by omega), fun ⟨i, hi, h⟩ => by rw [HOK.out i hi] at h; cases h⟩, by omega, HB.out⟩
set_option maxHeartbeats 1000000 in
/-- slices.ContainsFunc over spans -/
theorem ContainsFunc_any (g : Nat) (cb : Array Value) (A : Option Addr) (n c : Nat) (S : Nat → Int × Int) (T : Nat → Bool) (G : Bool) (w : World) (hin : SpsIn A n S w.heap.size w) (eg : ∀ args w, (callFunc g args).run Try.prog w = .ok (.enter g args) w)
    (hf : ∀ (W : World) (i : Nat), i < n → Below w.heap.size w W → Calls Try.prog g (#[.agg #[.int .i64 (S i).1, .int .i64 (S i).2]] ++ cb) W fun e w' => e = .returned (.bool (T i)) ∧ Below W.heap.size W w') (hG : G = true ↔ ∃ i, i < n ∧ T i = true) :
    Calls Try.prog 138 #[.slice A n c, .func (.func g) #[] cb] w fun e w' => e = .returned (.bool G) ∧ Below w.heap.size w w' := by
  have K := Lib.hid (IndexFunc_any g cb A n c S T w hin eg hf)
  have HG := Lib.hid hG
  clear hin eg hf hG
  go_enter Try.func138, Try.ntmps138
  go_wp2_with fail
  refine K.out.mono ?_
  rintro e w1 ⟨v, rfl, hv, _, hb⟩
  have hd : decide (0 ≤ v) = G := by rw [Bool.eq_iff_iff, HG.out, ← hv, decide_eq_true_iff]
  clear hv
  go_wp2_with fail
  go_ret
  exact ⟨by first | rw [hd] | rfl, hb⟩
end Go.Proofs.Ytmeljcbefnojfaa
namespace Go.Proofs.Ytmeljcbefnojfaa
open Go.RowKit
theorem eg_exc1 : ∀ args w, (callFunc 137 args).run Try.prog w = .ok (.enter 137 args) w := enters_of Try.func137 (by kernel_rfl) rfl
theorem eg_exc11 : ∀ args w, (callFunc 139 args).run Try.prog w = .ok (.enter 139 args) w := enters_of Try.func139 (by kernel_rfl) rfl
/-- a span that lies in another one -/
def inSpan (s t : Int × Int) : Bool := decide (t.1 ≤ s.1) && decide (s.2 ≤ t.2)
set_option maxHeartbeats 1000000 in
theorem exc11_any (b : Nat) (s t : Int × Int) (w : World) (h0 : w.cell? ⟨b, 0, none⟩ = some (.int .i64 s.1)) (h1 : w.cell? ⟨b, 1, none⟩ = some (.int .i64 s.2)) :
    Calls Try.prog 139 #[.agg #[.int .i64 t.1, .int .i64 t.2], .pointer (some ⟨b, 0, none⟩)] w fun e w' => e = .returned (.bool (inSpan s t)) ∧ Below w.heap.size w w' := by
  have hb : b < w.heap.size := World.block_lt_of_cell? _ _ h0
  go_enter Try.func139, Try.ntmps139
  go_wp2_with fail
  all_goals (go_ret; refine ⟨?_, box1 _ _⟩; simp [inSpan]; try omega)
set_option maxHeartbeats 1000000 in
theorem exc1_any (q : Nat) (B : Option Addr) (m d : Nat) (R : Nat → Int × Int) (s : Int × Int) (G : Bool) (w : World) (h0 : w.cell? ⟨q, 0, none⟩ = some (.slice B m d)) (hb : SpsIn B m R w.heap.size w) (hG : G = false ↔ ∃ i, i < m ∧ inSpan s (R i) = true) :
    Calls Try.prog 137 #[.agg #[.int .i64 s.1, .int .i64 s.2], .pointer (some ⟨q, 0, none⟩)] w fun e w' => e = .returned (.bool G) ∧ Below w.heap.size w w' := by
  have hq : q < w.heap.size := World.block_lt_of_cell? _ _ h0
  have K : Hid (Calls Try.prog 138 #[.slice B m d, .func (.func 139) #[] #[.pointer (some ⟨w.heap.size, 0, none⟩)]] (w.alloc (.cells #[.int .i64 s.1, .int .i64 s.2] 23)) fun e w' => e = .returned (.bool (!G)) ∧ Below w.heap.size w w') := Lib.hid (by
    have hB0 : Below w.heap.size w (w.alloc (.cells #[.int .i64 s.1, .int .i64 s.2] 23)) := box1 _ _
    refine (ContainsFunc_any 139 #[.pointer (some ⟨w.heap.size, 0, none⟩)] B m d R (fun i => inSpan s (R i)) (!G) _ ((hb.up hB0 (Nat.le_refl _)).more hB0.size) eg_exc11 (fun W i hi hW => ?_) ?_).mono fun e w' h => ⟨h.1, hB0.trans (h.2.mono hB0.size)⟩
    · have c0 : W.cell? ⟨w.heap.size, 0, none⟩ = some (.int .i64 s.1) := low_cell hW (by simp only [World.size_alloc]; omega) (by go_simp)
      have c1 : W.cell? ⟨w.heap.size, 1, none⟩ = some (.int .i64 s.2) := low_cell hW (by simp only [World.size_alloc]; omega) (by go_simp)
      exact exc11_any _ s (R i) W c0 c1
    · rw [← hG]; cases G <;> simp)
  clear hb hG
  go_enter Try.func137, Try.ntmps137
  go_wp2_with fail
  refine K.out.mono ?_
  rintro e w1 ⟨rfl, hb1⟩
  clear h0
  go_wp2_with fail
  go_ret
  exact ⟨by simp, hb1⟩
theorem any_firstK (R : Nat → Int × Int) (m : Nat) (s : Int × Int) : (!(firstK R m).any (inSpan s)) = false ↔ ∃ j, j < m ∧ inSpan s (R j) = true := by
  simp [firstK]
set_option maxHeartbeats 1000000 in
/-- whether a set excludes all that another one does -/
theorem excludes_any (A B : Option Addr) (n c m d : Nat) (S R : Nat → Int × Int) (G : Bool) (w : World) (ha : SpsIn A n S w.heap.size w) (hb : SpsIn B m R w.heap.size w) (hG : G = true ↔ m = 0 ∨ 0 < n ∧ ∀ i, i < n → ∃ j, j < m ∧ inSpan (S i) (R j) = true) :
    Calls Try.prog 116 #[.slice A n c, .slice B m d] w fun e w' => e = .returned (.bool G) ∧ Below w.heap.size w w' := by
  have hn := ha.1
  have hm := hb.1
  by_cases h0 : m = 0
  · obtain rfl : G = true := hG.2 (.inl h0)
    subst h0
    clear ha hb hG
    go_enter Try.func116, Try.ntmps116
    go_wp2_with fail
    go_ret
    exact ⟨rfl, box1 _ _⟩
  · by_cases h1 : n = 0
    · obtain rfl : G = false := by
        cases G with
        | false => rfl
        | true => rcases hG.1 rfl with h | h <;> omega
      subst h1
      have e1 : (m == 0) = false := by simpa using h0
      have e2 : ((m : Int) == 0) = false := by simpa using h0
      clear ha hb hG
      go_enter Try.func116, Try.ntmps116
      go_wp2_with fail
      go_ret
      exact ⟨rfl, box1 _ _⟩
    · have K : Hid (Calls Try.prog 138 #[.slice A n c, .func (.func 137) #[] #[.pointer (some ⟨w.heap.size, 0, none⟩)]] (w.alloc (.cells #[.slice B m d] 52)) fun e w' => e = .returned (.bool (!G)) ∧ Below w.heap.size w w') := Lib.hid (by
        have hB0 : Below w.heap.size w (w.alloc (.cells #[.slice B m d] 52)) := box1 _ _
        refine (ContainsFunc_any 137 #[.pointer (some ⟨w.heap.size, 0, none⟩)] A n c S (fun i => !(firstK R m).any (inSpan (S i))) (!G) _ ((ha.up hB0 (Nat.le_refl _)).more hB0.size) eg_exc1 (fun W i hi hW => ?_) ?_).mono fun e w' h => ⟨h.1, hB0.trans (h.2.mono hB0.size)⟩
        · have c0 : W.cell? ⟨w.heap.size, 0, none⟩ = some (.slice B m d) := low_cell hW (by simp only [World.size_alloc]; omega) (by go_simp)
          have hWB := hB0.trans (hW.mono hB0.size)
          exact exc1_any _ B m d R (S i) _ W c0 ((hb.up hWB (Nat.le_refl _)).more hWB.size) (any_firstK R m (S i))
        · cases G with
          | true =>
            rcases hG.1 rfl with h | h
            · exact absurd h h0
            · refine ⟨fun h' => by simp at h', fun ⟨i, hi, h'⟩ => ?_⟩
              rw [(any_firstK R m (S i)).2 (h.2 i hi)] at h'
              cases h'
          | false =>
            refine ⟨fun _ => ?_, fun _ => rfl⟩
            apply Classical.byContradiction
            intro hne
            refine absurd (hG.2 (.inr ⟨by omega, fun i hi => (any_firstK R m (S i)).1 ?_⟩)) (by simp)
            cases e : (!(firstK R m).any (inSpan (S i))) with
            | false => rfl
            | true => exact absurd ⟨i, hi, e⟩ hne)
      have e1 : (m == 0) = false := by simpa using h0
      have e2 : ((m : Int) == 0) = false := by simpa using h0
      have e3 : decide (0 < n) = true := by simp; omega
      clear ha hb hG
      go_enter Try.func116, Try.ntmps116
      go_wp2_with fail
      refine K.out.mono ?_
      rintro e w1 ⟨rfl, hb1⟩
      go_wp2_with fail
      go_ret
      exact ⟨by simp, hb1⟩
end Go.Proofs.Ytmeljcbefnojfaa
namespace Go.Proofs.Ytmeljcbefnojfaa
open Go.RowKit
theorem Try.infoBo : (Try.prog.info? 4).map (fun i => (i.zero, i.size, i.bytes)) = some (some (.bool false), 1, 1) := by kernel_rfl
theorem run_make_bools (n : Nat) (hn : n ≤ 1000) (w : World) :
    (Instr.makeSlice 112 (.int .i64 (n : Int)) (.int .i64 (n : Int))).run Try.prog w = .ok (.slice (some ⟨w.heap.size, 0, none⟩) n n) (w.alloc (.cells (madeCells #[.bool false] n) 4)) := by
  obtain ⟨i0, hi0, hz0, hz1, hz2⟩ := info_parts Try.infoBo
  have hr := run_make (P := Try.prog) (w := w) 112 4 i0 _ Try.underlying112 hi0 hz0 .i64 .i64 n n (by omega) (by omega) (by rw [hz2]; omega) (by omega)
  rw [hz1] at hr
  simp only [Int.toNat_natCast, Nat.mul_one] at hr
  exact hr
/-- bools that are being made: the block that has them, those that are made -/
structure BolB (w : World) (G n k : Nat) (T : Nat → Bool) (wr : World) : Prop where
  below : Below G w wr
  blk : ∃ cur : Array Value, wr.heap[G]? = some (.cells cur 4 (0, 0)) ∧ cur.size = n ∧ ∀ c, c < k → cur[c]? = some (.bool (T c))
theorem BolB.up {w wr w' : World} {G n k : Nat} {T : Nat → Bool} (h : BolB w G n k T wr) (hb : Below wr.heap.size wr w') : BolB w G n k T w' := by
  obtain ⟨h1, cur, h2, h3, h4⟩ := h
  have hl : G < wr.heap.size := (Array.getElem?_eq_some_iff.1 h2).1
  exact ⟨h1.trans (hb.mono (by omega)), cur, (hb.block G hl).trans h2, h3, h4⟩
theorem BolB.put {w wr : World} {G n k : Nat} {T : Nat → Bool} (h : BolB w G n k T wr) (hk : k < n) : BolB w G n (k + 1) T (wr.setCell ⟨G, k, none⟩ (.bool (T k))) := by
  obtain ⟨h1, cur, h2, h3, h4⟩ := h
  have e1 : (wr.setCell ⟨G, k, none⟩ (.bool (T k))).heap[G]? = some (.cells (cur.setIfInBounds k (.bool (T k))) 4 (0, 0)) := by simp [World.setCell, Array.getElem?_modify, h2]
  refine ⟨set1 h1 (Nat.le_refl _) _ _, _, e1, by simp [h3], fun c hc => ?_⟩
  by_cases hck : c = k
  · subst hck
    rw [Array.getElem?_setIfInBounds_self_of_lt (by omega)]
  · rw [Array.getElem?_setIfInBounds_ne (by omega)]
    exact h4 c (by omega)
theorem BolB.keep {w wr : World} {G n k : Nat} {T : Nat → Bool} (h : BolB w G n k T wr) (v : Value) : BolB w G n k T (wr.setCell ⟨G, k, none⟩ v) := by
  obtain ⟨h1, cur, h2, h3, h4⟩ := h
  have e1 : (wr.setCell ⟨G, k, none⟩ v).heap[G]? = some (.cells (cur.setIfInBounds k v) 4 (0, 0)) := by simp [World.setCell, Array.getElem?_modify, h2]
  refine ⟨set1 h1 (Nat.le_refl _) _ _, _, e1, by simp [h3], fun c hc => ?_⟩
  rw [Array.getElem?_setIfInBounds_ne (by omega)]
  exact h4 c hc
theorem BolB.facts {w wr : World} {G n k : Nat} {T : Nat → Bool} (h : BolB w G n k T wr) (hk : k < n) : wr.cell? ⟨G, k, none⟩ = some (cellAt wr G k) ∧ wr.frozen? ⟨G, k, none⟩ = false ∧ G < wr.heap.size := by
  obtain ⟨h1, cur, h2, h3, h4⟩ := h
  have e0 : wr.cell? ⟨G, k, none⟩ = some (cur[k]'(by omega)) := by simp [World.cell?, h2]
  exact ⟨cellAt_ok e0, by simp [World.frozen?, h2], (Array.getElem?_eq_some_iff.1 h2).1⟩
/-- bools are returned, of the call's own -/
def BolP (w : World) (n : Nat) (T : Nat → Bool) (e : Ending) (w' : World) : Prop := ∃ G, e = .returned (.tuple #[.slice (some ⟨G, 0, none⟩) n n, .int .i64 0]) ∧ w.heap.size ≤ G ∧ BolB w' G n n T w' ∧ Below w.heap.size w w'
set_option maxRecDepth 100000 in
set_option maxHeartbeats 4000000 in
theorem compare_bool (F : Nat) (eg : ∀ args w, (callFunc F args).run Try.prog w = .ok (.enter F args) w) (A B : Option Addr) (n c d : Nat) (x y : Cls) (T : Nat → Bool) (w : World) (ha : ClsIn A n x w.heap.size w) (hb : ClsIn B n y w.heap.size w) (hx : InkOk x n) (hy : InkOk y n)
    (hF : ∀ k, k < n → ∀ W, Below w.heap.size w W → Calls Try.prog F #[.slice (x.A k) (x.L k) (x.C k), .slice (y.A k) (y.L k) (y.C k)] W fun e w' => e = .returned (.bool (T k)) ∧ Below W.heap.size W w') :
    Calls Try.prog 115 #[.agg #[.slice A n c], .agg #[.slice B n d], .agg #[.func (.func F) #[] #[]]] w (BolP w n T) := by
  have hn1 := hx.1
  have hn2 := hx.2.1
  have hn' : (n : Int) ≤ 200 := by omega
  obtain ⟨w4, hw4⟩ : ∃ w4, w4 = (((w.alloc (.cells #[.slice A n c] 29)).alloc (.cells #[.slice B n d] 29)).alloc (.cells #[.func (.func F) #[] #[]] 125)).alloc (.cells #[.slice A n c, .slice B n d] 29) := ⟨_, rfl⟩
  have hW : Below w.heap.size w w4 := by rw [hw4]; exact box4 _ _ _ _ _
  have hsz : w4.heap.size = w.heap.size + 1 + 1 + 1 + 1 := by rw [hw4]; simp only [World.size_alloc]
  have k0 : w4.cell? ⟨w.heap.size, 0, none⟩ = some (.slice A n c) := by rw [hw4]; go_simp
  have k1 : w4.cell? ⟨w.heap.size + 1, 0, none⟩ = some (.slice B n d) := by rw [hw4]; go_simp
  have k2 : w4.cell? ⟨w.heap.size + 1 + 1, 0, none⟩ = some (.func (.func F) #[] #[]) := by rw [hw4]; go_simp
  have k3 : w4.cell? ⟨w.heap.size + 1 + 1 + 1, 0, none⟩ = some (.slice A n c) := by rw [hw4]; go_simp
  have k4 : w4.cell? ⟨w.heap.size + 1 + 1 + 1, 1, none⟩ = some (.slice B n d) := by rw [hw4]; go_simp
  have K0 := Lib.hid k0
  have K1 := Lib.hid k1
  have K2 := Lib.hid k2
  have K3 := Lib.hid k3
  have K4 := Lib.hid k4
  have HW := Lib.hid hW
  have H4 := Lib.hid hw4
  have HS := Lib.hid hsz
  have KA : Hid (∀ W, Below w4.heap.size w4 W → Calls Try.prog 29 #[.agg #[.slice A n c]] W fun e w' => e = .returned (.int .i64 0) ∧ Below W.heap.size W w') := Lib.hid fun W h => by
    have hh : Below w.heap.size w W := hW.trans (h.mono hW.size)
    exact CheckInked_any A n c x true W ((ha.up hh (Nat.le_refl _)).more hh.size) ⟨fun _ => hx, fun _ => rfl⟩
  have KB : Hid (∀ W, Below w4.heap.size w4 W → Calls Try.prog 29 #[.agg #[.slice B n d]] W fun e w' => e = .returned (.int .i64 0) ∧ Below W.heap.size W w') := Lib.hid fun W h => by
    have hh : Below w.heap.size w W := hW.trans (h.mono hW.size)
    exact CheckInked_any B n d y true W ((hb.up hh (Nat.le_refl _)).more hh.size) ⟨fun _ => hy, fun _ => rfl⟩
  have KF := Lib.hid hF
  have HA := Lib.hid ha
  have HB := Lib.hid hb
  clear ha hb hx hy hF k0 k1 k2 k3 k4 hW hw4 hsz
  go_enter Try.func115, Try.ntmps115
  go_wp2_with fail
  rw [← H4.out]
  go_loopw [17] (fun i wr => ∃ k : Nat, k ≤ 2 ∧ i = .int .i64 k ∧ Below w4.heap.size w4 wr) (fun i _ => 2 - (intOf i).toNat)
  case atStart => exact ⟨0, by omega, rfl, Below.refl _ _⟩
  case round =>
    obtain ⟨k, hk, rfl, hB⟩ := hrel
    obtain ⟨wo, rfl⟩ : ∃ wo : World, wo = wr := ⟨_, rfl⟩
    have hs4 := HS.out
    have hso := hB.size
    have k0 := cell_up hB (by omega) K0.out
    have k1 := cell_up hB (by omega) K1.out
    have k2 := cell_up hB (by omega) K2.out
    have k3 := cell_up hB (by omega) K3.out
    have k4 := cell_up hB (by omega) K4.out
    have z0 : w.heap.size < wo.heap.size := by omega
    have z1 : w.heap.size + 1 < wo.heap.size := by omega
    have z2 : w.heap.size + 1 + 1 < wo.heap.size := by omega
    have z3 : w.heap.size + 1 + 1 + 1 < wo.heap.size := by omega
    have hs5 : w.heap.size + 1 + 1 + 1 + 1 ≤ wo.heap.size := by omega
    clear hs4
    rcases (by omega : k = 0 ∨ k = 1 ∨ k = 2) with rfl | rfl | rfl
    · go_wp2_with fail
      refine (KA.out _ (hB.alloc hso _)).mono ?_
      rintro e w1 ⟨rfl, hb⟩
      have hB1 : Below w4.heap.size w4 w1 := (hB.alloc hso _).trans (hb.mono (by simp only [World.size_alloc]; omega))
      clear hb k0 k1 k2 k3 k4
      go_wp2_with fail
      go_roundw
      case rel => exact ⟨1, by omega, by go_num, hB1⟩
      case measure => simp [intOf]
    · go_wp2_with fail
      refine (KB.out _ (hB.alloc hso _)).mono ?_
      rintro e w1 ⟨rfl, hb⟩
      have hB1 : Below w4.heap.size w4 w1 := (hB.alloc hso _).trans (hb.mono (by simp only [World.size_alloc]; omega))
      clear hb k0 k1 k2 k3 k4
      go_wp2_with fail
      go_roundw
      case rel => exact ⟨2, by omega, by go_num, hB1⟩
      case measure => simp [intOf]
    · rw [show ((2 : Nat) : Int) = (2 : Int) from rfl]
      have hmk := run_make_bools n (by omega)
      go_wp2_with fail
      obtain ⟨G, hG⟩ : ∃ G, G = wo.heap.size := ⟨_, rfl⟩
      obtain ⟨w5, hw5⟩ : ∃ w5, w5 = wo.alloc (.cells (madeCells #[.bool false] n) 4) := ⟨_, rfl⟩
      have hB5 : Below wo.heap.size wo w5 := by rw [hw5]; exact box1 _ _
      have hC0 : BolB w5 G n 0 T w5 := ⟨Below.refl _ _, _, by rw [hw5, hG]; exact heap_alloc_new _ _, by simp [size_madeCells], fun c hc => absurd hc (by omega)⟩
      have j0 := Lib.hid (cell_up hB5 z0 k0)
      have j1 := Lib.hid (cell_up hB5 z1 k1)
      have j2 := Lib.hid (cell_up hB5 z2 k2)
      have hWo : Below w.heap.size w wo := HW.out.trans (hB.mono HW.out.size)
      have hW5 : Below w.heap.size w w5 := hWo.trans (hB5.mono hWo.size)
      have HW5 := Lib.hid hW5
      have HA5 := Lib.hid (HA.out.up hW5 (Nat.le_refl _))
      have HB5 := Lib.hid (HB.out.up hW5 (Nat.le_refl _))
      have HC0 := Lib.hid hC0
      have H5 := Lib.hid hw5
      have hG1 : w.heap.size + 1 + 1 + 1 + 1 ≤ G := by omega
      have hGG := Lib.hid hG
      rw [← hG]
      rw [← hw5]
      clear hmk k0 k1 k2 k3 k4 hB hC0 hw5 hG hWo hW5 hB5
      go_loopw [12, 40] (fun _ i wr => ∃ k : Nat, k ≤ n ∧ i = .int .i64 k ∧ BolB w5 G n k T wr) (fun _ i _ => n - (intOf i).toNat)
      case atStart => exact ⟨0, by omega, rfl, HC0.out⟩
      case round =>
        obtain ⟨k, hk, rfl, hC⟩ := hrel
        obtain ⟨wi, rfl⟩ : ∃ wi : World, wi = wr := ⟨_, rfl⟩
        have HC := Lib.hid hC
        obtain ⟨hBi, cur, hcur, hcs, _⟩ := hC
        have hGl : G < wi.heap.size := (Array.getElem?_eq_some_iff.1 hcur).1
        have hk0 : (0 : Int) ≤ (k : Int) := by omega
        have i0 := hBi.cell (p := ⟨w.heap.size, 0, none⟩) (show w.heap.size < G by omega) |>.trans j0.out
        have i1 := hBi.cell (p := ⟨w.heap.size + 1, 0, none⟩) (show w.heap.size + 1 < G by omega) |>.trans j1.out
        have i2 := hBi.cell (p := ⟨w.heap.size + 1 + 1, 0, none⟩) (show w.heap.size + 1 + 1 < G by omega) |>.trans j2.out
        by_cases hlt : k < n
        · obtain ⟨a, rfl, ab, c0, _⟩ := (HA5.out.up hBi (by omega)).2 k hlt
          obtain ⟨b, rfl, bb, d0, _⟩ := (HB5.out.up hBi (by omega)).2 k hlt
          have hki : (k : Int) < (n : Int) := by omega
          obtain ⟨u0, f0, _⟩ := HC.out.facts hlt
          have hw5 : w.heap.size + 1 + 1 + 1 + 1 ≤ w5.heap.size := by have := HC0.out.blk; obtain ⟨cur, h2, _⟩ := this; have := (Array.getElem?_eq_some_iff.1 h2).1; omega
          have KR : Hid (∀ W, Hid (BolB w5 G n k T W) → Calls Try.prog F #[.slice (x.A k) (x.L k) (x.C k), .slice (y.A k) (y.L k) (y.C k)] W fun e w' => e = .returned (.bool (T k)) ∧ Below W.heap.size W w') := Lib.hid fun W hWb => by
            have hww : Below w.heap.size w W := HW5.out.trans (hWb.out.below.mono (by omega))
            exact KF.out k hlt W hww
          have n0 : w.heap.size ≠ G := by omega
          have n1 : w.heap.size + 1 ≠ G := by omega
          have n2 : w.heap.size + 1 + 1 ≠ G := by omega
          have na : (a.add k).block ≠ G := by rw [add_block]; omega
          have nb : (b.add k).block ≠ G := by rw [add_block]; omega
          have ab2 : (a.add k).block < wi.heap.size := by rw [add_block]; omega
          have bb2 : (b.add k).block < wi.heap.size := by rw [add_block]; omega
          have z0 : w.heap.size < wi.heap.size := by omega
          have z1 : w.heap.size + 1 < wi.heap.size := by omega
          have z2 : w.heap.size + 1 + 1 < wi.heap.size := by omega
          have HD : Hid (BolB w5 G n k T wi.drew) := Lib.hid (HC.out.up (Below.refl _ _).drew)
          clear hcur hcs hBi
          go_wp2_with fail
          go_region_held3 (fun w' => w'.cell? ⟨w.heap.size, 0, none⟩ = some (.slice (some a) n c) ∧ w'.cell? ⟨w.heap.size + 1, 0, none⟩ = some (.slice (some b) n d) ∧ w'.cell? ⟨w.heap.size + 1 + 1, 0, none⟩ = some (.func (.func F) #[] #[]) ∧ w'.cell? (a.add k) = some (.slice (x.A k) (x.L k) (x.C k)) ∧ w'.cell? (b.add k) = some (.slice (y.A k) (y.L k) (y.C k)) ∧ w'.cell? ⟨G, k, none⟩ = some (cellAt w' G k) ∧ w'.frozen? ⟨G, k, none⟩ = false ∧ Hid (BolB w5 G n k T w') ∧ wi.heap.size ≤ w'.heap.size)
            (first
              | (go_split_ands; (repeat' apply And.intro); all_goals first | assumption | (go_simp; done) | (unfold cellAt; go_simp; done) | ((try simp only [World.size_drew]); omega))
              | (go_split_ands; (repeat' apply And.intro); all_goals first | exact (hbA.cell (by first | omega | ((try simp only [World.size_drew]); omega))).trans (by assumption) | exact (hbA.frozen (by first | omega | ((try simp only [World.size_drew]); omega))).trans (by assumption) | exact cellAt_ok ((hbA.cell (by first | omega | ((try simp only [World.size_drew]); omega))).trans (by assumption)) | exact Lib.hid (BolB.up (by assumption : Hid (BolB w5 G n k T _)).out hbA) | (have := hbA.size; first | omega | ((try simp only [World.size_drew] at this); omega)))
              | (go_split_ands; (repeat' apply And.intro); all_goals first | assumption | exact keepA (by assumption) (by first | exact n0 | exact n1 | exact n2 | exact na | exact nb) | (go_simp; done) | (unfold cellAt; go_simp; done) | exact Lib.hid (BolB.keep (by assumption : Hid (BolB w5 G n k T _)).out _) | (simp only [World.size_setCell]; omega)))
            (first | (go_at_fn F; go_split_ands; ((with_reducible refine (KR.out _ (by assumption)).mono ?_); rintro e wA ⟨rfl, hbA⟩)))
          all_goals
            have hP := Lib.hid ((HD.out.up hbA).put hlt)
            clear hbA
            go_wp2_with fail
            go_roundw
            case rel => exact ⟨k + 1, by omega, by go_num, hP.out⟩
            case measure => simp [intOf]; omega
        · have hki : (n : Int) ≤ (k : Int) := by omega
          obtain rfl : n = k := by omega
          have hs5 : w.heap.size ≤ w5.heap.size := HW5.out.size
          have hww : Below w.heap.size w wi := HW5.out.trans (hBi.mono (by omega))
          have HWW := Lib.hid hww
          clear hBi hcur hcs hww i0 i1 i2
          go_wp2_with fail
          go_ret2
          exact ⟨G, rfl, by omega, ⟨Below.refl _ _, HC.out.blk⟩, HWW.out⟩
end Go.Proofs.Ytmeljcbefnojfaa
namespace Go.Proofs.Ytmeljcbefnojfaa
open Go.RowKit
set_option maxHeartbeats 1000000 in
/-- slices.Index of false over bools -/
theorem IndexB_any (G n : Nat) (T : Nat → Bool) (w : World) (hn : n ≤ 200) (h : ∀ c, c < n → w.cell? ⟨G, c, none⟩ = some (.bool (T c))) :
    Calls Try.prog 140 #[.slice (some ⟨G, 0, none⟩) n n, .bool false] w fun e w' => ∃ v : Int, e = .returned (.int .i64 v) ∧ (0 ≤ v ↔ ∃ i, i < n ∧ T i = false) ∧ -1 ≤ v ∧ Below w.heap.size w w' := by
  have H := Lib.hid h
  clear h
  go_enter Try.func140, Try.ntmps140
  go_wp2_with fail
  go_loopw [8] (fun i wr => ∃ k q : Nat, k ≤ n ∧ i = .int .i64 k ∧ (∀ j, j < k → T j = true) ∧ wr = w.drewN q) (fun i _ => n - (intOf i).toNat)
  case atStart => exact ⟨0, 0, Nat.zero_le _, rfl, fun j hj => absurd hj (by omega), rfl⟩
  case round =>
    obtain ⟨k, q, hk, rfl, hok, rfl⟩ := hrel
    have hk0 : (0 : Int) ≤ (k : Int) := by omega
    have HOK := Lib.hid hok
    clear hok
    by_cases hlt : k < n
    · have c0 := H.out k hlt
      have hki : (k : Int) < (n : Int) := by omega
      obtain ⟨t, ht⟩ : ∃ t, t = T k := ⟨_, rfl⟩
      rw [← ht] at c0
      have HT := Lib.hid ht
      clear ht
      cases t with
      | false =>
        go_wp2_with fail
        go_ret
        exact ⟨_, rfl, ⟨fun _ => ⟨k, hlt, HT.out.symm⟩, fun _ => hk0⟩, by omega, below_drewN (Below.refl _ _) _⟩
      | true =>
        go_wp2_with fail
        go_roundw
        case rel => exact ⟨k + 1, q, by omega, by go_num, fun j hj => (Nat.lt_succ_iff_lt_or_eq.1 hj).elim (HOK.out j) (fun e => e ▸ HT.out.symm), rfl⟩
        case measure => simp [intOf]; omega
    · have hki : (n : Int) ≤ (k : Int) := by omega
      obtain rfl : n = k := by omega
      go_wp2_with fail
      go_ret
      exact ⟨-1, rfl, ⟨fun h => absurd h (by omega), fun ⟨i, hi, h⟩ => by rw [HOK.out i hi] at h; cases h⟩, by omega, below_drewN (Below.refl _ _) _⟩
set_option maxHeartbeats 1000000 in
/-- slices.Contains of false over bools -/
theorem ContainsB_any (F n : Nat) (T : Nat → Bool) (G : Bool) (w : World) (hn : n ≤ 200) (h : ∀ c, c < n → w.cell? ⟨F, c, none⟩ = some (.bool (T c))) (hG : G = true ↔ ∃ i, i < n ∧ T i = false) :
    Calls Try.prog 117 #[.slice (some ⟨F, 0, none⟩) n n, .bool false] w fun e w' => e = .returned (.bool G) ∧ Below w.heap.size w w' := by
  have K := Lib.hid (IndexB_any F n T w hn h)
  have HG := Lib.hid hG
  clear h hG
  go_enter Try.func117, Try.ntmps117
  go_wp2_with fail
  refine K.out.mono ?_
  rintro e w1 ⟨v, rfl, hv, _, hb⟩
  have hd : decide (0 ≤ v) = G := by rw [Bool.eq_iff_iff, HG.out, ← hv, decide_eq_true_iff]
  clear hv
  go_wp2_with fail
  go_ret
  exact ⟨by first | rw [hd] | rfl, hb⟩
/-- the rule of a column, as what both have in common tells it -/
theorem exc_win {S R : Nat → Int × Int} {n m : Nat} (hS : SetOk S n) (hR : SetOk R m) : (m = 0 ∨ 0 < n ∧ ∀ i, i < n → ∃ j, j < m ∧ inSpan (S i) (R j) = true) ↔ (0 < m → 0 < n ∧ bothL (firstK S n) (firstK R m) = firstK S n) := by
  have key : (∀ i, i < n → ∃ j, j < m ∧ inSpan (S i) (R j) = true) ↔ bothL (firstK S n) (firstK R m) = firstK S n := by
    rw [← within_iff (hS.srt (Nat.le_refl _)) (hR.srt (Nat.le_refl _))]
    constructor
    · intro h x hx
      obtain ⟨i, hi, rfl⟩ := List.mem_map.1 hx
      obtain ⟨j, hj, e⟩ := h i (List.mem_range.1 hi)
      rw [inSpan, Bool.and_eq_true, decide_eq_true_iff, decide_eq_true_iff] at e
      exact ⟨R j, List.mem_map.2 ⟨j, List.mem_range.2 hj, rfl⟩, e⟩
    · intro h i hi
      obtain ⟨y, hy, e⟩ := h (S i) (List.mem_map.2 ⟨i, List.mem_range.2 hi, rfl⟩)
      obtain ⟨j, hj, rfl⟩ := List.mem_map.1 hy
      exact ⟨j, List.mem_range.1 hj, by rw [inSpan, Bool.and_eq_true, decide_eq_true_iff, decide_eq_true_iff]; exact e⟩
  rw [key]
  constructor
  · rintro (h | h) hm
    · omega
    · exact h
  · intro h
    by_cases hm : m = 0
    · exact .inl hm
    · exact .inr (h (by omega))
set_option maxRecDepth 100000 in
set_option maxHeartbeats 4000000 in
/-- whether one copy shows no more than another one, with all errors -/
theorem Within_any (A B : Option Addr) (n m c d : Nat) (x y : Cls) (E : Int) (G : Bool) (w : World) (ha : ClsIn A n x w.heap.size w) (hb : ClsIn B m y w.heap.size w) (hE : alkE x y n m E) (hG : G = true ↔ E = 0 ∧ ∀ i, i < n → WinC x y i) :
    Calls Try.prog 60 #[.agg #[.slice A n c], .agg #[.slice B m d]] w fun e w' => e = .returned (.tuple #[.bool G, .int .i64 E]) ∧ Below w.heap.size w w' := by
  by_cases e0 : E = 0
  · subst e0
    obtain ⟨ix, iy, rfl⟩ : InkOk x n ∧ InkOk y m ∧ n = m := by
      rcases hE with h | h | h | h
      · exact absurd h.2 (by decide)
      · exact absurd h.2.2 (by decide)
      · exact absurd h.2.2.2 (by decide)
      · exact ⟨h.1, h.2.1, h.2.2.1⟩
    have K : Hid (∀ W, Below w.heap.size w W → Calls Try.prog 115 #[.agg #[.slice A n c], .agg #[.slice B n d], .agg #[.func (.func 116) #[] #[]]] W (BolP W n fun k => decide (y.L k = 0 ∨ 0 < x.L k ∧ bothL (firstK (x.S k) (x.L k)) (firstK (y.S k) (y.L k)) = firstK (x.S k) (x.L k)))) := Lib.hid fun W h => by
      have ha' := (ha.up h (Nat.le_refl _)).more h.size
      have hb' := (hb.up h (Nat.le_refl _)).more h.size
      refine compare_bool 116 eg_excludes A B n c d x y _ W ha' hb' ix iy (fun k hk W2 h2 => ?_)
      obtain ⟨_, _, _, _, hsa⟩ := (ha'.up h2 (Nat.le_refl _)).2 k hk
      obtain ⟨_, _, _, _, hsb⟩ := (hb'.up h2 (Nat.le_refl _)).2 k hk
      have r1 := ix.2.2 k hk
      have r2 := iy.2.2 k hk
      refine excludes_any _ _ _ _ _ _ _ _ _ W2 (hsa.more h2.size) (hsb.more h2.size) ?_
      rw [decide_eq_true_iff, exc_win r1.2 r2.2]
      exact ⟨fun h => fun hm => h.elim (fun h => by omega) id, fun h => if h0 : y.L k = 0 then .inl h0 else .inr (h (by omega))⟩
    have KC : Hid (∀ F W, (∀ c, c < n → W.cell? ⟨F, c, none⟩ = some (.bool (decide (y.L c = 0 ∨ 0 < x.L c ∧ bothL (firstK (x.S c) (x.L c)) (firstK (y.S c) (y.L c)) = firstK (x.S c) (x.L c))))) → Calls Try.prog 117 #[.slice (some ⟨F, 0, none⟩) n n, .bool false] W fun e w' => e = .returned (.bool (!G)) ∧ Below W.heap.size W w') := Lib.hid fun F W h => by
      refine ContainsB_any F n _ (!G) W ix.2.1 h ?_
      have hG' : G = true ↔ ∀ i, i < n → WinC x y i := hG.trans ⟨fun h => h.2, fun h => ⟨rfl, h⟩⟩
      have hw : ∀ i, WinC x y i ↔ (y.L i = 0 ∨ 0 < x.L i ∧ bothL (firstK (x.S i) (x.L i)) (firstK (y.S i) (y.L i)) = firstK (x.S i) (x.L i)) := fun i =>
        ⟨fun h => if h0 : y.L i = 0 then .inl h0 else .inr (h (by omega)), fun h hm => h.elim (fun h => by omega) id⟩
      cases G with
      | true =>
        refine ⟨fun h => by simp at h, fun ⟨i, hi, h⟩ => ?_⟩
        rw [decide_eq_false_iff_not] at h
        exact absurd ((hw i).1 (hG'.1 rfl i hi)) h
      | false =>
        refine ⟨fun _ => ?_, fun _ => rfl⟩
        apply Classical.byContradiction
        intro hne
        refine absurd (hG'.2 fun i hi => (hw i).2 ?_) (by simp)
        apply Classical.byContradiction
        intro h
        exact hne ⟨i, hi, decide_eq_false_iff_not.2 h⟩
    clear ha hb hE hG ix iy
    go_enter Try.func60, Try.ntmps60
    go_wp2_with fail
    refine (K.out _ (box2 _ _ _)).mono ?_
    rintro e w1 ⟨F, rfl, _, ⟨_, cur, hcur, hcs, hcT⟩, hb1⟩
    have KC1 := Lib.hid (KC.out F w1 fun c hc => by simp [World.cell?, hcur, hcT c hc])
    have HB := Lib.hid ((box2 w _ _).trans (hb1.mono (by simp only [World.size_alloc]; omega)))
    clear hcur hcs hcT hb1
    go_wp2_with fail
    refine KC1.out.mono ?_
    rintro e w2 ⟨rfl, hb2⟩
    have HB2 := Lib.hid (HB.out.trans (hb2.mono HB.out.size))
    clear hb2
    go_wp2_with fail
    go_ret2
    exact ⟨by simp, HB2.out⟩
  · obtain rfl : G = false := by
      cases G with
      | false => rfl
      | true => exact absurd (hG.1 rfl).1 e0
    have hE' : ¬ InkOk x n ∧ E = 12 ∨ InkOk x n ∧ ¬ InkOk y m ∧ E = 12 ∨ InkOk x n ∧ InkOk y m ∧ n ≠ m ∧ E = 1 := by
      rcases hE with h | h | h | h
      · exact .inl h
      · exact .inr (.inl h)
      · exact .inr (.inr h)
      · exact absurd h.2.2.2 e0
    have K : Hid (∀ W, Below w.heap.size w W → Calls Try.prog 115 #[.agg #[.slice A n c], .agg #[.slice B m d], .agg #[.func (.func 116) #[] #[]]] W fun e w' => e = .returned (.tuple #[.slice none 0 0, .int .i64 E]) ∧ Below W.heap.size W w') := Lib.hid fun W h =>
      compare_berr 116 A B n m c d x y E W ((ha.up h (Nat.le_refl _)).more h.size) ((hb.up h (Nat.le_refl _)).more h.size) hE'
    have d1 : (E == 0) = false := by simpa using e0
    have d2 : (E != 0) = true := by simpa using e0
    clear ha hb hE hE' hG
    go_enter Try.func60, Try.ntmps60
    go_wp2_with fail
    refine (K.out _ (box2 _ _ _)).mono ?_
    rintro e w1 ⟨rfl, hb1⟩
    have HB := Lib.hid ((box2 w _ _).trans (hb1.mono (by simp only [World.size_alloc]; omega)))
    clear hb1
    go_wp2_with fail
    go_ret2
    exact ⟨rfl, HB.out⟩
end Go.Proofs.Ytmeljcbefnojfaa
