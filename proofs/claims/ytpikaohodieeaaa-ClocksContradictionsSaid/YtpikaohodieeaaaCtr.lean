import Derived.Test.YtpikaohodieeaaaPai
namespace Go.Proofs.Ytpikaohodieeaaa
open Go.RowKit
set_option linter.unusedSimpArgs false
set_option linter.unusedVariables false
set_option maxRecDepth 100000 in
set_option maxHeartbeats 1000000 in
theorem IndexI_any (A : Option Addr) (n c B : Nat) (Z : Nat → Int) (x : Int) (w : World) (hin : IntsIn A n Z B w) :
    Calls Try.prog 141 #[.slice A n c, .int .i64 x] w fun e w' => ∃ r : Int, e = .returned (.int .i64 r) ∧ w = w' ∧ (0 ≤ r ↔ ∃ i, i < n ∧ Z i = x) := by
  have HIN := Lib.hid hin
  obtain ⟨hn, _⟩ := hin
  go_enter Try.func141, Try.ntmps141
  go_wp2_with fail
  go_loop [5, 8] (fun _ i => ∃ k : Nat, k ≤ n ∧ i = .int .i64 k ∧ Hid (∀ i, i < k → Z i ≠ x)) (fun _ i => n - (intOf i).toNat)
  case atStart => exact ⟨0, Nat.zero_le _, rfl, Lib.hid fun i h => absurd h (by omega)⟩
  case round =>
    obtain ⟨k, hk, rfl, hZ⟩ := hrel
    have hk0 : (0 : Int) ≤ (k : Int) := by omega
    by_cases hlt : k < n
    · obtain ⟨a, rfl, ab, c0⟩ := HIN.out.2 k hlt
      have hki : (k : Int) < (n : Int) := by omega
      by_cases hx : x = Z k
      · have hb : (x == Z k) = true := by simpa using hx
        have HX := Lib.hid hx
        clear hx
        go_wp2_with fail
        go_ret
        exact ⟨_, rfl, rfl, fun _ => ⟨k, hlt, HX.out.symm⟩, fun _ => hk0⟩
      · have hb : (x == Z k) = false := by simpa using hx
        have HX := Lib.hid hx
        go_wp2_with fail
        go_round
        case rel => exact ⟨k + 1, by omega, by go_num, Lib.hid fun i hi => by
          by_cases e : i = k
          · subst e; exact fun h => HX.out h.symm
          · exact hZ.out i (by omega)⟩
        case measure => simp [intOf]; omega
    · have hki : ¬ (k : Int) < (n : Int) := by omega
      go_wp2_with fail
      go_ret
      exact ⟨_, rfl, rfl, fun h => absurd h (by omega), fun ⟨i, hi, h⟩ => absurd h (hZ.out i (by omega))⟩
set_option maxHeartbeats 400000 in
theorem ContainsI_any (A : Option Addr) (n c B : Nat) (Z : Nat → Int) (x : Int) (G : Bool) (w : World) (hin : IntsIn A n Z B w) (hG : G = true ↔ ∃ i, i < n ∧ Z i = x) :
    Calls Try.prog 134 #[.slice A n c, .int .i64 x] w fun e w' => e = .returned (.bool G) ∧ w = w' := by
  have K := Lib.hid (IndexI_any A n c B Z x w hin)
  have HG := Lib.hid hG
  clear hin hG
  go_enter Try.func134, Try.ntmps134
  go_wp2_with (go_at_call 141; refine K.out.mono ?_; rintro e w' ⟨r, rfl, rfl, hr⟩; have HR := Lib.hid hr; clear hr)
  go_ret
  refine ⟨?_, rfl⟩
  have h : decide (r ≥ 0) = G := by
    cases G with
    | true => exact decide_eq_true (HR.out.2 (HG.out.1 rfl))
    | false => exact decide_eq_false fun h => by have := HG.out.2 (HR.out.1 h); cases this
  first
    | rw [← h]; rfl
    | simp only [← h]
    | (congr; done)
set_option maxHeartbeats 400000 in
theorem meet1_any (x : Int) (bx : Nat) (A : Option Addr) (n c B : Nat) (Z : Nat → Int) (G : Bool) (w : World) (hb : w.cell? ⟨bx, 0, none⟩ = some (.slice A n c)) (hin : IntsIn A n Z B w) (hG : G = true ↔ ∃ i, i < n ∧ Z i = x) :
    Calls Try.prog 133 #[.int .i64 x, .pointer (some ⟨bx, 0, none⟩)] w fun e w' => e = .returned (.bool G) ∧ w = w' := by
  have K := Lib.hid (ContainsI_any A n c B Z x G w hin hG)
  clear hin hG
  go_enter Try.func133, Try.ntmps133
  go_wp2_with (go_at_call 134; refine K.out.mono ?_; rintro e w' ⟨rfl, rfl⟩)
  go_ret
  exact ⟨rfl, rfl⟩
set_option maxRecDepth 100000 in
set_option maxHeartbeats 1000000 in
theorem IndexFuncI_any (A : Option Addr) (n c B : Nat) (Z : Nat → Int) (bx : Nat) (A2 : Option Addr) (n2 c2 B2 : Nat) (Z2 : Nat → Int) (w : World) (hin : IntsIn A n Z B w) (hb : w.cell? ⟨bx, 0, none⟩ = some (.slice A2 n2 c2)) (hin2 : IntsIn A2 n2 Z2 B2 w) :
    Calls Try.prog 140 #[.slice A n c, .func (.func 133) #[] #[.pointer (some ⟨bx, 0, none⟩)]] w fun e w' => ∃ r : Int, e = .returned (.int .i64 r) ∧ w = w' ∧ (0 ≤ r ↔ ∃ i, i < n ∧ ∃ j, j < n2 ∧ Z2 j = Z i) := by
  have HIN := Lib.hid hin
  have KM := Lib.hid fun (x : Int) (G : Bool) (h : G = true ↔ ∃ j, j < n2 ∧ Z2 j = x) => meet1_any x bx A2 n2 c2 B2 Z2 G w hb hin2 h
  obtain ⟨hn, _⟩ := hin
  clear hb hin2
  go_enter Try.func140, Try.ntmps140
  go_wp2_with fail
  go_loop [5, 8] (fun _ i => ∃ k : Nat, k ≤ n ∧ i = .int .i64 k ∧ Hid (∀ i, i < k → ¬ ∃ j, j < n2 ∧ Z2 j = Z i)) (fun _ i => n - (intOf i).toNat)
  case atStart => exact ⟨0, Nat.zero_le _, rfl, Lib.hid fun i h => absurd h (by omega)⟩
  case round =>
    obtain ⟨k, hk, rfl, hZ⟩ := hrel
    have hk0 : (0 : Int) ≤ (k : Int) := by omega
    by_cases hlt : k < n
    · obtain ⟨a, rfl, ab, c0⟩ := HIN.out.2 k hlt
      have hki : (k : Int) < (n : Int) := by omega
      obtain ⟨G, hG⟩ := bool_of (∃ j, j < n2 ∧ Z2 j = Z k)
      have K := Lib.hid (KM.out (Z k) G hG)
      have HG := Lib.hid hG
      clear hG
      cases G with
      | true =>
        go_wp2_with (go_at_call 133; refine K.out.mono ?_; rintro e w' ⟨rfl, rfl⟩)
        go_ret
        exact ⟨_, rfl, rfl, fun _ => ⟨k, hlt, HG.out.1 (by trivial)⟩, fun _ => hk0⟩
      | false =>
        go_wp2_with (go_at_call 133; refine K.out.mono ?_; rintro e w' ⟨rfl, rfl⟩)
        go_round
        case rel => exact ⟨k + 1, by omega, by go_num, Lib.hid fun i hi => by
          by_cases e : i = k
          · subst e; exact fun h => by have := HG.out.2 h; cases this
          · exact hZ.out i (by omega)⟩
        case measure => simp [intOf]; omega
    · have hki : ¬ (k : Int) < (n : Int) := by omega
      go_wp2_with fail
      go_ret
      exact ⟨_, rfl, rfl, fun h => absurd h (by omega), fun ⟨i, hi, h⟩ => absurd h (hZ.out i (by omega))⟩
set_option maxHeartbeats 400000 in
theorem ContainsFuncI_any (A : Option Addr) (n c B : Nat) (Z : Nat → Int) (bx : Nat) (A2 : Option Addr) (n2 c2 B2 : Nat) (Z2 : Nat → Int) (G : Bool) (w : World) (hin : IntsIn A n Z B w) (hb : w.cell? ⟨bx, 0, none⟩ = some (.slice A2 n2 c2)) (hin2 : IntsIn A2 n2 Z2 B2 w) (hG : G = true ↔ ∃ i, i < n ∧ ∃ j, j < n2 ∧ Z2 j = Z i) :
    Calls Try.prog 132 #[.slice A n c, .func (.func 133) #[] #[.pointer (some ⟨bx, 0, none⟩)]] w fun e w' => e = .returned (.bool G) ∧ w = w' := by
  have K := Lib.hid (IndexFuncI_any A n c B Z bx A2 n2 c2 B2 Z2 w hin hb hin2)
  have HG := Lib.hid hG
  clear hin hb hin2 hG
  go_enter Try.func132, Try.ntmps132
  go_wp2_with (go_at_call 140; refine K.out.mono ?_; rintro e w' ⟨r, rfl, rfl, hr⟩; have HR := Lib.hid hr; clear hr)
  go_ret
  refine ⟨?_, rfl⟩
  have h : decide (r ≥ 0) = G := by
    cases G with
    | true => exact decide_eq_true (HR.out.2 (HG.out.1 rfl))
    | false => exact decide_eq_false fun h => by have := HG.out.2 (HR.out.1 h); cases this
  first
    | rw [← h]; rfl
    | simp only [← h]
    | (congr; done)
set_option maxHeartbeats 400000 in
theorem meet_any (A : Option Addr) (n c B : Nat) (Z : Nat → Int) (A2 : Option Addr) (n2 c2 : Nat) (Z2 : Nat → Int) (G : Bool) (w : World) (hin : IntsIn A n Z w.heap.size w) (hin2 : IntsIn A2 n2 Z2 w.heap.size w) (hG : G = true ↔ ∃ i, i < n ∧ ∃ j, j < n2 ∧ Z2 j = Z i) :
    Calls Try.prog 122 #[.slice A n c, .slice A2 n2 c2] w fun e w' => e = .returned (.bool G) ∧ Below w.heap.size w w' := by
  have K := Lib.hid (ContainsFuncI_any A n c w.heap.size Z w.heap.size A2 n2 c2 w.heap.size Z2 G (w.alloc (.cells #[.slice A2 n2 c2] 29)) (hin.up (box1 _ _) (Nat.le_refl _)) (by go_simp) (hin2.up (box1 _ _) (Nat.le_refl _)) hG)
  clear hin hin2 hG
  go_enter Try.func122, Try.ntmps122
  go_wp2_with (go_at_call 132; refine K.out.mono ?_; rintro e w' ⟨rfl, rfl⟩)
  go_ret
  exact ⟨rfl, box1 _ _⟩
end Go.Proofs.Ytpikaohodieeaaa
namespace Go.Proofs.Ytpikaohodieeaaa
open Go.RowKit
set_option linter.unusedSimpArgs false
set_option linter.unusedVariables false
/-- whether two sets have a common element -/
def meets (s x : List Int) : Prop := ∃ i, i < s.length ∧ ∃ j, j < x.length ∧ x.getD j 0 = s.getD i 0
/-- a list in memory -/
def LiIn (A : Option Addr) (x : List Int) (w : World) : Prop := IntsIn A x.length (fun j => x.getD j 0) w.heap.size w
theorem LiIn.up {A : Option Addr} {x : List Int} {w w' : World} (h : LiIn A x w) (hb : Below w.heap.size w w') : LiIn A x w' := by
  have h2 := IntsIn.up h hb (Nat.le_refl _)
  exact ⟨h2.1, fun i hi => by obtain ⟨a, e, hl, hc⟩ := h2.2 i hi; exact ⟨a, e, Nat.lt_of_lt_of_le hl hb.size, hc⟩⟩
/-- a list of lists in memory -/
def LssIn (A : Option Addr) (P : List (List Int)) (w : World) : Prop :=
  (P.length : Int) ≤ 1000000000 ∧ ∀ (i : Nat) (x : List Int), P[i]? = some x → ∃ (a : Addr) (A' : Option Addr) (c' : Nat), A = some a ∧ a.block < w.heap.size ∧ w.cell? (a.add i) = some (.slice A' x.length c') ∧ LiIn A' x w
theorem LssIn.up {A : Option Addr} {P : List (List Int)} {w w' : World} (h : LssIn A P w) (hb : Below w.heap.size w w') : LssIn A P w' :=
  ⟨h.1, fun i x hx => by
    obtain ⟨a, A', c', e, hl, h1, h2⟩ := h.2 i x hx
    exact ⟨a, A', c', e, Nat.lt_of_lt_of_le hl hb.size, cellA_of hb h1, h2.up hb⟩⟩
set_option maxHeartbeats 400000 in
theorem breaking1_any (tb : Nat) (As : Option Addr) (cs : Nat) (s : List Int) (A : Option Addr) (c : Nat) (x : List Int) (G : Bool) (w : World) (hb : w.cell? ⟨tb, 0, none⟩ = some (.slice As s.length cs)) (hs : LiIn As s w) (hx : LiIn A x w) (hG : G = true ↔ meets s x) :
    Calls Try.prog 121 #[.slice A x.length c, .pointer (some ⟨tb, 0, none⟩)] w fun e w' => e = .returned (.bool (!G)) ∧ Below w.heap.size w w' := by
  have K := Lib.hid (meet_any As s.length cs 0 (fun j => s.getD j 0) A x.length c (fun j => x.getD j 0) G w hs hx hG)
  clear hs hx hG
  go_enter Try.func121, Try.ntmps121
  go_wp2_with (go_at_call 122; refine K.out.mono ?_; rintro e w' ⟨rfl, hb'⟩)
  go_ret
  exact ⟨rfl, hb'⟩
set_option maxRecDepth 100000 in
set_option maxHeartbeats 1000000 in
theorem IndexFuncL_any (A : Option Addr) (c : Nat) (P : List (List Int)) (tb : Nat) (As : Option Addr) (cs : Nat) (s : List Int) (w : World) (hin : LssIn A P w) (hb : w.cell? ⟨tb, 0, none⟩ = some (.slice As s.length cs)) (hs : LiIn As s w) :
    Calls Try.prog 135 #[.slice A P.length c, .func (.func 121) #[] #[.pointer (some ⟨tb, 0, none⟩)]] w fun e w' => ∃ r : Int, e = .returned (.int .i64 r) ∧ Below w.heap.size w w' ∧ (0 ≤ r ↔ ∃ x, x ∈ P ∧ ¬ meets s x) := by
  have HIN := Lib.hid hin
  have HB := Lib.hid hb
  have HS := Lib.hid hs
  have hn := hin.1
  obtain ⟨n, hnn⟩ : ∃ n, n = P.length := ⟨_, rfl⟩
  have HN := Lib.hid hnn
  rw [← hnn] at hn ⊢
  clear hb hs hin hnn
  go_enter Try.func135, Try.ntmps135
  go_wp2_with fail
  go_loopw [5, 8] (fun _ i wr => ∃ k : Nat, k ≤ n ∧ i = .int .i64 k ∧ Hid ((∀ i x, i < k → P[i]? = some x → meets s x) ∧ Below w.heap.size w wr)) (fun _ i _ => n - (intOf i).toNat)
  case atStart => exact ⟨0, Nat.zero_le _, rfl, Lib.hid ⟨fun i x h => absurd h (by omega), Below.refl _ _⟩⟩
  case round =>
    obtain ⟨k, hk, rfl, hZ⟩ := hrel
    obtain ⟨wo, rfl⟩ : ∃ wo : World, wo = wr := ⟨_, rfl⟩
    have hk0 : (0 : Int) ≤ (k : Int) := by omega
    by_cases hlt : k < n
    · obtain ⟨x, hx⟩ : ∃ x, P[k]? = some x := ⟨_, List.getElem?_eq_getElem (show k < P.length by have := HN.out; omega)⟩
      have hW := HIN.out.up hZ.out.2
      obtain ⟨a, A', c', rfl, ab, c0, hl⟩ := hW.2 k x hx
      have hki : (k : Int) < (n : Int) := by omega
      obtain ⟨G, hG⟩ := bool_of (meets s x)
      have K := Lib.hid (breaking1_any tb As cs s A' c' x G wo (cell_of hZ.out.2 HB.out) (HS.out.up hZ.out.2) hl hG)
      have HG := Lib.hid hG
      have HX := Lib.hid hx
      have hsz := hZ.out.2.size
      clear hG hW hx hl
      cases G with
      | true =>
        go_wp2_with (go_at_call 121; refine K.out.mono ?_; rintro e w' ⟨rfl, hb2⟩; have HB2 := Lib.hid hb2; clear hb2)
        go_roundw
        case rel => exact ⟨k + 1, by omega, by go_num, Lib.hid ⟨fun i y hi hy => by
          by_cases e : i = k
          · subst e; rw [HX.out] at hy; cases hy; exact HG.out.1 (by trivial)
          · exact hZ.out.1 i y (by omega) hy, hZ.out.2.trans (HB2.out.mono hsz)⟩⟩
        case measure => simp [intOf]; omega
      | false =>
        go_wp2_with (go_at_call 121; refine K.out.mono ?_; rintro e w' ⟨rfl, hb2⟩; have HB2 := Lib.hid hb2; clear hb2)
        go_ret
        exact ⟨_, rfl, hZ.out.2.trans (HB2.out.mono hsz), fun _ => ⟨x, List.mem_of_getElem? HX.out, fun h => by have := HG.out.2 h; cases this⟩, fun _ => hk0⟩
    · have hki : ¬ (k : Int) < (n : Int) := by omega
      go_wp2_with fail
      go_ret
      refine ⟨_, rfl, hZ.out.2, fun h => absurd h (by omega), fun ⟨x, hx, h⟩ => ?_⟩
      obtain ⟨i, hi⟩ := List.getElem?_of_mem hx
      exact absurd (hZ.out.1 i x (by have := (List.getElem?_eq_some_iff.1 hi).1; have := HN.out; omega) hi) h
set_option maxHeartbeats 400000 in
theorem ContainsFuncL_any (A : Option Addr) (c : Nat) (P : List (List Int)) (tb : Nat) (As : Option Addr) (cs : Nat) (s : List Int) (G : Bool) (w : World) (hin : LssIn A P w) (hb : w.cell? ⟨tb, 0, none⟩ = some (.slice As s.length cs)) (hs : LiIn As s w) (hG : G = true ↔ ∃ x, x ∈ P ∧ ¬ meets s x) :
    Calls Try.prog 123 #[.slice A P.length c, .func (.func 121) #[] #[.pointer (some ⟨tb, 0, none⟩)]] w fun e w' => e = .returned (.bool G) ∧ Below w.heap.size w w' := by
  have K := Lib.hid (IndexFuncL_any A c P tb As cs s w hin hb hs)
  have HG := Lib.hid hG
  clear hin hb hs hG
  go_enter Try.func123, Try.ntmps123
  go_wp2_with (go_at_call 135; refine K.out.mono ?_; rintro e w' ⟨r, rfl, hb2, hr⟩; have HR := Lib.hid hr; have HB2 := Lib.hid hb2; clear hr hb2)
  go_ret
  refine ⟨?_, HB2.out⟩
  have h : decide (r ≥ 0) = G := by
    cases G with
    | true => exact decide_eq_true (HR.out.2 (HG.out.1 rfl))
    | false => exact decide_eq_false fun h => by have := HG.out.2 (HR.out.1 h); cases this
  first
    | rw [← h]; rfl
    | simp only [← h]
    | (congr; done)
end Go.Proofs.Ytpikaohodieeaaa
namespace Go.Proofs.Ytpikaohodieeaaa
open Go.RowKit
set_option linter.unusedSimpArgs false
set_option linter.unusedVariables false
attribute [local go_sem] Oper.semAt_some
/-- those of the first k that pass -/
def fL {α : Type} (L : List α) (p : α → Bool) (k : Nat) : List α := (L.take k).filter p
theorem fL_t {α : Type} {L : List α} {p : α → Bool} {k : Nat} {s : α} (hs : L[k]? = some s) (h : p s = true) : fL L p (k + 1) = fL L p k ++ [s] := by
  unfold fL
  rw [List.take_add_one, hs, List.filter_append]
  simp [h]
theorem fL_f {α : Type} {L : List α} {p : α → Bool} {k : Nat} {s : α} (hs : L[k]? = some s) (h : p s = false) : fL L p (k + 1) = fL L p k := by
  unfold fL
  rw [List.take_add_one, hs, List.filter_append]
  simp [h]
theorem fL_at {α : Type} {L : List α} {p : α → Bool} {k : Nat} {s : α} (hs : L[k]? = some s) (h : p s = true) : (L.filter p)[(fL L p k).length]? = some s := by
  have hk := (List.getElem?_eq_some_iff.1 hs).1
  have e : L.filter p = fL L p (k + 1) ++ (L.drop (k + 1)).filter p := by
    unfold fL
    rw [← List.filter_append, List.take_append_drop]
  rw [e, fL_t hs h, List.append_assoc, List.getElem?_append_right (Nat.le_refl _), Nat.sub_self]
  rfl
theorem fL_all {α : Type} (L : List α) (p : α → Bool) : fL L p L.length = L.filter p := by
  unfold fL
  rw [List.take_length]
theorem ext_len (c : Nat) : ∀ (r lo : Nat) (s : List Int), s ∈ ext c r lo → s.length = r := by
  intro r
  induction r with
  | zero => intro lo s h; simp [ext] at h; subst h; rfl
  | succ r ih =>
    intro lo s h
    simp only [ext, List.mem_flatMap, List.mem_map] at h
    obtain ⟨j, _, s1, h1, rfl⟩ := h
    rw [List.length_cons, ih _ s1 h1]
theorem RlS.li {B0 : Nat} {x : List Int} {A : Option Addr} {n c : Nat} {O : Nat → Prop} {W : World} (h : RlS B0 x #[.slice A n c] O W) (hx : x.length ≤ 1000) : n = x.length ∧ LiIn A x W := by
  obtain ⟨A', c', e, h1⟩ := h
  obtain ⟨rfl, rfl⟩ : A = A' ∧ n = x.length := by injection e with e; injection e with e _; injection e with e1 e2 e3; exact ⟨e1, e2⟩
  refine ⟨rfl, by omega, fun i hi => ?_⟩
  obtain ⟨b, e1, e2, _, _, e3, _⟩ := h1 i hi
  exact ⟨⟨b, 0, none⟩, e1, e2, by rw [Addr.add_lit, Nat.zero_add]; exact e3⟩
theorem RlS.withC {B0 : Nat} {x : List Int} {v : Array Value} {O C : Nat → Prop} {W : World} (h : RlS B0 x v O W) (hC : ∀ r, C r → r < B0) : RlS B0 x v (fun r => O r ∨ C r) W := by
  obtain ⟨A, c, e, h1⟩ := h
  refine ⟨A, c, e, fun i hi => ?_⟩
  obtain ⟨b, f1, f2, f3, f4, f5, f6⟩ := h1 i hi
  exact ⟨b, f1, f2, fun h => h.elim f3 (fun h => by have := hC b h; omega), f4, f5, f6⟩
set_option maxRecDepth 100000 in
set_option maxHeartbeats 2000000 in
theorem breaking_any (A : Option Addr) (c : Nat) (P : List (List Int)) (count size : Nat) (br : List Int → Bool) (hbr : ∀ s, s ∈ ext count size 0 → (br s = true ↔ ∀ x, x ∈ P → meets s x)) (w : World) (hin : LssIn A P w) (h1 : count ≤ 1000) (h2 : size ≤ 1000) (hmx : (ext count size 0).length ≤ 2000000) :
    Calls Try.prog 107 #[.slice A P.length c, .int .i64 count, .int .i64 size] w fun e w' => ∃ v, e = .returned v ∧ LsR w.heap.size w ((ext count size 0).filter br) v w' := by
  obtain ⟨i0, hi, hz0, hz1, hz2⟩ := info_parts Try.infoInts
  have HIN := Lib.hid hin
  have HBR := Lib.hid hbr
  obtain ⟨np, hnp⟩ : ∃ np, np = P.length := ⟨_, rfl⟩
  have HNP := Lib.hid hnp
  rw [← hnp]
  clear hin hbr hnp
  refine (callsIn_wide (n := 10)).1 ?_
  refine callsIn_of_wp_marks Try.func107 rfl trivial ?_ rfl
  simp only [Try.ntmps107, List.size_toArray, List.length_cons, List.length_nil, Nat.reduceAdd, Nat.reduceSub, Array.replicate_succ, Array.replicate_zero, List.push_toArray, List.append_toArray, List.nil_append, List.cons_append]
  gi_wp2
  obtain ⟨w1, hw1⟩ : ∃ w1 : World, w1 = w.alloc (.cells #[.slice A np c] 68) := ⟨_, rfl⟩
  have hb1 : Below w.heap.size w w1 := by rw [hw1]; exact box1 _ _
  have hz1' : w1.heap.size = w.heap.size + 1 := by rw [hw1]; simp only [World.size_alloc]
  have t1 : w1.cell? ⟨w.heap.size, 0, none⟩ = some (.slice A np c) := by rw [hw1]; go_simp
  rw [← hw1, ← hz1']
  obtain ⟨w2, hw2⟩ : ∃ w2 : World, w2 = w1.alloc (.cells #[.slice none 0 0] 68) := ⟨_, rfl⟩
  rw [← hw2]
  refine ⟨trivial, (callsIn_wide.2 (sets_any count size w2)).mono ?_⟩
  rintro en w3 ⟨rfl, hw3⟩
  have hb3 : Below w2.heap.size w2 w3 := by rw [hw3]; exact box2 _ _ _
  have s1 : w3.cell? ⟨w2.heap.size + 1, 0, none⟩ = some (.int .i64 (size : Int)) := by rw [hw3]; go_simp
  have s2 : w3.cell? ⟨w2.heap.size, 0, none⟩ = some (.int .i64 (count : Int)) := by rw [hw3]; go_simp
  have hsy := sets_yields count size (w2.heap.size + 1) w2.heap.size 9 w3 s1 s2 h1 h2
  have hz3 : w3.heap.size = w2.heap.size + 2 := by rw [hw3]; simp only [World.size_alloc]
  have hA0 : AcL w3.heap.size w1 ((ext count size 0).filter br) (.slice none 0 0) (fL (ext count size 0) br 0).length [] (fun _ => False) w2 := by
    rw [hw2]
    exact ⟨Boxed.new _ _ _, World.ownsRow_nil _ _ _ _, fun g h => (by cases h), fun i x h => absurd h (by simp [fL]), fun r h => h.elim, box1 _ _⟩
  have hz2' : w2.heap.size = w1.heap.size + 1 := by rw [hw2]; simp only [World.size_alloc]
  have hA3 := hA0.kept (B := w1.heap.size + 1) (O' := fun r => False ∨ r = w2.heap.size + 1 ∨ r = w2.heap.size) (Nat.le_refl _) (grown_of_below hb3) (fun r e => by cases e) (fun r h => .inr (by
    rcases h with h | h | h
    · exact h.elim
    · omega
    · omega))
  have HSY := Lib.hid hsy
  have HA3 := Lib.hid hA3
  have HB1 := Lib.hid hb1
  have HT1 := Lib.hid t1
  obtain ⟨bs, hbs⟩ : ∃ bs, bs = w2.heap.size + 1 := ⟨_, rfl⟩
  obtain ⟨bc, hbc⟩ : ∃ bc, bc = w2.heap.size := ⟨_, rfl⟩
  rw [← hbs] at HSY HA3
  rw [← hbc] at HSY HA3
  rw [← hbs, ← hbc]
  have q1 : w1.heap.size + 1 ≤ w3.heap.size := by omega
  have q2 : bs < w3.heap.size := by omega
  have q3 : bc < w3.heap.size := by omega
  have q4 : w1.heap.size < bs := by omega
  have q5 : w1.heap.size < bc := by omega
  have q6 : w.heap.size < w1.heap.size := by omega
  clear hw1 hb1 hz1' t1 hw2 hw3 hb3 s1 s2 hsy hA0 hA3 hz3 hz2' hbs hbc
  gi_wp2
  refine rangeListO rfl (by omega) (gf := 129) (lb := #[.pointer (some ⟨bs, 0, none⟩), .pointer (some ⟨bc, 0, none⟩)]) rfl trivial eg_sets HSY.out (Below.refl _ _) (fun x v O V h => h.size) (fun x v O V V' row h hg hr => h.grow hg hr)
    (fun k O V => w3.heap.size ≤ V.heap.size ∧ ∃ v vs, AcL w3.heap.size w1 ((ext count size 0).filter br) v (fL (ext count size 0) br k).length vs (fun r => O r ∨ r = bs ∨ r = bc) V) (fun _ _ _ _ => False) (fun k O V V' row O' h hg hr hO => ⟨Nat.le_trans h.1 hg.size, AcL.ab q1 _ _ V V' row (fun r => O' r ∨ r = bs ∨ r = bc) h.2 hg (fun r e => (hr r e).imp .inl id) (fun r h => h.elim (fun h => (hO r h).imp .inl id) (fun h => .inl (.inr h)))⟩) (fun _ _ _ _ _ _ _ h => h.elim) ⟨Nat.le_refl _, _, _, HA3.out⟩
    (fun v a' V => ∃ tb, V.cell? ⟨tb, 0, none⟩ = some (v.getD 0 undef) ∧ a' = { tmps := #[.slice A np c, .int .i64 count, .int .i64 size, .pointer (some ⟨w.heap.size, 0, none⟩), undef, undef, .slice none 0 0, .pointer (some ⟨w1.heap.size, 0, none⟩), .pointer (some ⟨tb, 0, none⟩), undef, .int .i64 count, .int .i64 size, .func (.func 129) #[] #[.pointer (some ⟨bs, 0, none⟩), .pointer (some ⟨bc, 0, none⟩)], v.getD 0 undef, undef, undef, undef, undef, undef, undef, undef, undef, undef, undef], defers := [] }) ?ownx ?assign ?body ?done ?stop
  case stop => rintro D cd k O V _ _ h; exact h.elim
  case ownx =>
    rintro v a' _ V V' row ⟨b, e1, e2⟩ hg hr
    have hrow : some b ≠ row := fun e => by
      obtain ⟨_, o, e3, e4⟩ := hr b e.symm
      obtain ⟨o', e5, e6⟩ := cells_of_cell e1
      simp only at e5
      rw [e3] at e5
      cases e5
      rw [e4] at e6
      cases e6
    exact ⟨b, cell_row hg (World.block_lt_of_cell? _ _ e1) hrow e1, e2⟩
  case assign =>
    rintro l2 k x v O V K hx hR hI ho hK
    obtain ⟨A', c', rfl, e1⟩ := id hR
    have HR := Lib.hid hR
    clear e1 hR hI ho hx
    gi_wp2
    have hbV := box1 V (.cells #[.slice A' x.length c'] 29)
    refine hK _ _ hbV (HR.out.grow (grown_of_below hbV) (fun r e => by cases e)) ⟨V.heap.size, by go_simp, ?_⟩
    rfl
  case body =>
    rintro l2 k x v O a' V hx hR ⟨hq, va, vs, hA⟩ ho ⟨tb, e1, rfl⟩
    obtain ⟨A', c', rfl, f1⟩ := id hR
    have hxm : x ∈ ext count size 0 := List.mem_of_getElem? hx
    have hxl := ext_len _ _ _ _ hxm
    have hli := (hR.li (by omega)).2
    have hbV : Below w.heap.size w V := nextB HB1.out hA.bl
    have c3 : V.cell? ⟨w.heap.size, 0, none⟩ = some (.slice A np c) := cell_of hA.bl HT1.out
    have e1' : V.cell? ⟨tb, 0, none⟩ = some (.slice A' x.length c') := e1
    obtain ⟨G, hG⟩ := bool_of (∃ y, y ∈ P ∧ ¬ meets x y)
    have hKC := ContainsFuncL_any A c P tb A' c' x G V (HIN.out.up hbV) e1' hli hG
    rw [← HNP.out] at hKC
    have KC := Lib.hid hKC
    have hbx : br x = !G := by
      have h := HBR.out x hxm
      cases G with
      | true =>
        obtain ⟨y, hy, hy2⟩ := hG.1 rfl
        cases hb : br x with
        | false => rfl
        | true => exact absurd (h.1 hb y hy) hy2
      | false =>
        have h3 : ∀ y, y ∈ P → meets x y := fun y hy => Classical.byContradiction fun h4 => by have := hG.2 ⟨y, hy, h4⟩; cases this
        rw [h.2 h3]; rfl
    have hkl : (fL (ext count size 0) br k).length ≤ 2000000 := by
      unfold fL
      refine Nat.le_trans (List.length_filter_le _ _) ?_
      rw [List.length_take]
      omega
    obtain ⟨kk, hkk⟩ : ∃ kk, kk = (fL (ext count size 0) br k).length := ⟨_, rfl⟩
    rw [← hkk] at hA hkl
    have HKK := Lib.hid hkk
    have HR := Lib.hid hR
    have HA := Lib.hid hA
    have HX := Lib.hid hx
    have HO := Lib.hid ho
    have HE := Lib.hid e1'
    have HBX := Lib.hid hbx
    have hva := hA.box.cell
    have hsV := hA.box.lt
    clear hx hR f1 hA ho e1 hxm hxl hli hbV hKC hG hbx hkk
    gi_wp2
    refine ⟨trivial, (CallsIn.inRound l2 (callsIn_wide.2 KC.out)).mono ?_⟩
    rintro en V2 ⟨rfl, hb2⟩
    have hA2 := HA.out.kept (B := w1.heap.size + 1) (O' := (fun r => O r ∨ r = bs ∨ r = bc)) (Nat.le_refl _) (grown_of_below hb2) (fun r e => by cases e) (fun r h => .inl h)
    have HB2 := Lib.hid hb2
    have hsz2 := hb2.size
    clear hva c3 e1'
    cases G with
    | true =>
      have HA2 := Lib.hid hA2
      clear hA2 hb2
      gi_wp2
      refine ⟨keepsFrom_below HB2.out, KpO.of HB2.out, Nat.le_trans hq hsz2, va, vs, ?_⟩
      rw [fL_f HX.out HBX.out, ← HKK.out]
      exact HA2.out
    | false =>
      have hv := hA2.box
      have hrow := hA2.own
      have hc := hv.cell
      have hsz := hA2.bl.size
      have e2 := cell_of hb2 HE.out
      have HA2 := Lib.hid hA2
      clear hA2 hb2
      gi_wp2_with (gi_at_builtin; refine wpListIn_append_own_at _ rfl _ _ 68 rfl w1.heap.size 29 i0 (.slice none 0 0) 1 24 Try.underlying68 hi hz0 hz1 hz2 rfl (by decide) _ _ _ rfl (hrow.alloc _) ⟨V2.heap.size, 0, none⟩ 1 1 [.slice A' x.length c'] rfl rfl (cell_one_new _ _ _) (by simp [Value.oneCell']) (by unfold maxLen; omega) (by omega) (by simp; omega) ?_; intro v' w5 hown' hgrow _ hat; obtain ⟨g', cap', rfl⟩ := ownsRow_succ hown'; obtain ⟨hv1, hv2, hr2, hk2, hb5⟩ := hv.appended (by decide) hrow hsz (Nat.le_refl _) hown' hgrow; have hc1 := hv1.cell; have hf1 := hv1.frozen)
      have hA := HA2.out
      have hown := hA.own
      have hlen : vs.length = kk := by have := hown.1; omega
      have hne1 : ∀ b, isInts (V2.alloc (.cells #[.slice A' x.length c'] 29)) b → some b ≠ va.ownBlock := fun b hb e => by
        obtain ⟨_, cur, h2⟩ := own_obj (hown.alloc _) e.symm
        exact absurd (hb.type h2) (by decide)
      have hne2 : ∀ b, isInts w5 b → some b ≠ some w1.heap.size := fun b hb e => by
        cases e
        exact absurd (hb.type hv1) (by decide)
      have chain : ∀ x u, RlS w3.heap.size x #[u] (fun r => O r ∨ r = bs ∨ r = bc) V2 → RlS w3.heap.size x #[u] (fun r => O r ∨ r = bs ∨ r = bc) (w5.setCell ⟨w1.heap.size, 0, none⟩ (.slice (some ⟨g', 0, none⟩) (kk + 1) cap')) := fun x u h =>
        ((h.row (World.grownBy_alloc V2 _ none) (fun b _ _ e => by cases e) (fun r h => .inl h)).row hgrow (fun b hb _ => hne1 b hb) (fun r h => .inl h)).row (grownBy_setCell' w5 w1.heap.size _) (fun b hb _ => hne2 b hb) (fun r h => .inl h)
      have hOV : ∀ r, O r → r < V2.heap.size := fun r h => Nat.lt_of_lt_of_le (HO.out r h).2 hsz2
      have hOw : ∀ r, O r → w3.heap.size ≤ r := fun r h => by have := (HO.out r h).1; omega
      have hfl : (fL (ext count size 0) br (k + 1)).length = kk + 1 := by rw [fL_t HX.out HBX.out, List.length_append, ← HKK.out]; rfl
      have hcs : ∀ r, (r = bs ∨ r = bc) → w1.heap.size < r ∧ r < w3.heap.size := fun r h => by rcases h with h | h <;> omega
      refine ⟨(keepsFrom_below HB2.out).trans (hk2.from _), (KpO.of HB2.out).trans ((KpO.of (box1 V2 _)).trans ((KpO.grown hgrow (fun r e h => ?_)).trans (KpO.grown (grownBy_setCell' w5 w1.heap.size _) (fun r e h => ?_)))), ?_, (.slice (some ⟨g', 0, none⟩) (kk + 1) cap' : Value), vs ++ [.slice A' x.length c'], ?_⟩
      · obtain ⟨h3, _⟩ := own_obj hown e
        rcases h with h | h | h
        · omega
        · exact hA.nb r e (.inr h)
        · exact hA.nb r e (.inl h)
      · cases e
        rcases h with h | h | h
        · omega
        · have := hcs _ h; omega
        · have := hOw _ h; omega
      · have h8 := hb5.size; omega
      · rw [hfl]
        refine ⟨hv2, hr2, fun g2 h2 hO2 => ?_, fun i y hi2 hy => ?_, hA.O, hA.bl.trans hb5⟩
        · rcases hat with h3 | h3
          · exact hA.nb g2 (h3 ▸ h2) hO2
          · rw [h3] at h2
            cases h2
            simp only [World.size_alloc] at hO2
            rcases hO2 with h | h
            · have := hOV _ h; omega
            · have := hcs _ h; omega
        · by_cases hik : i < kk
          · obtain ⟨u, h3, h4⟩ := hA.rows i y hik hy
            exact ⟨u, by rw [List.getElem?_append_left (by omega)]; exact h3, chain _ _ h4⟩
          · obtain rfl : i = kk := by omega
            have h5 := fL_at HX.out HBX.out
            rw [← HKK.out] at h5
            rw [h5] at hy
            cases hy
            exact ⟨_, by rw [List.getElem?_append_right (by omega), hlen, Nat.sub_self]; rfl, chain _ _ ((HR.out.row (grown_of_below HB2.out) (fun b _ _ e => by cases e) (fun r h => .inl h)).withC (fun r h => (hcs r h).2))⟩
  case done =>
    rintro D O V hD ⟨hq, va, vs, hA⟩ hDD
    have hc := hA.box.cell
    have HA := Lib.hid hA
    clear hA
    gi_wp2
    refine ⟨by simp, .inl ⟨_, _, rfl, run_takeDeferred hDD, ?_⟩⟩
    have hP := HA.out.kept (B := w1.heap.size + 1) (O' := fun _ => False) (Nat.le_refl _) (grownBy_putObj' V D (.deferred none)) (fun r e => by cases e; exact .inr ⟨by omega, _, hDD, rfl⟩) (fun r h => h.elim)
    rw [fL_all] at hP
    have hls : LsR w3.heap.size w1 ((ext count size 0).filter br) va (V.putObj D (.deferred none)) := ⟨hP.bl, vs, hP.own, fun i x hx => hP.rows i x (List.getElem?_eq_some_iff.1 hx).1 hx⟩
    refine ⟨va, ?_, ⟨_, rfl, hls.more HB1.out (by omega)⟩⟩
    simp [results, Try.results107, go_sem]
end Go.Proofs.Ytpikaohodieeaaa
namespace Go.Proofs.Ytpikaohodieeaaa
open Go.RowKit
set_option linter.unusedSimpArgs false
set_option linter.unusedVariables false
theorem ext_max (c : Nat) : ∀ (r lo : Nat), (ext c r lo).length ≤ 2 ^ (c - lo) := by
  intro r
  induction r with
  | zero => intro lo; exact Nat.one_le_two_pow
  | succ r ih =>
    intro lo
    have h : ∀ j, j ≤ c - r - lo → (extJ c r lo j).length + 2 ^ (c - lo - j) ≤ 2 ^ (c - lo) := by
      intro j
      induction j with
      | zero => intro _; simp [extJ]
      | succ j ihj =>
        intro hj
        have h1 := ihj (by omega)
        have h2 := ih (lo + j + 1)
        have e1 : c - lo - j = (c - lo - (j + 1)) + 1 := by omega
        have e2 : c - (lo + j + 1) = c - lo - (j + 1) := by omega
        rw [e1, Nat.pow_succ] at h1
        rw [e2] at h2
        rw [extJ_len]
        omega
    have h1 := h _ (Nat.le_refl _)
    rw [ext_succ]
    exact Nat.le_trans (Nat.le_add_right _ _) h1
theorem ext_full : ∀ (r lo c : Nat), c = lo + r → ∃ s, s ∈ ext c r lo ∧ ∀ i, lo ≤ i → i < c → (i : Int) ∈ s := by
  intro r
  induction r with
  | zero => intro lo c h; exact ⟨[], by simp [ext], fun i h1 h2 => by omega⟩
  | succ r ih =>
    intro lo c h
    obtain ⟨s, h1, h2⟩ := ih (lo + 0 + 1) c (by omega)
    refine ⟨((lo + 0 : Nat) : Int) :: s, ?_, fun i h3 h4 => ?_⟩
    · simp only [ext, List.mem_flatMap, List.mem_map, List.mem_range]
      exact ⟨0, by omega, s, h1, rfl⟩
    · by_cases e : i = lo
      · subst e; simp
      · exact List.mem_cons_of_mem _ (h2 i (by omega) h4)
theorem con_elem {al : Nat → Bool} {pr : Nat → Nat → Bool} {m : Nat} {x : List Int} (h : x ∈ conL true al pr m) : (x.length ≤ 2) ∧ ∃ i : Nat, i < m ∧ ∃ t, x = (i : Int) :: t := by
  unfold conL at h
  rw [if_pos rfl, List.mem_append] at h
  rcases h with h | h
  · unfold sgL at h
    simp only [List.mem_map, List.mem_filter, List.mem_range] at h
    obtain ⟨i, ⟨h1, _⟩, rfl⟩ := h
    exact ⟨by simp, i, h1, [], rfl⟩
  · unfold prL at h
    obtain ⟨i, j, rfl, h1, h2⟩ := ext_two (List.mem_of_mem_take (List.mem_filter.1 h).1)
    exact ⟨by simp, i, by omega, [(j : Int)], rfl⟩
theorem con_two (R0 : Bool) (al : Nat → Bool) (pr : Nat → Nat → Bool) (m : Nat) (x : List Int) (h : x ∈ conL R0 al pr m) : x.length ≤ 2 := by
  cases R0 with
  | true => exact (con_elem h).1
  | false =>
    have e : conL false al pr m = [[]] := rfl
    rw [e] at h
    simp at h
    subst h
    simp
/-- the sets of a size that have an element of each -/
noncomputable def dL (P : List (List Int)) (m k : Nat) : List (List Int) := (ext m k 0).filter fun s => @decide (∀ x, x ∈ P → meets s x) (Classical.propDecidable _)
theorem meets_of {s x t : List Int} {i : Int} (hx : x = i :: t) (h : i ∈ s) : meets s x := by
  obtain ⟨k, hk⟩ := List.getElem?_of_mem h
  have h1 := (List.getElem?_eq_some_iff.1 hk).1
  refine ⟨k, h1, 0, by rw [hx]; simp, ?_⟩
  rw [hx, List.getD, List.getD, hk]
  rfl
theorem dL_full {al : Nat → Bool} {pr : Nat → Nat → Bool} {m : Nat} : dL (conL true al pr m) m m ≠ [] := by
  obtain ⟨s, h1, h2⟩ := ext_full m 0 m (by omega)
  have h : s ∈ dL (conL true al pr m) m m := by
    unfold dL
    refine List.mem_filter.2 ⟨h1, ?_⟩
    simp only [decide_eq_true_eq]
    intro x hx
    obtain ⟨_, i, hi, t, e⟩ := con_elem hx
    exact meets_of e (h2 i (by omega) hi)
  exact List.ne_nil_of_mem h
theorem LsR.lss {B0 : Nat} {w w' : World} {P : List (List Int)} {A : Option Addr} {n c : Nat} (h : LsR B0 w P (.slice A n c) w') (hx : ∀ x, x ∈ P → x.length ≤ 1000) (hP : P.length ≤ 100000) : LssIn A P w' := by
  obtain ⟨h1, vs, h2, h3⟩ := h
  refine ⟨by omega, fun i x hi => ?_⟩
  obtain ⟨u, e1, e2⟩ := h3 i x hi
  have hlt := (List.getElem?_eq_some_iff.1 hi).1
  obtain ⟨A', c', e3, e4⟩ := id e2
  obtain rfl : u = .slice A' x.length c' := by injection e3 with e3; injection e3
  have hl := (e2.li (hx x (List.mem_of_getElem? hi))).2
  obtain ⟨f0, ⟨f1, f2⟩ | ⟨g, cap, cur, f1, f2, f3, f4⟩⟩ := id h2
  · omega
  · injection f1 with f1 _ _
    subst f1
    have hcs := h2.cells (g := g) rfl
    exact ⟨⟨g, 0, none⟩, A', c', rfl, (Array.getElem?_eq_some_iff.1 f3).1, hcs _ _ e1, hl⟩
/-- what Drops answers -/
def DpR (d : Drm) (m : Nat) (F : Nat → Int × Int × Int) (L : List (List Int)) (E : Int) : Prop :=
  ((E = 20 ∨ E = 21) ∧ L = [] ∧ ChR d m F E) ∨ (DrOk d ∧ MksOk d m F ∧ ((12 < m ∧ L = [] ∧ E = 2) ∨ (m ≤ 12 ∧ (¬ ∃ T, Rdg d.n (gapF d) 0 F T) ∧ L = [] ∧ E = 22) ∨
    (m ≤ 12 ∧ (∃ T, Rdg d.n (gapF d) 0 F T) ∧ E = 0 ∧ ∃ P k, ConR d m F P ∧ k ≤ m ∧ L = dL P m k ∧ L ≠ [] ∧ ∀ j, j < k → dL P m j = [])))
theorem dL_first {P : List (List Int)} {m : Nat} (h : dL P m m ≠ []) : ∃ k, k ≤ m ∧ dL P m k ≠ [] ∧ ∀ j, j < k → dL P m j = [] := by
  have : ∀ q, (∃ k, k ≤ q ∧ k ≤ m ∧ dL P m k ≠ [] ∧ ∀ j, j < k → dL P m j = []) ∨ ∀ j, j ≤ q → dL P m j = [] := by
    intro q
    induction q with
    | zero =>
      by_cases e : dL P m 0 = []
      · exact .inr fun j hj => by obtain rfl : j = 0 := by omega
                                  exact e
      · exact .inl ⟨0, Nat.le_refl _, Nat.zero_le _, e, fun j hj => by omega⟩
    | succ q ih =>
      rcases ih with ⟨k, h1, h2, h3, h4⟩ | h1
      · exact .inl ⟨k, by omega, h2, h3, h4⟩
      · by_cases e : dL P m (q + 1) = []
        · exact .inr fun j hj => by
            by_cases e2 : j = q + 1
            · subst e2; exact e
            · exact h1 j (by omega)
        · by_cases hm : q + 1 ≤ m
          · exact .inl ⟨q + 1, Nat.le_refl _, hm, e, fun j hj => h1 j (by omega)⟩
          · exact absurd (h1 m (by omega)) h
  rcases this m with ⟨k, _, h2, h3, h4⟩ | h1
  · exact ⟨k, h2, h3, h4⟩
  · exact absurd (h1 m (Nat.le_refl _)) h
theorem dpR_ex (d : Drm) (m : Nat) (F : Nat → Int × Int × Int) : ∃ L E, DpR d m F L E := by
  obtain ⟨E, h⟩ := chR_ex d m F
  have h' := h
  rcases h with ⟨rfl, _⟩ | ⟨rfl, _, _⟩ | ⟨rfl, h1, h2⟩
  · exact ⟨[], 20, .inl ⟨.inl rfl, rfl, h'⟩⟩
  · exact ⟨[], 21, .inl ⟨.inr rfl, rfl, h'⟩⟩
  · by_cases hm : 12 < m
    · exact ⟨[], 2, .inr ⟨h1, h2, .inl ⟨hm, rfl, rfl⟩⟩⟩
    · by_cases hT : ∃ T, Rdg d.n (gapF d) 0 F T
      · obtain ⟨P, hP⟩ := conR_ex d m F
        have hP' := hP
        obtain ⟨R0, al, pr, e, h0, _⟩ := hP
        obtain rfl : R0 = true := h0.2 hT
        obtain ⟨k, k1, k2, k3⟩ := dL_first (P := P) (m := m) (by rw [e]; exact dL_full)
        exact ⟨_, 0, .inr ⟨h1, h2, .inr (.inr ⟨by omega, hT, rfl, P, k, hP', k1, rfl, k2, k3⟩)⟩⟩
      · exact ⟨[], 22, .inr ⟨h1, h2, .inr (.inl ⟨by omega, hT, rfl, rfl⟩)⟩⟩
end Go.Proofs.Ytpikaohodieeaaa
namespace Go.Proofs.Ytpikaohodieeaaa
open Go.RowKit
set_option linter.unusedSimpArgs false
set_option linter.unusedVariables false
set_option maxRecDepth 100000 in
set_option maxHeartbeats 2000000 in
theorem Drops_any (d : Drm) (MA : Option Addr) (m mc : Nat) (F : Nat → Int × Int × Int) (L : List (List Int)) (E : Int) (w : World) (hin : DrIn d w.heap.size w) (hm : TrsIn MA m F w.heap.size w) (hE : DpR d m F L E) :
    Calls Try.prog 61 #[d.v, .slice MA m mc] w fun e w' => ∃ v, e = .returned (.tuple #[v, .int .i64 E]) ∧ LsR w.heap.size w L v w' := by
  obtain ⟨w1, hw1⟩ : ∃ w1 : World, w1 = w.alloc (drO d) := ⟨_, rfl⟩
  have B1 : Below w.heap.size w w1 := by rw [hw1]; exact box1 _ _
  have P1 : HasDr d w.heap.size w1 := by rw [hw1]; exact dr_new w d
  have HB := Lib.hid B1
  have HP := Lib.hid P1
  have HIN := Lib.hid hin
  have HM := Lib.hid hm
  have KC := Lib.hid fun E (h : ChR d m F E) => check_any d MA m mc F E w1 ((hin.up B1 (Nat.le_refl _)).more B1.size) ((hm.up B1 (Nat.le_refl _)).more B1.size) h
  obtain ⟨x0, x1⟩ := P1
  clear hin hm B1
  rcases hE with ⟨hE, rfl, h⟩ | ⟨hd, hk, hE⟩
  · have hne : ¬ E = 0 := by omega
    have hn1 : (E != 0) = true := by simpa using hne
    have H := Lib.hid h
    clear h hE hne
    go_enter Try.func61, Try.ntmps61
    go_wp2_with fail
    rw [← hw1]
    refine (KC.out E H.out).mono ?_
    rintro e w2 ⟨rfl, hb2⟩
    have D2 := Lib.hid (nextB HB.out hb2)
    clear hb2 hw1
    go_wp2_with fail
    go_ret2
    exact ⟨_, rfl, LsR.nil D2.out⟩
  · have HD := Lib.hid hd
    have HK := Lib.hid hk
    have hm64 : m ≤ 64 := hk.1
    have HC : Hid (ChR d m F 0) := Lib.hid (.inr (.inr ⟨rfl, hd, hk⟩))
    clear hd hk
    rcases hE with ⟨h12, rfl, rfl⟩ | ⟨h12, hT, rfl, rfl⟩ | ⟨h12, hT, rfl, P, kk, hP, hkm, hL, hne, hmin⟩
    · have hgt : (12 : Int) < (m : Int) := by omega
      clear h12
      go_enter Try.func61, Try.ntmps61
      go_wp2_with fail
      rw [← hw1]
      refine (KC.out 0 HC.out).mono ?_
      rintro e w2 ⟨rfl, hb2⟩
      have D2 := Lib.hid (nextB HB.out hb2)
      clear hb2 hw1
      go_wp2_with fail
      go_ret2
      exact ⟨_, rfl, LsR.nil D2.out⟩
    · have hgt : ¬ (12 : Int) < (m : Int) := by omega
      have HT := Lib.hid hT
      clear h12 hT
      go_enter Try.func61, Try.ntmps61
      go_wp2_with fail
      rw [← hw1]
      refine (KC.out 0 HC.out).mono ?_
      rintro e w2 ⟨rfl, hb2⟩
      have D2 := Lib.hid (nextB HB.out hb2)
      have P2 := HP.out.up hb2
      clear hb2 hw1 x0 x1
      obtain ⟨x0, x1⟩ := P2
      go_wp2_with fail
      refine (gapsOf_any d w2 ((HIN.out.up D2.out (Nat.le_refl _)).more D2.out.size) HD.out).mono ?_
      rintro e w3 ⟨g, cap, rfl, hg3, hcap3, hS3, hb3⟩
      have D3 := Lib.hid (nextB D2.out hb3)
      have KA := Lib.hid (agree_any g d.n cap (gapF d) none 0 0 F w3 false hS3 ⟨by omega, fun i hi => absurd hi (by omega)⟩ (gpOk HD.out) (fun i hi => absurd hi (by omega)) ⟨fun e => (by cases e), fun h => absurd h HT.out⟩)
      clear hb3 hS3 hg3 hcap3 x0 x1
      go_wp2_with fail
      refine KA.out.mono ?_
      rintro e w4 ⟨rfl, hb4⟩
      have D4 := Lib.hid (nextB D3.out hb4)
      clear hb4
      go_wp2_with fail
      go_ret2
      exact ⟨_, rfl, LsR.nil D4.out⟩
    · have hgt : ¬ (12 : Int) < (m : Int) := by omega
      have HT := Lib.hid hT
      have HL := Lib.hid hL
      have HNE := Lib.hid hne
      have HMIN := Lib.hid hmin
      obtain ⟨R0, al, pr, hPL, h0, h1, h2⟩ := hP
      have HPL := Lib.hid hPL
      have H0 := Lib.hid h0
      have H1 := Lib.hid h1
      have H2 := Lib.hid h2
      clear hT hL hne hmin hPL h0 h1 h2
      go_enter Try.func61, Try.ntmps61
      go_wp2_with fail
      rw [← hw1]
      refine (KC.out 0 HC.out).mono ?_
      rintro e w2 ⟨rfl, hb2⟩
      have D2 := Lib.hid (nextB HB.out hb2)
      have P2 := HP.out.up hb2
      clear hb2 hw1 x0 x1
      obtain ⟨x0, x1⟩ := P2
      go_wp2_with fail
      refine (gapsOf_any d w2 ((HIN.out.up D2.out (Nat.le_refl _)).more D2.out.size) HD.out).mono ?_
      rintro e w3' ⟨g, cap, rfl, hg3, hcap3, hS3, hb3⟩
      have D3' := Lib.hid (nextB D2.out hb3)
      have KA := Lib.hid (agree_any g d.n cap (gapF d) none 0 0 F w3' true hS3 ⟨by omega, fun i hi => absurd hi (by omega)⟩ (gpOk HD.out) (fun i hi => absurd hi (by omega)) ⟨fun e => HT.out, fun h => rfl⟩)
      have HS3' := Lib.hid hS3
      clear hb3 hS3 hg3 hcap3 x0 x1
      go_wp2_with fail
      refine KA.out.mono ?_
      rintro e w3 ⟨rfl, hb4⟩
      have D3 := Lib.hid (nextB D3'.out hb4)
      have HS3 := Lib.hid (HS3'.out.up hb4)
      clear hb4
      go_wp2_with fail
      refine (contradictions_any (.slice (some ⟨g, 0, none⟩) d.n cap) (.slice MA m mc) w3 ⟨_, _, _, rfl⟩ ⟨_, _, _, rfl⟩).mono ?_
      rintro e w4 ⟨rfl, hw4⟩
      have hb4 : Below w3.heap.size w3 w4 := by rw [hw4]; exact box2 _ _ _
      have t1 : w4.cell? ⟨w3.heap.size, 0, none⟩ = some (.slice (some ⟨g, 0, none⟩) d.n cap) := by rw [hw4]; go_simp
      have t2 : w4.cell? ⟨w3.heap.size + 1, 0, none⟩ = some (.slice MA m mc) := by rw [hw4]; go_simp
      have D4 := Lib.hid (nextB D3.out hb4)
      have hG : GmIn g d.n cap (gapF d) MA m mc F w3.heap.size (w3.heap.size + 1) w4.heap.size w4 := ⟨HS3.out.up hb4, (HM.out.up D4.out (Nat.le_refl _)).more D4.out.size, t1, t2⟩
      have hY := con_yields g d.n cap (gapF d) MA m mc F R0 al pr w3.heap.size (w3.heap.size + 1) 7 w4 hG (gpOk HD.out) (mkOk_of HK.out) (by omega) H0.out H1.out H2.out
      have hmx := con_max R0 al pr m
      have hmm : m * m ≤ 64 * 64 := Nat.mul_le_mul hm64 hm64
      have htwo := con_two R0 al pr m
      rw [← HPL.out] at hY hmx htwo
      have hPl : P.length ≤ 100000 := by omega
      have HTW := Lib.hid htwo
      have KL := Lib.hid (CollectL_any P (by omega) 117 w4.heap.size _ _ w4 eg_con hY (fun r h => h))
      clear hw4 hb4 t1 t2 hG hY hmx hmm htwo
      go_wp2_with fail
      refine KL.out.mono ?_
      rintro e w5 ⟨v, rfl, hls⟩
      obtain ⟨A, c, rfl⟩ := hls.slice
      have HLS := Lib.hid (hls.lss (fun x hx => by have := HTW.out x hx; omega) hPl)
      have D5 := Lib.hid (nextB D4.out hls.1)
      obtain ⟨np, hnp⟩ : ∃ np, np = P.length := ⟨_, rfl⟩
      have HNP := Lib.hid hnp
      rw [← hnp]
      clear hls hnp hPl
      go_wp2_with fail
      go_loopw [9] (fun v wr => ∃ k : Nat, v = .int .i64 k ∧ k ≤ kk ∧ Hid (Below w5.heap.size w5 wr)) (fun v _ => kk - (intOf v).toNat)
      case atStart => exact ⟨0, rfl, Nat.zero_le _, Lib.hid (Below.refl _ _)⟩
      case round =>
        obtain ⟨k, rfl, hk, hR⟩ := hrel
        obtain ⟨wo, rfl⟩ : ∃ wo : World, wo = wr := ⟨_, rfl⟩
        have hK : Calls Try.prog 107 #[.slice A P.length c, .int .i64 m, .int .i64 k] wo fun e w' => ∃ v, e = .returned v ∧ LsR wo.heap.size wo (dL P m k) v w' :=
          breaking_any A c P m k (fun s => @decide (∀ x, x ∈ P → meets s x) (Classical.propDecidable _)) (fun s _ => by simp) wo (HLS.out.up hR.out) (by omega) (by omega) (Nat.le_trans (ext_max m k 0) (Nat.le_trans (Nat.pow_le_pow_right (by omega) (show m - 0 ≤ 12 by omega)) (by omega)))
        rw [← HNP.out] at hK
        have K := Lib.hid hK
        have w1' : IntKind.i64.wrap ((k : Int) + 1) = (k : Int) + 1 := IntWalk.i64_in _ (by omega)
        have hk0 : (0 : Int) ≤ (k : Int) := by omega
        clear hK
        go_wp2_with fail
        refine K.out.mono ?_
        rintro e w6 ⟨v, rfl, hls⟩
        obtain ⟨A5, c5, rfl⟩ := hls.slice
        have D6 := Lib.hid (hR.out.trans (hls.1.mono hR.out.size))
        by_cases hlt : k < kk
        · have hz : dL P m k = [] := HMIN.out k hlt
          rw [hz]
          clear hls hz
          go_wp2_with fail
          go_roundw
          case rel => exact ⟨k + 1, by go_num, by omega, D6⟩
          case measure => simp [intOf]; omega
        · obtain rfl : k = kk := by omega
          have hz : ¬ (dL P m k).length = 0 := fun h => HNE.out (by rw [HL.out]; exact List.length_eq_zero_iff.1 h)
          have HF := Lib.hid (hls.more (B1 := w.heap.size) (nextB D5.out hR.out) (nextB D5.out hR.out).size)
          obtain ⟨nd, hnd⟩ : ∃ nd, nd = (dL P m k).length := ⟨_, rfl⟩
          rw [← hnd]
          have hz2 : (0 : Int) < (nd : Int) := by omega
          have hz3 : 0 < nd := by omega
          have HND := Lib.hid hnd
          clear hls hz hnd
          go_wp2_with fail
          go_ret2
          refine ⟨_, rfl, ?_⟩
          rw [HL.out, HND.out]
          exact HF.out
end Go.Proofs.Ytpikaohodieeaaa
namespace Go.Proofs.Ytpikaohodieeaaa
open Go.RowKit
set_option linter.unusedSimpArgs false
set_option linter.unusedVariables false
abbrev Mk (x : Int × Int × Int) : Value := .agg #[.int .i64 x.1, .int .i64 x.2.1, .int .i64 x.2.2]
def pair3 (x y : Int × Int × Int) : Nat → Int × Int × Int := fun k => if k = 0 then x else y
set_option maxRecDepth 100000 in
set_option maxHeartbeats 1000000 in
theorem Agree_any (d : Drm) (x y : Int × Int × Int) (R : Bool) (E : Int) (w : World) (hin : DrIn d w.heap.size w) (hE : FeR d 2 (pair3 x y) R E) :
    Calls Try.prog 27 #[d.v, Mk x, Mk y] w fun e w' => e = .returned (.tuple #[.bool R, .int .i64 E]) ∧ Below w.heap.size w w' := by
  obtain ⟨x0, x1, x2⟩ := x
  obtain ⟨y0, y1, y2⟩ := y
  obtain ⟨w1, hw1⟩ : ∃ w1 : World, w1 = ((w.alloc (drO d)).alloc (.cells #[.int .i64 x0, .int .i64 x1, .int .i64 x2] 33)).alloc (.cells #[.int .i64 y0, .int .i64 y1, .int .i64 y2] 33) := ⟨_, rfl⟩
  have B1 : Below w.heap.size w w1 := by rw [hw1]; exact (((Below.refl _ _).alloc (Nat.le_refl _) _).alloc (by simp only [World.size_alloc]; omega) _).alloc (by simp only [World.size_alloc]; omega) _
  have P1 : HasDr d w.heap.size w1 := by rw [hw1]; exact ((dr_new w d).up (box1 _ _)).up (box1 _ _)
  have HB := Lib.hid B1
  have HIN := Lib.hid hin
  have u0 : w1.cell? ⟨w.heap.size + 1, 0, none⟩ = some (.int .i64 x0) := by rw [hw1]; go_simp
  have u1 : w1.cell? ⟨w.heap.size + 1, 1, none⟩ = some (.int .i64 x1) := by rw [hw1]; go_simp
  have u2 : w1.cell? ⟨w.heap.size + 1, 2, none⟩ = some (.int .i64 x2) := by rw [hw1]; go_simp
  have u3 : w1.cell? ⟨w.heap.size + 1 + 1, 0, none⟩ = some (.int .i64 y0) := by rw [hw1]; go_simp
  have u4 : w1.cell? ⟨w.heap.size + 1 + 1, 1, none⟩ = some (.int .i64 y1) := by rw [hw1]; go_simp
  have u5 : w1.cell? ⟨w.heap.size + 1 + 1, 2, none⟩ = some (.int .i64 y2) := by rw [hw1]; go_simp
  obtain ⟨v0, v1⟩ := P1
  have HW1 := Lib.hid hw1
  clear hw1
  obtain ⟨w2, hw2⟩ : ∃ w2 : World, w2 = w1.alloc (.cells #[.int .i64 x0, .int .i64 x1, .int .i64 x2, .int .i64 y0, .int .i64 y1, .int .i64 y2] 33) := ⟨_, rfl⟩
  have B2 : Below w.heap.size w w2 := nextB B1 (by rw [hw2]; exact box1 _ _)
  have z0 : w2.cell? ⟨w1.heap.size, 0, none⟩ = some (.int .i64 x0) := by rw [hw2]; go_simp
  have z1 : w2.cell? ⟨w1.heap.size, 1, none⟩ = some (.int .i64 x1) := by rw [hw2]; go_simp
  have z2 : w2.cell? ⟨w1.heap.size, 2, none⟩ = some (.int .i64 x2) := by rw [hw2]; go_simp
  have z3 : w2.cell? ⟨w1.heap.size, 3, none⟩ = some (.int .i64 y0) := by rw [hw2]; go_simp
  have z4 : w2.cell? ⟨w1.heap.size, 4, none⟩ = some (.int .i64 y1) := by rw [hw2]; go_simp
  have z5 : w2.cell? ⟨w1.heap.size, 5, none⟩ = some (.int .i64 y2) := by rw [hw2]; go_simp
  have zl : w1.heap.size < w2.heap.size := World.block_lt_of_cell? _ _ z0
  have htr : TrsIn (some ⟨w1.heap.size, 0, none⟩) 2 (pair3 (x0, x1, x2) (y0, y1, y2)) w2.heap.size w2 := ⟨by omega, fun k hk => by
    by_cases hk0 : k = 0
    · subst hk0
      exact ⟨⟨w1.heap.size, 0, none⟩, rfl, zl, z0, z1, z2⟩
    · obtain rfl : k = 1 := by omega
      exact ⟨⟨w1.heap.size, 0, none⟩, rfl, zl, z3, z4, z5⟩⟩
  have K := Lib.hid (Feasible_any d (some ⟨w1.heap.size, 0, none⟩) 2 2 (pair3 (x0, x1, x2) (y0, y1, y2)) R E w2 ((hin.up B2 (Nat.le_refl _)).more B2.size) htr hE)
  have HB2 := Lib.hid B2
  have HW2 := Lib.hid hw2
  clear hw2 hin B1 B2 z0 z1 z2 z3 z4 z5 zl htr
  go_enter Try.func27, Try.ntmps27
  go_upto_region 1 with fail
  rw [← HW1.out]
  go_wp2_with fail
  simp only [← HW2.out]
  refine K.out.mono ?_
  rintro e w3 ⟨rfl, hb3⟩
  have D3 := Lib.hid (nextB HB2.out hb3)
  clear hb3
  go_wp2_with fail
  go_ret2
  exact ⟨rfl, D3.out⟩
end Go.Proofs.Ytpikaohodieeaaa
namespace Go.Proofs.Ytpikaohodieeaaa
open Go.RowKit
set_option linter.unusedSimpArgs false
set_option linter.unusedVariables false
attribute [local go_sem] Oper.semAt_some
/-- what Contradiction answers -/
def CtR (d : Drm) (m : Nat) (F : Nat → Int × Int × Int) (x : List Int) (E : Int) : Prop :=
  ((E = 20 ∨ E = 21) ∧ x = [] ∧ ChR d m F E) ∨ (DrOk d ∧ MksOk d m F ∧ ∃ L, ConR d m F L ∧ ((L = [] ∧ x = [] ∧ E = 3) ∨ (L[0]? = some x ∧ E = 0)))
theorem RlS.zero {B0 : Nat} {x : List Int} {v : Array Value} {O : Nat → Prop} {W : World} (h : RlS B0 x v O W) : RlS 0 x v O W := by
  obtain ⟨A, c, e, h1⟩ := h
  exact ⟨A, c, e, fun i hi => by obtain ⟨b, f1, f2, f3, f4, f5⟩ := h1 i hi; exact ⟨b, f1, f2, f3, Nat.zero_le _, f5⟩⟩
/-- two result cells -/
structure Rc (b1 b2 : Nat) (v : Value) (E : Int) (V : World) : Prop where
  x : Boxed V b1 29 v
  y : Boxed V b2 39 (.int .i64 E)
theorem Rc.set {b1 b2 : Nat} {v v' : Value} {E E' : Int} {V : World} (h : Rc b1 b2 v E V) (hne : b1 ≠ b2) : Rc b1 b2 v' E' ((V.setCell ⟨b1, 0, none⟩ v').setCell ⟨b2, 0, none⟩ (.int .i64 E')) :=
  ⟨(h.x.set v').kept (grownBy_setCell' _ b2 _) (fun e => by cases e; exact hne rfl), (h.y.kept (grownBy_setCell' V b1 v') (fun e => by cases e; exact hne rfl)).set _⟩
theorem Rc.kept {b1 b2 : Nat} {v : Value} {E : Int} {V V' : World} {row : Option Nat} (h : Rc b1 b2 v E V) (hg : V.grownBy V' row) (h1 : some b1 ≠ row) (h2 : some b2 ≠ row) : Rc b1 b2 v E V' := ⟨h.x.kept hg h1, h.y.kept hg h2⟩
theorem Rc.up {b1 b2 : Nat} {v : Value} {E : Int} {V V' : World} (h : Rc b1 b2 v E V) (hb : Below V.heap.size V V') : Rc b1 b2 v E V' := h.kept (grown_of_below hb) (fun e => by cases e) (fun e => by cases e)
set_option maxRecDepth 100000 in
set_option maxHeartbeats 2000000 in
theorem Contradiction_any (d : Drm) (MA : Option Addr) (m mc : Nat) (F : Nat → Int × Int × Int) (x : List Int) (E : Int) (w : World) (hin : DrIn d w.heap.size w) (hm : TrsIn MA m F w.heap.size w) (hE : CtR d m F x E) :
    Calls Try.prog 57 #[d.v, .slice MA m mc] w fun e w' => ∃ v, e = .returned (.tuple #[v, .int .i64 E]) ∧ RlS 0 x #[v] (fun _ => False) w' ∧ Below w.heap.size w w' := by
  obtain ⟨w1, hw1⟩ : ∃ w1 : World, w1 = ((w.alloc (drO d)).alloc (.cells #[.slice none 0 0] 29)).alloc (.cells #[.int .i64 0] 39) := ⟨_, rfl⟩
  have B1 : Below w.heap.size w w1 := by rw [hw1]; exact (((Below.refl _ _).alloc (Nat.le_refl _) _).alloc (by simp only [World.size_alloc]; omega) _).alloc (by simp only [World.size_alloc]; omega) _
  have P1 : HasDr d w.heap.size w1 := by rw [hw1]; exact ((dr_new w d).up (box1 _ _)).up (box1 _ _)
  have u0 : Boxed w1 (w.heap.size + 1) 29 (.slice none 0 0) := by rw [hw1]; have h := (Boxed.new (w.alloc (drO d)) 29 (.slice none 0 0)).alloc (.cells #[.int .i64 0] 39); rw [World.size_alloc] at h; exact h
  have u1 : Boxed w1 (w.heap.size + 1 + 1) 39 (.int .i64 0) := by rw [hw1]; have h := Boxed.new ((w.alloc (drO d)).alloc (.cells #[.slice none 0 0] 29)) 39 (.int .i64 0); rw [World.size_alloc, World.size_alloc] at h; exact h
  have HW1 := Lib.hid hw1
  have HB := Lib.hid B1
  have HP := Lib.hid P1
  have HU0 := Lib.hid u0
  have HU1 := Lib.hid u1
  have HIN := Lib.hid hin
  have HM := Lib.hid hm
  have KC := Lib.hid fun E (h : ChR d m F E) => check_any d MA m mc F E w1 ((hin.up B1 (Nat.le_refl _)).more B1.size) ((hm.up B1 (Nat.le_refl _)).more B1.size) h
  obtain ⟨x0, x1⟩ := P1
  clear hin hm B1 u0 u1 hw1
  rcases hE with ⟨hE, rfl, h⟩ | ⟨hd, hk, hE⟩
  · have hne : ¬ E = 0 := by omega
    have hn1 : (E != 0) = true := by simpa using hne
    have H := Lib.hid h
    clear h hE hne
    refine (callsIn_wide (n := 8)).1 ?_
    refine callsIn_of_wp_marks Try.func57 rfl trivial ?_ rfl
    simp only [Try.ntmps57, List.size_toArray, List.length_cons, List.length_nil, Nat.reduceAdd, Nat.reduceSub, Array.replicate_succ, Array.replicate_zero, List.push_toArray, List.append_toArray, List.nil_append, List.cons_append]
    gi_wp2
    rw [← HW1.out]
    refine ⟨trivial, (callsIn_wide.2 (KC.out E H.out)).mono ?_⟩
    rintro en w2 ⟨rfl, hb2⟩
    have R2 : Rc (w.heap.size + 1) (w.heap.size + 1 + 1) (.slice none 0 0) 0 w2 := Rc.up ⟨HU0.out, HU1.out⟩ hb2
    have D2 := Lib.hid (nextB HB.out hb2)
    have hq := R2.set (v' := .slice none 0 0) (E' := E) (by omega)
    have HF := Lib.hid (D2.out.trans ((set1 (set1 (Below.refl w.heap.size w2) (by omega) _ _) (by omega) _ _ : Below w.heap.size w2 ((w2.setCell ⟨w.heap.size + 1, 0, none⟩ (.slice none 0 0)).setCell ⟨w.heap.size + 1 + 1, 0, none⟩ (.int .i64 E)))))
    have HQ := Lib.hid hq
    have c0 := R2.x.cell
    have c1 := R2.x.frozen
    have c2 := R2.y.cell
    have c3 := R2.y.frozen
    clear hq hb2 R2
    gi_wp2
    obtain ⟨wf, hwf⟩ : ∃ wf : World, wf = ((w2.setCell ⟨w.heap.size + 1, 0, none⟩ (.slice none 0 0)).setCell ⟨w.heap.size + 1 + 1, 0, none⟩ (.int .i64 E)) := ⟨_, rfl⟩
    have HF2 := HF.out
    have HQ2 := HQ.out
    rw [← hwf] at HF2 HQ2 ⊢
    have q0 := HQ2.x.cell
    have q1 := HQ2.y.cell
    exact ⟨.tuple #[.slice none 0 0, .int .i64 E], by simp [results, Try.results57, go_sem, q0, q1], _, rfl, ⟨none, 0, rfl, fun i hi => absurd hi (by simp)⟩, HF2⟩
  · obtain ⟨L, hC, hE⟩ := hE
    obtain ⟨R0, al, pr, hPL, h0, h1, h2⟩ := hC
    have HPL := Lib.hid hPL
    have HE := Lib.hid hE
    have HD := Lib.hid hd
    have HK := Lib.hid hk
    have H0 := Lib.hid h0
    have H1 := Lib.hid h1
    have H2 := Lib.hid h2
    have hm64 : m ≤ 64 := hk.1
    have HC : Hid (ChR d m F 0) := Lib.hid (.inr (.inr ⟨rfl, hd, hk⟩))
    clear hd hk hPL hE h0 h1 h2
    refine (callsIn_wide (n := 8)).1 ?_
    refine callsIn_of_wp_marks Try.func57 rfl trivial ?_ rfl
    simp only [Try.ntmps57, List.size_toArray, List.length_cons, List.length_nil, Nat.reduceAdd, Nat.reduceSub, Array.replicate_succ, Array.replicate_zero, List.push_toArray, List.append_toArray, List.nil_append, List.cons_append]
    gi_wp2
    rw [← HW1.out]
    refine ⟨trivial, (callsIn_wide.2 (KC.out 0 HC.out)).mono ?_⟩
    rintro en w2 ⟨rfl, hb2⟩
    have R2 : Rc (w.heap.size + 1) (w.heap.size + 1 + 1) (.slice none 0 0) 0 w2 := Rc.up ⟨HU0.out, HU1.out⟩ hb2
    have D2 := Lib.hid (nextB HB.out hb2)
    have HR2 := Lib.hid R2
    have P2 := HP.out.up hb2
    clear hb2 R2 x0 x1
    obtain ⟨x0, x1⟩ := P2
    gi_wp2
    refine ⟨trivial, (callsIn_wide.2 (gapsOf_any d w2 ((HIN.out.up D2.out (Nat.le_refl _)).more D2.out.size) HD.out)).mono ?_⟩
    rintro en w3 ⟨g, cap, rfl, hg3, hcap3, hS3, hb3⟩
    have D3 := Lib.hid (nextB D2.out hb3)
    have HS3 := Lib.hid hS3
    have HR3 := Lib.hid (HR2.out.up hb3)
    have HG3 := Lib.hid hg3
    clear hb3 hS3 hg3 hcap3 x0 x1
    gi_wp2
    refine ⟨trivial, (callsIn_wide.2 (contradictions_any (.slice (some ⟨g, 0, none⟩) d.n cap) (.slice MA m mc) w3 ⟨_, _, _, rfl⟩ ⟨_, _, _, rfl⟩)).mono ?_⟩
    rintro en w4 ⟨rfl, hw4⟩
    have hb4 : Below w3.heap.size w3 w4 := by rw [hw4]; exact box2 _ _ _
    have t1 : w4.cell? ⟨w3.heap.size, 0, none⟩ = some (.slice (some ⟨g, 0, none⟩) d.n cap) := by rw [hw4]; go_simp
    have t2 : w4.cell? ⟨w3.heap.size + 1, 0, none⟩ = some (.slice MA m mc) := by rw [hw4]; go_simp
    have D4 := Lib.hid (nextB D3.out hb4)
    have R4 := HR3.out.up hb4
    have hG : GmIn g d.n cap (gapF d) MA m mc F w3.heap.size (w3.heap.size + 1) w4.heap.size w4 := ⟨HS3.out.up hb4, (HM.out.up D4.out (Nat.le_refl _)).more D4.out.size, t1, t2⟩
    have hg2 : w.heap.size + 1 + 1 < g := by have := HR2.out.y.lt; have := HG3.out; omega
    have hw2 : w.heap.size + 1 + 1 < w3.heap.size := HR3.out.y.lt
    have hY := con_yieldsC (fun r => w.heap.size + 1 + 1 < r ∨ r < w.heap.size) g d.n cap (gapF d) MA m mc F R0 al pr w3.heap.size (w3.heap.size + 1) 7 w4 (.inl hg2) (.inl hw2) (.inl (by omega)) (fun a e h _ => .inr (by obtain ⟨a', e', hl, _⟩ := HM.out.2 0 h; rw [e] at e'; cases e'; exact hl)) hG (gpOk HD.out) (mkOk_of HK.out) (by omega) H0.out H1.out H2.out
    rw [← HPL.out] at hY
    have HY := Lib.hid hY
    have HR4 := Lib.hid R4
    have l1 : w.heap.size + 1 < w4.heap.size := R4.x.lt
    have l2 : w.heap.size + 1 + 1 < w4.heap.size := R4.y.lt
    clear hw4 hb4 t1 t2 hG hY R4 hg2 hw2
    gi_wp2
    refine rangeListO1 7 rfl (by omega) (gf := 117) (lb := #[.pointer (some ⟨w3.heap.size, 0, none⟩), .pointer (some ⟨w3.heap.size + 1, 0, none⟩)]) rfl trivial eg_con HY.out (Below.refl _ _) (fun x v O V h => h.size) (fun x v O V V' row h hg hr => h.grow hg hr)
      (fun k O V => k = 0 ∧ Rc (w.heap.size + 1) (w.heap.size + 1 + 1) (.slice none 0 0) 0 V ∧ (∀ r, O r → w4.heap.size ≤ r) ∧ w4.heap.size ≤ V.heap.size ∧ Below w.heap.size w V)
      (fun cd k O V => cd = .ret ∧ E = 0 ∧ ∃ v, Rc (w.heap.size + 1) (w.heap.size + 1 + 1) v 0 V ∧ RlS w4.heap.size x #[v] O V ∧ (∀ r, O r → w4.heap.size ≤ r) ∧ w4.heap.size ≤ V.heap.size ∧ Below w.heap.size w V) ?hI ?hIx ⟨rfl, HR4.out, fun r h => h.elim, Nat.le_refl _, D4.out⟩ ?assign ?body ?done ?stop
    case hI =>
      rintro k O V V' row O' ⟨a0, a1, a2, a3, a4⟩ hg hr hO
      have hrw : ∀ r, row = some r → w4.heap.size ≤ r := fun r e => (hr r e).elim (a2 r) (fun h => h.1)
      exact ⟨a0, a1.kept hg (fun e => by have := hrw _ e.symm; omega) (fun e => by have := hrw _ e.symm; omega), fun r h => (hO r h).elim (a2 r) (fun h => Nat.le_trans a3 h.1), Nat.le_trans a3 hg.size, a4.grown hg (by omega) (fun r e => by have := hrw r e; omega)⟩
    case hIx =>
      rintro cd k O V V' row O' ⟨b0, b1, v, a1, b2, a2, a3, a4⟩ hg hr hO
      have hrw : ∀ r, row = some r → w4.heap.size ≤ r := fun r e => (hr r e).elim (a2 r) (fun h => h.1)
      refine ⟨b0, b1, v, a1.kept hg (fun e => by have := hrw _ e.symm; omega) (fun e => by have := hrw _ e.symm; omega), b2.row hg (fun b hb hnO e => ?_) (fun r h => (hO r h).imp id (fun h => h.1)), fun r h => (hO r h).elim (a2 r) (fun h => Nat.le_trans a3 h.1), Nat.le_trans a3 hg.size, a4.grown hg (by omega) (fun r e => by have := hrw r e; omega)⟩
      rcases hr b e.symm with h3 | ⟨_, o, h3, h4⟩
      · exact hnO h3
      · rw [hb.cells h3] at h4; cases h4
    case assign =>
      rintro l2 y v O V K hR hK
      obtain ⟨A, c, rfl, h1⟩ := hR
      clear h1
      gi_wp2
    case body =>
      rintro l2 k y v O V hx hR ⟨rfl, a1, a2, a3, a4⟩ ho
      obtain ⟨hxy, hE0⟩ : y = x ∧ E = 0 := by
        rcases HE.out with ⟨h, _⟩ | ⟨h, h2⟩
        · rw [h] at hx; simp at hx
        · rw [hx] at h; exact ⟨Option.some.inj h, h2⟩
      subst hxy
      obtain ⟨A, c, rfl, h1⟩ := id hR
      have hq := a1.set (v' := .slice A y.length c) (E' := 0) (by omega)
      have HQ := Lib.hid hq
      have HR := Lib.hid hR
      have HF := Lib.hid (a4.trans ((set1 (set1 (Below.refl w.heap.size V) (by omega) _ _) (by omega) _ _ : Below w.heap.size V ((V.setCell ⟨w.heap.size + 1, 0, none⟩ (.slice A y.length c)).setCell ⟨w.heap.size + 1 + 1, 0, none⟩ (.int .i64 0)))))
      have c0 := a1.x.cell
      have c1 := a1.x.frozen
      have c2 := a1.y.cell
      have c3 := a1.y.frozen
      have HA1 := Lib.hid a1
      clear hq hR h1 hx a1
      gi_wp2
      have hne1 : ∀ b, isInts V b → some b ≠ some (w.heap.size + 1) := fun b hb e => by
        cases e
        exact absurd (hb.type HA1.out.x) (by decide)
      have hne2 : ∀ b, isInts (V.setCell ⟨w.heap.size + 1, 0, none⟩ (.slice A y.length c)) b → some b ≠ some (w.heap.size + 1 + 1) := fun b hb e => by
        cases e
        exact absurd (hb.type (HA1.out.y.kept (grownBy_setCell' V (w.heap.size + 1) _) (fun e => by injection e; omega))) (by decide)
      refine ⟨((KeepsOthers.setCell _ _ _).trans (KeepsOthers.setCell _ _ _)).from _, (KpO.grown (grownBy_setCell' V (w.heap.size + 1) _) (fun r e h => ?_)).trans (KpO.grown (grownBy_setCell' _ (w.heap.size + 1 + 1) _) (fun r e h => ?_)), rfl, hE0, _, HQ.out, (HR.out.row (grownBy_setCell' V (w.heap.size + 1) _) (fun b hb _ => hne1 b hb) (fun r h => .inl h)).row (grownBy_setCell' _ (w.heap.size + 1 + 1) _) (fun b hb _ => hne2 b hb) (fun r h => .inl h), a2, by go_simp, HF.out⟩
      · cases e
        rcases h with h | (h | h) | h
        · omega
        · omega
        · omega
        · have := a2 _ h; omega
      · cases e
        rcases h with h | (h | h) | h
        · omega
        · omega
        · omega
        · have := a2 _ h; omega
    case done =>
      rintro D O V hD ⟨hl, a1, a2, a3, a4⟩ hDD
      obtain ⟨hx, rfl⟩ : x = [] ∧ E = 3 := by
        rcases HE.out with ⟨_, h, h2⟩ | ⟨h, _⟩
        · exact ⟨h, h2⟩
        · have := (List.getElem?_eq_some_iff.1 h).1; omega
      subst hx
      have hq := a1.set (v' := .slice none 0 0) (E' := 3) (by omega)
      have HQ := Lib.hid hq
      have HF := Lib.hid (a4.trans ((set1 (set1 (Below.refl w.heap.size V) (by omega) _ _) (by omega) _ _ : Below w.heap.size V ((V.setCell ⟨w.heap.size + 1, 0, none⟩ (.slice none 0 0)).setCell ⟨w.heap.size + 1 + 1, 0, none⟩ (.int .i64 3)))))
      have c0 := a1.x.cell
      have c1 := a1.x.frozen
      have c2 := a1.y.cell
      have c3 := a1.y.frozen
      have HA1 := Lib.hid a1
      clear hq a1
      gi_wp2
      have hnb : ∀ b o, V.heap[b]? = some o → o.isCells = true → some D ≠ some b := fun b o h1 h2 e => by
        cases e
        rw [h1] at hDD; cases hDD; cases h2
      have hD1 := ((grownBy_setCell' V (w.heap.size + 1) (.slice none 0 0)).block D (Array.getElem?_eq_some_iff.1 hDD).1 (hnb _ _ HA1.out.x rfl)).trans hDD
      have hD2 := ((grownBy_setCell' (V.setCell ⟨w.heap.size + 1, 0, none⟩ (.slice none 0 0)) (w.heap.size + 1 + 1) (.int .i64 3)).block D (Array.getElem?_eq_some_iff.1 hD1).1 (hnb _ _ HA1.out.y rfl)).trans hD1
      obtain ⟨wf, hwf⟩ : ∃ wf : World, wf = ((V.setCell ⟨w.heap.size + 1, 0, none⟩ (.slice none 0 0)).setCell ⟨w.heap.size + 1 + 1, 0, none⟩ (.int .i64 3)) := ⟨_, rfl⟩
      have HF2 := HF.out
      have HQ2 := HQ.out
      rw [← hwf] at HF2 HQ2 hD2 ⊢
      refine ⟨by simp, .inl ⟨_, _, rfl, run_takeDeferred hD2, ?_⟩⟩
      have hg := grownBy_putObj' wf D (.deferred none)
      have hnb2 : ∀ b o, wf.heap[b]? = some o → o.isCells = true → some b ≠ some D := fun b o h1 h2 e => by
        cases e
        rw [h1] at hD2; cases hD2; cases h2
      have R6 := HQ2.kept hg (hnb2 _ _ HQ2.x rfl) (hnb2 _ _ HQ2.y rfl)
      have q0 := R6.x.cell
      have q1 := R6.y.cell
      exact ⟨.tuple #[.slice none 0 0, .int .i64 3], by simp [results, Try.results57, go_sem, q0, q1], _, rfl, ⟨none, 0, rfl, fun i hi => absurd hi (by simp)⟩, HF2.grown hg HF2.size (fun r e => by cases e; omega)⟩
    case stop =>
      rintro D cd k O V hD hk ⟨rfl, rfl, v, a1, b2, a2, a3, a4⟩ hDD
      have c0 := a1.x.cell
      have c2 := a1.y.cell
      have HA1 := Lib.hid a1
      clear a1
      gi_wp2
      refine ⟨by simp, .inl ⟨_, _, rfl, run_takeDeferred hDD, ?_⟩⟩
      have hg := grownBy_putObj' V D (.deferred none)
      have hnb : ∀ b o, V.heap[b]? = some o → o.isCells = true → some b ≠ some D := fun b o h1 h2 e => by
        cases e
        rw [h1] at hDD; cases hDD; cases h2
      have R6 := HA1.out.kept hg (hnb _ _ HA1.out.x rfl) (hnb _ _ HA1.out.y rfl)
      have q0 := R6.x.cell
      have q1 := R6.y.cell
      exact ⟨.tuple #[v, .int .i64 0], by simp [results, Try.results57, go_sem, q0, q1], v, rfl, (b2.row hg (fun b hb _ => by obtain ⟨_, _, e⟩ := id hb; exact hnb _ _ e rfl) (fun r h => h.elim)).zero, a4.grown hg (by omega) (fun r e => by cases e; omega)⟩
end Go.Proofs.Ytpikaohodieeaaa
