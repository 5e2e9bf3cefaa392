/- has, pick, without: helpers of the statements about contradictions and drops. -/
import Derived.Test.YtpikaohodieeaaaHas
namespace Go.Proofs.Ytpikaohodieeaaa
open Go.RowKit
set_option linter.unusedSimpArgs false
set_option linter.unusedVariables false
set_option maxRecDepth 100000 in
set_option maxHeartbeats 2000000 in
theorem has_any (A : Option Addr) (n c : Nat) (Z : Nat → Int) (x : Int) (G : Bool) (w : World) (hin : IntsIn A n Z w.heap.size w) (hG : G = true ↔ ∃ i, i < n ∧ Z i = x) :
    Calls Try.prog 69 #[.slice A n c, .int .i64 x] w fun e w' => e = .returned (.bool G) ∧ w' = w := by
  have H1 := Lib.hid hin
  have HG := Lib.hid hG
  have hn := hin.1
  clear hin hG
  obtain ⟨j, j1, j2, j3⟩ := first_bad (fun i => Z i ≠ x) n
  have J2 := Lib.hid j2
  have J3 := Lib.hid j3
  clear j2 j3
  go_enter Try.func69, Try.ntmps69
  go_wp2_with fail
  go_loopw [5] (fun i wr => ∃ k : Nat, k ≤ j ∧ i = .int .i64 k ∧ wr = w) (fun i _ => n - (intOf i).toNat)
  case atStart => exact ⟨0, Nat.zero_le _, rfl, rfl⟩
  case round =>
    obtain ⟨k, hk, rfl, rfl⟩ := hrel
    have hk0 : (0 : Int) ≤ (k : Int) := by omega
    by_cases hlt : k < n
    · obtain ⟨g, rfl, g1, c1⟩ := H1.out.2 k hlt
      have hki : (k : Int) < (n : Int) := by omega
      by_cases hkj : k < j
      · have d3 : ¬ (Z k = x) := J2.out k hkj
        generalize Z k = z at c1 d3
        go_wp2_with fail
        go_roundw
        case rel => exact ⟨k + 1, by omega, by first | trivial | rfl | go_num⟩
        case measure => (simp [intOf] <;> omega)
      · obtain rfl : k = j := by omega
        have hne := J3.out hlt
        have hzx : Z k = x := by
          by_cases e : Z k = x
          · exact e
          · exact absurd e hne
        obtain rfl : G = true := HG.out.2 ⟨k, hlt, hzx⟩
        rw [hzx] at c1
        clear hne
        go_wp2_with fail
        go_ret
        try trivial
    · obtain rfl : k = n := by omega
      obtain rfl : j = k := by omega
      obtain rfl : G = false := by
        cases G with
        | false => rfl
        | true => obtain ⟨i, hi, e⟩ := HG.out.1 rfl; exact absurd e (J2.out i hi)
      have hki : ¬ ((j : Int) < (j : Int)) := by omega
      go_wp2_with fail
      go_ret
      try trivial
/-- a list of marks as a function -/
def lsF (L : List (Int × Int × Int)) (i : Nat) : Int × Int × Int := L.getD i (0, 0, 0)
theorem rowT_cg {F H : Nat → Int × Int × Int} : ∀ n, (∀ i, i < n → F i = H i) → rowT F n = rowT H n
  | 0, _ => rfl
  | n + 1, h => by rw [rowT_succ, rowT_succ, rowT_cg n (fun i hi => h i (by omega)), h n (by omega)]
theorem rowT_ls (L : List (Int × Int × Int)) (x : Int × Int × Int) : rowT (lsF (L ++ [x])) (L ++ [x]).length = rowT (lsF L) L.length ++ [.int .i64 x.1, .int .i64 x.2.1, .int .i64 x.2.2] := by
  rw [List.length_append, List.length_singleton, rowT_succ]
  have e : lsF (L ++ [x]) L.length = x := by unfold lsF; simp
  rw [e, rowT_cg (F := lsF (L ++ [x])) (H := lsF L) L.length (fun i hi => by unfold lsF; simp [List.getD_eq_getElem?_getD, List.getElem?_append_left hi])]
/-- the marks of a list whose indices are picked -/
def pkL (F : Nat → Int × Int × Int) (m : Nat) (Z : Nat → Int) : Nat → List (Int × Int × Int)
  | 0 => []
  | k + 1 => if 0 ≤ Z k ∧ Z k < m then pkL F m Z k ++ [F (Z k).toNat] else pkL F m Z k
theorem pkL_len (F : Nat → Int × Int × Int) (m : Nat) (Z : Nat → Int) : ∀ k, (pkL F m Z k).length ≤ k
  | 0 => Nat.le_refl _
  | k + 1 => by
    have := pkL_len F m Z k
    show (if _ then _ else _ : List (Int × Int × Int)).length ≤ _
    split
    · rw [List.length_append, List.length_singleton]; omega
    · omega
/-- the marks whose indices are not among some -/
def wtL (F : Nat → Int × Int × Int) (n : Nat) (Z : Nat → Int) : Nat → List (Int × Int × Int)
  | 0 => []
  | k + 1 => if (List.range n).any (fun i => Z i == (k : Int)) = true then wtL F n Z k else wtL F n Z k ++ [F k]
theorem wtL_len (F : Nat → Int × Int × Int) (n : Nat) (Z : Nat → Int) : ∀ k, (wtL F n Z k).length ≤ k
  | 0 => Nat.le_refl _
  | k + 1 => by
    have := wtL_len F n Z k
    show (if _ then _ else _ : List (Int × Int × Int)).length ≤ _
    split
    · omega
    · rw [List.length_append, List.length_singleton]; omega
theorem any_iff (n : Nat) (Z : Nat → Int) (x : Int) : (List.range n).any (fun i => Z i == x) = true ↔ ∃ i, i < n ∧ Z i = x := by
  rw [List.any_eq_true]
  exact ⟨fun ⟨i, h1, h2⟩ => ⟨i, List.mem_range.1 h1, by simpa using h2⟩, fun ⟨i, h1, h2⟩ => ⟨i, List.mem_range.2 h1, by simpa using h2⟩⟩
theorem own_formh {w : World} {B n s : Nat} {e : TypeId} {v : Value} {xs : List Value} (h : w.ownsRow B e s v (n + 1) xs) : ∃ g cap, v = .slice (some ⟨g, 0, none⟩) (n + 1) cap := by
  obtain ⟨_, ⟨_, f⟩ | ⟨g, cap, cur, f1, _⟩⟩ := h
  · cases f
  · exact ⟨g, cap, f1⟩
/-- a row of marks of one's own -/
structure MkL (w0 : World) (L : List (Int × Int × Int)) (v : Value) (wr : World) : Prop where
  bl : Below w0.heap.size w0 wr
  own : wr.ownsRow w0.heap.size 33 3 v L.length (rowT (lsF L) L.length)
theorem MkL.out {w0 wr : World} {L : List (Int × Int × Int)} {v : Value} (h : MkL w0 L v wr) (hn : L.length ≤ 1000) : ∃ A k, v = .slice A L.length k ∧ TrsIn A L.length (lsF L) wr.heap.size wr := by
  have h2 := h.own
  obtain ⟨_, ⟨f, f2⟩ | ⟨g, c, cur, f1, _⟩⟩ := h2
  · have h0 : L.length = 0 := f2
    exact ⟨none, 0, by rw [f, h0], ⟨by omega, fun i hi => absurd hi (by omega)⟩⟩
  · subst f1
    exact ⟨_, _, rfl, row_trs h.own hn⟩
theorem MkL.app {w0 wr w5 : World} {L : List (Int × Int × Int)} {v v' : Value} {x0 x1 x2 : Int} {b : Obj} (h : MkL w0 L v wr) (hg : (wr.alloc b).grownBy w5 v.ownBlock)
    (hown : w5.ownsRow w0.heap.size 33 3 v' (L.length + 1) (rowT (lsF L) L.length ++ [.int .i64 x0, .int .i64 x1, .int .i64 x2])) : MkL w0 (L ++ [(x0, x1, x2)]) v' w5 :=
  ⟨(nextB h.bl (box1 wr b)).grown hg (by have := h.bl.size; rw [World.size_alloc]; omega) (fun r e => (own_block h.own e).1), by rw [rowT_ls, List.length_append, List.length_singleton]; exact hown⟩
set_option maxRecDepth 100000 in
set_option maxHeartbeats 4000000 in
theorem pick_any (A S : Option Addr) (m n c d : Nat) (F : Nat → Int × Int × Int) (Z : Nat → Int) (w : World) (h1 : TrsIn A m F w.heap.size w) (h2 : IntsIn S n Z w.heap.size w) (hn : n ≤ 900) (hm : m ≤ 900) :
    Calls Try.prog 70 #[.slice A m c, .slice S n d] w fun e w' => ∃ B k, e = .returned (.slice B (pkL F m Z n).length k) ∧ TrsIn B (pkL F m Z n).length (lsF (pkL F m Z n)) w'.heap.size w' ∧ Below w.heap.size w w' := by
  have H1 := Lib.hid h1
  have H2 := Lib.hid h2
  obtain ⟨i0, hi0, hz0, hz1, hz2⟩ := info_parts Try.infoMark
  clear h1 h2
  go_enter Try.func70, Try.ntmps70
  go_wp2_with fail
  go_loopw [5, 6] (fun v i wr => ∃ k : Nat, k ≤ n ∧ i = .int .i64 k ∧ MkL w (pkL F m Z k) v wr) (fun _ i _ => n - (intOf i).toNat)
  case atStart => exact ⟨0, Nat.zero_le _, rfl, Below.refl _ _, World.ownsRow_nil _ _ _ _⟩
  case round =>
    obtain ⟨k, hk, rfl, hR⟩ := hrel
    obtain ⟨wo, rfl⟩ : ∃ wo : World, wo = wr := ⟨_, rfl⟩
    have HR := Lib.hid hR
    have sz := hR.bl.size
    clear hR
    have hk0 : (0 : Int) ≤ (k : Int) := by omega
    by_cases hlt : k < n
    · have hki : (k : Int) < (n : Int) := by omega
      obtain ⟨g, ea, g1, c1⟩ := (H2.out.up HR.out.bl (Nat.le_refl _)).2 k hlt
      subst ea
      have HS : Hid (pkL F m Z (k + 1) = if 0 ≤ Z k ∧ Z k < m then pkL F m Z k ++ [F (Z k).toNat] else pkL F m Z k) := Lib.hid rfl
      generalize Z k = z at c1 HS
      have wj : IntKind.i64.wrap ((k : Int) + 1) = ((k + 1 : Nat) : Int) := by rw [show ((k : Int) + 1) = ((k + 1 : Nat) : Int) by omega]; exact IntWalk.i64_in _ (by omega)
      have WJ := Lib.hid wj
      by_cases h0 : 0 ≤ z
      · by_cases hzm : z < m
        · obtain ⟨q, rfl⟩ : ∃ q : Nat, z = (q : Int) := ⟨z.toNat, by omega⟩
          have hqm : q < m := by omega
          obtain ⟨b, eb, lb, p0, p1, p2⟩ := (H1.out.up HR.out.bl (Nat.le_refl _)).2 q hqm
          subst eb
          have hs := HS.out
          rw [if_pos ⟨h0, hzm⟩, Int.toNat_natCast] at hs
          obtain ⟨⟨x0, x1, x2⟩, hx⟩ : ∃ x, F q = x := ⟨_, rfl⟩
          rw [hx] at p0 p1 p2 hs
          simp only at p0 p1 p2
          have HX := Lib.hid hs
          have hown := HR.out.own
          have hlen := pkL_len F m Z k
          generalize (pkL F m Z k) = L at hown HX hlen HR
          have HL := Lib.hid hown
          clear hs hx wj g1 lb hown
          go_wp2_with (at_builtin; refine wpList_append_own _ rfl _ _ 26 rfl w.heap.size 33 i0 (.agg #[.int .i64 0, .int .i64 0, .int .i64 0]) 3 24 Try.underlying26 hi0 hz0 hz1 hz2 rfl (by decide) _ L.length _ rfl (HL.out.alloc _) ⟨wo.heap.size, 0, none⟩ 1 1 [.int .i64 x0, .int .i64 x1, .int .i64 x2] rfl rfl (new3 _ _ _ _ _ _ rfl) (by simp [Value.oneCell']) (by unfold maxLen; omega) (by omega) (by rw [World.size_alloc]; omega) ?_; intro v5 w5 hown2 hg2 _; have HN := Lib.hid (HR.out.app hg2 hown2); obtain ⟨g5, cap5, rfl⟩ := own_formh hown2; clear hown2 hg2)
          have wj := WJ.out
          try go_wp2_with fail
          go_roundw
          case rel => exact ⟨k + 1, by omega, by first | rfl | go_num, by rw [HX.out]; exact HN.out⟩
          case measure => (simp [intOf] <;> omega)
        · have hs := HS.out
          rw [if_neg (by omega)] at hs
          have HX := Lib.hid hs
          have d1 : decide (z < (m : Int)) = false := decide_eq_false hzm
          clear hs
          go_wp2_with fail
          go_roundw
          case rel => exact ⟨k + 1, by omega, by first | rfl | go_num, by rw [HX.out]; exact HR.out⟩
          case measure => (simp [intOf] <;> omega)
      · have hs := HS.out
        rw [if_neg (by omega)] at hs
        have HX := Lib.hid hs
        have d1 : decide (0 ≤ z) = false := decide_eq_false h0
        clear hs
        go_wp2_with fail
        go_roundw
        case rel => exact ⟨k + 1, by omega, by first | rfl | go_num, by rw [HX.out]; exact HR.out⟩
        case measure => (simp [intOf] <;> omega)
    · obtain rfl : k = n := by omega
      have hki : ¬ ((k : Int) < (k : Int)) := by omega
      obtain ⟨B, kc, rfl, hB⟩ := HR.out.out (by have := pkL_len F m Z k; omega)
      have HB := Lib.hid hB
      have HBL := Lib.hid HR.out.bl
      clear hB
      go_wp2_with fail
      go_ret
      first | exact ⟨_, _, rfl, HB.out, HBL.out⟩ | exact ⟨_, _, HB.out, HBL.out⟩ | exact ⟨_, HB.out, HBL.out⟩ | exact ⟨B, ⟨kc, rfl⟩, HB.out, HBL.out⟩
set_option maxRecDepth 100000 in
set_option maxHeartbeats 4000000 in
theorem without_any (A S : Option Addr) (m n c d : Nat) (F : Nat → Int × Int × Int) (Z : Nat → Int) (w : World) (h1 : TrsIn A m F w.heap.size w) (h2 : IntsIn S n Z w.heap.size w) (hn : n ≤ 900) (hm : m ≤ 900) :
    Calls Try.prog 71 #[.slice A m c, .slice S n d] w fun e w' => ∃ B k, e = .returned (.slice B (wtL F n Z m).length k) ∧ TrsIn B (wtL F n Z m).length (lsF (wtL F n Z m)) w'.heap.size w' ∧ Below w.heap.size w w' := by
  have H1 := Lib.hid h1
  have H2 := Lib.hid h2
  obtain ⟨i0, hi0, hz0, hz1, hz2⟩ := info_parts Try.infoMark
  clear h1 h2
  go_enter Try.func71, Try.ntmps71
  go_wp2_with fail
  go_loopw [5, 6] (fun v i wr => ∃ k : Nat, k ≤ m ∧ i = .int .i64 k ∧ MkL w (wtL F n Z k) v wr) (fun _ i _ => m - (intOf i).toNat)
  case atStart => exact ⟨0, Nat.zero_le _, rfl, Below.refl _ _, World.ownsRow_nil _ _ _ _⟩
  case round =>
    obtain ⟨k, hk, rfl, hR⟩ := hrel
    obtain ⟨wo, rfl⟩ : ∃ wo : World, wo = wr := ⟨_, rfl⟩
    have HR := Lib.hid hR
    have sz := hR.bl.size
    clear hR
    have hk0 : (0 : Int) ≤ (k : Int) := by omega
    by_cases hlt : k < m
    · have hki : (k : Int) < (m : Int) := by omega
      obtain ⟨b, eb, lb, p0, p1, p2⟩ := (H1.out.up HR.out.bl (Nat.le_refl _)).2 k hlt
      subst eb
      have HS : Hid (wtL F n Z (k + 1) = if (List.range n).any (fun i => Z i == (k : Int)) = true then wtL F n Z k else wtL F n Z k ++ [F k]) := Lib.hid rfl
      have CH := Lib.hid (has_any S n d Z (k : Int) ((List.range n).any (fun i => Z i == (k : Int))) wo ((H2.out.up HR.out.bl (Nat.le_refl _)).more sz) (any_iff n Z k))
      have wj : IntKind.i64.wrap ((k : Int) + 1) = ((k + 1 : Nat) : Int) := by rw [show ((k : Int) + 1) = ((k + 1 : Nat) : Int) by omega]; exact IntWalk.i64_in _ (by omega)
      have WJ := Lib.hid wj
      generalize (List.range n).any (fun i => Z i == (k : Int)) = G at HS CH
      obtain ⟨⟨x0, x1, x2⟩, hx⟩ : ∃ x, F k = x := ⟨_, rfl⟩
      rw [hx] at p0 p1 p2 HS
      simp only at p0 p1 p2
      have hlen := wtL_len F n Z k
      have hs := HS.out
      generalize (wtL F n Z k) = L at hs hlen HR
      have HL := Lib.hid HR.out.own
      cases G with
      | true =>
        rw [if_pos rfl] at hs
        have HX := Lib.hid hs
        clear hs HS hx wj lb
        go_wp2_with (go_at_call 69; with_reducible refine CH.out.mono ?_; rintro e5 w5 ⟨rfl, rfl⟩)
        go_roundw
        case rel => exact ⟨k + 1, by omega, by first | rfl | go_num, by rw [HX.out]; exact HR.out⟩
        case measure => (simp [intOf] <;> omega)
      | false =>
        rw [if_neg (by decide)] at hs
        have HX := Lib.hid hs
        clear hs HS hx wj lb
        go_wp2_with (first | (go_at_call 69; with_reducible refine CH.out.mono ?_; rintro e5 w5 ⟨rfl, rfl⟩) | (at_builtin; refine wpList_append_own _ rfl _ _ 26 rfl w.heap.size 33 i0 (.agg #[.int .i64 0, .int .i64 0, .int .i64 0]) 3 24 Try.underlying26 hi0 hz0 hz1 hz2 rfl (by decide) _ L.length _ rfl (HL.out.alloc _) ⟨_, 0, none⟩ 1 1 [.int .i64 x0, .int .i64 x1, .int .i64 x2] rfl rfl (new3 _ _ _ _ _ _ rfl) (by simp [Value.oneCell']) (by unfold maxLen; omega) (by omega) (by rw [World.size_alloc]; omega) ?_; intro v5 w5 hown2 hg2 _; have HN := Lib.hid (HR.out.app hg2 hown2); obtain ⟨g5, cap5, rfl⟩ := own_formh hown2; clear hown2 hg2))
        have wj := WJ.out
        try go_wp2_with fail
        go_roundw
        case rel => exact ⟨k + 1, by omega, by first | rfl | go_num, by rw [HX.out]; exact HN.out⟩
        case measure => (simp [intOf] <;> omega)
    · obtain rfl : k = m := by omega
      have hki : ¬ ((k : Int) < (k : Int)) := by omega
      obtain ⟨B, kc, rfl, hB⟩ := HR.out.out (by have := wtL_len F n Z k; omega)
      have HB := Lib.hid hB
      have HBL := Lib.hid HR.out.bl
      clear hB
      go_wp2_with fail
      go_ret
      first | exact ⟨_, _, rfl, HB.out, HBL.out⟩ | exact ⟨_, _, HB.out, HBL.out⟩ | exact ⟨_, HB.out, HBL.out⟩ | exact ⟨B, ⟨kc, rfl⟩, HB.out, HBL.out⟩
end Go.Proofs.Ytpikaohodieeaaa
