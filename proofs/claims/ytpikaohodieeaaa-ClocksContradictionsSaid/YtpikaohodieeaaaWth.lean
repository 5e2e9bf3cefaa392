import Derived.Test.YtpikaohodieeaaaDri
import Derived.Lib.AppendZeros
namespace Go.Proofs.Ytpikaohodieeaaa
open Go.RowKit
set_option linter.unusedSimpArgs false
set_option linter.unusedVariables false
/-- triples, flat -/
def flat3 (l : List (Int × Int × Int)) : List Value := l.flatMap fun s => [.int .i64 s.1, .int .i64 s.2.1, .int .i64 s.2.2]
theorem flat3_snoc (l : List (Int × Int × Int)) (s : Int × Int × Int) : flat3 (l ++ [s]) = flat3 l ++ [.int .i64 s.1, .int .i64 s.2.1, .int .i64 s.2.2] := by simp [flat3]
def rowT (F : Nat → Int × Int × Int) (n : Nat) : List Value := flat3 ((List.range n).map F)
theorem rowT_succ (F : Nat → Int × Int × Int) (n : Nat) : rowT F (n + 1) = rowT F n ++ [.int .i64 (F n).1, .int .i64 (F n).2.1, .int .i64 (F n).2.2] := by
  unfold rowT
  rw [List.range_succ, List.map_append, List.map_cons, List.map_nil, flat3_snoc]
theorem rowT_len (F : Nat → Int × Int × Int) (n : Nat) : (rowT F n).length = n * 3 := by
  induction n with
  | zero => rfl
  | succ n ih => rw [rowT_succ, List.length_append, ih]; simp; omega
theorem rowT_get (F : Nat → Int × Int × Int) (n : Nat) : ∀ i, i < n → (rowT F n)[i * 3]? = some (.int .i64 (F i).1) ∧ (rowT F n)[i * 3 + 1]? = some (.int .i64 (F i).2.1) ∧ (rowT F n)[i * 3 + 2]? = some (.int .i64 (F i).2.2) := by
  induction n with
  | zero => intro i hi; omega
  | succ n ih =>
    intro i hi
    have hl := rowT_len F n
    rw [rowT_succ]
    by_cases h : i < n
    · obtain ⟨a, b, c⟩ := ih i h
      rw [List.getElem?_append_left (by omega), List.getElem?_append_left (by omega), List.getElem?_append_left (by omega)]
      exact ⟨a, b, c⟩
    · obtain rfl : i = n := by omega
      rw [List.getElem?_append_right (by omega), List.getElem?_append_right (by omega), List.getElem?_append_right (by omega), hl]
      rw [show i * 3 - i * 3 = 0 by omega, show i * 3 + 1 - i * 3 = 1 by omega, show i * 3 + 2 - i * 3 = 2 by omega]
      exact ⟨rfl, rfl, rfl⟩
theorem rowT_at {A : Option Addr} {n B : Nat} {F : Nat → Int × Int × Int} {w : World} {a : Addr} (h : TrsIn A n F B w) (ha : A = some a) : ∀ j u, (rowT F n)[j]? = some u → w.cell? (a.add j) = some u := by
  subst ha
  intro j u hj
  have hlt : j < n * 3 := by
    have := (List.getElem?_eq_some_iff.1 hj).1
    rwa [rowT_len] at this
  obtain ⟨g1, g2, g3⟩ := rowT_get F n (j / 3) (by omega)
  obtain ⟨a', e, _, c0, c1, c2⟩ := h.2 (j / 3) (by omega)
  cases e
  rcases (show j = j / 3 * 3 ∨ j = j / 3 * 3 + 1 ∨ j = j / 3 * 3 + 2 by omega) with e | e | e
  · rw [e] at hj ⊢
    rw [g1] at hj
    cases hj
    exact c0
  · rw [e] at hj ⊢
    rw [g2] at hj
    cases hj
    rw [← add_at a (j / 3 * 3) 1 (by omega)]
    exact c1
  · rw [e] at hj ⊢
    rw [g3] at hj
    cases hj
    rw [← add_at a (j / 3 * 3) 2 (by omega)]
    exact c2
theorem rowT_one (F : Nat → Int × Int × Int) (n : Nat) : ∀ u ∈ rowT F n, u.oneCell' = true := by
  intro u hu
  unfold rowT flat3 at hu
  simp only [List.mem_flatMap] at hu
  obtain ⟨s, _, h⟩ := hu
  simp at h
  rcases h with rfl | rfl | rfl <;> rfl
/-- one list behind another one -/
def catF (n : Nat) (F H : Nat → Int × Int × Int) (i : Nat) : Int × Int × Int := if i < n then F i else H (i - n)
theorem rowT_cat (F H : Nat → Int × Int × Int) (n : Nat) : ∀ m, rowT (catF n F H) (n + m) = rowT F n ++ rowT H m
  | 0 => by
    have h : ∀ k, k ≤ n → rowT (catF n F H) k = rowT F k := fun k => by
      induction k with
      | zero => intro _; rfl
      | succ k ih =>
        intro hk
        rw [rowT_succ, rowT_succ, ih (by omega)]
        unfold catF
        rw [if_pos (by omega)]
    rw [Nat.add_zero, h n (Nat.le_refl _)]
    simp [rowT, flat3]
  | m + 1 => by
    rw [show n + (m + 1) = n + m + 1 by omega, rowT_succ, rowT_succ, rowT_cat F H n m]
    unfold catF
    rw [if_neg (by omega), show n + m - n = m by omega, List.append_assoc]
theorem row_trs {w : World} {B n g cap : Nat} {t : TypeId} {F : Nat → Int × Int × Int} (h : w.ownsRow B t 3 (.slice (some ⟨g, 0, none⟩) n cap) n (rowT F n)) (hn : n ≤ 1000) : TrsIn (some ⟨g, 0, none⟩) n F w.heap.size w := by
  have hc := h.cells (g := g) rfl
  have hl := own_block h (g := g) rfl
  refine ⟨by omega, fun i hi => ⟨_, rfl, hl.2.1, ?_, ?_, ?_⟩⟩
  · exact hc _ _ (rowT_get F n i hi).1
  · rw [add_at _ _ _ (by omega)]; exact hc _ _ (rowT_get F n i hi).2.1
  · rw [add_at _ _ _ (by omega)]; exact hc _ _ (rowT_get F n i hi).2.2
theorem Try.infoMark : (Try.prog.info? 33).map (fun i => (i.zero, i.size, i.bytes)) = some (some (.agg #[.int .i64 0, .int .i64 0, .int .i64 0]), 3, 24) := by kernel_rfl
set_option maxRecDepth 100000 in
set_option maxHeartbeats 1000000 in
theorem GrowMark_any (n : Nat) (w : World) (h1 : 1 ≤ n) (hn : n ≤ 1000) :
    Calls Try.prog 127 #[.slice none 0 0, .int .i64 n] w fun e w' => ∃ cap, e = .returned (.slice (some ⟨w.heap.size, 0, none⟩) 0 cap) ∧ w'.ownsRow w.heap.size 33 3 (.slice (some ⟨w.heap.size, 0, none⟩) 0 cap) 0 [] ∧ Below w.heap.size w w' := by
  obtain ⟨i0, hi0, hz0, hz1, hz2⟩ := info_parts Try.infoMark
  have hr := fun ty => Lib.run_append_nil_zeros (P := Try.prog) w 26 3 ty 33 i0 _ .i64 .i64 Try.underlying26 Try.underlying3 hi0 hz0 n (by omega) (by rw [hz1]; decide) (by omega) (by rw [hz2]; omega)
  obtain ⟨cap, hcap⟩ : ∃ cap, cap = grownCap w n 0 33 := ⟨_, rfl⟩
  have hge : n ≤ cap := by rw [hcap]; exact grownCap_ge _ _ _ _
  have hle : cap ≤ maxLen := by rw [hcap]; exact grownCap_le_maxLen _ _ _ _ (by unfold maxLen; omega)
  rw [← hcap] at hr
  obtain ⟨w1, hw1⟩ : ∃ w1, w1 = w.drew.alloc (.cells (Builtin.zeroCells (Value.agg #[.int .i64 0, .int .i64 0, .int .i64 0]).cells n ++ Builtin.zeroCells (Value.agg #[.int .i64 0, .int .i64 0, .int .i64 0]).cells (cap - n)) 33) := ⟨_, rfl⟩
  rw [← hw1] at hr
  have HR := Lib.hid hr
  have HO : Hid (w1.ownsRow w.heap.size 33 3 (.slice (some ⟨w.heap.size, 0, none⟩) 0 cap) 0 [] ∧ Below w.heap.size w w1) := Lib.hid (by
    rw [hw1]
    refine ⟨⟨by simp, .inr ⟨w.heap.size, cap, _, rfl, Nat.le_refl _, World.alloc_heap_new w.drew _, Nat.zero_le _, hle, ?_, by simp⟩⟩, nextB ((Below.refl _ _).drew) (box1 _ _)⟩
    simp [Builtin.zeroCells, Value.cells]
    omega)
  have h0 : (0 : Int) ≤ (n : Int) := by omega
  have d0 : decide ((n : Int) < 0) = false := decide_eq_false (by omega)
  have d1 : decide ((n : Int) > 0) = true := decide_eq_true (by omega)
  have d2 : decide (0 < n) = true := decide_eq_true (by omega)
  have d3 : (0 : Int) < (n : Int) := by omega
  have hcz : ¬ (cap : Int) < 0 := by omega
  have hwn : IntKind.i64.wrap (n : Int) = (n : Int) := IntWalk.i64_in _ (by omega)
  have hn0 : ¬ (cap = 0) := by omega
  clear hr hw1 hcap
  go_enter Try.func127, Try.ntmps127
  go_wp2_with (at_builtin; refine Lib.wpList_append_run _ rfl _ _ _ _ rfl _ _ rfl rfl _ _ (HR.out _) ?_)
  go_ret
  exact ⟨cap, rfl, HO.out⟩
theorem run_noneMark (w : World) (ty : TypeId) (g l cap c : Nat) (h : l ≤ cap) : (Builtin.append_ #[26, 26] ty #[.slice (some ⟨g, 0, none⟩) l cap, .slice none 0 c]).run Try.prog w = .ok (.slice (some ⟨g, 0, none⟩) l cap) w := by
  obtain ⟨i0, hi0, hz0, hz1, hz2⟩ := info_parts Try.infoMark
  simp [Builtin.append_, run_underlying Try.underlying26, Builtin.lenOf, Builtin.firstCells, sizeOf, typeInfo, hi0, hz1, h, storeCells]
set_option maxRecDepth 100000 in
set_option maxHeartbeats 2000000 in
theorem ConcatMark_any (o : Nat) (A : Option Addr) (n c : Nat) (F : Nat → Int × Int × Int) (a2 : Addr) (c2 : Nat) (x : Int × Int × Int) (w : World) (hn : n ≤ 500)
    (h0 : w.cell? ⟨o, 0, none⟩ = some (.slice A n c)) (h1 : w.cell? ⟨o, 1, none⟩ = some (.slice (some a2) 1 c2)) (hA : TrsIn A n F w.heap.size w) (hX : TrsIn (some a2) 1 (fun _ => x) w.heap.size w) :
    Calls Try.prog 114 #[.slice (some ⟨o, 0, none⟩) 2 2] w fun e w' => ∃ g cap, e = .returned (.slice (some ⟨g, 0, none⟩) (n + 1) cap) ∧ w.heap.size ≤ g ∧ TrsIn (some ⟨g, 0, none⟩) (n + 1) (catF n F (fun _ => x)) w'.heap.size w' ∧ Below w.heap.size w w' := by
  have HA := Lib.hid hA
  have HX := Lib.hid hX
  have ol := World.block_lt_of_cell? _ _ h0
  have H0 := Lib.hid h0
  have H1 := Lib.hid h1
  have KG := Lib.hid fun W => GrowMark_any (n + 1) W (by omega) (by omega)
  have hw0 : IntKind.i64.wrap (n : Int) = (n : Int) := IntWalk.i64_in _ (by omega)
  have hw1 : IntKind.i64.wrap ((n : Int) + 1) = (n : Int) + 1 := IntWalk.i64_in _ (by omega)
  clear hA hX
  go_enter Try.func114, Try.ntmps114
  go_wp2_with fail
  go_loopw [3, 11] (fun s v wr => w = wr ∧ ((v = .int .i64 0 ∧ s = .int .i64 0) ∨ (v = .int .i64 1 ∧ s = .int .i64 (n : Int)) ∨ (v = .int .i64 2 ∧ s = .int .i64 ((n : Int) + 1)))) (fun _ v _ => 2 - (intOf v).toNat)
  case atStart => exact ⟨rfl, .inl ⟨rfl, rfl⟩⟩
  case round =>
    obtain ⟨rfl, hr⟩ := hrel
    have hn1 : ¬ ((n : Int) < 0) := by omega
    have hn2 : ¬ ((n : Int) + 1 < 0) := by omega
    have d1 : decide ((n : Int) < 0) = false := decide_eq_false hn1
    have d2 : decide ((n : Int) + 1 < 0) = false := decide_eq_false hn2
    rcases hr with ⟨rfl, rfl⟩ | ⟨rfl, rfl⟩ | ⟨rfl, rfl⟩
    · go_wp2_with fail
      go_roundw
      case rel => exact ⟨by trivial, .inr (.inl ⟨rfl, rfl⟩)⟩
      case measure => simp [intOf]
    · go_wp2_with fail
      go_roundw
      case rel => exact ⟨by trivial, .inr (.inr ⟨rfl, rfl⟩)⟩
      case measure => simp [intOf]
    · clear h0 h1
      go_wp2_with fail
      refine (KG.out _).mono ?_
      rintro e w2 ⟨cap0, rfl, hown, hb2⟩
      have HB2 := Lib.hid hb2
      have HO := Lib.hid hown
      clear hown hb2 d1 d2
      go_wp2_with fail
      go_loopw [6, 27] (fun s v wr => Hid (Below w.heap.size w wr) ∧ ((v = .int .i64 0 ∧ ∃ g cap, s = .slice (some ⟨g, 0, none⟩) 0 cap ∧ Hid (wr.ownsRow w.heap.size 33 3 (.slice (some ⟨g, 0, none⟩) 0 cap) 0 [])) ∨ (v = .int .i64 1 ∧ ∃ g cap, s = .slice (some ⟨g, 0, none⟩) n cap ∧ Hid (wr.ownsRow w.heap.size 33 3 (.slice (some ⟨g, 0, none⟩) n cap) n (rowT F n))) ∨ (v = .int .i64 2 ∧ ∃ g cap, s = .slice (some ⟨g, 0, none⟩) (n + 1) cap ∧ Hid (wr.ownsRow w.heap.size 33 3 (.slice (some ⟨g, 0, none⟩) (n + 1) cap) (n + 1) (rowT F n ++ rowT (fun _ => x) 1))))) (fun _ v _ => 2 - (intOf v).toNat)
      case atStart => exact ⟨HB2, .inl ⟨rfl, _, _, rfl, HO⟩⟩
      case round =>
        obtain ⟨hB, hr⟩ := hrel
        have hs := hB.out.size
        have g0 := cell_of hB.out H0.out
        have g1 := cell_of hB.out H1.out
        have HA2 := Lib.hid (HA.out.up hB.out (Nat.le_refl _))
        have HX2 := Lib.hid (HX.out.up hB.out (Nat.le_refl _))
        obtain ⟨i0, hi0, hz0, hz1, hz2⟩ := info_parts Try.infoMark
        rcases hr with ⟨rfl, g, cap, rfl, hO⟩ | ⟨rfl, g, cap, rfl, hO⟩ | ⟨rfl, g, cap, rfl, hO⟩
        · cases A with
          | none =>
            have hnz : n = 0 := by
              rcases Nat.eq_zero_or_pos n with h | h
              · exact h
              · obtain ⟨a, e, _⟩ := HA2.out.2 0 h; cases e
            have HRN : Hid (∀ ty, (Builtin.append_ #[26, 26] ty #[.slice (some ⟨g, 0, none⟩) 0 cap, .slice none n c]).run Try.prog wr = .ok (.slice (some ⟨g, 0, none⟩) n cap) wr) := Lib.hid fun ty => by
              rw [hnz]
              exact run_noneMark wr ty g 0 cap c (Nat.zero_le _)
            have hO' : Hid (wr.ownsRow w.heap.size 33 3 (.slice (some ⟨g, 0, none⟩) n cap) n (rowT F n)) := Lib.hid (by rw [hnz]; exact hO.out)
            clear hi0 hz0 hz1 hz2 hnz
            go_wp2_with (at_builtin; refine Lib.wpList_append_run _ rfl _ _ _ _ rfl _ _ rfl rfl _ _ (HRN.out _) ?_)
            go_roundw
            case rel => exact ⟨hB, .inr (.inl ⟨rfl, g, cap, rfl, hO'⟩)⟩
            case measure => simp [intOf]
          | some a =>
            have HR := Lib.hid (rowT_at HA2.out rfl)
            go_wp2_with (at_builtin; refine wpList_append_own _ rfl _ _ 26 rfl w.heap.size 33 i0 (.agg #[.int .i64 0, .int .i64 0, .int .i64 0]) 3 24 Try.underlying26 hi0 hz0 hz1 hz2 rfl (by decide) _ 0 [] rfl hO.out a n c (rowT F n) rfl (rowT_len F n) HR.out (rowT_one F n) (by unfold maxLen; omega) (by omega) hs ?_; intro v8 w8 hown8 hg8 hnil8; have HW := Lib.hid hown8; have HGR := Lib.hid hg8; have HNL := Lib.hid hnil8; clear hown8 hg8 hnil8)
            obtain ⟨g', cap', rfl, hO'⟩ : ∃ g' cap', v8 = .slice (some ⟨g', 0, none⟩) n cap' ∧ w8.ownsRow w.heap.size 33 3 (.slice (some ⟨g', 0, none⟩) n cap') n (rowT F n) := by
              have h := HW.out
              rw [Nat.zero_add, List.nil_append] at h
              obtain ⟨e1, e2 | ⟨g', cap', cur, e2, e3⟩⟩ := id h
              · exact absurd ((HNL.out.1 e2.1).1) (by intro h; cases h)
              · exact ⟨g', cap', e2, by rw [e2] at h; exact h⟩
            have HO' := Lib.hid hO'
            have HB' : Hid (Below w.heap.size w w8) := Lib.hid (hB.out.grown HGR.out hs (fun r e => (own_block hO.out e).1))
            clear hO' HNL
            go_wp2_with fail
            go_roundw
            case rel => exact ⟨HB', .inr (.inl ⟨rfl, g', cap', rfl, HO'⟩)⟩
            case measure => simp [intOf]
        · have HR := Lib.hid (rowT_at HX2.out rfl)
          go_wp2_with (at_builtin; refine wpList_append_own _ rfl _ _ 26 rfl w.heap.size 33 i0 (.agg #[.int .i64 0, .int .i64 0, .int .i64 0]) 3 24 Try.underlying26 hi0 hz0 hz1 hz2 rfl (by decide) _ n (rowT F n) rfl hO.out a2 1 c2 (rowT (fun _ => x) 1) rfl (rowT_len _ 1) HR.out (rowT_one _ 1) (by unfold maxLen; omega) (by omega) hs ?_; intro v8 w8 hown8 hg8 hnil8; have HW := Lib.hid hown8; have HGR := Lib.hid hg8; have HNL := Lib.hid hnil8; clear hown8 hg8 hnil8)
          obtain ⟨g', cap', rfl, hO'⟩ : ∃ g' cap', v8 = .slice (some ⟨g', 0, none⟩) (n + 1) cap' ∧ w8.ownsRow w.heap.size 33 3 (.slice (some ⟨g', 0, none⟩) (n + 1) cap') (n + 1) (rowT F n ++ rowT (fun _ => x) 1) := by
            have h := HW.out
            obtain ⟨e1, e2 | ⟨g', cap', cur, e2, e3⟩⟩ := id h
            · exact absurd e2.2 (by omega)
            · exact ⟨g', cap', e2, by rw [e2] at h; exact h⟩
          have HO' := Lib.hid hO'
          have HB' : Hid (Below w.heap.size w w8) := Lib.hid (hB.out.grown HGR.out hs (fun r e => (own_block hO.out e).1))
          clear hO' HNL
          go_wp2_with fail
          go_roundw
          case rel => exact ⟨HB', .inr (.inr ⟨rfl, g', cap', rfl, HO'⟩)⟩
          case measure => simp [intOf]
        · have hO2 := hO.out
          rw [← rowT_cat F (fun _ => x) n 1] at hO2
          have HT := Lib.hid (row_trs hO2 (by omega))
          have HGE := Lib.hid (own_block hO2 (g := g) rfl).1
          clear hO hO2 hi0 hz0 hz1 hz2 g0 g1
          go_wp2_with fail
          go_ret
          exact ⟨g, cap, rfl, HGE.out, HT.out, hB.out⟩
theorem Try.infoStop : (Try.prog.info? 34).map (fun i => (i.zero, i.size, i.bytes)) = some (some (.agg #[.int .i64 0, .int .i64 0, .int .i64 0]), 3, 24) := by kernel_rfl
set_option maxRecDepth 100000 in
set_option maxHeartbeats 1000000 in
theorem GrowStop_any (n : Nat) (w : World) (h1 : 1 ≤ n) (hn : n ≤ 1000) :
    Calls Try.prog 111 #[.slice none 0 0, .int .i64 n] w fun e w' => ∃ cap, e = .returned (.slice (some ⟨w.heap.size, 0, none⟩) 0 cap) ∧ w'.ownsRow w.heap.size 34 3 (.slice (some ⟨w.heap.size, 0, none⟩) 0 cap) 0 [] ∧ Below w.heap.size w w' := by
  obtain ⟨i0, hi0, hz0, hz1, hz2⟩ := info_parts Try.infoStop
  have hr := fun ty => Lib.run_append_nil_zeros (P := Try.prog) w 23 3 ty 34 i0 _ .i64 .i64 Try.underlying23 Try.underlying3 hi0 hz0 n (by omega) (by rw [hz1]; decide) (by omega) (by rw [hz2]; omega)
  obtain ⟨cap, hcap⟩ : ∃ cap, cap = grownCap w n 0 34 := ⟨_, rfl⟩
  have hge : n ≤ cap := by rw [hcap]; exact grownCap_ge _ _ _ _
  have hle : cap ≤ maxLen := by rw [hcap]; exact grownCap_le_maxLen _ _ _ _ (by unfold maxLen; omega)
  rw [← hcap] at hr
  obtain ⟨w1, hw1⟩ : ∃ w1, w1 = w.drew.alloc (.cells (Builtin.zeroCells (Value.agg #[.int .i64 0, .int .i64 0, .int .i64 0]).cells n ++ Builtin.zeroCells (Value.agg #[.int .i64 0, .int .i64 0, .int .i64 0]).cells (cap - n)) 34) := ⟨_, rfl⟩
  rw [← hw1] at hr
  have HR := Lib.hid hr
  have HO : Hid (w1.ownsRow w.heap.size 34 3 (.slice (some ⟨w.heap.size, 0, none⟩) 0 cap) 0 [] ∧ Below w.heap.size w w1) := Lib.hid (by
    rw [hw1]
    refine ⟨⟨by simp, .inr ⟨w.heap.size, cap, _, rfl, Nat.le_refl _, World.alloc_heap_new w.drew _, Nat.zero_le _, hle, ?_, by simp⟩⟩, nextB ((Below.refl _ _).drew) (box1 _ _)⟩
    simp [Builtin.zeroCells, Value.cells]
    omega)
  have h0 : (0 : Int) ≤ (n : Int) := by omega
  have d0 : decide ((n : Int) < 0) = false := decide_eq_false (by omega)
  have d1 : decide ((n : Int) > 0) = true := decide_eq_true (by omega)
  have d2 : decide (0 < n) = true := decide_eq_true (by omega)
  have d3 : (0 : Int) < (n : Int) := by omega
  have hcz : ¬ (cap : Int) < 0 := by omega
  have hwn : IntKind.i64.wrap (n : Int) = (n : Int) := IntWalk.i64_in _ (by omega)
  have hn0 : ¬ (cap = 0) := by omega
  clear hr hw1 hcap
  go_enter Try.func111, Try.ntmps111
  go_wp2_with (at_builtin; refine Lib.wpList_append_run _ rfl _ _ _ _ rfl _ _ rfl rfl _ _ (HR.out _) ?_)
  go_ret
  exact ⟨cap, rfl, HO.out⟩
theorem run_noneStop (w : World) (ty : TypeId) (g l cap c : Nat) (h : l ≤ cap) : (Builtin.append_ #[23, 23] ty #[.slice (some ⟨g, 0, none⟩) l cap, .slice none 0 c]).run Try.prog w = .ok (.slice (some ⟨g, 0, none⟩) l cap) w := by
  obtain ⟨i0, hi0, hz0, hz1, hz2⟩ := info_parts Try.infoStop
  simp [Builtin.append_, run_underlying Try.underlying23, Builtin.lenOf, Builtin.firstCells, sizeOf, typeInfo, hi0, hz1, h, storeCells]
set_option maxRecDepth 100000 in
set_option maxHeartbeats 2000000 in
theorem ConcatStop_any (o : Nat) (A : Option Addr) (n c : Nat) (F : Nat → Int × Int × Int) (a2 : Addr) (c2 : Nat) (x : Int × Int × Int) (w : World) (hn : n ≤ 500)
    (h0 : w.cell? ⟨o, 0, none⟩ = some (.slice A n c)) (h1 : w.cell? ⟨o, 1, none⟩ = some (.slice (some a2) 1 c2)) (hA : TrsIn A n F w.heap.size w) (hX : TrsIn (some a2) 1 (fun _ => x) w.heap.size w) :
    Calls Try.prog 82 #[.slice (some ⟨o, 0, none⟩) 2 2] w fun e w' => ∃ g cap, e = .returned (.slice (some ⟨g, 0, none⟩) (n + 1) cap) ∧ w.heap.size ≤ g ∧ TrsIn (some ⟨g, 0, none⟩) (n + 1) (catF n F (fun _ => x)) w'.heap.size w' ∧ Below w.heap.size w w' := by
  have HA := Lib.hid hA
  have HX := Lib.hid hX
  have ol := World.block_lt_of_cell? _ _ h0
  have H0 := Lib.hid h0
  have H1 := Lib.hid h1
  have KG := Lib.hid fun W => GrowStop_any (n + 1) W (by omega) (by omega)
  have hw0 : IntKind.i64.wrap (n : Int) = (n : Int) := IntWalk.i64_in _ (by omega)
  have hw1 : IntKind.i64.wrap ((n : Int) + 1) = (n : Int) + 1 := IntWalk.i64_in _ (by omega)
  clear hA hX
  go_enter Try.func82, Try.ntmps82
  go_wp2_with fail
  go_loopw [3, 11] (fun s v wr => w = wr ∧ ((v = .int .i64 0 ∧ s = .int .i64 0) ∨ (v = .int .i64 1 ∧ s = .int .i64 (n : Int)) ∨ (v = .int .i64 2 ∧ s = .int .i64 ((n : Int) + 1)))) (fun _ v _ => 2 - (intOf v).toNat)
  case atStart => exact ⟨rfl, .inl ⟨rfl, rfl⟩⟩
  case round =>
    obtain ⟨rfl, hr⟩ := hrel
    have hn1 : ¬ ((n : Int) < 0) := by omega
    have hn2 : ¬ ((n : Int) + 1 < 0) := by omega
    have d1 : decide ((n : Int) < 0) = false := decide_eq_false hn1
    have d2 : decide ((n : Int) + 1 < 0) = false := decide_eq_false hn2
    rcases hr with ⟨rfl, rfl⟩ | ⟨rfl, rfl⟩ | ⟨rfl, rfl⟩
    · go_wp2_with fail
      go_roundw
      case rel => exact ⟨by trivial, .inr (.inl ⟨rfl, rfl⟩)⟩
      case measure => simp [intOf]
    · go_wp2_with fail
      go_roundw
      case rel => exact ⟨by trivial, .inr (.inr ⟨rfl, rfl⟩)⟩
      case measure => simp [intOf]
    · clear h0 h1
      go_wp2_with fail
      refine (KG.out _).mono ?_
      rintro e w2 ⟨cap0, rfl, hown, hb2⟩
      have HB2 := Lib.hid hb2
      have HO := Lib.hid hown
      clear hown hb2 d1 d2
      go_wp2_with fail
      go_loopw [6, 27] (fun s v wr => Hid (Below w.heap.size w wr) ∧ ((v = .int .i64 0 ∧ ∃ g cap, s = .slice (some ⟨g, 0, none⟩) 0 cap ∧ Hid (wr.ownsRow w.heap.size 34 3 (.slice (some ⟨g, 0, none⟩) 0 cap) 0 [])) ∨ (v = .int .i64 1 ∧ ∃ g cap, s = .slice (some ⟨g, 0, none⟩) n cap ∧ Hid (wr.ownsRow w.heap.size 34 3 (.slice (some ⟨g, 0, none⟩) n cap) n (rowT F n))) ∨ (v = .int .i64 2 ∧ ∃ g cap, s = .slice (some ⟨g, 0, none⟩) (n + 1) cap ∧ Hid (wr.ownsRow w.heap.size 34 3 (.slice (some ⟨g, 0, none⟩) (n + 1) cap) (n + 1) (rowT F n ++ rowT (fun _ => x) 1))))) (fun _ v _ => 2 - (intOf v).toNat)
      case atStart => exact ⟨HB2, .inl ⟨rfl, _, _, rfl, HO⟩⟩
      case round =>
        obtain ⟨hB, hr⟩ := hrel
        have hs := hB.out.size
        have g0 := cell_of hB.out H0.out
        have g1 := cell_of hB.out H1.out
        have HA2 := Lib.hid (HA.out.up hB.out (Nat.le_refl _))
        have HX2 := Lib.hid (HX.out.up hB.out (Nat.le_refl _))
        obtain ⟨i0, hi0, hz0, hz1, hz2⟩ := info_parts Try.infoStop
        rcases hr with ⟨rfl, g, cap, rfl, hO⟩ | ⟨rfl, g, cap, rfl, hO⟩ | ⟨rfl, g, cap, rfl, hO⟩
        · cases A with
          | none =>
            have hnz : n = 0 := by
              rcases Nat.eq_zero_or_pos n with h | h
              · exact h
              · obtain ⟨a, e, _⟩ := HA2.out.2 0 h; cases e
            have HRN : Hid (∀ ty, (Builtin.append_ #[23, 23] ty #[.slice (some ⟨g, 0, none⟩) 0 cap, .slice none n c]).run Try.prog wr = .ok (.slice (some ⟨g, 0, none⟩) n cap) wr) := Lib.hid fun ty => by
              rw [hnz]
              exact run_noneStop wr ty g 0 cap c (Nat.zero_le _)
            have hO' : Hid (wr.ownsRow w.heap.size 34 3 (.slice (some ⟨g, 0, none⟩) n cap) n (rowT F n)) := Lib.hid (by rw [hnz]; exact hO.out)
            clear hi0 hz0 hz1 hz2 hnz
            go_wp2_with (at_builtin; refine Lib.wpList_append_run _ rfl _ _ _ _ rfl _ _ rfl rfl _ _ (HRN.out _) ?_)
            go_roundw
            case rel => exact ⟨hB, .inr (.inl ⟨rfl, g, cap, rfl, hO'⟩)⟩
            case measure => simp [intOf]
          | some a =>
            have HR := Lib.hid (rowT_at HA2.out rfl)
            go_wp2_with (at_builtin; refine wpList_append_own _ rfl _ _ 23 rfl w.heap.size 34 i0 (.agg #[.int .i64 0, .int .i64 0, .int .i64 0]) 3 24 Try.underlying23 hi0 hz0 hz1 hz2 rfl (by decide) _ 0 [] rfl hO.out a n c (rowT F n) rfl (rowT_len F n) HR.out (rowT_one F n) (by unfold maxLen; omega) (by omega) hs ?_; intro v8 w8 hown8 hg8 hnil8; have HW := Lib.hid hown8; have HGR := Lib.hid hg8; have HNL := Lib.hid hnil8; clear hown8 hg8 hnil8)
            obtain ⟨g', cap', rfl, hO'⟩ : ∃ g' cap', v8 = .slice (some ⟨g', 0, none⟩) n cap' ∧ w8.ownsRow w.heap.size 34 3 (.slice (some ⟨g', 0, none⟩) n cap') n (rowT F n) := by
              have h := HW.out
              rw [Nat.zero_add, List.nil_append] at h
              obtain ⟨e1, e2 | ⟨g', cap', cur, e2, e3⟩⟩ := id h
              · exact absurd ((HNL.out.1 e2.1).1) (by intro h; cases h)
              · exact ⟨g', cap', e2, by rw [e2] at h; exact h⟩
            have HO' := Lib.hid hO'
            have HB' : Hid (Below w.heap.size w w8) := Lib.hid (hB.out.grown HGR.out hs (fun r e => (own_block hO.out e).1))
            clear hO' HNL
            go_wp2_with fail
            go_roundw
            case rel => exact ⟨HB', .inr (.inl ⟨rfl, g', cap', rfl, HO'⟩)⟩
            case measure => simp [intOf]
        · have HR := Lib.hid (rowT_at HX2.out rfl)
          go_wp2_with (at_builtin; refine wpList_append_own _ rfl _ _ 23 rfl w.heap.size 34 i0 (.agg #[.int .i64 0, .int .i64 0, .int .i64 0]) 3 24 Try.underlying23 hi0 hz0 hz1 hz2 rfl (by decide) _ n (rowT F n) rfl hO.out a2 1 c2 (rowT (fun _ => x) 1) rfl (rowT_len _ 1) HR.out (rowT_one _ 1) (by unfold maxLen; omega) (by omega) hs ?_; intro v8 w8 hown8 hg8 hnil8; have HW := Lib.hid hown8; have HGR := Lib.hid hg8; have HNL := Lib.hid hnil8; clear hown8 hg8 hnil8)
          obtain ⟨g', cap', rfl, hO'⟩ : ∃ g' cap', v8 = .slice (some ⟨g', 0, none⟩) (n + 1) cap' ∧ w8.ownsRow w.heap.size 34 3 (.slice (some ⟨g', 0, none⟩) (n + 1) cap') (n + 1) (rowT F n ++ rowT (fun _ => x) 1) := by
            have h := HW.out
            obtain ⟨e1, e2 | ⟨g', cap', cur, e2, e3⟩⟩ := id h
            · exact absurd e2.2 (by omega)
            · exact ⟨g', cap', e2, by rw [e2] at h; exact h⟩
          have HO' := Lib.hid hO'
          have HB' : Hid (Below w.heap.size w w8) := Lib.hid (hB.out.grown HGR.out hs (fun r e => (own_block hO.out e).1))
          clear hO' HNL
          go_wp2_with fail
          go_roundw
          case rel => exact ⟨HB', .inr (.inr ⟨rfl, g', cap', rfl, HO'⟩)⟩
          case measure => simp [intOf]
        · have hO2 := hO.out
          rw [← rowT_cat F (fun _ => x) n 1] at hO2
          have HT := Lib.hid (row_trs hO2 (by omega))
          have HGE := Lib.hid (own_block hO2 (g := g) rfl).1
          clear hO hO2 hi0 hz0 hz1 hz2 g0 g1
          go_wp2_with fail
          go_ret
          exact ⟨g, cap, rfl, HGE.out, HT.out, hB.out⟩
end Go.Proofs.Ytpikaohodieeaaa
namespace Go.Proofs.Ytpikaohodieeaaa
open Go.RowKit
set_option linter.unusedSimpArgs false
set_option linter.unusedVariables false
section
variable {P : Program} {Q : Exit → Act → World → Prop} {md : Region.Mode} {T : World → Prop} {L : List Nat}
/-- two operations may come up: either way -/
theorem M_fork {l r r' : List Oper} {o o' : Oper} {g : Nat} {listed : Array Bool} {a : Act} {w : World} (i j : Nat) (hi : l.drop i = o :: r) (hj : l.drop j = o' :: r') (hr : Region.ready md l.toArray listed = [i, j])
    (h : ∀ K' : Act → World → Prop, Hid (∀ a w, (L.contains i = false → T w) → wpM P md l.toArray Q T L g (listed.setIfInBounds i true) a w → K' a w) → if Region.wanted o (yielded l.toArray a.tmps) = true then Oper.wp P o a w K' Q else K' (a.put o.dst undef) w)
    (h' : ∀ K' : Act → World → Prop, Hid (∀ a w, (L.contains j = false → T w) → wpM P md l.toArray Q T L g (listed.setIfInBounds j true) a w → K' a w) → if Region.wanted o' (yielded l.toArray a.tmps) = true then Oper.wp P o' a w K' Q else K' (a.put o'.dst undef) w) :
    wpM P md l.toArray Q T L (g + 1) listed a w := fun hc hs =>
  ⟨fun e => (by rw [hr] at e; cases e), fun k hk => by
    have hk' := hk
    rw [hr] at hk
    rcases List.mem_cons.1 hk with rfl | hk
    · exact wpOp_step (at_drop hi) fun K' hK => h K' (Lib.hid fun a w hT hW => hK a w ⟨hT, hW (hc.next hk') hs⟩)
    · obtain rfl : k = j := by simpa using hk
      exact wpOp_step (at_drop hj) fun K' hK => h' K' (Lib.hid fun a w hT hW => hK a w ⟨hT, hW (hc.next hk') hs⟩)⟩
end
/-- the error and the spans of readWith -/
def RwR (d : Drm) (m : Nat) (F : Nat → Int × Int × Int) (c t : Int) (E : Int) (S : Nat → Int × Int) : Prop :=
  (¬ E = 0 ∧ ∃ vd S1, (vd = true ↔ (0 ≤ c ∧ c ≤ d.n) ∧ 0 ≤ t ∧ t ≤ 400) ∧ RdR d m F vd E S1) ∨ (DrOk d ∧ MksOk d m F ∧ ((0 ≤ c ∧ c ≤ d.n) ∧ 0 ≤ t ∧ t ≤ 400) ∧ (∃ S1, Ends d.n (Rdg d.n (gapF d) m F) S1) ∧
    ((E = 3 ∧ ∀ T, ¬ Rdg d.n (gapF d) (m + 1) (catF m F fun _ => (c, t, t)) T) ∨ (E = 0 ∧ Ends d.n (Rdg d.n (gapF d) (m + 1) (catF m F fun _ => (c, t, t))) S)))
theorem trs_one {b : Nat} {s : Int × Int × Int} {w : World} (h : Tr3 s b w) : TrsIn (some ⟨b, 0, none⟩) 1 (fun _ => s) w.heap.size w :=
  ⟨by omega, fun i hi => by
    obtain rfl : i = 0 := by omega
    refine ⟨_, rfl, h.lt, ?_, ?_, ?_⟩ <;> (rw [Addr.add_lit]; first | exact h.1 | exact h.2.1 | exact h.2.2)⟩
theorem mkOk_cat {n m : Nat} {F : Nat → Int × Int × Int} {c t : Int} (h : MkOk n m F) (hc : 0 ≤ c ∧ c ≤ n) (ht : 0 ≤ t ∧ t ≤ 400) : MkOk n (m + 1) (catF m F fun _ => (c, t, t)) := fun j hj => by
  unfold catF
  split
  · exact h j (by assumption)
  · simp only; omega
theorem rwR_ex (d : Drm) (m : Nat) (F : Nat → Int × Int × Int) (c t : Int) : ∃ E S, RwR d m F c t E S := by
  obtain ⟨vd, hvd⟩ := bool_of ((0 ≤ c ∧ c ≤ d.n) ∧ 0 ≤ t ∧ t ≤ 400)
  obtain ⟨E, S, h⟩ := rdR_ex d m F vd
  by_cases h0 : E = 0
  · subst h0
    rcases h with ⟨h1, _⟩ | ⟨h1, h2, h3⟩
    · omega
    · rcases h3 with ⟨_, h3⟩ | ⟨_, h3, _⟩ | ⟨h3, _, h4⟩
      · omega
      · omega
      · have hv := hvd.1 h3
        rcases ends_ex (gpOk h1) (mkOk_cat (mkOk_of h2) hv.1 hv.2) with ⟨S2, h⟩ | h
        · exact ⟨0, S2, .inr ⟨h1, h2, hv, ⟨S, h4⟩, .inr ⟨rfl, h⟩⟩⟩
        · exact ⟨3, S, .inr ⟨h1, h2, hv, ⟨S, h4⟩, .inl ⟨rfl, h⟩⟩⟩
  · exact ⟨E, S, .inl ⟨h0, vd, S, hvd, h⟩⟩
set_option maxRecDepth 100000 in
set_option maxHeartbeats 4000000 in
theorem readWith_any (d : Drm) (MA : Option Addr) (m mc : Nat) (F : Nat → Int × Int × Int) (c t : Int) (E : Int) (S : Nat → Int × Int) (w : World) (hin : DrIn d w.heap.size w) (hm : TrsIn MA m F w.heap.size w) (hE : RwR d m F c t E S) :
    Calls Try.prog 95 #[d.v, .slice MA m mc, .int .i64 c, .int .i64 t] w fun e w' => ∃ v, e = .returned (.tuple #[v, .int .i64 E]) ∧ RdV d.n E S v w w' := by
  obtain ⟨vd, hvd⟩ := bool_of ((0 ≤ c ∧ c ≤ d.n) ∧ 0 ≤ t ∧ t ≤ 400)
  obtain ⟨E1, S1, hE1, hEE⟩ : ∃ E1 S1, RdR d m F vd E1 S1 ∧ ((¬ E1 = 0 ∧ E = E1) ∨ (E1 = 0 ∧ DrOk d ∧ MksOk d m F ∧ ((0 ≤ c ∧ c ≤ d.n) ∧ 0 ≤ t ∧ t ≤ 400) ∧ ((E = 3 ∧ ∀ T, ¬ Rdg d.n (gapF d) (m + 1) (catF m F fun _ => (c, t, t)) T) ∨ (E = 0 ∧ Ends d.n (Rdg d.n (gapF d) (m + 1) (catF m F fun _ => (c, t, t))) S)))) := by
    rcases hE with ⟨h0, vd', S1, h1, h2⟩ | ⟨h1, h2, h3, ⟨S1, h4⟩, h5⟩
    · have hvv : vd' = vd := Bool.eq_iff_iff.2 (h1.trans hvd.symm)
      rw [hvv] at h2
      exact ⟨E, S1, h2, .inl ⟨h0, rfl⟩⟩
    · exact ⟨0, S1, .inr ⟨h1, h2, .inr (.inr ⟨hvd.2 h3, rfl, h4⟩)⟩, .inr ⟨rfl, h1, h2, h3, h5⟩⟩
  obtain ⟨w1, hw1⟩ : ∃ w1 : World, w1 = w.alloc (drO d) := ⟨_, rfl⟩
  have B1 : Below w.heap.size w w1 := by rw [hw1]; exact box1 _ _
  have P1 : HasDr d w.heap.size w1 := by rw [hw1]; exact dr_new w d
  have HB := Lib.hid B1
  have HP := Lib.hid P1
  have HIN := Lib.hid hin
  have HM := Lib.hid hm
  have KR := Lib.hid fun W (hW : Below w.heap.size w W) => read_any d MA m mc F vd E1 S1 W ((hin.up hW (Nat.le_refl _)).more hW.size) ((hm.up hW (Nat.le_refl _)).more hW.size) hE1
  obtain ⟨A, hA⟩ := bool_of (0 ≤ c ∧ c ≤ d.n)
  obtain ⟨B, hB⟩ := bool_of (0 ≤ t ∧ t ≤ 400)
  have hAB : vd = (A && B) := Bool.eq_iff_iff.2 (hvd.trans (by rw [Bool.and_eq_true, hA, hB]))
  obtain ⟨x0, x1⟩ := P1
  have HA := Lib.hid hA
  have HBB := Lib.hid hB
  have HV1 := Lib.hid hvd
  have HEE := Lib.hid hEE
  have HE1 : Hid (vd = false → ¬ E1 = 0) := Lib.hid fun h h0 => by
    rcases hE1 with ⟨h1, _⟩ | ⟨_, _, h3⟩
    · omega
    · rcases h3 with ⟨_, h3⟩ | ⟨_, h3, _⟩ | ⟨h3, _, h4⟩
      · omega
      · omega
      · rw [h] at h3; cases h3
  clear hin hm B1 hE hE1 hEE hvd hA hB
  cases A with
  | false =>
    obtain rfl : vd = false := hAB
    go_enter Try.func95, Try.ntmps95
    go_wp2_with fail
    rw [← hw1]
    clear hw1
    refine wp_region_M [] (fun w' => w'.cell? ⟨w.heap.size, 0, none⟩ = some (.slice d.RA d.n d.rc) ∧ w'.cell? ⟨w.heap.size, 1, none⟩ = some (.slice d.SA d.m d.sc)) (by kernel_rfl) (by kernel_rfl) (by (try dsimp only); (repeat' apply And.intro); all_goals first | assumption | (go_simp; done)) (fun hT0 => ?_)
    refine M_take (v := ?_) 0 rfl (by kernel_rfl) (by assumption) (fun _ _ _ h => h) (Or.inl ⟨by rfl, ?_⟩) ?_
    rotate_left
    · (intro w hSw; (try dsimp only at hSw); go_simp; (try with_reducible rfl))
    (try simp only [Act.put, List.setIfInBounds_toArray, List.set_cons_zero, List.set_cons_succ])
    refine M_take (v := ?_) 1 rfl (by kernel_rfl) (by assumption) (fun _ _ _ h => h) (Or.inl ⟨by rfl, ?_⟩) ?_
    rotate_left
    · (intro w hSw; (try dsimp only at hSw); go_simp; (try with_reducible rfl))
    (try simp only [Act.put, List.setIfInBounds_toArray, List.set_cons_zero, List.set_cons_succ])
    refine M_take (v := ?_) 2 rfl (by kernel_rfl) (by assumption) (fun _ _ _ h => h) (Or.inl ⟨by rfl, ?_⟩) ?_
    rotate_left
    · (intro w hSw; (try dsimp only at hSw); go_simp; (try with_reducible rfl))
    (try simp only [Act.put, List.setIfInBounds_toArray, List.set_cons_zero, List.set_cons_succ])
    refine M_take (v := ?_) 3 rfl (by kernel_rfl) (by assumption) (fun _ _ _ h => h) (Or.inl ⟨by rfl, ?_⟩) ?_
    rotate_left
    · (intro w hSw; (try dsimp only at hSw); go_simp; (try with_reducible rfl))
    (try simp only [Act.put, List.setIfInBounds_toArray, List.set_cons_zero, List.set_cons_succ])
    refine M_step 4 rfl (by kernel_rfl) (fun K hK => ?_)
    go_simp
    go_at_call 75
    refine (isColumn_is d c false _ (by first | exact HA.out | simpa using HA.out)).mono ?_
    rintro e w4 ⟨rfl, hb4'⟩
    have hb4 : Below w1.heap.size w1 w4 := nextB (Below.refl _ _).drew hb4'
    have hT4 : (fun w' => w'.cell? ⟨w.heap.size, 0, none⟩ = some (.slice d.RA d.n d.rc) ∧ w'.cell? ⟨w.heap.size, 1, none⟩ = some (.slice d.SA d.m d.sc)) w4 := HP.out.up hb4
    clear hb4'
    refine hK.out _ _ (fun _ => hT4) ?_
    clear hK K
    (try simp only [Act.put, List.setIfInBounds_toArray, List.set_cons_zero, List.set_cons_succ])
    refine M_take (v := ?_) 5 rfl (by kernel_rfl) (by assumption) (fun _ _ _ h => h) (Or.inl ⟨by rfl, ?_⟩) ?_
    rotate_left
    · (intro w hSw; (try dsimp only at hSw); go_simp; (try with_reducible rfl))
    (try simp only [Act.put, List.setIfInBounds_toArray, List.set_cons_zero, List.set_cons_succ])
    refine M_take 6 rfl (by kernel_rfl) (by assumption) (fun _ _ _ h => h) (Or.inr ⟨by rfl, rfl⟩) ?_
    (try simp only [Act.put, List.setIfInBounds_toArray, List.set_cons_zero, List.set_cons_succ])
    refine M_take 7 rfl (by kernel_rfl) (by assumption) (fun _ _ _ h => h) (Or.inr ⟨by rfl, rfl⟩) ?_
    (try simp only [Act.put, List.setIfInBounds_toArray, List.set_cons_zero, List.set_cons_succ])
    refine M_take (v := ?_) 8 rfl (by kernel_rfl) (by assumption) (fun _ _ _ h => h) (Or.inl ⟨by rfl, ?_⟩) ?_
    rotate_left
    · (intro w hSw; (try dsimp only at hSw); go_simp; (try with_reducible rfl))
    (try simp only [Act.put, List.setIfInBounds_toArray, List.set_cons_zero, List.set_cons_succ])
    refine M_step 9 rfl (by kernel_rfl) (fun K hK => ?_)
    go_simp
    go_at_call 89
    refine (KR.out _ (nextB HB.out hb4)).mono ?_
    rintro e w2 ⟨v, rfl, hb2, hv⟩
    have D2 := Lib.hid (nextB (nextB HB.out hb4) hb2)
    have P2 := HP.out.up (nextB hb4 hb2)
    have hT2 : (fun w' => w'.cell? ⟨w.heap.size, 0, none⟩ = some (.slice d.RA d.n d.rc) ∧ w'.cell? ⟨w.heap.size, 1, none⟩ = some (.slice d.SA d.m d.sc)) w2 := P2
    have hvs : ∃ A q c, v = .slice A q c := by
      rcases hv with ⟨_, h⟩ | ⟨_, t, h, _⟩ <;> exact ⟨_, _, _, h⟩
    obtain ⟨va, vq, vc, rfl⟩ := hvs
    clear hb2 hv
    refine hK.out _ _ (fun _ => hT2) ?_
    clear hK K
    (try simp only [Act.put, List.setIfInBounds_toArray, List.set_cons_zero, List.set_cons_succ])
    refine M_take (v := ?_) 10 rfl (by kernel_rfl) (by assumption) (fun _ _ _ h => h) (Or.inl ⟨by rfl, ?_⟩) ?_
    rotate_left
    · (intro w hSw; (try dsimp only at hSw); go_simp; (try with_reducible rfl))
    (try simp only [Act.put, List.setIfInBounds_toArray, List.set_cons_zero, List.set_cons_succ])
    refine M_take (v := ?_) 11 rfl (by kernel_rfl) (by assumption) (fun _ _ _ h => h) (Or.inl ⟨by rfl, ?_⟩) ?_
    rotate_left
    · (intro w hSw; (try dsimp only at hSw); go_simp; (try with_reducible rfl))
    (try simp only [Act.put, List.setIfInBounds_toArray, List.set_cons_zero, List.set_cons_succ])
    refine M_take (v := ?_) 12 rfl (by kernel_rfl) (by assumption) (fun _ _ _ h => h) (Or.inl ⟨by rfl, ?_⟩) ?_
    rotate_left
    · (intro w hSw; (try dsimp only at hSw); go_simp; (try with_reducible rfl))
    (try simp only [Act.put, List.setIfInBounds_toArray, List.set_cons_zero, List.set_cons_succ])
    refine M_step 13 rfl (by kernel_rfl) (fun K hK => ?_)
    go_simp
    refine hK.out _ _ (fun _ => by assumption) ?_
    clear hK K
    (try simp only [Act.put, List.setIfInBounds_toArray, List.set_cons_zero, List.set_cons_succ])
    refine M_step 14 rfl (by kernel_rfl) (fun K hK => ?_)
    go_simp
    refine hK.out _ _ (fun _ => by assumption) ?_
    clear hK K
    (try simp only [Act.put, List.setIfInBounds_toArray, List.set_cons_zero, List.set_cons_succ])
    refine M_done (by kernel_rfl) ?_ _
    by_cases hne : E1 = 0
    · subst hne
      exact absurd rfl (HE1.out (by trivial))
    · obtain rfl : E = E1 := by
        rcases HEE.out with ⟨_, h⟩ | ⟨h, _⟩
        · exact h
        · exact absurd h hne
      have hn1 : (E != 0) = true := by simpa using hne
      clear HEE
      go_wp2_with fail
      exact bodyPost_ret (v := .tuple #[.slice none 0 0, .int .i64 E]) (by simp [results, Try.results95, go_sem]) rfl ⟨_, rfl, D2.out, .inl ⟨hne, rfl⟩⟩
  | true =>
    obtain rfl : vd = B := by rw [hAB]; rfl
    clear hAB
    go_enter Try.func95, Try.ntmps95
    go_wp2_with fail
    rw [← hw1]
    clear hw1
    refine wp_region_M [] (fun w' => w'.cell? ⟨w.heap.size, 0, none⟩ = some (.slice d.RA d.n d.rc) ∧ w'.cell? ⟨w.heap.size, 1, none⟩ = some (.slice d.SA d.m d.sc)) (by kernel_rfl) (by kernel_rfl) (by (try dsimp only); (repeat' apply And.intro); all_goals first | assumption | (go_simp; done)) (fun hT0 => ?_)
    refine M_take (v := ?_) 0 rfl (by kernel_rfl) (by assumption) (fun _ _ _ h => h) (Or.inl ⟨by rfl, ?_⟩) ?_
    rotate_left
    · (intro w hSw; (try dsimp only at hSw); go_simp; (try with_reducible rfl))
    (try simp only [Act.put, List.setIfInBounds_toArray, List.set_cons_zero, List.set_cons_succ])
    refine M_take (v := ?_) 1 rfl (by kernel_rfl) (by assumption) (fun _ _ _ h => h) (Or.inl ⟨by rfl, ?_⟩) ?_
    rotate_left
    · (intro w hSw; (try dsimp only at hSw); go_simp; (try with_reducible rfl))
    (try simp only [Act.put, List.setIfInBounds_toArray, List.set_cons_zero, List.set_cons_succ])
    refine M_take (v := ?_) 2 rfl (by kernel_rfl) (by assumption) (fun _ _ _ h => h) (Or.inl ⟨by rfl, ?_⟩) ?_
    rotate_left
    · (intro w hSw; (try dsimp only at hSw); go_simp; (try with_reducible rfl))
    (try simp only [Act.put, List.setIfInBounds_toArray, List.set_cons_zero, List.set_cons_succ])
    refine M_take (v := ?_) 3 rfl (by kernel_rfl) (by assumption) (fun _ _ _ h => h) (Or.inl ⟨by rfl, ?_⟩) ?_
    rotate_left
    · (intro w hSw; (try dsimp only at hSw); go_simp; (try with_reducible rfl))
    (try simp only [Act.put, List.setIfInBounds_toArray, List.set_cons_zero, List.set_cons_succ])
    refine M_step 4 rfl (by kernel_rfl) (fun K hK => ?_)
    go_simp
    go_at_call 75
    refine (isColumn_is d c true _ (by first | exact HA.out | simpa using HA.out)).mono ?_
    rintro e w4 ⟨rfl, hb4'⟩
    have hb4 : Below w1.heap.size w1 w4 := nextB (Below.refl _ _).drew hb4'
    have hT4 : (fun w' => w'.cell? ⟨w.heap.size, 0, none⟩ = some (.slice d.RA d.n d.rc) ∧ w'.cell? ⟨w.heap.size, 1, none⟩ = some (.slice d.SA d.m d.sc)) w4 := HP.out.up hb4
    clear hb4'
    refine hK.out _ _ (fun _ => hT4) ?_
    clear hK K
    (try simp only [Act.put, List.setIfInBounds_toArray, List.set_cons_zero, List.set_cons_succ])
    refine M_take (v := ?_) 5 rfl (by kernel_rfl) (by assumption) (fun _ _ _ h => h) (Or.inl ⟨by rfl, ?_⟩) ?_
    rotate_left
    · (intro w hSw; (try dsimp only at hSw); go_simp; (try with_reducible rfl))
    (try simp only [Act.put, List.setIfInBounds_toArray, List.set_cons_zero, List.set_cons_succ])
    refine M_take (v := ?_) 6 rfl (by kernel_rfl) (by assumption) (fun _ _ _ h => h) (Or.inl ⟨by rfl, ?_⟩) ?_
    rotate_left
    · (intro w hSw; (try dsimp only at hSw); go_simp; (try with_reducible rfl))
    (try simp only [Act.put, List.setIfInBounds_toArray, List.set_cons_zero, List.set_cons_succ])
    refine M_step 7 rfl (by kernel_rfl) (fun K hK => ?_)
    go_simp
    go_at_call 99
    refine (isTick_is t vd _ HBB.out).mono ?_
    rintro e w5 ⟨rfl, hw5⟩
    subst hw5
    have hT5 : (fun w' => w'.cell? ⟨w.heap.size, 0, none⟩ = some (.slice d.RA d.n d.rc) ∧ w'.cell? ⟨w.heap.size, 1, none⟩ = some (.slice d.SA d.m d.sc)) w4 := hT4
    refine hK.out _ _ (fun _ => hT5) ?_
    clear hK K
    (try simp only [Act.put, List.setIfInBounds_toArray, List.set_cons_zero, List.set_cons_succ])
    refine M_take (v := ?_) 8 rfl (by kernel_rfl) (by assumption) (fun _ _ _ h => h) (Or.inl ⟨by rfl, ?_⟩) ?_
    rotate_left
    · (intro w hSw; (try dsimp only at hSw); go_simp; (try with_reducible rfl))
    (try simp only [Act.put, List.setIfInBounds_toArray, List.set_cons_zero, List.set_cons_succ])
    refine M_step 9 rfl (by kernel_rfl) (fun K hK => ?_)
    go_simp
    go_at_call 89
    refine (KR.out _ (nextB HB.out hb4)).mono ?_
    rintro e w2 ⟨v, rfl, hb2, hv⟩
    have D2 := Lib.hid (nextB (nextB HB.out hb4) hb2)
    have P2 := HP.out.up (nextB hb4 hb2)
    have hT2 : (fun w' => w'.cell? ⟨w.heap.size, 0, none⟩ = some (.slice d.RA d.n d.rc) ∧ w'.cell? ⟨w.heap.size, 1, none⟩ = some (.slice d.SA d.m d.sc)) w2 := P2
    have hvs : ∃ A q c, v = .slice A q c := by
      rcases hv with ⟨_, h⟩ | ⟨_, t, h, _⟩ <;> exact ⟨_, _, _, h⟩
    obtain ⟨va, vq, vc, rfl⟩ := hvs
    clear hb2 hv
    refine hK.out _ _ (fun _ => hT2) ?_
    clear hK K
    (try simp only [Act.put, List.setIfInBounds_toArray, List.set_cons_zero, List.set_cons_succ])
    refine M_take (v := ?_) 10 rfl (by kernel_rfl) (by assumption) (fun _ _ _ h => h) (Or.inl ⟨by rfl, ?_⟩) ?_
    rotate_left
    · (intro w hSw; (try dsimp only at hSw); go_simp; (try with_reducible rfl))
    (try simp only [Act.put, List.setIfInBounds_toArray, List.set_cons_zero, List.set_cons_succ])
    refine M_take (v := ?_) 11 rfl (by kernel_rfl) (by assumption) (fun _ _ _ h => h) (Or.inl ⟨by rfl, ?_⟩) ?_
    rotate_left
    · (intro w hSw; (try dsimp only at hSw); go_simp; (try with_reducible rfl))
    (try simp only [Act.put, List.setIfInBounds_toArray, List.set_cons_zero, List.set_cons_succ])
    refine M_take (v := ?_) 12 rfl (by kernel_rfl) (by assumption) (fun _ _ _ h => h) (Or.inl ⟨by rfl, ?_⟩) ?_
    rotate_left
    · (intro w hSw; (try dsimp only at hSw); go_simp; (try with_reducible rfl))
    (try simp only [Act.put, List.setIfInBounds_toArray, List.set_cons_zero, List.set_cons_succ])
    refine M_step 13 rfl (by kernel_rfl) (fun K hK => ?_)
    go_simp
    refine hK.out _ _ (fun _ => by assumption) ?_
    clear hK K
    (try simp only [Act.put, List.setIfInBounds_toArray, List.set_cons_zero, List.set_cons_succ])
    refine M_step 14 rfl (by kernel_rfl) (fun K hK => ?_)
    go_simp
    refine hK.out _ _ (fun _ => by assumption) ?_
    clear hK K
    (try simp only [Act.put, List.setIfInBounds_toArray, List.set_cons_zero, List.set_cons_succ])
    refine M_done (by kernel_rfl) ?_ _
    by_cases hne : E1 = 0
    · subst hne
      obtain ⟨hd, hk, hct, hrw⟩ : DrOk d ∧ MksOk d m F ∧ ((0 ≤ c ∧ c ≤ d.n) ∧ 0 ≤ t ∧ t ≤ 400) ∧ ((E = 3 ∧ ∀ T, ¬ Rdg d.n (gapF d) (m + 1) (catF m F fun _ => (c, t, t)) T) ∨ (E = 0 ∧ Ends d.n (Rdg d.n (gapF d) (m + 1) (catF m F fun _ => (c, t, t))) S)) := by
        rcases HEE.out with ⟨h, _⟩ | ⟨_, h1, h2, h3, h4⟩
        · exact absurd rfl h
        · exact ⟨h1, h2, h3, h4⟩
      have HD := Lib.hid hd
      have HK := Lib.hid hk
      have HCT := Lib.hid hct
      have HRW := Lib.hid hrw
      have hm64 := hk.1
      clear HEE hd hk hct hrw x0 x1 hT0
      obtain ⟨x0, x1⟩ := P2
      go_wp2_with fail
      obtain ⟨w3, hw3⟩ : ∃ w3 : World, w3 = w2.alloc (.cells #[.int .i64 c, .int .i64 t, .int .i64 t] 33) := ⟨_, rfl⟩
      rw [← hw3]
      have hb3 : Below w2.heap.size w2 w3 := by rw [hw3]; exact box1 _ _
      have bt3 : Tr3 (c, t, t) w2.heap.size w3 := by rw [hw3]; exact tr3_new _ (c, t, t) _
      have D3 := Lib.hid (nextB D2.out hb3)
      have y0 := cell_of hb3 x0
      have y1 := cell_of hb3 x1
      obtain ⟨t0, t1, t2⟩ := bt3
      simp only at t0 t1 t2
      clear hw3 x0 x1
      refine wp_region_M [] (fun w' => w'.cell? ⟨w.heap.size, 0, none⟩ = some (.slice d.RA d.n d.rc) ∧ w'.cell? ⟨w.heap.size, 1, none⟩ = some (.slice d.SA d.m d.sc) ∧ w'.cell? ⟨w2.heap.size, 0, none⟩ = some (.int .i64 c) ∧ w'.cell? ⟨w2.heap.size, 1, none⟩ = some (.int .i64 t) ∧ w'.cell? ⟨w2.heap.size, 2, none⟩ = some (.int .i64 t)) (by kernel_rfl) (by kernel_rfl) (by (try dsimp only); (repeat' apply And.intro); all_goals first | assumption | (go_simp; done)) (fun hT0 => ?_)
      have hbz : Below w3.heap.size w3 w3 := Below.refl _ _
      refine M_take (v := ?_) 0 rfl (by kernel_rfl) (by assumption) (fun _ _ _ h => h) (Or.inl ⟨by rfl, ?_⟩) ?_
      rotate_left
      · (intro w hSw; (try dsimp only at hSw); go_simp; (try with_reducible rfl))
      (try simp only [Act.put, List.setIfInBounds_toArray, List.set_cons_zero, List.set_cons_succ])
      refine M_take (v := ?_) 2 rfl (by kernel_rfl) (by assumption) (fun _ _ _ h => h) (Or.inl ⟨by rfl, ?_⟩) ?_
      rotate_left
      · (intro w hSw; (try dsimp only at hSw); go_simp; (try with_reducible rfl))
      (try simp only [Act.put, List.setIfInBounds_toArray, List.set_cons_zero, List.set_cons_succ])
      refine M_take (v := ?_) 3 rfl (by kernel_rfl) (by assumption) (fun _ _ _ h => h) (Or.inl ⟨by rfl, ?_⟩) ?_
      rotate_left
      · (intro w hSw; (try dsimp only at hSw); go_simp; (try with_reducible rfl))
      (try simp only [Act.put, List.setIfInBounds_toArray, List.set_cons_zero, List.set_cons_succ])
      refine M_fork 1 4 rfl rfl (by kernel_rfl) (fun K hK => ?_) (fun K hK => ?_)
      · go_simp
        go_at_call 78
        refine (gapsOf_any d w3.drew ((HIN.out.up (D3.out.trans (hbz.mono D3.out.size)).drew (Nat.le_refl _)).more (D3.out.trans (hbz.mono D3.out.size)).drew.size) HD.out).mono ?_
        rintro e a1 ⟨g, cap, rfl, hg, hcap, hSa1, hq'⟩
        have hqa1 : Below w3.heap.size w3 a1 := by first | exact hq' | exact nextB (Below.refl _ _).drew hq'
        have hba1 := nextB hbz hqa1
        have hTa1 : (fun w' => w'.cell? ⟨w.heap.size, 0, none⟩ = some (.slice d.RA d.n d.rc) ∧ w'.cell? ⟨w.heap.size, 1, none⟩ = some (.slice d.SA d.m d.sc) ∧ w'.cell? ⟨w2.heap.size, 0, none⟩ = some (.int .i64 c) ∧ w'.cell? ⟨w2.heap.size, 1, none⟩ = some (.int .i64 t) ∧ w'.cell? ⟨w2.heap.size, 2, none⟩ = some (.int .i64 t)) a1 := ⟨cell_of hba1 y0, cell_of hba1 y1, cell_of hba1 t0, cell_of hba1 t1, cell_of hba1 t2⟩
        clear hg hcap
        refine hK.out _ _ (fun _ => hTa1) ?_
        clear hK K
        (try simp only [Act.put, List.setIfInBounds_toArray, List.set_cons_zero, List.set_cons_succ])
        refine M_step 4 rfl (by kernel_rfl) (fun K hK => ?_)
        go_simp
        obtain ⟨a2, hwa2⟩ : ∃ V : World, V = a1.alloc (.cells #[.int .i64 c, .int .i64 t, .int .i64 t] 33) := ⟨_, rfl⟩
        try rw [← hwa2]
        have hqa2 : Below a1.heap.size a1 a2 := by rw [hwa2]; exact box1 _ _
        have hba2 := nextB hba1 hqa2
        have hSa2 := hSa1.up hqa2
        have hma2 : TrsIn (some ⟨a1.heap.size, 0, none⟩) 1 (fun _ => (c, t, t)) a2.heap.size a2 := by
          have hz : Tr3 (c, t, t) a1.heap.size a2 := by rw [hwa2]; exact tr3_new _ (c, t, t) _
          exact trs_one hz
        have hTa2 : (fun w' => w'.cell? ⟨w.heap.size, 0, none⟩ = some (.slice d.RA d.n d.rc) ∧ w'.cell? ⟨w.heap.size, 1, none⟩ = some (.slice d.SA d.m d.sc) ∧ w'.cell? ⟨w2.heap.size, 0, none⟩ = some (.int .i64 c) ∧ w'.cell? ⟨w2.heap.size, 1, none⟩ = some (.int .i64 t) ∧ w'.cell? ⟨w2.heap.size, 2, none⟩ = some (.int .i64 t)) a2 := ⟨cell_of hba2 y0, cell_of hba2 y1, cell_of hba2 t0, cell_of hba2 t1, cell_of hba2 t2⟩
        clear hwa2
        refine hK.out _ _ (fun _ => hTa2) ?_
        clear hK K
        (try simp only [Act.put, List.setIfInBounds_toArray, List.set_cons_zero, List.set_cons_succ])
        refine M_step 5 rfl (by kernel_rfl) (fun K hK => ?_)
        go_simp
        obtain ⟨a3, hwa3⟩ : ∃ V : World, V = a2.alloc (.cells #[.slice MA m mc, .slice (some ⟨a1.heap.size, 0, none⟩) 1 1] 26) := ⟨_, rfl⟩
        try rw [← hwa3]
        have hqa3 : Below a2.heap.size a2 a3 := by rw [hwa3]; exact box1 _ _
        have hba3 := nextB hba2 hqa3
        have hma3 := (hma2.up hqa3 (Nat.le_refl _)).more hqa3.size
        have hSa3 := hSa2.up hqa3
        have o0a3 : a3.cell? ⟨a2.heap.size, 0, none⟩ = some (.slice MA m mc) := by rw [hwa3]; go_simp
        have o1a3 : a3.cell? ⟨a2.heap.size, 1, none⟩ = some (.slice (some ⟨a1.heap.size, 0, none⟩) 1 1) := by rw [hwa3]; go_simp
        have hTa3 : (fun w' => w'.cell? ⟨w.heap.size, 0, none⟩ = some (.slice d.RA d.n d.rc) ∧ w'.cell? ⟨w.heap.size, 1, none⟩ = some (.slice d.SA d.m d.sc) ∧ w'.cell? ⟨w2.heap.size, 0, none⟩ = some (.int .i64 c) ∧ w'.cell? ⟨w2.heap.size, 1, none⟩ = some (.int .i64 t) ∧ w'.cell? ⟨w2.heap.size, 2, none⟩ = some (.int .i64 t)) a3 := ⟨cell_of hba3 y0, cell_of hba3 y1, cell_of hba3 t0, cell_of hba3 t1, cell_of hba3 t2⟩
        clear hwa3
        refine hK.out _ _ (fun _ => hTa3) ?_
        clear hK K
        (try simp only [Act.put, List.setIfInBounds_toArray, List.set_cons_zero, List.set_cons_succ])
        refine M_step 6 rfl (by kernel_rfl) (fun K hK => ?_)
        go_simp
        go_at_call 114
        refine (ConcatMark_any a2.heap.size MA m mc F ⟨a1.heap.size, 0, none⟩ 1 (c, t, t) _ (by omega) o0a3 o1a3 ((HM.out.up (D3.out.trans (hba3.mono D3.out.size)) (Nat.le_refl _)).more (D3.out.trans (hba3.mono D3.out.size)).size) hma3).mono ?_
        rintro e a4 ⟨cg, ccap, rfl, hcg, hcta4, hqa4⟩
        have hba4 := nextB hba3 hqa4
        have hSa4 := hSa3.up hqa4
        have hTa4 : (fun w' => w'.cell? ⟨w.heap.size, 0, none⟩ = some (.slice d.RA d.n d.rc) ∧ w'.cell? ⟨w.heap.size, 1, none⟩ = some (.slice d.SA d.m d.sc) ∧ w'.cell? ⟨w2.heap.size, 0, none⟩ = some (.int .i64 c) ∧ w'.cell? ⟨w2.heap.size, 1, none⟩ = some (.int .i64 t) ∧ w'.cell? ⟨w2.heap.size, 2, none⟩ = some (.int .i64 t)) a4 := ⟨cell_of hba4 y0, cell_of hba4 y1, cell_of hba4 t0, cell_of hba4 t1, cell_of hba4 t2⟩
        clear hcg
        refine hK.out _ _ (fun _ => hTa4) ?_
        clear hK K
        (try simp only [Act.put, List.setIfInBounds_toArray, List.set_cons_zero, List.set_cons_succ])
        refine M_step 7 rfl (by kernel_rfl) (fun K hK => ?_)
        go_simp
        have KRd := readings_any g d.n cap (gapF d) (some ⟨cg, 0, none⟩) (m + 1) ccap (catF m F fun _ => (c, t, t)) a4 hSa4 hcta4 (gpOk HD.out) (mkOk_cat (mkOk_of HK.out) HCT.out.1 HCT.out.2)
        go_at_call 112
        refine KRd.mono ?_
        rintro e a5 ⟨R, v, rfl, hqa5, hRa5⟩
        have hba5 := nextB hba4 hqa5
        have HRR := Lib.hid (Or.imp (fun (h : R = true ∧ _) => h) (fun h => h) hRa5)
        have DF := Lib.hid (D3.out.trans (hba5.mono D3.out.size))
        have hsz := hba4.size
        obtain ⟨vb, vr, vs, hvv⟩ : ∃ A q c, v = .slice A q c := by
          rcases hRa5 with ⟨_, t, T, h, _⟩ | ⟨_, h, _⟩ <;> exact ⟨_, _, _, h⟩
        subst hvv
        have hTa5 : (fun w' => w'.cell? ⟨w.heap.size, 0, none⟩ = some (.slice d.RA d.n d.rc) ∧ w'.cell? ⟨w.heap.size, 1, none⟩ = some (.slice d.SA d.m d.sc) ∧ w'.cell? ⟨w2.heap.size, 0, none⟩ = some (.int .i64 c) ∧ w'.cell? ⟨w2.heap.size, 1, none⟩ = some (.int .i64 t) ∧ w'.cell? ⟨w2.heap.size, 2, none⟩ = some (.int .i64 t)) a5 := ⟨cell_of hba5 y0, cell_of hba5 y1, cell_of hba5 t0, cell_of hba5 t1, cell_of hba5 t2⟩
        clear hRa5 KRd
        refine hK.out _ _ (fun _ => hTa5) ?_
        clear hK K
        (try simp only [Act.put, List.setIfInBounds_toArray, List.set_cons_zero, List.set_cons_succ])
        refine M_take (v := ?_) 8 rfl (by kernel_rfl) (by assumption) (fun _ _ _ h => h) (Or.inl ⟨by rfl, ?_⟩) ?_
        rotate_left
        · (intro w hSw; (try dsimp only at hSw); go_simp; (try with_reducible rfl))
        (try simp only [Act.put, List.setIfInBounds_toArray, List.set_cons_zero, List.set_cons_succ])
        refine M_take (v := ?_) 9 rfl (by kernel_rfl) (by assumption) (fun _ _ _ h => h) (Or.inl ⟨by rfl, ?_⟩) ?_
        rotate_left
        · (intro w hSw; (try dsimp only at hSw); go_simp; (try with_reducible rfl))
        (try simp only [Act.put, List.setIfInBounds_toArray, List.set_cons_zero, List.set_cons_succ])
        refine M_take (v := ?_) 10 rfl (by kernel_rfl) (by assumption) (fun _ _ _ h => h) (Or.inl ⟨by rfl, ?_⟩) ?_
        rotate_left
        · (intro w hSw; (try dsimp only at hSw); go_simp; (try with_reducible rfl))
        (try simp only [Act.put, List.setIfInBounds_toArray, List.set_cons_zero, List.set_cons_succ])
        refine M_step 11 rfl (by kernel_rfl) (fun K hK => ?_)
        go_simp
        refine hK.out _ _ (fun _ => by assumption) ?_
        clear hK K
        (try simp only [Act.put, List.setIfInBounds_toArray, List.set_cons_zero, List.set_cons_succ])
        refine M_step 12 rfl (by kernel_rfl) (fun K hK => ?_)
        go_simp
        refine hK.out _ _ (fun _ => by assumption) ?_
        clear hK K
        (try simp only [Act.put, List.setIfInBounds_toArray, List.set_cons_zero, List.set_cons_succ])
        refine M_done (by kernel_rfl) ?_ _
        rcases HRW.out with ⟨rfl, hno⟩ | ⟨rfl, hen⟩
        · obtain ⟨rfl, hvz⟩ : R = false ∧ Value.slice vb vr vs = .slice none 0 0 := by
            rcases HRR.out with ⟨_, t', T, _, _, _, h⟩ | ⟨h1, h2, _⟩
            · exact absurd h.lo (hno _)
            · exact ⟨h1, h2⟩
          clear HRR HRW hno
          cases hvz
          go_wp2_with fail
          exact bodyPost_ret (v := .tuple #[.slice none 0 0, .int .i64 3]) (by simp [results, Try.results95, go_sem]) rfl ⟨_, rfl, DF.out, .inl ⟨by omega, rfl⟩⟩
        · obtain ⟨rfl, t', hvz, ht', hSf⟩ : R = true ∧ ∃ t', Value.slice vb vr vs = .slice (some ⟨t', 0, none⟩) (d.n + 1) (d.n + 1) ∧ w.heap.size ≤ t' ∧ SpR t' (d.n + 1) S a5 := by
            rcases HRR.out with ⟨h0, t', T, h1, h2, h3, h⟩ | ⟨h1, h2, h3⟩
            · exact ⟨h0, t', h1, by have := D3.out.size; omega, h3.same fun i hi => h.same hen i (by omega)⟩
            · exact absurd hen.lo (h3 _)
          have HSf := Lib.hid hSf
          clear HRR HRW hen hSf
          cases hvz
          go_wp2_with fail
          exact bodyPost_ret (v := .tuple #[.slice (some ⟨t', 0, none⟩) (d.n + 1) (d.n + 1), .int .i64 0]) (by simp [results, Try.results95, go_sem]) rfl ⟨_, rfl, DF.out, .inr ⟨rfl, t', rfl, ht', HSf.out⟩⟩
      · go_simp
        obtain ⟨a1, hwa1⟩ : ∃ V : World, V = w3.alloc (.cells #[.int .i64 c, .int .i64 t, .int .i64 t] 33) := ⟨_, rfl⟩
        try rw [← hwa1]
        have hqa1 : Below w3.heap.size w3 a1 := by rw [hwa1]; exact box1 _ _
        have hba1 := nextB hbz hqa1
        have hma1 : TrsIn (some ⟨w3.heap.size, 0, none⟩) 1 (fun _ => (c, t, t)) a1.heap.size a1 := by
          have hz : Tr3 (c, t, t) w3.heap.size a1 := by rw [hwa1]; exact tr3_new _ (c, t, t) _
          exact trs_one hz
        have hTa1 : (fun w' => w'.cell? ⟨w.heap.size, 0, none⟩ = some (.slice d.RA d.n d.rc) ∧ w'.cell? ⟨w.heap.size, 1, none⟩ = some (.slice d.SA d.m d.sc) ∧ w'.cell? ⟨w2.heap.size, 0, none⟩ = some (.int .i64 c) ∧ w'.cell? ⟨w2.heap.size, 1, none⟩ = some (.int .i64 t) ∧ w'.cell? ⟨w2.heap.size, 2, none⟩ = some (.int .i64 t)) a1 := ⟨cell_of hba1 y0, cell_of hba1 y1, cell_of hba1 t0, cell_of hba1 t1, cell_of hba1 t2⟩
        clear hwa1
        refine hK.out _ _ (fun _ => hTa1) ?_
        clear hK K
        (try simp only [Act.put, List.setIfInBounds_toArray, List.set_cons_zero, List.set_cons_succ])
        refine M_fork 1 5 rfl rfl (by kernel_rfl) (fun K hK => ?_) (fun K hK => ?_)
        · go_simp
          go_at_call 78
          refine (gapsOf_any d a1.drew ((HIN.out.up (D3.out.trans (hba1.mono D3.out.size)).drew (Nat.le_refl _)).more (D3.out.trans (hba1.mono D3.out.size)).drew.size) HD.out).mono ?_
          rintro e a2 ⟨g, cap, rfl, hg, hcap, hSa2, hq'⟩
          have hqa2 : Below a1.heap.size a1 a2 := by first | exact hq' | exact nextB (Below.refl _ _).drew hq'
          have hba2 := nextB hba1 hqa2
          have hma2 := (hma1.up hqa2 (Nat.le_refl _)).more hqa2.size
          have hTa2 : (fun w' => w'.cell? ⟨w.heap.size, 0, none⟩ = some (.slice d.RA d.n d.rc) ∧ w'.cell? ⟨w.heap.size, 1, none⟩ = some (.slice d.SA d.m d.sc) ∧ w'.cell? ⟨w2.heap.size, 0, none⟩ = some (.int .i64 c) ∧ w'.cell? ⟨w2.heap.size, 1, none⟩ = some (.int .i64 t) ∧ w'.cell? ⟨w2.heap.size, 2, none⟩ = some (.int .i64 t)) a2 := ⟨cell_of hba2 y0, cell_of hba2 y1, cell_of hba2 t0, cell_of hba2 t1, cell_of hba2 t2⟩
          clear hg hcap
          refine hK.out _ _ (fun _ => hTa2) ?_
          clear hK K
          (try simp only [Act.put, List.setIfInBounds_toArray, List.set_cons_zero, List.set_cons_succ])
          refine M_step 5 rfl (by kernel_rfl) (fun K hK => ?_)
          go_simp
          obtain ⟨a3, hwa3⟩ : ∃ V : World, V = a2.alloc (.cells #[.slice MA m mc, .slice (some ⟨w3.heap.size, 0, none⟩) 1 1] 26) := ⟨_, rfl⟩
          try rw [← hwa3]
          have hqa3 : Below a2.heap.size a2 a3 := by rw [hwa3]; exact box1 _ _
          have hba3 := nextB hba2 hqa3
          have hma3 := (hma2.up hqa3 (Nat.le_refl _)).more hqa3.size
          have hSa3 := hSa2.up hqa3
          have o0a3 : a3.cell? ⟨a2.heap.size, 0, none⟩ = some (.slice MA m mc) := by rw [hwa3]; go_simp
          have o1a3 : a3.cell? ⟨a2.heap.size, 1, none⟩ = some (.slice (some ⟨w3.heap.size, 0, none⟩) 1 1) := by rw [hwa3]; go_simp
          have hTa3 : (fun w' => w'.cell? ⟨w.heap.size, 0, none⟩ = some (.slice d.RA d.n d.rc) ∧ w'.cell? ⟨w.heap.size, 1, none⟩ = some (.slice d.SA d.m d.sc) ∧ w'.cell? ⟨w2.heap.size, 0, none⟩ = some (.int .i64 c) ∧ w'.cell? ⟨w2.heap.size, 1, none⟩ = some (.int .i64 t) ∧ w'.cell? ⟨w2.heap.size, 2, none⟩ = some (.int .i64 t)) a3 := ⟨cell_of hba3 y0, cell_of hba3 y1, cell_of hba3 t0, cell_of hba3 t1, cell_of hba3 t2⟩
          clear hwa3
          refine hK.out _ _ (fun _ => hTa3) ?_
          clear hK K
          (try simp only [Act.put, List.setIfInBounds_toArray, List.set_cons_zero, List.set_cons_succ])
          refine M_step 6 rfl (by kernel_rfl) (fun K hK => ?_)
          go_simp
          go_at_call 114
          refine (ConcatMark_any a2.heap.size MA m mc F ⟨w3.heap.size, 0, none⟩ 1 (c, t, t) _ (by omega) o0a3 o1a3 ((HM.out.up (D3.out.trans (hba3.mono D3.out.size)) (Nat.le_refl _)).more (D3.out.trans (hba3.mono D3.out.size)).size) hma3).mono ?_
          rintro e a4 ⟨cg, ccap, rfl, hcg, hcta4, hqa4⟩
          have hba4 := nextB hba3 hqa4
          have hSa4 := hSa3.up hqa4
          have hTa4 : (fun w' => w'.cell? ⟨w.heap.size, 0, none⟩ = some (.slice d.RA d.n d.rc) ∧ w'.cell? ⟨w.heap.size, 1, none⟩ = some (.slice d.SA d.m d.sc) ∧ w'.cell? ⟨w2.heap.size, 0, none⟩ = some (.int .i64 c) ∧ w'.cell? ⟨w2.heap.size, 1, none⟩ = some (.int .i64 t) ∧ w'.cell? ⟨w2.heap.size, 2, none⟩ = some (.int .i64 t)) a4 := ⟨cell_of hba4 y0, cell_of hba4 y1, cell_of hba4 t0, cell_of hba4 t1, cell_of hba4 t2⟩
          clear hcg
          refine hK.out _ _ (fun _ => hTa4) ?_
          clear hK K
          (try simp only [Act.put, List.setIfInBounds_toArray, List.set_cons_zero, List.set_cons_succ])
          refine M_step 7 rfl (by kernel_rfl) (fun K hK => ?_)
          go_simp
          have KRd := readings_any g d.n cap (gapF d) (some ⟨cg, 0, none⟩) (m + 1) ccap (catF m F fun _ => (c, t, t)) a4 hSa4 hcta4 (gpOk HD.out) (mkOk_cat (mkOk_of HK.out) HCT.out.1 HCT.out.2)
          go_at_call 112
          refine KRd.mono ?_
          rintro e a5 ⟨R, v, rfl, hqa5, hRa5⟩
          have hba5 := nextB hba4 hqa5
          have HRR := Lib.hid (Or.imp (fun (h : R = true ∧ _) => h) (fun h => h) hRa5)
          have DF := Lib.hid (D3.out.trans (hba5.mono D3.out.size))
          have hsz := hba4.size
          obtain ⟨vb, vr, vs, hvv⟩ : ∃ A q c, v = .slice A q c := by
            rcases hRa5 with ⟨_, t, T, h, _⟩ | ⟨_, h, _⟩ <;> exact ⟨_, _, _, h⟩
          subst hvv
          have hTa5 : (fun w' => w'.cell? ⟨w.heap.size, 0, none⟩ = some (.slice d.RA d.n d.rc) ∧ w'.cell? ⟨w.heap.size, 1, none⟩ = some (.slice d.SA d.m d.sc) ∧ w'.cell? ⟨w2.heap.size, 0, none⟩ = some (.int .i64 c) ∧ w'.cell? ⟨w2.heap.size, 1, none⟩ = some (.int .i64 t) ∧ w'.cell? ⟨w2.heap.size, 2, none⟩ = some (.int .i64 t)) a5 := ⟨cell_of hba5 y0, cell_of hba5 y1, cell_of hba5 t0, cell_of hba5 t1, cell_of hba5 t2⟩
          clear hRa5 KRd
          refine hK.out _ _ (fun _ => hTa5) ?_
          clear hK K
          (try simp only [Act.put, List.setIfInBounds_toArray, List.set_cons_zero, List.set_cons_succ])
          refine M_take (v := ?_) 8 rfl (by kernel_rfl) (by assumption) (fun _ _ _ h => h) (Or.inl ⟨by rfl, ?_⟩) ?_
          rotate_left
          · (intro w hSw; (try dsimp only at hSw); go_simp; (try with_reducible rfl))
          (try simp only [Act.put, List.setIfInBounds_toArray, List.set_cons_zero, List.set_cons_succ])
          refine M_take (v := ?_) 9 rfl (by kernel_rfl) (by assumption) (fun _ _ _ h => h) (Or.inl ⟨by rfl, ?_⟩) ?_
          rotate_left
          · (intro w hSw; (try dsimp only at hSw); go_simp; (try with_reducible rfl))
          (try simp only [Act.put, List.setIfInBounds_toArray, List.set_cons_zero, List.set_cons_succ])
          refine M_take (v := ?_) 10 rfl (by kernel_rfl) (by assumption) (fun _ _ _ h => h) (Or.inl ⟨by rfl, ?_⟩) ?_
          rotate_left
          · (intro w hSw; (try dsimp only at hSw); go_simp; (try with_reducible rfl))
          (try simp only [Act.put, List.setIfInBounds_toArray, List.set_cons_zero, List.set_cons_succ])
          refine M_step 11 rfl (by kernel_rfl) (fun K hK => ?_)
          go_simp
          refine hK.out _ _ (fun _ => by assumption) ?_
          clear hK K
          (try simp only [Act.put, List.setIfInBounds_toArray, List.set_cons_zero, List.set_cons_succ])
          refine M_step 12 rfl (by kernel_rfl) (fun K hK => ?_)
          go_simp
          refine hK.out _ _ (fun _ => by assumption) ?_
          clear hK K
          (try simp only [Act.put, List.setIfInBounds_toArray, List.set_cons_zero, List.set_cons_succ])
          refine M_done (by kernel_rfl) ?_ _
          rcases HRW.out with ⟨rfl, hno⟩ | ⟨rfl, hen⟩
          · obtain ⟨rfl, hvz⟩ : R = false ∧ Value.slice vb vr vs = .slice none 0 0 := by
              rcases HRR.out with ⟨_, t', T, _, _, _, h⟩ | ⟨h1, h2, _⟩
              · exact absurd h.lo (hno _)
              · exact ⟨h1, h2⟩
            clear HRR HRW hno
            cases hvz
            go_wp2_with fail
            exact bodyPost_ret (v := .tuple #[.slice none 0 0, .int .i64 3]) (by simp [results, Try.results95, go_sem]) rfl ⟨_, rfl, DF.out, .inl ⟨by omega, rfl⟩⟩
          · obtain ⟨rfl, t', hvz, ht', hSf⟩ : R = true ∧ ∃ t', Value.slice vb vr vs = .slice (some ⟨t', 0, none⟩) (d.n + 1) (d.n + 1) ∧ w.heap.size ≤ t' ∧ SpR t' (d.n + 1) S a5 := by
              rcases HRR.out with ⟨h0, t', T, h1, h2, h3, h⟩ | ⟨h1, h2, h3⟩
              · exact ⟨h0, t', h1, by have := D3.out.size; omega, h3.same fun i hi => h.same hen i (by omega)⟩
              · exact absurd hen.lo (h3 _)
            have HSf := Lib.hid hSf
            clear HRR HRW hen hSf
            cases hvz
            go_wp2_with fail
            exact bodyPost_ret (v := .tuple #[.slice (some ⟨t', 0, none⟩) (d.n + 1) (d.n + 1), .int .i64 0]) (by simp [results, Try.results95, go_sem]) rfl ⟨_, rfl, DF.out, .inr ⟨rfl, t', rfl, ht', HSf.out⟩⟩
        · go_simp
          obtain ⟨a2, hwa2⟩ : ∃ V : World, V = a1.alloc (.cells #[.slice MA m mc, .slice (some ⟨w3.heap.size, 0, none⟩) 1 1] 26) := ⟨_, rfl⟩
          try rw [← hwa2]
          have hqa2 : Below a1.heap.size a1 a2 := by rw [hwa2]; exact box1 _ _
          have hba2 := nextB hba1 hqa2
          have hma2 := (hma1.up hqa2 (Nat.le_refl _)).more hqa2.size
          have o0a2 : a2.cell? ⟨a1.heap.size, 0, none⟩ = some (.slice MA m mc) := by rw [hwa2]; go_simp
          have o1a2 : a2.cell? ⟨a1.heap.size, 1, none⟩ = some (.slice (some ⟨w3.heap.size, 0, none⟩) 1 1) := by rw [hwa2]; go_simp
          have hTa2 : (fun w' => w'.cell? ⟨w.heap.size, 0, none⟩ = some (.slice d.RA d.n d.rc) ∧ w'.cell? ⟨w.heap.size, 1, none⟩ = some (.slice d.SA d.m d.sc) ∧ w'.cell? ⟨w2.heap.size, 0, none⟩ = some (.int .i64 c) ∧ w'.cell? ⟨w2.heap.size, 1, none⟩ = some (.int .i64 t) ∧ w'.cell? ⟨w2.heap.size, 2, none⟩ = some (.int .i64 t)) a2 := ⟨cell_of hba2 y0, cell_of hba2 y1, cell_of hba2 t0, cell_of hba2 t1, cell_of hba2 t2⟩
          clear hwa2
          refine hK.out _ _ (fun _ => hTa2) ?_
          clear hK K
          (try simp only [Act.put, List.setIfInBounds_toArray, List.set_cons_zero, List.set_cons_succ])
          refine M_step 1 rfl (by kernel_rfl) (fun K hK => ?_)
          go_simp
          go_at_call 78
          refine (gapsOf_any d a2.drew ((HIN.out.up (D3.out.trans (hba2.mono D3.out.size)).drew (Nat.le_refl _)).more (D3.out.trans (hba2.mono D3.out.size)).drew.size) HD.out).mono ?_
          rintro e a3 ⟨g, cap, rfl, hg, hcap, hSa3, hq'⟩
          have hqa3 : Below a2.heap.size a2 a3 := by first | exact hq' | exact nextB (Below.refl _ _).drew hq'
          have hba3 := nextB hba2 hqa3
          have hma3 := (hma2.up hqa3 (Nat.le_refl _)).more hqa3.size
          have o0a3 := cell_of hqa3 o0a2
          have o1a3 := cell_of hqa3 o1a2
          have hTa3 : (fun w' => w'.cell? ⟨w.heap.size, 0, none⟩ = some (.slice d.RA d.n d.rc) ∧ w'.cell? ⟨w.heap.size, 1, none⟩ = some (.slice d.SA d.m d.sc) ∧ w'.cell? ⟨w2.heap.size, 0, none⟩ = some (.int .i64 c) ∧ w'.cell? ⟨w2.heap.size, 1, none⟩ = some (.int .i64 t) ∧ w'.cell? ⟨w2.heap.size, 2, none⟩ = some (.int .i64 t)) a3 := ⟨cell_of hba3 y0, cell_of hba3 y1, cell_of hba3 t0, cell_of hba3 t1, cell_of hba3 t2⟩
          clear hg hcap
          refine hK.out _ _ (fun _ => hTa3) ?_
          clear hK K
          (try simp only [Act.put, List.setIfInBounds_toArray, List.set_cons_zero, List.set_cons_succ])
          refine M_step 6 rfl (by kernel_rfl) (fun K hK => ?_)
          go_simp
          go_at_call 114
          refine (ConcatMark_any a1.heap.size MA m mc F ⟨w3.heap.size, 0, none⟩ 1 (c, t, t) _ (by omega) o0a3 o1a3 ((HM.out.up (D3.out.trans (hba3.mono D3.out.size)) (Nat.le_refl _)).more (D3.out.trans (hba3.mono D3.out.size)).size) hma3).mono ?_
          rintro e a4 ⟨cg, ccap, rfl, hcg, hcta4, hqa4⟩
          have hba4 := nextB hba3 hqa4
          have hSa4 := hSa3.up hqa4
          have hTa4 : (fun w' => w'.cell? ⟨w.heap.size, 0, none⟩ = some (.slice d.RA d.n d.rc) ∧ w'.cell? ⟨w.heap.size, 1, none⟩ = some (.slice d.SA d.m d.sc) ∧ w'.cell? ⟨w2.heap.size, 0, none⟩ = some (.int .i64 c) ∧ w'.cell? ⟨w2.heap.size, 1, none⟩ = some (.int .i64 t) ∧ w'.cell? ⟨w2.heap.size, 2, none⟩ = some (.int .i64 t)) a4 := ⟨cell_of hba4 y0, cell_of hba4 y1, cell_of hba4 t0, cell_of hba4 t1, cell_of hba4 t2⟩
          clear hcg
          refine hK.out _ _ (fun _ => hTa4) ?_
          clear hK K
          (try simp only [Act.put, List.setIfInBounds_toArray, List.set_cons_zero, List.set_cons_succ])
          refine M_step 7 rfl (by kernel_rfl) (fun K hK => ?_)
          go_simp
          have KRd := readings_any g d.n cap (gapF d) (some ⟨cg, 0, none⟩) (m + 1) ccap (catF m F fun _ => (c, t, t)) a4 hSa4 hcta4 (gpOk HD.out) (mkOk_cat (mkOk_of HK.out) HCT.out.1 HCT.out.2)
          go_at_call 112
          refine KRd.mono ?_
          rintro e a5 ⟨R, v, rfl, hqa5, hRa5⟩
          have hba5 := nextB hba4 hqa5
          have HRR := Lib.hid (Or.imp (fun (h : R = true ∧ _) => h) (fun h => h) hRa5)
          have DF := Lib.hid (D3.out.trans (hba5.mono D3.out.size))
          have hsz := hba4.size
          obtain ⟨vb, vr, vs, hvv⟩ : ∃ A q c, v = .slice A q c := by
            rcases hRa5 with ⟨_, t, T, h, _⟩ | ⟨_, h, _⟩ <;> exact ⟨_, _, _, h⟩
          subst hvv
          have hTa5 : (fun w' => w'.cell? ⟨w.heap.size, 0, none⟩ = some (.slice d.RA d.n d.rc) ∧ w'.cell? ⟨w.heap.size, 1, none⟩ = some (.slice d.SA d.m d.sc) ∧ w'.cell? ⟨w2.heap.size, 0, none⟩ = some (.int .i64 c) ∧ w'.cell? ⟨w2.heap.size, 1, none⟩ = some (.int .i64 t) ∧ w'.cell? ⟨w2.heap.size, 2, none⟩ = some (.int .i64 t)) a5 := ⟨cell_of hba5 y0, cell_of hba5 y1, cell_of hba5 t0, cell_of hba5 t1, cell_of hba5 t2⟩
          clear hRa5 KRd
          refine hK.out _ _ (fun _ => hTa5) ?_
          clear hK K
          (try simp only [Act.put, List.setIfInBounds_toArray, List.set_cons_zero, List.set_cons_succ])
          refine M_take (v := ?_) 8 rfl (by kernel_rfl) (by assumption) (fun _ _ _ h => h) (Or.inl ⟨by rfl, ?_⟩) ?_
          rotate_left
          · (intro w hSw; (try dsimp only at hSw); go_simp; (try with_reducible rfl))
          (try simp only [Act.put, List.setIfInBounds_toArray, List.set_cons_zero, List.set_cons_succ])
          refine M_take (v := ?_) 9 rfl (by kernel_rfl) (by assumption) (fun _ _ _ h => h) (Or.inl ⟨by rfl, ?_⟩) ?_
          rotate_left
          · (intro w hSw; (try dsimp only at hSw); go_simp; (try with_reducible rfl))
          (try simp only [Act.put, List.setIfInBounds_toArray, List.set_cons_zero, List.set_cons_succ])
          refine M_take (v := ?_) 10 rfl (by kernel_rfl) (by assumption) (fun _ _ _ h => h) (Or.inl ⟨by rfl, ?_⟩) ?_
          rotate_left
          · (intro w hSw; (try dsimp only at hSw); go_simp; (try with_reducible rfl))
          (try simp only [Act.put, List.setIfInBounds_toArray, List.set_cons_zero, List.set_cons_succ])
          refine M_step 11 rfl (by kernel_rfl) (fun K hK => ?_)
          go_simp
          refine hK.out _ _ (fun _ => by assumption) ?_
          clear hK K
          (try simp only [Act.put, List.setIfInBounds_toArray, List.set_cons_zero, List.set_cons_succ])
          refine M_step 12 rfl (by kernel_rfl) (fun K hK => ?_)
          go_simp
          refine hK.out _ _ (fun _ => by assumption) ?_
          clear hK K
          (try simp only [Act.put, List.setIfInBounds_toArray, List.set_cons_zero, List.set_cons_succ])
          refine M_done (by kernel_rfl) ?_ _
          rcases HRW.out with ⟨rfl, hno⟩ | ⟨rfl, hen⟩
          · obtain ⟨rfl, hvz⟩ : R = false ∧ Value.slice vb vr vs = .slice none 0 0 := by
              rcases HRR.out with ⟨_, t', T, _, _, _, h⟩ | ⟨h1, h2, _⟩
              · exact absurd h.lo (hno _)
              · exact ⟨h1, h2⟩
            clear HRR HRW hno
            cases hvz
            go_wp2_with fail
            exact bodyPost_ret (v := .tuple #[.slice none 0 0, .int .i64 3]) (by simp [results, Try.results95, go_sem]) rfl ⟨_, rfl, DF.out, .inl ⟨by omega, rfl⟩⟩
          · obtain ⟨rfl, t', hvz, ht', hSf⟩ : R = true ∧ ∃ t', Value.slice vb vr vs = .slice (some ⟨t', 0, none⟩) (d.n + 1) (d.n + 1) ∧ w.heap.size ≤ t' ∧ SpR t' (d.n + 1) S a5 := by
              rcases HRR.out with ⟨h0, t', T, h1, h2, h3, h⟩ | ⟨h1, h2, h3⟩
              · exact ⟨h0, t', h1, by have := D3.out.size; omega, h3.same fun i hi => h.same hen i (by omega)⟩
              · exact absurd hen.lo (h3 _)
            have HSf := Lib.hid hSf
            clear HRR HRW hen hSf
            cases hvz
            go_wp2_with fail
            exact bodyPost_ret (v := .tuple #[.slice (some ⟨t', 0, none⟩) (d.n + 1) (d.n + 1), .int .i64 0]) (by simp [results, Try.results95, go_sem]) rfl ⟨_, rfl, DF.out, .inr ⟨rfl, t', rfl, ht', HSf.out⟩⟩
    · obtain rfl : E = E1 := by
        rcases HEE.out with ⟨_, h⟩ | ⟨h, _⟩
        · exact h
        · exact absurd h hne
      have hn1 : (E != 0) = true := by simpa using hne
      clear HEE
      go_wp2_with fail
      exact bodyPost_ret (v := .tuple #[.slice none 0 0, .int .i64 E]) (by simp [results, Try.results95, go_sem]) rfl ⟨_, rfl, D2.out, .inl ⟨hne, rfl⟩⟩
end Go.Proofs.Ytpikaohodieeaaa
namespace Go.Proofs.Ytpikaohodieeaaa
open Go.RowKit
set_option linter.unusedSimpArgs false
set_option linter.unusedVariables false
theorem rwR_n {d : Drm} {m : Nat} {F : Nat → Int × Int × Int} {c t E : Int} {S : Nat → Int × Int} (h : RwR d m F c t E S) : E = 0 → d.n ≤ 200 := fun h0 => by
  rcases h with ⟨h1, _⟩ | ⟨h1, _⟩
  · exact absurd h0 h1
  · have := h1.n2; omega
set_option maxRecDepth 100000 in
set_option maxHeartbeats 2000000 in
theorem With_any (d : Drm) (MA : Option Addr) (m mc : Nat) (F : Nat → Int × Int × Int) (c t : Int) (E : Int) (S : Nat → Int × Int) (w : World) (hin : DrIn d w.heap.size w) (hm : TrsIn MA m F w.heap.size w) (hE : RwR d m F c t E S) :
    Calls Try.prog 44 #[d.v, .slice MA m mc, .int .i64 c, .int .i64 t] w fun e w' => IvP w d.n E (fun i => (S i).1) e w' := by
  obtain ⟨w1, hw1⟩ : ∃ w1 : World, w1 = w.alloc (drO d) := ⟨_, rfl⟩
  have B1 : Below w.heap.size w w1 := by rw [hw1]; exact box1 _ _
  have P1 : HasDr d w.heap.size w1 := by rw [hw1]; exact dr_new w d
  have HB := Lib.hid B1
  have K := Lib.hid (readWith_any d MA m mc F c t E S w1 ((hin.up B1 (Nat.le_refl _)).more B1.size) ((hm.up B1 (Nat.le_refl _)).more B1.size) hE)
  have hn := rwR_n hE
  obtain ⟨x0, x1⟩ := P1
  clear hin hm B1 hE
  go_enter Try.func44, Try.ntmps44
  go_wp2_with fail
  rw [← hw1]
  refine K.out.mono ?_
  rintro e w2 ⟨v, rfl, hb2, hv⟩
  have D2 := Lib.hid (nextB HB.out hb2)
  clear hb2 hw1 x0 x1
  rcases hv with ⟨hne, rfl⟩ | ⟨rfl, t', rfl, ht, hS⟩
  · go_wp2_with fail
    refine (firsts_any none 0 0 S w2 (sps_nil _ _ _) (by omega)).mono ?_
    rintro e w3 ⟨A, c', rfl, hi, hb3⟩
    have D3 := Lib.hid (nextB D2.out hb3)
    have HI := Lib.hid hi
    clear hi hb3
    go_wp2_with fail
    go_ret2
    exact ⟨A, 0, c', by simp, by rw [if_neg hne], HI.out, D3.out⟩
  · have hn' := hn rfl
    have HS := Lib.hid hS
    clear hS hn
    go_wp2_with fail
    refine (firsts_any (some ⟨t', 0, none⟩) (d.n + 1) (d.n + 1) S w2 (HS.out.sps (by omega)) (by omega)).mono ?_
    rintro e w3 ⟨A, c', rfl, hi, hb3⟩
    have D3 := Lib.hid (nextB D2.out hb3)
    have HI := Lib.hid hi
    clear hi hb3
    go_wp2_with fail
    go_ret2
    exact ⟨A, d.n + 1, c', by simp, by rw [if_pos rfl], HI.out, D3.out⟩
set_option maxRecDepth 100000 in
set_option maxHeartbeats 2000000 in
theorem Run_any (d : Drm) (MA : Option Addr) (m mc : Nat) (F : Nat → Int × Int × Int) (t : Int) (E : Int) (S : Nat → Int × Int) (w : World) (hin : DrIn d w.heap.size w) (hm : TrsIn MA m F w.heap.size w) (hE : RwR d m F 0 t E S) :
    Calls Try.prog 50 #[d.v, .slice MA m mc, .int .i64 t] w fun e w' => ∃ v, e = .returned (.tuple #[v, .int .i64 E]) ∧ RdV d.n E S v w w' := by
  obtain ⟨w1, hw1⟩ : ∃ w1 : World, w1 = w.alloc (drO d) := ⟨_, rfl⟩
  have B1 : Below w.heap.size w w1 := by rw [hw1]; exact box1 _ _
  have P1 : HasDr d w.heap.size w1 := by rw [hw1]; exact dr_new w d
  have HB := Lib.hid B1
  have K := Lib.hid (readWith_any d MA m mc F 0 t E S w1 ((hin.up B1 (Nat.le_refl _)).more B1.size) ((hm.up B1 (Nat.le_refl _)).more B1.size) hE)
  obtain ⟨x0, x1⟩ := P1
  clear hin hm B1 hE
  go_enter Try.func50, Try.ntmps50
  go_wp2_with fail
  rw [← hw1]
  refine K.out.mono ?_
  rintro e w2 ⟨v, rfl, hb2, hv⟩
  have D2 := Lib.hid (nextB HB.out hb2)
  have hs := HB.out.size
  clear hb2 hw1 x0 x1
  rcases hv with ⟨hne, rfl⟩ | ⟨rfl, t', rfl, ht, hS⟩
  · go_wp2_with fail
    go_ret2
    exact ⟨_, by simp, D2.out, .inl ⟨hne, rfl⟩⟩
  · have HS := Lib.hid hS
    clear hS
    go_wp2_with fail
    go_ret2
    exact ⟨_, by simp, D2.out, .inr ⟨rfl, t', rfl, by omega, HS.out⟩⟩
end Go.Proofs.Ytpikaohodieeaaa
