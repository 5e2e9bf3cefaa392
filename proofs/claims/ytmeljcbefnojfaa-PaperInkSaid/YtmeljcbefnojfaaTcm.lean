import Derived.Test.YtmeljcbefnojfaaIkm
import Derived.Test.YtmeljcbefnojfaaPlc
import Derived.Test.YtmeljcbefnojfaaIkf
import Derived.Deep.DeepCutAuto
namespace Go.Proofs.Ytmeljcbefnojfaa
open Go.RowKit
theorem srt_two {L : List (Int × Int)} (hL : Srt L) {r s : Int × Int} (hr : r ∈ L) (hs : s ∈ L) : r = s ∨ r.2 + 2 ≤ s.1 ∨ s.2 + 2 ≤ r.1 := by
  obtain ⟨i, hi, rfl⟩ := List.mem_iff_getElem.1 hr
  obtain ⟨j, hj, rfl⟩ := List.mem_iff_getElem.1 hs
  have h := List.pairwise_iff_getElem.1 hL.2
  rcases Nat.lt_trichotomy i j with c | c | c
  · exact .inr (.inl (h i j hi hj c))
  · subst c; exact .inl rfl
  · exact .inr (.inr (h j i hj hi c))
/-- a span of which all is held lies in one span -/
theorem srt_inside {L : List (Int × Int)} (hL : Srt L) {q : Int × Int} (hq : q.1 ≤ q.2) (h : ∀ t, q.1 ≤ t → t ≤ q.2 → Has L t) : ∃ r ∈ L, r.1 ≤ q.1 ∧ q.2 ≤ r.2 := by
  obtain ⟨r, hr, h1, h2⟩ := h q.1 (Int.le_refl _) hq
  refine ⟨r, hr, h1, ?_⟩
  by_cases hc : q.2 ≤ r.2
  · exact hc
  · obtain ⟨s, hs, h3, h4⟩ := h (r.2 + 1) (by omega) (by omega)
    rcases srt_two hL hr hs with rfl | e | e <;> omega
/-- what a point means in a column, joined or not -/
theorem means_levH {p : Pap} {t : Pt} {c : Int} {L : List (Int × Int)} (h : p.Ok) (ht : t.Ok) (hL : HtsL p t c L) (x : Int) : Has (meansOf p L) x ↔ Has (levH p L) x := by
  have hb := hts_bd h ht hL
  match L, hb with
  | [], _ => rfl
  | [a], _ => rfl
  | [a, b], hb =>
    have h1 := hb.1 0 a rfl
    have h2 := hb.1 1 b rfl
    have h3 := hb.2.1 a b rfl rfl
    have l1 := lev_mono h h1.2.1
    have l2 := lev_mono h h2.2.1
    have l3 := lev_mono h (Int.le_of_lt h3)
    have e1 : meansOf p [a, b] = addL [(lev p a.1, lev p a.2)] (lev p b.1, lev p b.2) := rfl
    have e2 : levH p [a, b] = [(lev p a.1, lev p a.2), (lev p b.1, lev p b.2)] := rfl
    rw [e1, e2]
    unfold addL
    simp only
    split
    · simp only [Has.cons]
      have e3 : ¬ Has [] x := by simp [Has]
      simp only [e3, or_false]
      omega
    · exact Iff.rfl
  | a :: b :: c :: l, hb => have := hb.2.2; simp only [List.length_cons] at this; omega
end Go.Proofs.Ytmeljcbefnojfaa
namespace Go.Proofs.Ytmeljcbefnojfaa
open Go.RowKit
attribute [local go_sem] Oper.semAt_some
set_option maxHeartbeats 400000 in
theorem in_t (a b c d : Int) (w : World) (h : c ≤ a ∧ b ≤ d) :
    Calls Try.prog 65 #[.agg #[.int .i64 a, .int .i64 b], .agg #[.int .i64 c, .int .i64 d]] w fun e w' => e = .returned (.bool true) ∧ Below w.heap.size w w' := by
  obtain ⟨h1, h2⟩ := h
  have d1 : decide (c ≤ a) = true := by simpa using h1
  have d2 : decide (b ≤ d) = true := by simpa using h2
  go_enter Try.func65, Try.ntmps65
  go_wp2_with fail
  go_ret
  exact ⟨rfl, box2 _ _ _⟩
set_option maxHeartbeats 400000 in
theorem in_f (a b c d : Int) (w : World) (h : ¬ (c ≤ a ∧ b ≤ d)) :
    Calls Try.prog 65 #[.agg #[.int .i64 a, .int .i64 b], .agg #[.int .i64 c, .int .i64 d]] w fun e w' => e = .returned (.bool false) ∧ Below w.heap.size w w' := by
  by_cases h1 : c ≤ a
  · have h2 : ¬ b ≤ d := fun h2 => h ⟨h1, h2⟩
    have d1 : decide (c ≤ a) = true := by simpa using h1
    have d2 : decide (b ≤ d) = false := by simpa using h2
    clear h h2
    go_enter Try.func65, Try.ntmps65
    go_wp2_with fail
    go_ret
    exact ⟨rfl, box2 _ _ _⟩
  · have d1 : decide (c ≤ a) = false := by simpa using h1
    clear h h1
    go_enter Try.func65, Try.ntmps65
    go_wp2_with fail
    go_ret
    exact ⟨rfl, box2 _ _ _⟩
/-- the walk along a span: where it stands, whether it went on -/
structure AtI (x : Cls) (i k : Nat) (a0 a : Int) (b : Bool) : Prop where
  lo : a0 ≤ a ∧ a ≤ 100000001
  no : b = false → a = a0
  yes : b = true → a0 < a
  all : b = false → ∀ i' k', (i' < i ∨ i' = i ∧ k' < k) → k' < x.L i' → ¬ ((x.S i' k').1 ≤ a0 ∧ a0 ≤ (x.S i' k').2)
set_option maxRecDepth 100000 in
set_option maxHeartbeats 8000000 in
theorem joined_law (A B : Option Addr) (n c m d : Nat) (S : Nat → Int × Int) (x : Cls) (w : World) (hA : SpsIn A n S w.heap.size w) (hB : ClsIn B m x w.heap.size w)
    (h1 : ∀ i, i < m → ∀ k, k < x.L i → ∃ j, j < n ∧ (S j).1 ≤ (x.S i k).1 ∧ (x.S i k).2 ≤ (S j).2)
    (h2 : ∀ j, j < n → ∀ t, (S j).1 ≤ t → t ≤ (S j).2 → ∃ i, i < m ∧ ∃ k, k < x.L i ∧ (x.S i k).1 ≤ t ∧ t ≤ (x.S i k).2)
    (h3 : ∀ i, i < m → ∀ k, k < x.L i → 0 ≤ (x.S i k).2 ∧ (x.S i k).2 ≤ 100000000) (h4 : ∀ j, j < n → 0 ≤ (S j).1 ∧ (S j).1 ≤ (S j).2 ∧ (S j).2 ≤ 100000000) :
    Calls Try.prog 66 #[.slice A n c, .slice B m d] w fun e w' => e = .returned (.bool true) ∧ Below w.heap.size w w' := by
  have hn := hA.1
  have hm := hB.1
  have HA := Lib.hid hA
  have HB := Lib.hid hB
  have H1 := Lib.hid h1
  have H2 := Lib.hid h2
  have H3 := Lib.hid h3
  have H4 := Lib.hid h4
  clear hA hB h1 h2 h3 h4
  go_enter Try.func66, Try.ntmps66
  go_wp2_with fail
  go_loopw [5, 6, 7, 8] (fun i _ _ _ wr => ∃ k : Nat, k ≤ m ∧ i = .int .i64 k ∧ Below w.heap.size w wr) (fun i _ _ _ _ => m - (intOf i).toNat)
  case atStart => exact ⟨0, Nat.zero_le _, rfl, Below.refl _ _⟩
  case round =>
    obtain ⟨i, hi, rfl, hW⟩ := hrel
    obtain ⟨wo, rfl⟩ : ∃ wo : World, wo = wr := ⟨_, rfl⟩
    have hi0 : (0 : Int) ≤ (i : Int) := by omega
    by_cases hlt : i < m
    · obtain ⟨b, rfl, bb, b0, bs⟩ := (HB.out.up hW (Nat.le_refl _)).2 i hlt
      have hil : (i : Int) < (m : Int) := by omega
      have hLm := bs.1
      have HBS := Lib.hid bs
      have HW := Lib.hid hW
      have hsz := hW.size
      clear bs hW
      go_wp2_with fail
      go_loopw [6, 7, 8] (fun k _ _ wr => ∃ k' : Nat, k' ≤ x.L i ∧ k = .int .i64 k' ∧ Below wo.heap.size wo wr) (fun k _ _ _ => x.L i - (intOf k).toNat)
      case atStart => exact ⟨0, Nat.zero_le _, rfl, Below.refl _ _⟩
      case round =>
        obtain ⟨k, hk, rfl, hW2⟩ := hrel
        obtain ⟨wp, rfl⟩ : ∃ wp : World, wp = wr := ⟨_, rfl⟩
        have hk0 : (0 : Int) ≤ (k : Int) := by omega
        have hsz2 := hW2.size
        have bl2 : (b.add i).block < wp.heap.size := by rw [add_block]; omega
        have b0' := (hW2.cell (p := b.add i) (by rw [add_block]; omega)).trans b0
        by_cases hkl : k < x.L i
        · obtain ⟨a, ea, al, a0, a1⟩ := (HBS.out.up hW2 (by omega)).2 k hkl
          have hkL : (k : Int) < (x.L i : Int) := by omega
          have HW2 := Lib.hid hW2
          clear hW2
          rw [ea] at b0'
          go_wp2_with fail
          go_loopw [7, 8] (fun g j wr => ∃ (G : Bool) (j' : Nat), j' ≤ n ∧ g = .bool G ∧ j = .int .i64 j' ∧ Below wp.heap.size wp wr ∧ (G = false → ∀ q, q < j' → ¬ ((S q).1 ≤ (x.S i k).1 ∧ (x.S i k).2 ≤ (S q).2))) (fun _ j _ => n - (intOf j).toNat)
          case atStart => exact ⟨false, 0, Nat.zero_le _, rfl, rfl, Below.refl _ _, fun _ q hq => absurd hq (by omega)⟩
          case round =>
            obtain ⟨G, j, hj, rfl, rfl, hW3, hG⟩ := hrel
            obtain ⟨wq, rfl⟩ : ∃ wq : World, wq = wr := ⟨_, rfl⟩
            have hj0 : (0 : Int) ≤ (j : Int) := by omega
            have hsz3 := hW3.size
            have HG := Lib.hid hG
            clear hG
            have c0 := (hW3.cell (p := b.add i) bl2).trans b0'
            have c1 := (hW3.cell (p := a.add (k * 2)) (by rw [add_block]; omega)).trans a0
            have c2 := (hW3.cell (p := ⟨(a.add (k * 2)).block, (a.add (k * 2)).off + 1, none⟩) (by simp only [add_block]; omega)).trans a1
            by_cases hjl : j < n
            · obtain ⟨s, rfl, sl, s0, s1⟩ := (HA.out.up ((HW.out.trans (HW2.out.mono hsz)).trans (hW3.mono (by omega))) (Nat.le_refl _)).2 j hjl
              have hjL : (j : Int) < (n : Int) := by omega
              have HW3 := Lib.hid hW3
              clear hW3
              cases G with
              | true =>
                go_wp2_with fail
                go_quiet (fail)
                go_wp2_with fail
                go_roundw
                case rel => exact ⟨true, j + 1, by omega, rfl, by go_num, (by first | exact HW3.out.drew | exact below_drewN HW3.out _), fun e => by cases e⟩
                case measure => simp [intOf]; omega
              | false =>
                by_cases hin : (S j).1 ≤ (x.S i k).1 ∧ (x.S i k).2 ≤ (S j).2
                · have K : Hid (∀ W, Calls Try.prog 65 #[.agg #[.int .i64 (x.S i k).1, .int .i64 (x.S i k).2], .agg #[.int .i64 (S j).1, .int .i64 (S j).2]] W fun e w' => e = .returned (.bool true) ∧ Below W.heap.size W w') := Lib.hid fun W => in_t _ _ _ _ W hin
                  clear hin
                  go_wp2_with fail
                  refine still_tail 13 (by kernel_rfl) (by kernel_rfl) ?_
                  simp only [List.take_succ_cons, List.take_zero, List.drop_succ_cons, List.drop_zero]
                  repeat still_step
                  refine wpStill_nil ?_
                  go_wp2_with fail
                  refine (K.out _).mono ?_
                  rintro e w4 ⟨rfl, hb4⟩
                  have hB4 : Below wp.heap.size wp w4 := HW3.out.drew.trans (hb4.mono (by simp only [World.size_drew]; omega))
                  go_wp2_with fail
                  go_roundw
                  case rel => exact ⟨true, j + 1, by omega, rfl, by go_num, hB4, fun e => by cases e⟩
                  case measure => simp [intOf]; omega
                · have K : Hid (∀ W, Calls Try.prog 65 #[.agg #[.int .i64 (x.S i k).1, .int .i64 (x.S i k).2], .agg #[.int .i64 (S j).1, .int .i64 (S j).2]] W fun e w' => e = .returned (.bool false) ∧ Below W.heap.size W w') := Lib.hid fun W => in_f _ _ _ _ W hin
                  have HIN : Hid (∀ q, q < j + 1 → ¬ ((S q).1 ≤ (x.S i k).1 ∧ (x.S i k).2 ≤ (S q).2)) := Lib.hid fun q hq => (Nat.lt_succ_iff_lt_or_eq.1 hq).elim (HG.out rfl q) (fun e => e ▸ hin)
                  clear hin
                  go_wp2_with fail
                  refine still_tail 13 (by kernel_rfl) (by kernel_rfl) ?_
                  simp only [List.take_succ_cons, List.take_zero, List.drop_succ_cons, List.drop_zero]
                  repeat still_step
                  refine wpStill_nil ?_
                  go_wp2_with fail
                  refine (K.out _).mono ?_
                  rintro e w4 ⟨rfl, hb4⟩
                  have hB4 : Below wp.heap.size wp w4 := HW3.out.drew.trans (hb4.mono (by simp only [World.size_drew]; omega))
                  go_wp2_with fail
                  go_roundw
                  case rel => exact ⟨false, j + 1, by omega, rfl, by go_num, hB4, fun _ => HIN.out⟩
                  case measure => simp [intOf]; omega
            · have hjL : (n : Int) ≤ (j : Int) := by omega
              obtain rfl : j = n := by omega
              obtain rfl : G = true := by
                cases G with
                | true => rfl
                | false =>
                  obtain ⟨q, q1, q2⟩ := H1.out i hlt k hkl
                  exact absurd q2 (HG.out rfl q q1)
              have HW3 := Lib.hid hW3
              clear hW3
              go_wp2_with fail
              go_roundw
              case rel => exact ⟨k + 1, by omega, by go_num, HW2.out.trans (HW3.out.mono hsz2)⟩
              case measure => simp [intOf]; omega
        · have hkL : (x.L i : Int) ≤ (k : Int) := by omega
          have HW2 := Lib.hid hW2
          clear hW2
          go_wp2_with fail
          go_roundw
          case rel => exact ⟨i + 1, by omega, by go_num, HW.out.trans (HW2.out.mono hsz)⟩
          case measure => simp [intOf]; omega
    · have hil : (m : Int) ≤ (i : Int) := by omega
      have HW := Lib.hid hW
      have hsz := hW.size
      clear hW
      go_wp2_with fail
      go_loopw [9, 10, 11, 12, 13] (fun j _ _ _ _ wr => ∃ j' : Nat, j' ≤ n ∧ j = .int .i64 j' ∧ wr = wo) (fun j _ _ _ _ _ => n - (intOf j).toNat)
      case atStart => exact ⟨0, Nat.zero_le _, rfl, rfl⟩
      case round =>
        obtain ⟨j, hj, rfl, rfl⟩ := hrel
        have hj0 : (0 : Int) ≤ (j : Int) := by omega
        by_cases hjl : j < n
        · obtain ⟨s, rfl, sl, s0, s1⟩ := (HA.out.up HW.out (Nat.le_refl _)).2 j hjl
          have hjL : (j : Int) < (n : Int) := by omega
          have h4 := H4.out j hjl
          go_wp2_with fail
          go_loopw [10, 11, 12, 13] (fun a g _ _ w' => ∃ (a' : Int) (G : Bool), a = .int .i64 a' ∧ g = .bool G ∧ (S j).1 ≤ a' ∧ a' ≤ 100000001 ∧ (G = false → (S j).2 < a') ∧ w' = wr) (fun a g _ _ _ => ((S j).2 + 1 - intOf a).toNat)
          case atStart => exact ⟨(S j).1, true, rfl, rfl, Int.le_refl _, by omega, fun e => (by cases e), (by first | rfl | trivial)⟩
          case round =>
            obtain ⟨a, G, rfl, rfl, ha1, ha2, haG, rfl⟩ := hrel
            by_cases hgo : a ≤ (S j).2
            · obtain rfl : G = true := by
                cases G with
                | true => rfl
                | false => have := haG rfl; omega
              have dgo : decide (a ≤ (S j).2) = true := by simpa using hgo
              clear haG
              go_wp2_with fail
              go_loopw [10, 11, 12, 13] (fun a' g i' _ w' => ∃ (z : Int) (G : Bool) (i : Nat), a' = .int .i64 z ∧ g = .bool G ∧ i' = .int .i64 i ∧ i ≤ m ∧ AtI x i 0 a z G ∧ w' = wr) (fun _ _ i' _ _ => m - (intOf i').toNat)
              case atStart => exact ⟨a, false, 0, rfl, rfl, rfl, Nat.zero_le _, ⟨⟨Int.le_refl _, ha2⟩, fun _ => rfl, fun e => (by cases e), fun _ i' k' h _ => absurd h (by omega)⟩, rfl⟩
              case round =>
                obtain ⟨z, G, i2, rfl, rfl, rfl, hi2, hAt, rfl⟩ := hrel
                have hi20 : (0 : Int) ≤ (i2 : Int) := by omega
                have HAt := Lib.hid hAt
                clear hAt
                by_cases hil2 : i2 < m
                · obtain ⟨b, rfl, bb, b0, bs⟩ := (HB.out.up HW.out (Nat.le_refl _)).2 i2 hil2
                  have hiL2 : (i2 : Int) < (m : Int) := by omega
                  have hLm := bs.1
                  have HBS := Lib.hid bs
                  clear bs
                  go_wp2_with fail
                  go_loopw [10, 11, 13] (fun a' g k' w' => ∃ (z : Int) (G : Bool) (k : Nat), a' = .int .i64 z ∧ g = .bool G ∧ k' = .int .i64 k ∧ k ≤ x.L i2 ∧ AtI x i2 k a z G ∧ w' = wr) (fun _ _ k' _ => x.L i2 - (intOf k').toNat)
                  case atStart => exact ⟨z, G, 0, rfl, rfl, rfl, Nat.zero_le _, HAt.out, rfl⟩
                  case round =>
                    obtain ⟨z, G, k, rfl, rfl, rfl, hk, hAt, rfl⟩ := hrel
                    have hk0 : (0 : Int) ≤ (k : Int) := by omega
                    have hzb := hAt.lo
                    have HAt := Lib.hid hAt
                    clear hAt
                    by_cases hkl : k < x.L i2
                    · obtain ⟨q, eq, ql, q0, q1⟩ := HBS.out.2 k hkl
                      have hkL : (k : Int) < (x.L i2 : Int) := by omega
                      have h3 := H3.out i2 hil2 k hkl
                      rw [eq] at b0
                      by_cases t1 : (x.S i2 k).1 ≤ z
                      · have d1 : decide ((x.S i2 k).1 ≤ z) = true := by simpa using t1
                        by_cases t2 : z ≤ (x.S i2 k).2
                        · have d2 : decide (z ≤ (x.S i2 k).2) = true := by simpa using t2
                          have wr1 : IntKind.i64.wrap ((x.S i2 k).2 + 1) = (x.S i2 k).2 + 1 := IntWalk.i64_in _ (by omega)
                          have HN : Hid (AtI x i2 (k + 1) a ((x.S i2 k).2 + 1) true) := Lib.hid ⟨by have := HAt.out.lo; omega, (fun e => by cases e), fun _ => by have := HAt.out.lo; omega, fun e => by cases e⟩
                          clear t1 t2
                          go_wp2_with fail
                          go_roundw
                          case rel => exact ⟨_, true, k + 1, rfl, rfl, by go_num, by omega, HN.out, (by first | rfl | trivial)⟩
                          case measure => simp [intOf]; omega
                        · have d2 : decide (z ≤ (x.S i2 k).2) = false := by simpa using t2
                          have HN : Hid (AtI x i2 (k + 1) a z G) := Lib.hid ⟨HAt.out.lo, HAt.out.no, HAt.out.yes, fun e i' k' h hL => by
                            have e1 := HAt.out.no e
                            by_cases hx : i' = i2 ∧ k' = k
                            · obtain ⟨rfl, rfl⟩ := hx; subst e1; intro g; exact t2 g.2
                            · exact HAt.out.all e i' k' (by omega) hL⟩
                          clear t1 t2
                          go_wp2_with fail
                          go_roundw
                          case rel => exact ⟨_, G, k + 1, rfl, rfl, by go_num, by omega, HN.out, (by first | rfl | trivial)⟩
                          case measure => simp [intOf]; omega
                      · have d1 : decide ((x.S i2 k).1 ≤ z) = false := by simpa using t1
                        have HN : Hid (AtI x i2 (k + 1) a z G) := Lib.hid ⟨HAt.out.lo, HAt.out.no, HAt.out.yes, fun e i' k' h hL => by
                          have e1 := HAt.out.no e
                          by_cases hx : i' = i2 ∧ k' = k
                          · obtain ⟨rfl, rfl⟩ := hx; subst e1; intro g; exact t1 g.1
                          · exact HAt.out.all e i' k' (by omega) hL⟩
                        clear t1
                        go_wp2_with fail
                        go_roundw
                        case rel => exact ⟨_, G, k + 1, rfl, rfl, by go_num, by omega, HN.out, (by first | rfl | trivial)⟩
                        case measure => simp [intOf]; omega
                    · have hkL : (x.L i2 : Int) ≤ (k : Int) := by omega
                      have HN : Hid (AtI x (i2 + 1) 0 a z G) := Lib.hid ⟨HAt.out.lo, HAt.out.no, HAt.out.yes, fun e i' k' h hL => by
                        by_cases hx : i' = i2
                        · subst hx; exact HAt.out.all e i' k' (by omega) hL
                        · exact HAt.out.all e i' k' (by omega) hL⟩
                      go_wp2_with fail
                      go_roundw
                      case rel => exact ⟨_, G, i2 + 1, rfl, rfl, by go_num, by omega, HN.out, (by first | rfl | trivial)⟩
                      case measure => simp [intOf]; omega
                · have hiL2 : (m : Int) ≤ (i2 : Int) := by omega
                  obtain rfl : G = true := by
                    cases G with
                    | true => rfl
                    | false =>
                      obtain ⟨i', e1, k', e2, e3⟩ := H2.out j hjl a ha1 hgo
                      exact absurd e3 (HAt.out.all rfl i' k' (.inl (by omega)) e2)
                  have hy := HAt.out.yes rfl
                  have hzb := HAt.out.lo
                  go_wp2_with fail
                  go_roundw
                  case rel => exact ⟨z, true, rfl, rfl, by omega, by omega, fun e => (by cases e), (by first | rfl | trivial)⟩
                  case measure => simp [intOf]; omega
            · have dgo : decide (a ≤ (S j).2) = false := by simpa using hgo
              cases G with
              | true =>
                go_wp2_with fail
                go_roundw
                case rel => exact ⟨j + 1, by omega, by go_num, (by first | rfl | trivial)⟩
                case measure => simp [intOf]; omega
              | false =>
                go_wp2_with fail
                go_roundw
                case rel => exact ⟨j + 1, by omega, by go_num, (by first | rfl | trivial)⟩
                case measure => simp [intOf]; omega
        · have hjL : (n : Int) ≤ (j : Int) := by omega
          go_wp2_with fail
          go_ret
          exact ⟨rfl, HW.out⟩
end Go.Proofs.Ytmeljcbefnojfaa
namespace Go.Proofs.Ytmeljcbefnojfaa
open Go.RowKit Go.ChangeShapes Go.WideShapes Go.ChangeAt Go.Deep
theorem newV (W : World) (u : Value) (t : TypeId) : ∀ j u', ([u] : List Value)[j]? = some u' → (W.alloc (.cells #[u] t)).cell? ((⟨W.heap.size, 0, none⟩ : Addr).add j) = some u' := by
  intro j u' hj
  match j with
  | 0 => cases hj; unfold Addr.add; rw [if_pos rfl]; go_simp
  | j + 1 => simp at hj
theorem RowOf.keep {B : Nat} {W W' : World} {v : Value} {l : List (Int × Int)} (h : RowOf B W v l) (hb : ∀ (g : Nat) (c : Array Value) (f : Nat × Nat), W.heap[g]? = some (Obj.cells c 23 f) → W'.heap[g]? = W.heap[g]?) : RowOf B W' v l := by
  rcases h with h | ⟨h0, g, cap, e, ho⟩
  · exact .inl h
  · refine .inr ⟨h0, g, cap, e, ?_⟩
    obtain ⟨o1, o2 | ⟨g', cap', cur, e1, e2, e3, e4⟩⟩ := ho
    · exact ⟨o1, .inl o2⟩
    · exact ⟨o1, .inr ⟨g', cap', cur, e1, e2, (hb g' _ _ e3).trans e3, e4⟩⟩
theorem RowOf.up {B : Nat} {W W' : World} {v : Value} {l : List (Int × Int)} (h : RowOf B W v l) (hb : Below W.heap.size W W') : RowOf B W' v l :=
  h.keep fun g _ _ hg => hb.block g (Array.getElem?_eq_some_iff.1 hg).1
theorem RowOf.mono {B C : Nat} {W : World} {v : Value} {l : List (Int × Int)} (h : RowOf B W v l) (hC : C ≤ B) : RowOf C W v l := by
  rcases h with h | ⟨h0, g, cap, e, ho⟩
  · exact .inl h
  · exact .inr ⟨h0, g, cap, e, ownsRow_base hC ho⟩
/-- rows of spans, in a row of their own -/
structure PartsI (w0 : World) (ls : List (List (Int × Int))) (v : Value) (wr : World) : Prop where
  below : Below w0.heap.size w0 wr
  own : ∃ xs : List Value, wr.ownsRow w0.heap.size 52 1 v ls.length xs ∧ ∀ (i : Nat) (l : List (Int × Int)), ls[i]? = some l → ∃ u, xs[i]? = some u ∧ RowOf w0.heap.size wr u l
theorem PartsI.nil {w0 wr : World} (hb : Below w0.heap.size w0 wr) : PartsI w0 [] (.slice none 0 0) wr := ⟨hb, [], World.ownsRow_nil _ _ _ 1, fun i l h => by simp at h⟩
theorem PartsI.up {w0 wr w' : World} {ls : List (List (Int × Int))} {v : Value} (h : PartsI w0 ls v wr) (hb : Below wr.heap.size wr w') : PartsI w0 ls v w' := by
  obtain ⟨h1, xs, h2, h3⟩ := h
  refine ⟨h1.trans (hb.mono h1.size), xs, own_keep h2 hb, fun i l hl => ?_⟩
  obtain ⟨u, e, hr⟩ := h3 i l hl
  exact ⟨u, e, hr.up hb⟩
theorem PartsI.app {w0 wr w1 : World} {ls : List (List (Int × Int))} {l : List (Int × Int)} {v v' u : Value} {o : Obj} {xs : List Value} (h1 : Below w0.heap.size w0 wr) (h2 : wr.ownsRow w0.heap.size 52 1 v ls.length xs)
    (h3 : ∀ (i : Nat) (l : List (Int × Int)), ls[i]? = some l → ∃ u, xs[i]? = some u ∧ RowOf w0.heap.size wr u l) (hu : RowOf w0.heap.size wr u l) (hg : (wr.alloc o).grownBy w1 v.ownBlock)
    (h' : w1.ownsRow w0.heap.size 52 1 v' (ls.length + 1) (xs ++ [u])) : PartsI w0 (ls ++ [l]) v' w1 := by
  have hs := h1.size
  have keep : ∀ {v0 : Value} {l0 : List (Int × Int)}, RowOf w0.heap.size wr v0 l0 → RowOf w0.heap.size w1 v0 l0 := fun hr => hr.keep fun g c f hgc => by
    have hgl := (Array.getElem?_eq_some_iff.1 hgc).1
    refine (hg.block g (by simp only [World.size_alloc]; omega) fun e => ?_).trans (Below.heap_alloc _ _ _ hgl)
    obtain ⟨_, hx | ⟨g', cap, cur, e1, e3, e4, _⟩⟩ := h2
    · rw [hx.1] at e; cases e
    · rw [e1] at e
      simp [Value.ownBlock] at e
      subst e
      rw [e4] at hgc
      simp at hgc
  refine ⟨?_, xs ++ [u], by rw [List.length_append]; exact h', fun i l' hl => ?_⟩
  · refine (h1.alloc h1.size o).grown hg (by simp only [World.size_alloc]; omega) (fun r e => ?_)
    obtain ⟨_, hx | ⟨g, cap, cur, e1, e3, _⟩⟩ := h2
    · rw [hx.1] at e; cases e
    · rw [e1] at e
      simp [Value.ownBlock] at e
      omega
  · have hxl : xs.length = ls.length := by have := h2.1; omega
    by_cases hi : i < ls.length
    · rw [List.getElem?_append_left hi] at hl
      obtain ⟨u0, e, hr⟩ := h3 i l' hl
      exact ⟨u0, by rw [List.getElem?_append_left (by omega)]; exact e, keep hr⟩
    · rw [List.getElem?_append_right (by omega)] at hl
      have : i = ls.length := by
        have := (List.getElem?_eq_some_iff.1 hl).1
        simp at this
        omega
      subst this
      simp at hl
      subst hl
      exact ⟨u, by rw [List.getElem?_append_right (by omega), hxl]; simp, keep hu⟩
theorem rowOf_sps {B : Nat} {W : World} {v : Value} {l : List (Int × Int)} (h : RowOf B W v l) (hl : l.length ≤ 1000) : ∃ A c, v = .slice A l.length c ∧ SpsIn A l.length (fun i => l.getD i (0, 0)) W.heap.size W := by
  rcases h with ⟨rfl, rfl⟩ | ⟨h0, g, cap, rfl, ho⟩
  · exact ⟨none, 0, rfl, by simp, fun i hi => absurd hi (by simp)⟩
  · refine ⟨some ⟨g, 0, none⟩, cap, rfl, by omega, fun i hi => ⟨_, rfl, ?_, ?_⟩⟩
    · obtain ⟨_, hx | ⟨g', cap', cur, e1, e2, e3, _⟩⟩ := ho
      · omega
      · cases e1; exact (Array.getElem?_eq_some_iff.1 e3).1
    · have hq : l[i]? = some (l[i]'hi) := List.getElem?_eq_getElem hi
      have hd : l.getD i (0, 0) = l[i]'hi := by simp [List.getD, hq]
      obtain ⟨u0, u1⟩ := own_span ho i _ hq
      simp only [hd]
      rw [Addr.add_lit, Nat.zero_add]
      exact ⟨u0, u1⟩
/-- rows of spans, as they are read -/
theorem parts_cls {w0 wr : World} {ls : List (List (Int × Int))} {v : Value} (h : PartsI w0 ls v wr) (h1 : ls.length ≤ 1000) (h2 : ∀ l ∈ ls, l.length ≤ 1000) : ∃ A c x, v = .slice A ls.length c ∧ ClsIn A ls.length x wr.heap.size wr ∧ ∀ i l, ls[i]? = some l → x.L i = l.length ∧ ∀ k, x.S i k = l.getD k (0, 0) := by
  obtain ⟨_, xs, ho, hx⟩ := h
  have each : ∀ i, i < ls.length → ∃ r : Option Addr × Nat, xs[i]? = some (.slice r.1 ((ls.getD i []).length) r.2) ∧ SpsIn r.1 ((ls.getD i []).length) (fun k => (ls.getD i []).getD k (0, 0)) wr.heap.size wr := by
    intro i hi
    have hl : ls[i]? = some (ls[i]'hi) := List.getElem?_eq_getElem hi
    have hd : ls.getD i [] = ls[i]'hi := by simp [List.getD, hl]
    obtain ⟨u, e, hr⟩ := hx i _ hl
    obtain ⟨A, c, rfl, hs⟩ := rowOf_sps hr (h2 _ (List.getElem_mem hi))
    rw [hd]
    exact ⟨(A, c), e, hs⟩
  obtain ⟨R, hR⟩ := choose_lt each
  refine ?_
  obtain ⟨o1, o2 | ⟨g, cap, cur, e1, e2, e3, e4, e5, e6, e7⟩⟩ := ho
  · refine ⟨none, 0, ⟨fun _ => none, fun _ => 0, fun _ => 0, fun _ _ => (0, 0)⟩, by rw [o2.1, o2.2], ⟨by omega, fun i hi => absurd hi (by omega)⟩, fun i l hl => ?_⟩
    have := (List.getElem?_eq_some_iff.1 hl).1
    omega
  · refine ⟨some ⟨g, 0, none⟩, cap, ⟨fun i => (R i).1, fun i => (ls.getD i []).length, fun i => (R i).2, fun i k => (ls.getD i []).getD k (0, 0)⟩, e1, ⟨by omega, fun i hi => ⟨_, rfl, (Array.getElem?_eq_some_iff.1 e3).1, ?_, (hR i hi).2⟩⟩, fun i l hl => ?_⟩
    · rw [Addr.add_lit, Nat.zero_add]
      have h3 := (hR i hi).1
      rw [Nat.mul_one] at e7
      rw [← e7, List.getElem?_take_of_lt hi] at h3
      simp only [Array.getElem?_toList] at h3
      simp [World.cell?, e3, h3]
    · have : ls.getD i [] = l := by simp [List.getD, hl]
      simp only [this]
      exact ⟨trivial, fun _ => trivial⟩
theorem Try.infoPt : (Try.prog.info? 44).map (fun i => (i.zero, i.size, i.bytes)) = some (some (.agg #[.int .i64 0, .int .i64 0, .int .i64 0]), 3, 24) := by kernel_rfl
def ptsV (l : List Pt) : List Value := l.flatMap fun t => [.int .i64 t.x, .int .i64 t.y, .int .i64 t.half]
theorem ptsV_snoc (l : List Pt) (t : Pt) : ptsV (l ++ [t]) = ptsV l ++ [.int .i64 t.x, .int .i64 t.y, .int .i64 t.half] := by simp [ptsV]
theorem newP (W : World) (t : Pt) : ∀ j u', ([.int .i64 t.x, .int .i64 t.y, .int .i64 t.half] : List Value)[j]? = some u' → (W.alloc (.cells #[.int .i64 t.x, .int .i64 t.y, .int .i64 t.half] 44)).cell? ((⟨W.heap.size, 0, none⟩ : Addr).add j) = some u' := by
  intro j u' hj
  rw [Addr.add_lit, Nat.zero_add]
  match j with
  | 0 => cases hj; go_simp
  | 1 => cases hj; go_simp
  | 2 => cases hj; go_simp
  | j + 3 => simp at hj
/-- a row of points, made from a world on -/
structure RowP (w0 : World) (l : List Pt) (v : Value) (wr : World) : Prop where
  below : Below w0.heap.size w0 wr
  own : wr.ownsRow w0.heap.size 44 3 v l.length (ptsV l)
theorem RowP.app {w0 wr w1 : World} {l : List Pt} {v v' : Value} {o : Obj} {z : Pt} (h : RowP w0 l v wr) (hg : (wr.alloc o).grownBy w1 v.ownBlock)
    (h' : w1.ownsRow w0.heap.size 44 3 v' (l.length + 1) (ptsV l ++ [.int .i64 z.x, .int .i64 z.y, .int .i64 z.half])) : RowP w0 (l ++ [z]) v' w1 := by
  obtain ⟨h1, h2⟩ := h
  refine ⟨?_, ?_⟩
  · refine (h1.alloc h1.size o).grown hg (by simp only [World.size_alloc]; have := h1.size; omega) (fun r e => ?_)
    obtain ⟨_, hx | ⟨g, cap, cur, e1, e3, _⟩⟩ := h2
    · rw [hx.1] at e; cases e
    · rw [e1] at e
      simp [Value.ownBlock] at e
      omega
  · rw [ptsV_snoc, List.length_append]; exact h'
/-- a list of points as a function -/
def asP (l : List Pt) (i : Nat) : Pt := l.getD i ⟨0, 0, 0⟩
theorem asP_at {l : List Pt} {i : Nat} (h : i < l.length) : asP l i = l[i] := by simp [asP, h]
theorem ptsV_at (l : List Pt) : ∀ (i : Nat) (h : i < l.length), (ptsV l)[i * 3]? = some (.int .i64 (l[i]).x) ∧ (ptsV l)[i * 3 + 1]? = some (.int .i64 (l[i]).y) ∧ (ptsV l)[i * 3 + 2]? = some (.int .i64 (l[i]).half) := by
  induction l with
  | nil => intro i h; simp at h
  | cons t l ih =>
    intro i h
    have e : ptsV (t :: l) = .int .i64 t.x :: .int .i64 t.y :: .int .i64 t.half :: ptsV l := rfl
    rw [e]
    cases i with
    | zero => simp
    | succ i =>
      have := ih i (by simpa using h)
      rw [show (i + 1) * 3 = i * 3 + 1 + 1 + 1 by omega]
      simpa using this
theorem row_pts {w : World} {B : Nat} {l : List Pt} {v : Value} (h : w.ownsRow B 44 3 v l.length (ptsV l)) (hl : l.length ≤ 1000) : ∃ A c, v = .slice A l.length c ∧ PtsIn A l.length (asP l) w.heap.size w := by
  obtain ⟨h0, hx | ⟨g, cap, cur, e1, e2, e3, e4, e5, e6, e7⟩⟩ := h
  · exact ⟨none, 0, by rw [hx.1, hx.2], by omega, fun i hi => absurd hi (by omega)⟩
  · refine ⟨some ⟨g, 0, none⟩, cap, e1, by omega, fun i hi => ⟨_, rfl, (Array.getElem?_eq_some_iff.1 e3).1, ?_⟩⟩
    obtain ⟨c0, c1, c2⟩ := ptsV_at l i hi
    rw [← e7, List.getElem?_take_of_lt (by omega)] at c0
    rw [← e7, List.getElem?_take_of_lt (by omega)] at c1
    rw [← e7, List.getElem?_take_of_lt (by omega)] at c2
    simp only [Array.getElem?_toList] at c0 c1 c2
    rw [Addr.add_lit, Nat.zero_add, asP_at hi]
    simp only [World.cell?, e3]
    exact ⟨by simp [c0], by simp [c1], by simp [c2]⟩
end Go.Proofs.Ytmeljcbefnojfaa
namespace Go.Proofs.Ytmeljcbefnojfaa
open Go.RowKit
theorem getD_at {l : List (Int × Int)} {j : Nat} (h : j < l.length) : l.getD j (0, 0) = l[j] := by simp [List.getD, List.getElem?_eq_getElem h]
/-- what Means returns: spans in order, of levels -/
theorem means_okl {p : Pap} {t : Pt} {c : Int} {L : List (Int × Int)} (h : p.Ok) (ht : t.Ok) (hL : HtsL p t c L) : (∀ q ∈ meansOf p L, q.1 ≤ q.2 ∧ 0 ≤ q.1 ∧ q.2 ≤ 12000) ∧ (meansOf p L).length ≤ 2 := by
  have hb := hts_bd h ht hL
  have hl := h.low
  have key : ∀ s : Int × Int, 0 ≤ s.1 ∧ s.1 ≤ s.2 ∧ s.2 ≤ p.height → lev p s.1 ≤ lev p s.2 ∧ 0 ≤ lev p s.1 ∧ lev p s.2 ≤ 12000 := fun s hs => by
    have a := lev_bd h (a := s.1) ⟨hs.1, by omega⟩
    have b := lev_bd h (a := s.2) ⟨by omega, hs.2.2⟩
    exact ⟨lev_mono h hs.2.1, a.1, by omega⟩
  match L, hb with
  | [], _ => exact ⟨fun q hq => absurd hq (by simp [meansOf]), by simp [meansOf]⟩
  | [a], hb =>
    have e1 : meansOf p [a] = [(lev p a.1, lev p a.2)] := rfl
    rw [e1]
    exact ⟨fun q hq => by rw [List.mem_singleton.1 hq]; exact key a (hb.1 0 a rfl), by simp⟩
  | [a, b], hb =>
    have e1 : meansOf p [a, b] = addL [(lev p a.1, lev p a.2)] (lev p b.1, lev p b.2) := rfl
    have h1 := key a (hb.1 0 a rfl)
    have h2 := key b (hb.1 1 b rfl)
    rw [e1]
    unfold addL
    simp only
    split
    · exact ⟨fun q hq => by rw [List.mem_singleton.1 hq]; simp only; omega, by simp⟩
    · refine ⟨fun q hq => ?_, by simp⟩
      rcases List.mem_cons.1 hq with rfl | hq
      · exact h1
      · rw [List.mem_singleton.1 hq]; exact h2
  | a :: b :: c :: l, hb => have := hb.2.2; simp only [List.length_cons] at this; omega
theorem hts_in {p : Pap} {t : Pt} {c : Int} {L : List (Int × Int)} (h : p.Ok) (ht : t.Ok) (hc : 0 ≤ c ∧ c ≤ p.cols - 1) (hL : HtsL p t c L) (hne : L ≠ []) : ColSome p t ∧ cLo p t ≤ c ∧ c ≤ cHi p t := by
  refine (cols_iff h ht hc).1 ?_
  rcases hL with ⟨_, rfl⟩ | ⟨_, K1, K2, K3, K4, hE, rfl⟩
  · exact absurd rfl hne
  · by_cases f1 : K1 ≤ K2 - 1
    · exact ⟨K1, (ins_two hE K1).2 (.inl ⟨Int.le_refl _, f1⟩)⟩
    · by_cases f2 : K3 ≤ K4 - 1
      · exact ⟨K3, (ins_two hE K3).2 (.inr ⟨Int.le_refl _, f2⟩)⟩
      · rw [if_neg f1, if_neg f2] at hne
        exact absurd rfl hne
theorem means_ptin {p : Pap} {t : Pt} {c : Nat} (h : p.Ok) (ht : t.Ok) (hc : (c : Int) ≤ p.cols - 1) (x : Int) : Has (meansOf p (hts p t c)) x ↔ PtIn p t c x := by
  have hL := hts_is h ht c
  rw [means_levH h ht hL]
  constructor
  · intro hx
    have hne : hts p t c ≠ [] := fun e => by
      rw [e] at hx
      obtain ⟨q, hq, _⟩ := hx
      simp [levH] at hq
    obtain ⟨a, b, d⟩ := hts_in h ht ⟨by omega, hc⟩ hL hne
    exact ⟨a, b, d, hx⟩
  · exact fun hx => hx.2.2.2
/-- what the law's joined wants of a column and its points -/
theorem joined_ok {p : Pap} {Z : Nat → Pt} {n k t nL : Nat} {bl : Nat → Bool} {S : Nat → Int × Int} {x : Cls} (h : p.Ok) (hZ : ∀ i, i < n → (Z i).Ok) (hk : (k : Int) ≤ p.cols - 1) (ht : t = if bl k = true then 0 else n)
    (hS : nL = (inkC p bl Z n k).length ∧ firstK S nL = inkC p bl Z n k) (hx : ∀ i, i < t → x.L i = (meansOf p (hts p (Z i) k)).length ∧ ∀ j, x.S i j = (meansOf p (hts p (Z i) k)).getD j (0, 0)) :
    (∀ i, i < t → ∀ j, j < x.L i → ∃ q, q < nL ∧ (S q).1 ≤ (x.S i j).1 ∧ (x.S i j).2 ≤ (S q).2) ∧
    (∀ q, q < nL → ∀ τ, (S q).1 ≤ τ → τ ≤ (S q).2 → ∃ i, i < t ∧ ∃ j, j < x.L i ∧ (x.S i j).1 ≤ τ ∧ τ ≤ (x.S i j).2) ∧
    (∀ i, i < t → ∀ j, j < x.L i → 0 ≤ (x.S i j).2 ∧ (x.S i j).2 ≤ 100000000) ∧ (∀ q, q < nL → 0 ≤ (S q).1 ∧ (S q).1 ≤ (S q).2 ∧ (S q).2 ≤ 100000000) := by
  have hs := inkC_srt (bl := bl) h n hZ k
  have hr := inkC_rng (bl := bl) h hZ k
  have hSq : ∀ q, q < nL → S q ∈ inkC p bl Z n k := fun q hq => by rw [← hS.2]; exact List.mem_map.2 ⟨q, List.mem_range.2 hq, rfl⟩
  have hSm : ∀ r ∈ inkC p bl Z n k, ∃ q, q < nL ∧ S q = r := fun r hr => by
    rw [← hS.2] at hr
    obtain ⟨q, hq, e⟩ := List.mem_map.1 hr
    exact ⟨q, List.mem_range.1 hq, e⟩
  have hxm : ∀ i, i < t → ∀ j, j < x.L i → x.S i j ∈ meansOf p (hts p (Z i) k) := fun i hi j hj => by
    rw [(hx i hi).1] at hj
    rw [(hx i hi).2 j, getD_at hj]
    exact List.getElem_mem hj
  have hin : ∀ i, i < t → i < n ∧ bl k = false := fun i hi => by
    by_cases hb : bl k = true
    · rw [ht, if_pos hb] at hi; omega
    · rw [ht, if_neg hb] at hi
      exact ⟨hi, by simpa using hb⟩
  refine ⟨fun i hi j hj => ?_, fun q hq τ h1 h2 => ?_, fun i hi j hj => ?_, fun q hq => ?_⟩
  · obtain ⟨hin1, hb⟩ := hin i hi
    have hm := hxm i hi j hj
    have ho := (means_okl h (hZ i hin1) (hts_is h (hZ i hin1) k)).1 _ hm
    obtain ⟨r, hr1, hr2⟩ := srt_inside hs ho.1 fun τ a b => (inkC_has h n hZ k τ).2 ⟨hb, i, hin1, (means_ptin h (hZ i hin1) hk τ).1 ⟨_, hm, a, b⟩⟩
    obtain ⟨q, hq, rfl⟩ := hSm r hr1
    exact ⟨q, hq, hr2⟩
  · obtain ⟨hb, i, hi, hp⟩ := (inkC_has h n hZ k τ).1 ⟨_, hSq q hq, h1, h2⟩
    have hit : i < t := by rw [ht, if_neg (by rw [hb]; simp)]; exact hi
    obtain ⟨r, hr1, hr2, hr3⟩ := (means_ptin h (hZ i hi) hk τ).2 hp
    obtain ⟨j, hj, rfl⟩ := List.mem_iff_getElem.1 hr1
    refine ⟨i, hit, j, by rw [(hx i hit).1]; exact hj, ?_⟩
    rw [(hx i hit).2 j, getD_at hj]
    exact ⟨hr2, hr3⟩
  · obtain ⟨hin1, _⟩ := hin i hi
    have ho := (means_okl h (hZ i hin1) (hts_is h (hZ i hin1) k)).1 _ (hxm i hi j hj)
    omega
  · have h1 := hs.1 _ (hSq q hq)
    have h2 := hr _ (hSq q hq)
    omega
/-- the points backwards, and perhaps one of them again -/
def backL (Z : Nat → Pt) (n j : Nat) : List Pt := (List.range j).map fun i => Z (n - 1 - i)
theorem backL_succ (Z : Nat → Pt) (n j : Nat) : backL Z n (j + 1) = backL Z n j ++ [Z (n - 1 - j)] := by simp [backL, List.range_succ]
theorem backL_len (Z : Nat → Pt) (n j : Nat) : (backL Z n j).length = j := by simp [backL]
theorem backL_mem {Z : Nat → Pt} {n : Nat} {t : Pt} : t ∈ backL Z n n ↔ ∃ i, i < n ∧ Z i = t := by
  unfold backL
  rw [List.mem_map]
  constructor
  · rintro ⟨i, hi, rfl⟩
    exact ⟨n - 1 - i, by have := List.mem_range.1 hi; omega, rfl⟩
  · rintro ⟨i, hi, rfl⟩
    exact ⟨n - 1 - i, List.mem_range.2 (by omega), by rw [show n - 1 - (n - 1 - i) = i by omega]⟩
/-- the order of points does not matter, nor how often one is traced -/
theorem ink_again {p : Pap} {bl : Nat → Bool} {Z : Nat → Pt} {n : Nat} {l : List Pt} (h : p.Ok) (hZ : ∀ i, i < n → (Z i).Ok) (hl : ∀ t, t ∈ l ↔ ∃ i, i < n ∧ Z i = t) (c : Nat) : inkC p bl (asP l) l.length c = inkC p bl Z n c := by
  have hZ' : ∀ i, i < l.length → (asP l i).Ok := fun i hi => by
    rw [asP_at hi]
    obtain ⟨j, hj, e⟩ := (hl _).1 (List.getElem_mem hi)
    rw [← e]; exact hZ j hj
  refine srt_ext (inkC_srt h _ hZ' c) (inkC_srt h n hZ c) fun x => ?_
  rw [inkC_has h _ hZ' c x, inkC_has h n hZ c x]
  refine and_congr_right fun _ => ?_
  constructor
  · rintro ⟨i, hi, hp⟩
    rw [asP_at hi] at hp
    obtain ⟨j, hj, e⟩ := (hl _).1 (List.getElem_mem hi)
    exact ⟨j, hj, by rw [e]; exact hp⟩
  · rintro ⟨j, hj, hp⟩
    obtain ⟨i, hi, e⟩ := List.mem_iff_getElem.1 ((hl (Z j)).2 ⟨j, hj, rfl⟩)
    exact ⟨i, hi, by rw [asP_at hi, e]; exact hp⟩
end Go.Proofs.Ytmeljcbefnojfaa
namespace Go.Proofs.Ytmeljcbefnojfaa
open Go.RowKit
theorem alloc_oth {W : World} {A A2 : Obj} {p : Addr} {v : Value} (h : (W.alloc A).cell? p = some v) (hl : p.block < W.heap.size) : (W.alloc A2).cell? p = some v :=
  (World.cell?_of_block (a := p) ((Below.heap_alloc _ _ _ hl).trans (Below.heap_alloc _ _ _ hl).symm)).trans h
theorem alloc_ot2 {W : World} {A A2 : Obj} {b o : Nat} {v : Value} (h : (W.alloc A).cell? ⟨b, o, none⟩ = some v) (hl : b < W.heap.size) : (W.alloc A2).cell? ⟨b, o, none⟩ = some v := alloc_oth h hl
theorem below_oth {w W : World} {A A2 : Obj} (h : Below w.heap.size w (W.alloc A)) (hs : w.heap.size ≤ W.heap.size) : Below w.heap.size w (W.alloc A2) :=
  ⟨h.os, h.tape, h.output, by simp only [World.size_alloc]; omega, fun k hk => (Below.heap_alloc W A2 k (by omega)).trans ((Below.heap_alloc W A k (by omega)).symm.trans (h.block k hk))⟩
theorem nz_up {W w1 : World} {b : Nat} (hb : Below W.heap.size W w1) (h0 : W.cell? ⟨b, 0, none⟩ = some (.int .i64 0)) (h1 : W.cell? ⟨b, 1, none⟩ = some (.int .i64 0)) (f0 : W.frozen? ⟨b, 0, none⟩ = false) (f1 : W.frozen? ⟨b, 1, none⟩ = false) :
    w1.cell? ⟨b, 0, none⟩ = some (.int .i64 0) ∧ w1.cell? ⟨b, 1, none⟩ = some (.int .i64 0) ∧ w1.frozen? ⟨b, 0, none⟩ = false ∧ w1.frozen? ⟨b, 1, none⟩ = false ∧ b < w1.heap.size := by
  have hl := World.block_lt_of_cell? _ _ h0
  exact ⟨cell_up hb hl h0, cell_up hb hl h1, frozen_up hb hl f0, frozen_up hb hl f1, Nat.lt_of_lt_of_le hl hb.size⟩
theorem nz_a {W w1 : World} (hb : Below (W.alloc (.cells #[.int .i64 0, .int .i64 0] 23)).heap.size (W.alloc (.cells #[.int .i64 0, .int .i64 0] 23)) w1) :
    w1.cell? ⟨W.heap.size, 0, none⟩ = some (.int .i64 0) ∧ w1.cell? ⟨W.heap.size, 1, none⟩ = some (.int .i64 0) ∧ w1.frozen? ⟨W.heap.size, 0, none⟩ = false ∧ w1.frozen? ⟨W.heap.size, 1, none⟩ = false ∧ W.heap.size < w1.heap.size :=
  nz_up hb (by go_simp) (by go_simp) (by go_simp) (by go_simp)
theorem nz_d {W w1 : World} (hb : Below (W.alloc (.cells #[.int .i64 0, .int .i64 0] 23)).drew.heap.size (W.alloc (.cells #[.int .i64 0, .int .i64 0] 23)).drew w1) :
    w1.cell? ⟨W.heap.size, 0, none⟩ = some (.int .i64 0) ∧ w1.cell? ⟨W.heap.size, 1, none⟩ = some (.int .i64 0) ∧ w1.frozen? ⟨W.heap.size, 0, none⟩ = false ∧ w1.frozen? ⟨W.heap.size, 1, none⟩ = false ∧ W.heap.size < w1.heap.size :=
  nz_up hb (by go_simp) (by go_simp) (by go_simp) (by go_simp)
/-- which columns are blotted, in a row of their own -/
structure BlI (w0 : World) (G n : Nat) (bl : Nat → Bool) (wr : World) : Prop where
  below : Below G w0 wr
  blk : ∃ cur : Array Value, wr.heap[G]? = some (.cells cur 4 (0, 0)) ∧ cur.size = n ∧ ∀ c, c < n → cur[c]? = some (.bool (bl c))
theorem BlI.at {w0 wr : World} {G n c : Nat} {bl : Nat → Bool} (h : BlI w0 G n bl wr) (hc : c < n) : wr.cell? ⟨G, c, none⟩ = some (.bool (bl c)) ∧ wr.frozen? ⟨G, c, none⟩ = false ∧ G < wr.heap.size := by
  obtain ⟨_, cur, h2, h3, h4⟩ := h
  exact ⟨by simp [World.cell?, h2, h4 c hc], by simp [World.frozen?, h2], (Array.getElem?_eq_some_iff.1 h2).1⟩
theorem BlI.up {w0 wr w' : World} {G n B : Nat} {bl : Nat → Bool} (h : BlI w0 G n bl wr) (hb : Below B wr w') (hB : G < B) : BlI w0 G n bl w' := by
  obtain ⟨h1, cur, h2, h3⟩ := h
  exact ⟨h1.trans (hb.mono (Nat.le_of_lt hB)), cur, (hb.block G hB).trans h2, h3⟩
theorem BlI.set {w0 wr : World} {G n c : Nat} {bl : Nat → Bool} (h : BlI w0 G n bl wr) (hc : c < n) (b : Bool) : BlI w0 G n (fun q => if q = c then b else bl q) (wr.setCell ⟨G, c, none⟩ (.bool b)) := by
  obtain ⟨h1, cur, h2, h3, h4⟩ := h
  refine ⟨set1 h1 (Nat.le_refl _) _ _, cur.setIfInBounds c (.bool b), by simp [World.setCell, Array.getElem?_modify, h2], by simp [h3], fun q hq => ?_⟩
  by_cases hqc : q = c
  · subst hqc
    simp only [if_true]
    rw [Array.getElem?_setIfInBounds_self]; simp; omega
  · simp only [if_neg hqc]
    rw [Array.getElem?_setIfInBounds_ne (by omega)]; exact h4 q hq
theorem BlI.new (w : World) (n : Nat) : BlI (w.alloc (.cells (madeCells #[.bool false] n) 4)) w.heap.size n (fun _ => false) (w.alloc (.cells (madeCells #[.bool false] n) 4)) := by
  refine ⟨Below.refl _ _, _, heap_alloc_new _ _, by simp [size_madeCells], fun c hc => ?_⟩
  have h2 : c % 1 = 0 := by omega
  simp [madeCells, hc, h2]
/-- rows of spans that are replaced in their place -/
structure SetI (w0 : World) (G n : Nat) (Lc : Nat → List (Int × Int)) (wr : World) : Prop where
  below : Below G w0 wr
  blk : ∃ cur : Array Value, wr.heap[G]? = some (.cells cur 52 (0, 0)) ∧ cur.size = n ∧ ∀ c, c < n → ∃ u, cur[c]? = some u ∧ RdS u (Lc c) wr ∧ ∀ g, u.ownBlock = some g → G < g
theorem SetI.at {w0 wr : World} {G n c : Nat} {Lc : Nat → List (Int × Int)} (h : SetI w0 G n Lc wr) (hc : c < n) : ∃ A cap, wr.cell? ⟨G, c, none⟩ = some (.slice A (Lc c).length cap) ∧ wr.frozen? ⟨G, c, none⟩ = false ∧ G < wr.heap.size ∧ RdS (.slice A (Lc c).length cap) (Lc c) wr ∧ ∀ g, (Value.slice A (Lc c).length cap).ownBlock = some g → G < g := by
  obtain ⟨_, cur, h2, h3, h4⟩ := h
  obtain ⟨u, e, hr, ho⟩ := h4 c hc
  have hr' := hr
  obtain ⟨A, cap, rfl, _⟩ := hr'
  exact ⟨A, cap, by simp [World.cell?, h2, e], by simp [World.frozen?, h2], (Array.getElem?_eq_some_iff.1 h2).1, hr, ho⟩
theorem SetI.up {w0 wr w' : World} {G n : Nat} {Lc : Nat → List (Int × Int)} (h : SetI w0 G n Lc wr) (hb : Below wr.heap.size wr w') : SetI w0 G n Lc w' := by
  obtain ⟨h1, cur, h2, h3, h4⟩ := h
  have hl : G < wr.heap.size := (Array.getElem?_eq_some_iff.1 h2).1
  exact ⟨h1.trans (hb.mono (by omega)), cur, (hb.block G hl).trans h2, h3, fun c hc => by obtain ⟨u, e, hr, ho⟩ := h4 c hc; exact ⟨u, e, hr.up hb, ho⟩⟩
theorem SetI.put {w0 wr : World} {G n c : Nat} {Lc : Nat → List (Int × Int)} {v : Value} {L' : List (Int × Int)} (h : SetI w0 G n Lc wr) (hc : c < n) (hv : RdS v L' wr) (hvo : ∀ g, v.ownBlock = some g → G < g) : SetI w0 G n (fun q => if q = c then L' else Lc q) (wr.setCell ⟨G, c, none⟩ v) := by
  obtain ⟨h1, cur, h2, h3, h4⟩ := h
  have keep : ∀ {u : Value} {L : List (Int × Int)}, RdS u L wr → RdS u L (wr.setCell ⟨G, c, none⟩ v) := by
    rintro u L ⟨A, cap, e, g1, g2, g3, g4⟩
    refine ⟨A, cap, e, g1, g2, g3, fun i s hs => ?_⟩
    obtain ⟨g, o, e1, e2, e3, e4⟩ := g4 i s hs
    have hne : g ≠ G := by
      intro hg
      subst hg
      simp only [World.cell?, h2] at e3
      have e3' : cur[o + i * 2]? = some (.int .i64 s.1) := by simpa using e3
      have hlt := (Array.getElem?_eq_some_iff.1 e3').1
      obtain ⟨u', e5, ⟨A', cap', rfl, _⟩, _⟩ := h4 (o + i * 2) (by omega)
      rw [e3'] at e5
      cases e5
    exact ⟨g, o, e1, by rw [World.size_setCell]; exact e2, keepB e3 hne, keepB e4 hne⟩
  refine ⟨set1 h1 (Nat.le_refl _) _ _, cur.setIfInBounds c v, by simp [World.setCell, Array.getElem?_modify, h2], by simp [h3], fun q hq => ?_⟩
  by_cases hqc : q = c
  · subst hqc
    simp only [if_true]
    exact ⟨v, by rw [Array.getElem?_setIfInBounds_self]; simp; omega, keep hv, hvo⟩
  · simp only [if_neg hqc]
    obtain ⟨u, e, hr, ho⟩ := h4 q hq
    exact ⟨u, by rw [Array.getElem?_setIfInBounds_ne (by omega)]; exact e, keep hr, ho⟩
theorem SetI.new (w : World) (n : Nat) : SetI (w.alloc (.cells (madeCells #[.slice none 0 0] n) 52)) w.heap.size n (fun _ => []) (w.alloc (.cells (madeCells #[.slice none 0 0] n) 52)) := by
  refine ⟨Below.refl _ _, _, heap_alloc_new _ _, by simp [size_madeCells], fun c hc => ⟨.slice none 0 0, ?_, RdS.nil _, fun g hg => by cases hg⟩⟩
  have h2 : c % 1 = 0 := by omega
  simp [madeCells, hc, h2]
theorem SetI.noteq {w0 wr : World} {G n : Nat} {Lc : Nat → List (Int × Int)} (h : SetI w0 G n Lc wr) {p : Addr} {z : Int} (hp : wr.cell? p = some (.int .i64 z)) : p.block ≠ G := by
  obtain ⟨_, cur, h2, h3, h4⟩ := h
  intro e
  simp only [World.cell?, e, h2] at hp
  have hp0 : p.spot = none ∧ cur[p.off]? = some (.int .i64 z) := by simpa using hp
  have hp' := hp0.2
  have hlt := (Array.getElem?_eq_some_iff.1 hp').1
  obtain ⟨u', e5, ⟨A', cap', rfl, _⟩, _⟩ := h4 p.off (by omega)
  rw [hp'] at e5
  cases e5
theorem SetI.sps {w0 wr : World} {G n c m : Nat} {Lc : Nat → List (Int × Int)} {A : Option Addr} {S : Nat → Int × Int} {v : Value} (h : SetI w0 G n Lc wr) (hs : SpsIn A m S wr.heap.size wr) : SpsIn A m S (wr.setCell ⟨G, c, none⟩ v).heap.size (wr.setCell ⟨G, c, none⟩ v) := by
  refine ⟨hs.1, fun i hi => ?_⟩
  obtain ⟨a, e, hl, h0, h1⟩ := hs.2 i hi
  exact ⟨a, e, by rw [World.size_setCell]; exact hl, keepB h0 (h.noteq h0), keepB h1 (h.noteq h1)⟩
/-- the rows as a sheet -/
theorem SetI.clsl {w0 wr : World} {G n : Nat} {Lc : Nat → List (Int × Int)} (h : SetI w0 G n Lc wr) (hn : n ≤ 1000) : ClsL (some ⟨G, 0, none⟩) n Lc G wr := by
  have hG : G < wr.heap.size := by obtain ⟨_, cur, h2, _⟩ := h; exact (Array.getElem?_eq_some_iff.1 h2).1
  have each : ∀ c, c < n → ∃ r : Option Addr × Nat, wr.cell? ⟨G, c, none⟩ = some (.slice r.1 (Lc c).length r.2) ∧ SpsIn r.1 (Lc c).length (fun i => (Lc c)[i]?.getD (0, 0)) wr.heap.size wr ∧ ∀ a, r.1 = some a → G ≤ a.block := by
    intro c hc
    obtain ⟨A, cap, e, _, _, hr, ho⟩ := h.at hc
    obtain ⟨A', c', e', hs⟩ := hr.sps
    cases e'
    exact ⟨(A, cap), e, hs, fun a ha => Nat.le_of_lt (ho a.block (by simp only at ha; rw [ha]; rfl))⟩
  obtain ⟨R, hR⟩ := Go.Deep.choose_lt each
  refine ⟨⟨fun c => (R c).1, fun c => (Lc c).length, fun c => (R c).2, fun c i => (Lc c)[i]?.getD (0, 0)⟩, ⟨by omega, fun c hc => ⟨_, rfl, hG, ?_, (hR c hc).2.1⟩⟩, fun c hc => ⟨rfl, ?_⟩, fun a e => by cases e; exact Nat.le_refl _, fun c hc => (hR c hc).2.2⟩
  · rw [Addr.add_lit, Nat.zero_add]
    exact (hR c hc).1
  · apply List.ext_getElem?
    intro i
    simp only [firstK]
    by_cases hi : i < (Lc c).length
    · simp [hi]
    · rw [List.getElem?_eq_none (by simp; omega), List.getElem?_eq_none (by omega)]
/-- adding what a point means, joined or not -/
theorem putAll_means {p : Pap} {L acc : List (Int × Int)} (hm : ∀ x, Has (meansOf p L) x ↔ Has (levH p L) x) (ho : ∀ q ∈ meansOf p L, q.1 ≤ q.2) (hl : ∀ q ∈ levH p L, q.1 ≤ q.2) (ha : Srt acc) : putAll acc (meansOf p L) = putAll acc (levH p L) := by
  refine srt_ext (putAll_srt2 ho ha) (putAll_srt2 hl ha) fun x => ?_
  rw [putAll_has ho ha, putAll_has hl ha, hm]
end Go.Proofs.Ytmeljcbefnojfaa
namespace Go.Proofs.Ytmeljcbefnojfaa
open Go.RowKit
attribute [local go_sem] Oper.semAt_some
/-- what is drawn while a point's columns are gone through -/
def midT (T : Nat → Nat → List (Int × Int)) (i : Nat) (k : Int) (c : Nat) : List (Int × Int) := if (c : Int) < k then T (i + 1) c else T i c
theorem midT_step {T : Nat → Nat → List (Int × Int)} {i kn : Nat} {X : List (Int × Int)} (h : T (i + 1) kn = X) : (fun c => if c = kn then X else midT T i kn c) = midT T i ((kn : Int) + 1) := by
  funext c
  unfold midT
  by_cases hc : c = kn
  · subst hc; rw [if_pos rfl, if_pos (by omega)]; exact h.symm
  · rw [if_neg hc]
    by_cases h1 : (c : Int) < kn
    · rw [if_pos h1, if_pos (by omega)]
    · rw [if_neg h1, if_neg (by omega)]
/-- spans are returned, as a value that reads as them -/
def RdPost (w : World) (l : List (Int × Int)) (e : Ending) (w' : World) : Prop := ∃ v, e = .returned v ∧ Below w.heap.size w w' ∧ RdS v l w'
set_option maxRecDepth 100000 in
set_option maxHeartbeats 8000000 in
theorem RInk_ok (p : Pap) (A B : Option Addr) (n c m d N : Nat) (Z : Nat → Pt) (ZB : Nat → Int) (E : Int) (T : Nat → Nat → List (Int × Int)) (Mn : Nat → Nat → List (Int × Int)) (lo hi : Nat → Int) (w : World) (hN : (N : Int) = p.cols) (hN2 : N ≤ 200) (hn : n ≤ 400) (hA : PtsIn A n Z w.heap.size w) (hB : IntsIn B m ZB w.heap.size w) (hbl : BlotsOk p.cols ZB m)
    (K1 : Hid (∀ W, Calls Try.prog 28 #[p.v] W fun e w' => e = .returned (.int .i64 0) ∧ Below W.heap.size W w'))
    (K2 : Hid (∀ W, Below w.heap.size w W → Calls Try.prog 22 #[.slice A n c] W fun e w' => e = .returned (.tuple #[.int .i64 0, .int .i64 0]) ∧ Below W.heap.size W w'))
    (KC : Hid (∀ i, i < n → ∀ W, Calls Try.prog 87 #[p.v, (Z i).v] W fun e w' => e = .returned (.agg #[.int .i64 (lo i), .int .i64 (hi i)]) ∧ Below W.heap.size W w'))
    (HC : Hid (∀ i, i < n → 0 ≤ lo i ∧ hi i < N))
    (KM : Hid (∀ i k, i < n → k < N → ∀ W, Calls Try.prog 100 #[p.v, (Z i).v, .int .i64 (k : Nat)] W (RdPost W (Mn i k))))
    (HM : Hid (∀ i k, i < n → k < N → (Mn i k).length ≤ 2 ∧ ∀ q ∈ Mn i k, q.1 ≤ q.2 ∧ 0 ≤ q.1 ∧ q.2 ≤ 12000))
    (HT0 : Hid (∀ c, T 0 c = []))
    (HT : Hid (∀ i c, i < n → T (i + 1) c = if lo i ≤ (c : Int) ∧ (c : Int) ≤ hi i ∧ blt ZB m c = false then putAll (T i c) (Mn i c) else T i c))
    (HS : Hid (∀ i c, i ≤ n → Srt (T i c) ∧ (T i c).length ≤ 2 * i ∧ ∀ q ∈ T i c, 0 ≤ q.1 ∧ q.2 ≤ 12000))
    (hE : Eight N (T n) ∧ E = 0 ∨ ¬ Eight N (T n) ∧ E = 2) :
    Calls Try.prog 54 #[p.v, .slice A n c, .slice B m d] w (ShP N (T n) E w) := by
  have hnn : (n : Int) ≤ 400 := by omega
  have hmN : m ≤ N := by
    have h1 := hbl.len m (Nat.le_refl _)
    have h2 := hbl.last_bd2 m (Nat.le_refl m)
    have h3 : lastB ZB m ≤ p.cols - 1 ∨ m = 0 := by
      cases m with
      | zero => exact .inr rfl
      | succ m => exact .inl (hbl m (by omega)).2
    omega
  have hmm : (m : Int) ≤ 200 := by omega
  have HA := Lib.hid hA
  have HB := Lib.hid hB
  have HN := Lib.hid hN
  have HE := Lib.hid hE
  have HBL := Lib.hid hbl
  clear hA hB hE hN hbl
  go_enter Try.func54, Try.ntmps54
  go_wp2_with fail
  refine (K1.out _).mono ?_
  rintro e w1 ⟨rfl, hb1⟩
  have C1 : Below w.heap.size w w1 := (box2 w _ _).trans (hb1.mono (by simp only [World.size_alloc]; omega))
  have P1 : HasPap p w.heap.size w1 := HasPap.up (by unfold HasPap; go_simp) hb1 (by simp only [World.size_alloc]; omega)
  have r0 := low_cell (b := w.heap.size + 1) (o := 0) (v := .slice none 0 0) hb1 (by simp only [World.size_alloc]; omega) (by go_simp)
  have r1 := low_frozen (b := w.heap.size + 1) (o := 0) (v := false) hb1 (by simp only [World.size_alloc]; omega) (by go_simp)
  have zr := World.block_lt_of_cell? _ _ r0
  clear hb1
  go_wp2_with fail
  refine (K2.out _ C1).mono ?_
  rintro e w2 ⟨rfl, hb2⟩
  have C2 : Below w.heap.size w w2 := C1.trans (hb2.mono C1.size)
  have P2 := P1.up hb2 P1.block
  have r20 := cell_up hb2 zr r0
  have r21 := frozen_up hb2 zr r1
  have zr2 := World.block_lt_of_cell? _ _ r20
  clear hb2 C1 P1 r0 r1 zr
  have z2 : w.heap.size < w2.heap.size := P2.block
  have HP2 := Lib.hid P2
  unfold HasPap at P2
  obtain ⟨-, -, -, -, -, p5, -⟩ := P2
  rw [← HN.out] at p5
  have hmk := run_make_bools N (by omega)
  go_wp2_with fail
  obtain ⟨G1, hG1⟩ : ∃ G, G = w2.heap.size := ⟨_, rfl⟩
  obtain ⟨wA, hwA⟩ : ∃ W, W = w2.alloc (.cells (madeCells #[.bool false] N) 4) := ⟨_, rfl⟩
  have hBA : Below w2.heap.size w2 wA := by rw [hwA]; exact box1 _ _
  have hB0 : BlI wA G1 N (blt ZB 0) wA := by rw [hwA, hG1, blt_zero]; exact BlI.new w2 N
  have CA := Lib.hid (C2.trans (hBA.mono C2.size))
  have PA := Lib.hid (HP2.out.up hBA z2)
  have RA0 := Lib.hid (cell_up hBA zr2 r20)
  have RA1 := Lib.hid (frozen_up hBA zr2 r21)
  have HB0 := Lib.hid hB0
  have hG1w : w.heap.size + 1 + 1 ≤ G1 := by omega
  have hG1A : G1 < wA.heap.size := by obtain ⟨_, cur, h2, _⟩ := hB0; exact (Array.getElem?_eq_some_iff.1 h2).1
  rw [← hG1]
  rw [← hwA]
  clear hmk p5 hB0 hwA hG1 hBA C2 r20 r21 zr2 z2 HP2
  go_loopw [11] (fun i wr => ∃ j : Nat, j ≤ m ∧ i = .int .i64 j ∧ Hid (BlI wA G1 N (blt ZB j) wr)) (fun i _ => m - (intOf i).toNat)
  case atStart => exact ⟨0, Nat.zero_le _, rfl, HB0⟩
  case round =>
    obtain ⟨j, hj, rfl, hI⟩ := hrel
    obtain ⟨wi, rfl⟩ : ∃ wi : World, wi = wr := ⟨_, rfl⟩
    have hj0 : (0 : Int) ≤ (j : Int) := by omega
    have hBi := hI.out.below
    have hCW : Below w.heap.size w wi := CA.out.trans (hBi.mono (by omega))
    have HCW := Lib.hid hCW
    have hPi := PA.out.up hBi (by omega)
    unfold HasPap at hPi
    obtain ⟨p0, p1, p2, p3, p4, p5, p6, p7, p8, p9⟩ := hPi
    rw [← HN.out] at p5
    have zp : w.heap.size < wi.heap.size := World.block_lt_of_cell? _ _ p5
    by_cases hjl : j < m
    · obtain ⟨b, rfl, bl, b0⟩ := (HB.out.up hCW (Nat.le_refl _)).2 j hjl
      have hji : (j : Int) < (m : Int) := by omega
      have hz := HBL.out.last_bd2 j (Nat.le_of_lt hjl)
      have hz2 := HBL.out j hjl
      have hz3 := HN.out
      obtain ⟨q, hq⟩ : ∃ q : Nat, (q : Int) = ZB j := ⟨(ZB j).toNat, by omega⟩
      have hqN : q < N := by omega
      have hqi : (q : Int) < (N : Int) := by omega
      have hq0 : (0 : Int) ≤ (q : Int) := by omega
      have g1 : IntKind.i64.wrap ((N : Int) - 1) = (N : Int) - 1 := IntWalk.i64_in _ (by omega)
      have KW : Hid (∀ W, Calls Try.prog 77 #[.int .i64 (q : Int), .int .i64 0, .int .i64 ((N : Int) - 1)] W fun e w' => e = .returned (.bool true) ∧ W = w') := Lib.hid fun W => within_t _ _ _ _ (by omega)
      obtain ⟨v1, v2, v3⟩ := hI.out.at hqN
      have HNX : Hid (BlI wA G1 N (blt ZB (j + 1)) (wi.setCell ⟨G1, q, none⟩ (.bool true))) := Lib.hid (by rw [← blt_succ q hq]; exact hI.out.set hqN true)
      have HNY : Hid (∀ r, BlI wA G1 N (blt ZB (j + 1)) ((wi.drewN r).setCell ⟨G1, q, none⟩ (.bool true))) := Lib.hid fun r => (by rw [← blt_succ q hq]; exact (hI.out.up (below_drewN (Below.refl wi.heap.size wi) r) v3).set hqN true)
      rw [← hq] at b0
      clear hBi hCW hz3 p0 p1 p2 p3 p4 p6 p7 p8 p9
      by_cases hj1 : j = 0
      · have dj3 : decide (0 < j) = false := by simp; omega
        have dj4 : ¬ 0 < j := by omega
        have dj : decide ((0 : Int) < (j : Int)) = false := by simp; omega
        have dj2 : decide ((j : Int) > (0 : Int)) = false := by simp; omega
        clear hz hz2 hq hj1
        go_wp2_with fail
        go_quiet ((go_at_call 77; exact Calls.quiet_of_same ((KW.out _).mono fun _ _ h => ⟨h.1, h.2.symm⟩)))
        go_wp2_with fail
        go_roundw
        case rel => exact ⟨j + 1, by omega, by go_num, Lib.hid (HNY.out _)⟩
        case measure => simp [intOf] <;> omega
      · have dj3 : decide (0 < j) = true := by simp; omega
        have dj4 : 0 < j := by omega
        have dj : decide ((0 : Int) < (j : Int)) = true := by simp; omega
        have dj2 : decide ((j : Int) > (0 : Int)) = true := by simp; omega
        obtain ⟨j', hj'⟩ : ∃ j' : Nat, j = j' + 1 := ⟨j - 1, by omega⟩
        obtain ⟨b1, e1, _, b1c⟩ := (HB.out.up HCW.out (Nat.le_refl _)).2 j' (by omega)
        cases e1
        have hlt1 : ¬ (q : Int) ≤ ZB j' := by have h9 : lastB ZB j + 1 ≤ ZB j := hz2.1; rw [hj'] at h9 hq; have h10 : ZB j' + 1 ≤ ZB (j' + 1) := h9; omega
        have dlt : decide ((q : Int) ≤ ZB j') = false := by simpa using hlt1
        have hjj : (j : Int) - 1 = (j' : Int) := by omega
        have hji1 : (j' : Int) < (m : Int) := by omega
        have hj01 : (0 : Int) ≤ (j' : Int) := by omega
        have HJ := Lib.hid hj'
        clear hz hz2 hq hlt1 hj1 hj'
        go_wp2_with fail
        go_quiet ((go_at_call 77; exact Calls.quiet_of_same ((KW.out _).mono fun _ _ h => ⟨h.1, h.2.symm⟩)))
        go_wp2_with fail
        go_roundw
        case rel => exact ⟨j + 1, by omega, by go_num, Lib.hid (HNY.out _)⟩
        case measure => simp [intOf] <;> omega
    · have hji : (m : Int) ≤ (j : Int) := by omega
      obtain rfl : m = j := by omega
      have hmk := run_make_rows N (by omega)
      have rc0 := (hBi.cell (p := ⟨w.heap.size + 1, 0, none⟩) (show w.heap.size + 1 < G1 by omega)).trans RA0.out
      have rc1 := (hBi.frozen (p := ⟨w.heap.size + 1, 0, none⟩) (show w.heap.size + 1 < G1 by omega)).trans RA1.out
      have zr := World.block_lt_of_cell? _ _ rc0
      have hPi := Lib.hid (PA.out.up hBi (by omega))
      have hG1i : G1 < wi.heap.size := by obtain ⟨_, cur, h2, _⟩ := hI.out; exact (Array.getElem?_eq_some_iff.1 h2).1
      clear hBi p0 p1 p2 p3 p4 p6 p7 p8 p9
      go_wp2_with fail
      obtain ⟨G2, hG2⟩ : ∃ G, G = wi.heap.size := ⟨_, rfl⟩
      obtain ⟨wB, hwB⟩ : ∃ W, W = wi.alloc (.cells (madeCells #[.slice none 0 0] N) 52) := ⟨_, rfl⟩
      have hBB : Below wi.heap.size wi wB := by rw [hwB]; exact box1 _ _
      have hS0 : SetI wB G2 N (T 0) wB := by
        have e : T 0 = fun _ => [] := funext HT0.out
        rw [hwB, hG2, e]; exact SetI.new wi N
      have BB := Lib.hid (hI.out.up hBB hG1i)
      have CB := Lib.hid (hCW.trans (hBB.mono hCW.size))
      have PB := Lib.hid (hPi.out.up hBB zp)
      have RB0 := Lib.hid (cell_up hBB zr rc0)
      have RB1 := Lib.hid (frozen_up hBB zr rc1)
      have HS0 := Lib.hid hS0
      have hG2w : w.heap.size + 1 + 1 ≤ G2 ∧ G1 < G2 := by omega
      rw [← hG2]
      rw [← hwB]
      clear hmk p5 hS0 hwB hG2 hBB hCW hI rc0 rc1 zr zp hPi hG1i HCW PA RA0 RA1 HB0
      go_loopw [13, 14, 15, 16, 17] (fun i _ _ _ _ wr => ∃ j : Nat, j ≤ n ∧ i = .int .i64 j ∧ Hid (SetI wB G2 N (T j) wr)) (fun i _ _ _ _ _ => n - (intOf i).toNat)
      case atStart => exact ⟨0, Nat.zero_le _, rfl, HS0⟩
      case round =>
        obtain ⟨j, hj, rfl, hI⟩ := hrel
        obtain ⟨wo, rfl⟩ : ∃ wo : World, wo = wr := ⟨_, rfl⟩
        have hj0 : (0 : Int) ≤ (j : Int) := by omega
        have hBo := hI.out.below
        have hCo := CB.out.trans (hBo.mono (by omega))
        have HCo := Lib.hid hCo
        by_cases hjl : j < n
        · have hji2 : (j : Int) < (n : Int) := by omega
          obtain ⟨a, rfl, al, c0, c1', c2⟩ := (HA.out.up hCo (Nat.le_refl _)).2 j hjl
          have alq : a.block < wo.heap.size := by have := hCo.size; omega
          have hP := PB.out.up hBo (by omega)
          unfold HasPap at hP
          obtain ⟨p0, p1, p2, p3, p4, p5, p6, p7, p8, p9⟩ := hP
          have zp : w.heap.size < wo.heap.size := World.block_lt_of_cell? _ _ p0
          clear hBo hCo
          have abt : (a.add (j * 3)).block < wo.heap.size := by rw [add_block]; exact alq
          go_upto_region 17 with fail
          go_cut [14] (fun s14 wx => ∃ g : Nat, s14 = .pointer (some ⟨g, 0, none⟩) ∧ wx.cell? ⟨g, 0, none⟩ = some (.int .i64 (lo j)) ∧ wx.cell? ⟨g, 1, none⟩ = some (.int .i64 (hi j)) ∧ wo.heap.size ≤ g ∧ Below wo.heap.size wo wx)
          case first =>
            clear HT HS HM KM HE HBL K1 K2 HC hI HCo BB CB PB RB0 RB1 HS0 CA HA HB
            go_region_with (go_at_call 87; refine (KC.out j hjl _).mono ?_; rintro e wC ⟨rfl, hbC⟩; (try (have hN := nz_a hbC; (try simp only [World.size_alloc, World.size_drew] at hN); obtain ⟨n0, n1, n2, n3, n4⟩ := hN)); (try (have hN := nz_d hbC; (try simp only [World.size_alloc] at hN); obtain ⟨n0, n1, n2, n3, n4⟩ := hN)))
            all_goals
              have hB9 : Below wo.heap.size wo wC := by
                refine Below.trans ?_ (hbC.mono (by (try simp only [World.size_drew, World.size_alloc]); omega))
                repeat' (first | with_reducible exact Below.refl _ _ | with_reducible refine Below.alloc ?_ (by (try simp only [World.size_alloc, World.size_drew]); omega) _ | with_reducible refine below_drewN ?_ _ | with_reducible refine Below.drew ?_)
              have hs9 := hB9.size
              go_wp2_with fail
              go_meet
              refine ⟨_, rfl, by go_simp, by go_simp, by first | exact Nat.le_refl _ | exact hs9, ?_⟩
              first | exact hB9.alloc hs9 _ | exact set1 (set1 hB9 (Nat.le_refl _) _ _) (Nat.le_refl _) _ _
          case rest =>
            obtain ⟨g, rfl, g0, g1', hg, hBc⟩ := hcut
            have hgl : g < wc.heap.size := World.block_lt_of_cell? _ _ g0
            have hI2 := Lib.hid (hI.out.up hBc)
            have HC1 := HC.out j hjl
            have hgG : g ≠ G2 := by have := (show G2 < wo.heap.size by obtain ⟨_, cur, h2, _⟩ := hI.out; exact (Array.getElem?_eq_some_iff.1 h2).1); omega
            have hG2c : G2 < wc.heap.size := by obtain ⟨_, cur, h2, _⟩ := hI2.out; exact (Array.getElem?_eq_some_iff.1 h2).1
            have HI0 : Hid (SetI wB G2 N (midT T j (lo j)) wc) := by
              have e : midT T j (lo j) = T j := by
                funext q
                unfold midT
                split
                · rw [HT.out j q hjl, if_neg (by omega)]
                · rfl
              rw [e]; exact hI2
            clear p0 p1 p2 p3 p4 p5 p6 p7 p8 p9 zp c0 c1' c2 hBc hI hI2
            go_wp2_with fail
            go_loopw [15, 16, 17] (fun c _ _ wr => ∃ k : Int, c = .int .i64 k ∧ lo j ≤ k ∧ (k ≤ hi j + 1 ∨ k = lo j) ∧ wr.cell? ⟨g, 1, none⟩ = some (.int .i64 (hi j)) ∧ Hid (SetI wB G2 N (midT T j k) wr)) (fun c _ _ _ => (hi j + 1 - intOf c).toNat)
            case atStart => exact ⟨lo j, rfl, Int.le_refl _, .inr rfl, g1', HI0⟩
            case round =>
              obtain ⟨k, rfl, hk1, hk2, hgc, hI⟩ := hrel
              obtain ⟨wp, rfl⟩ : ∃ wp : World, wp = wr := ⟨_, rfl⟩
              have hBp := hI.out.below
              have hCp := CB.out.trans (hBp.mono (by omega))
              have HCp := Lib.hid hCp
              have hgp : g < wp.heap.size := World.block_lt_of_cell? _ _ hgc
              by_cases hkh : k ≤ hi j
              · have dk : decide (k ≤ hi j) = true := by simpa using hkh
                obtain ⟨kn, rfl⟩ : ∃ kn : Nat, k = (kn : Int) := ⟨k.toNat, by omega⟩
                have hkN : kn < N := by omega
                obtain ⟨a', e', al', c0, c1', c2⟩ := (HA.out.up hCp (Nat.le_refl _)).2 j hjl
                cases e'
                have alp : a.block < wp.heap.size := by have := hCp.size; omega
                have hP := PB.out.up hBp (by omega)
                unfold HasPap at hP
                obtain ⟨p0, p1, p2, p3, p4, p5, p6, p7, p8, p9⟩ := hP
                have zp : w.heap.size < wp.heap.size := World.block_lt_of_cell? _ _ p0
                clear hBp hCp
                go_wp2_with fail
                refine still_tail 6 (by kernel_rfl) (by kernel_rfl) ?_
                simp only [List.take_succ_cons, List.take_zero, List.drop_succ_cons, List.drop_zero]
                repeat still_step
                refine wpStill_nil ?_
                go_wp2_with fail
                refine (KM.out j kn hjl hkN _).mono ?_
                rintro e w7 ⟨mv, rfl, hb7, hrd⟩
                have hI7 := Lib.hid (hI.out.up ((Below.refl _ _).drew.trans (hb7.mono (by simp only [World.size_drew]; omega))))
                have hg7 : w7.cell? ⟨g, 1, none⟩ = some (.int .i64 (hi j)) := low_cell hb7 (by simp only [World.size_drew]; omega) (by go_simp)
                obtain ⟨Am, cm, e7, hsp⟩ := hrd.sps
                subst e7
                have hml := HM.out j kn hjl hkN
                have hlen2 : ((Mn j kn).length : Int) ≤ 2 := by have := hml.1; omega
                have HML := Lib.hid hml
                have HSP := Lib.hid hsp
                have HJ0 : Hid (SetI wB G2 N (fun q => if q = kn then putAll (T j kn) ((Mn j kn).take 0) else midT T j kn q) w7) := by
                  have e : (fun q => if q = kn then putAll (T j kn) ((Mn j kn).take 0) else midT T j kn q) = midT T j kn := by
                    funext q
                    by_cases hq : q = kn
                    · subst hq
                      rw [if_pos rfl]
                      unfold midT
                      rw [if_neg (by omega)]; rfl
                    · rw [if_neg hq]
                  rw [e]; exact hI7
                clear hb7 hrd hml hsp hI hI7 c0 c1' c2 p0 p1 p2 p3 p4 p5 p6 p7 p8 p9 zp hgc hgp
                go_wp2_with fail
                go_loopw [17] (fun kk wr => ∃ q : Nat, q ≤ (Mn j kn).length ∧ kk = .int .i64 q ∧ (blt ZB m kn = true → q = 0) ∧ wr.cell? ⟨g, 1, none⟩ = some (.int .i64 (hi j)) ∧ Below w7.heap.size w7 w7 ∧ Hid (SpsIn Am (Mn j kn).length (fun i => (Mn j kn)[i]?.getD (0, 0)) wr.heap.size wr) ∧ Hid (SetI wB G2 N (fun c => if c = kn then putAll (T j kn) ((Mn j kn).take q) else midT T j kn c) wr)) (fun kk _ => (Mn j kn).length - (intOf kk).toNat)
                case atStart => exact ⟨0, Nat.zero_le _, rfl, fun _ => rfl, hg7, Below.refl _ _, HSP, HJ0⟩
                case round =>
                  obtain ⟨q, hq, rfl, hqb, hgq, _, hsp, hI⟩ := hrel
                  obtain ⟨wq, rfl⟩ : ∃ wq : World, wq = wr := ⟨_, rfl⟩
                  have hq0 : (0 : Int) ≤ (q : Int) := by omega
                  have hBq := hI.out.below
                  have hgq2 : g < wq.heap.size := World.block_lt_of_cell? _ _ hgq
                  have hBl := BB.out.up (hBq.mono (Nat.le_refl _)) hG2w.2
                  obtain ⟨v1, v2, v3⟩ := hBl.at hkN
                  clear hBl hBq
                  by_cases hql : q < (Mn j kn).length
                  · have hqi : (q : Int) < ((Mn j kn).length : Int) := by omega
                    by_cases hbv : blt ZB m kn = true
                    · obtain rfl := hqb hbv
                      have HX : Hid (SetI wB G2 N (midT T j ((kn : Int) + 1)) wq) := Lib.hid (by
                        rw [← midT_step (X := T j kn) (by rw [HT.out j kn hjl, if_neg (by rw [hbv]; simp)])]
                        exact hI.out)
                      rw [hbv] at v1
                      clear hsp hI hqb
                      go_wp2_with fail
                      go_roundw
                      case rel => exact ⟨(kn : Int) + 1, by go_num, by omega, .inl (by omega), hgq, HX⟩
                      case measure => simp [intOf] <;> omega
                    · have hbf : blt ZB m kn = false := by simpa using hbv
                      rw [hbf] at v1
                      obtain ⟨A', cap', s1, s2, s3, s4, -⟩ := hI.out.at hkN
                      simp only [if_true] at s1 s4
                      obtain ⟨am, rfl, aml, e0, e1⟩ := hsp.out.2 q hql
                      have hget : (Mn j kn)[q]? = some ((Mn j kn)[q]'hql) := List.getElem?_eq_getElem hql
                      simp only [hget, Option.getD_some] at e0 e1
                      have hsm := (HML.out.2 _ (List.getElem_mem hql))
                      have hTs := HS.out j kn (Nat.le_of_lt hjl)
                      have htk : ∀ r ∈ (Mn j kn).take q, r.1 ≤ r.2 ∧ 0 ≤ r.1 ∧ r.2 ≤ 12000 := fun r hr => HML.out.2 r (List.mem_of_mem_take hr)
                      have hsr : Srt (putAll (T j kn) ((Mn j kn).take q)) := putAll_srt2 (fun r hr => (htk r hr).1) hTs.1
                      have hrg : ∀ r ∈ putAll (T j kn) ((Mn j kn).take q), 0 ≤ r.1 ∧ r.2 ≤ 12000 := fun r hr => by
                        have hh : ∀ x, Has (putAll (T j kn) ((Mn j kn).take q)) x → 0 ≤ x ∧ x ≤ 12000 := fun x hx => by
                          rcases (putAll_has (fun r hr => (htk r hr).1) hTs.1 x).1 hx with ⟨u, hu, u1, u2⟩ | ⟨u, hu, u1, u2⟩
                          · have := hTs.2.2 u hu; omega
                          · have := htk u hu; omega
                        have h0 := hsr.1 r hr
                        exact ⟨(hh r.1 ⟨r, hr, Int.le_refl _, h0⟩).1, (hh r.2 ⟨r, hr, h0, Int.le_refl _⟩).2⟩
                      have hln : (putAll (T j kn) ((Mn j kn).take q)).length ≤ 1000000 := by
                        have h1 := putAll_length (T j kn) ((Mn j kn).take q)
                        have h2 : ((Mn j kn).take q).length ≤ 2 := by rw [List.length_take]; omega
                        have h3 := hTs.2.1
                        omega
                      have KJ : Hid (∀ W, Below wq.heap.size wq W → Calls Try.prog 107 #[.slice A' (putAll (T j kn) ((Mn j kn).take q)).length cap', .agg #[.int .i64 ((Mn j kn)[q]'hql).1, .int .i64 ((Mn j kn)[q]'hql).2]] W fun e w' => ∃ v, e = .returned v ∧ Below W.heap.size W w' ∧ Hid (RdS v (putAll (T j kn) ((Mn j kn).take (q + 1))) w' ∧ ∀ g, v.ownBlock = some g → G2 < g)) := Lib.hid fun W hW => by
                        refine (Join_rd _ _ ((Mn j kn)[q]'hql) W (s4.up hW) hsm.1 (by unfold Sm; omega) (fun r hr => by have h1 := hrg r hr; have h2 := hsr.1 r hr; unfold Sm; omega) hln).mono fun e w' hp => ?_
                        obtain ⟨v, he, hb, ho⟩ := hp
                        rw [joinL_put hsr hsm.1] at ho
                        have e5 : putAll (T j kn) ((Mn j kn).take (q + 1)) = putL (putAll (T j kn) ((Mn j kn).take q)) ((Mn j kn)[q]'hql) := by
                          rw [List.take_add_one, hget]
                          exact putAll_snoc _ _ _
                        rw [e5]
                        refine ⟨v, he, hb, Lib.hid ⟨RdS.own ho fun e0 => ?_, fun g hg => by have h1 := (own_block ho hg).1; have h2 := hW.size; omega⟩⟩
                        have := (putL_has (putAll (T j kn) ((Mn j kn).take q)) ((Mn j kn)[q]'hql) hsr.1 hsm.1 ((Mn j kn)[q]'hql).1).2 (.inr ⟨Int.le_refl _, hsm.1⟩)
                        rw [e0] at this
                        obtain ⟨_, h, _⟩ := this
                        cases h
                      have HI := hI
                      have HSPq := hsp
                      clear hsm hTs htk hsr hrg hln hget s4 hI hsp hbv hqb
                      go_wp2_with fail
                      go_region_with (go_at_call 107; refine (KJ.out _ (by first | exact (Below.refl _ _).drew | exact Below.refl _ _)).mono ?_; rintro e w8 ⟨v8, rfl, hb8, hrd8⟩; have hrd9 := hrd8.out.1; obtain ⟨A8, c8, e8, -⟩ := hrd9; subst e8; have hB8 : Below wq.heap.size wq w8 := (Below.refl _ _).drew.trans (hb8.mono (by simp only [World.size_drew]; omega)); have s18 := cell_up hB8 s3 s1; have s28 := frozen_up hB8 s3 s2; have s38 : G2 < w8.heap.size := Nat.lt_of_lt_of_le s3 hB8.size)
                      all_goals
                        have HI8 := Lib.hid (HI.out.up hB8)
                        have HN8 : Hid (SetI wB G2 N (fun c => if c = kn then putAll (T j kn) ((Mn j kn).take (q + 1)) else midT T j kn c) (w8.setCell ⟨G2, kn, none⟩ (.slice A8 (putAll (T j kn) ((Mn j kn).take (q + 1))).length c8))) := Lib.hid (by
                          have h := HI8.out.put hkN hrd8.out.1 hrd8.out.2
                          have e : (fun q_1 => if q_1 = kn then putAll (T j kn) ((Mn j kn).take (q + 1)) else (fun c => if c = kn then putAll (T j kn) ((Mn j kn).take q) else midT T j kn c) q_1) = fun c => if c = kn then putAll (T j kn) ((Mn j kn).take (q + 1)) else midT T j kn c := by
                            funext c
                            by_cases hc : c = kn
                            · simp only [if_pos hc]
                            · simp only [if_neg hc]
                          rw [← e]; exact h)
                        have HS8 := Lib.hid (HI8.out.sps (c := kn) (v := .slice A8 (putAll (T j kn) ((Mn j kn).take (q + 1))).length c8) (((HSPq.out.up hB8 (Nat.le_refl _)).more hB8.size)))
                        have hg8 : (w8.setCell ⟨G2, kn, none⟩ (.slice A8 (putAll (T j kn) ((Mn j kn).take (q + 1))).length c8)).cell? ⟨g, 1, none⟩ = some (.int .i64 (hi j)) := keepB (cell_up hB8 hgq2 hgq) hgG
                        clear hb8 hB8 hrd8 s1 s2 e0 e1
                        go_wp2_with fail
                        go_roundw
                        case rel => exact ⟨q + 1, by omega, by go_num, fun e => (by rw [hbf] at e; cases e), hg8, Below.refl _ _, HS8, HN8⟩
                        case measure => simp [intOf] <;> omega
                  · obtain rfl : q = (Mn j kn).length := by omega
                    have hqi : ((Mn j kn).length : Int) ≤ (((Mn j kn).length : Nat) : Int) := Int.le_refl _
                    have HX : Hid (SetI wB G2 N (midT T j ((kn : Int) + 1)) wq) := Lib.hid (by
                      have e9 : T (j + 1) kn = putAll (T j kn) ((Mn j kn).take (Mn j kn).length) := by
                        rw [List.take_length, HT.out j kn hjl]
                        by_cases hbv : blt ZB m kn = true
                        · have h0 := hqb hbv
                          rw [if_neg (by rw [hbv]; simp), List.eq_nil_of_length_eq_zero h0]; rfl
                        · rw [if_pos ⟨hk1, hkh, by simpa using hbv⟩]
                      rw [← midT_step e9]
                      exact hI.out)
                    clear hsp hI hqb
                    go_wp2_with fail
                    go_roundw
                    case rel => exact ⟨(kn : Int) + 1, by go_num, by omega, .inl (by omega), hgq, HX⟩
                    case measure => simp [intOf] <;> omega
              · have dk : decide (k ≤ hi j) = false := by simpa using hkh
                have HX : Hid (SetI wB G2 N (T (j + 1)) wp) := Lib.hid (by
                  have e : midT T j k = T (j + 1) := by
                    funext q
                    unfold midT
                    split
                    · rfl
                    · rw [HT.out j q hjl, if_neg (by omega)]
                  rw [← e]; exact hI.out)
                clear hBp hCp hI
                go_wp2_with fail
                go_roundw
                case rel => exact ⟨j + 1, by omega, by go_num, HX⟩
                case measure => simp [intOf] <;> omega
        · have hji2 : (n : Int) ≤ (j : Int) := by omega
          obtain rfl : n = j := by omega
          have rf0 := (hBo.cell (p := ⟨w.heap.size + 1, 0, none⟩) (show w.heap.size + 1 < G2 by omega)).trans RB0.out
          have rf1 := (hBo.frozen (p := ⟨w.heap.size + 1, 0, none⟩) (show w.heap.size + 1 < G2 by omega)).trans RB1.out
          have zr := World.block_lt_of_cell? _ _ rf0
          clear hBo hCo
          go_wp2_with fail
          go_loopw [18] (fun c wr => ∃ k : Nat, k ≤ N ∧ c = .int .i64 k ∧ (∀ q, q < k → (T n q).length ≤ 8) ∧ wr = wo) (fun c _ => N - (intOf c).toNat)
          case atStart => exact ⟨0, Nat.zero_le _, rfl, fun q hq => absurd hq (by omega), rfl⟩
          case round =>
            obtain ⟨k, hk, rfl, hall, rfl⟩ := hrel
            have hk0 : (0 : Int) ≤ (k : Int) := by omega
            have HALL := Lib.hid hall
            clear hall
            by_cases hkl : k < N
            · have hki : (k : Int) < (N : Int) := by omega
              obtain ⟨A', cap', s1, s2, s3, s4, -⟩ := hI.out.at hkl
              have hln := (HS.out n k (Nat.le_refl _)).2.1
              clear s4
              by_cases h8 : (T n k).length ≤ 8
              · have d8 : decide ((8 : Int) < ((T n k).length : Int)) = false := by simp; omega
                have d8' : ¬ 8 < (T n k).length := by omega
                have HN8 : Hid (∀ q, q < k + 1 → (T n q).length ≤ 8) := Lib.hid fun q hq => (Nat.lt_succ_iff_lt_or_eq.1 hq).elim (HALL.out q) (fun e => e ▸ h8)
                go_wp2_with fail
                go_roundw
                case rel => exact ⟨k + 1, by omega, by go_num, HN8.out, (by first | rfl | trivial)⟩
                case measure => simp [intOf] <;> omega
              · have d8 : decide ((8 : Int) < ((T n k).length : Int)) = true := by simp; omega
                have d8' : 8 < (T n k).length := by omega
                obtain rfl : E = 2 := by
                  rcases HE.out with h | h
                  · exact absurd (h.1 k hkl) h8
                  · exact h.2
                go_wp2_with fail
                refine bodyPost_ret (v := .tuple #[.agg #[.slice none 0 0], .int .i64 2]) ?_ rfl ⟨none, 0, 0, rfl, ?_, Lib.hid ⟨Sheet.zero _ _ _, fun h => absurd h (by decide), fun _ => rfl⟩⟩
                · simp [results, Try.results54, go_sem, rf0]
                · first | exact set1 HCo.out (by omega) _ _ | exact HCo.out
            · have hki : (N : Int) ≤ (k : Int) := by omega
              obtain rfl : k = N := by omega
              obtain rfl : E = 0 := by
                rcases HE.out with h | h
                · exact h.2
                · exact absurd HALL.out h.1
              have HSH := Lib.hid (ShL.shq (E := 0) (.inl ⟨rfl, rfl, (hI.out.clsl (by omega)).set (b := w.heap.size + 1) (by omega) 0 (.slice (some ⟨G2, 0, none⟩) k k)⟩)).1
              clear hI
              go_wp2_with fail
              refine bodyPost_ret (v := .tuple #[.agg #[.slice (some ⟨G2, 0, none⟩) k k], .int .i64 0]) ?_ rfl ⟨some ⟨G2, 0, none⟩, k, k, rfl, ?_, Lib.hid ⟨HSH.out, fun _ => rfl, fun h => absurd rfl h⟩⟩
              · simp [results, Try.results54, go_sem, rf0]
              · first | exact set1 HCo.out (by omega) _ _ | exact HCo.out
end Go.Proofs.Ytmeljcbefnojfaa
namespace Go.Proofs.Ytmeljcbefnojfaa
open Go.RowKit
attribute [local go_sem] Oper.semAt_some
set_option maxRecDepth 100000 in
set_option maxHeartbeats 4000000 in
theorem RInk_e1 (p : Pap) (A B : Option Addr) (n c m d N : Nat)  (L : Nat → List (Int × Int)) (w : World)
    (K1 : Hid (∀ W, Calls Try.prog 28 #[p.v] W fun e w' => e = .returned (.int .i64 10) ∧ Below W.heap.size W w')) :
    Calls Try.prog 54 #[p.v, .slice A n c, .slice B m d] w (ShP N L 10 w) := by
  go_enter Try.func54, Try.ntmps54
  go_wp2_with fail
  refine (K1.out _).mono ?_
  rintro e w1 ⟨rfl, hb1⟩
  have C1 : Below w.heap.size w w1 := (box2 w _ _).trans (hb1.mono (by simp only [World.size_alloc]; omega))
  have r0 := low_cell (b := w.heap.size + 1) (o := 0) (v := .slice none 0 0) hb1 (by simp only [World.size_alloc]; omega) (by go_simp)
  have r1 := low_frozen (b := w.heap.size + 1) (o := 0) (v := false) hb1 (by simp only [World.size_alloc]; omega) (by go_simp)
  have HC := Lib.hid C1
  clear hb1 C1
  go_wp2_with fail
  refine bodyPost_ret (v := .tuple #[.agg #[.slice none 0 0], .int .i64 10]) ?_ rfl ⟨none, 0, 0, rfl, ?_, Lib.hid ⟨Sheet.zero _ _ _, fun h => absurd h (by decide), fun _ => rfl⟩⟩
  · simp [results, Try.results54, go_sem, r0]
  · first | exact set1 HC.out (by omega) _ _ | exact HC.out
set_option maxRecDepth 100000 in
set_option maxHeartbeats 4000000 in
theorem RInk_e2 (p : Pap) (A B : Option Addr) (n c m d N : Nat) (E I : Int) (L : Nat → List (Int × Int)) (w : World)
    (K1 : Hid (∀ W, Calls Try.prog 28 #[p.v] W fun e w' => e = .returned (.int .i64 0) ∧ Below W.heap.size W w'))
    (K2 : Hid (∀ W, Below w.heap.size w W → Calls Try.prog 22 #[.slice A n c] W fun e w' => e = .returned (.tuple #[.int .i64 E, .int .i64 I]) ∧ Below W.heap.size W w')) (hE : E ≠ 0) :
    Calls Try.prog 54 #[p.v, .slice A n c, .slice B m d] w (ShP N L E w) := by
  have d1 : (E == 0) = false := by simpa using hE
  have d2 : (E != 0) = true := by simpa using hE
  have HE := Lib.hid hE
  clear hE
  go_enter Try.func54, Try.ntmps54
  go_wp2_with fail
  refine (K1.out _).mono ?_
  rintro e w1 ⟨rfl, hb1⟩
  have C1 : Below w.heap.size w w1 := (box2 w _ _).trans (hb1.mono (by simp only [World.size_alloc]; omega))
  have r0 := low_cell (b := w.heap.size + 1) (o := 0) (v := .slice none 0 0) hb1 (by simp only [World.size_alloc]; omega) (by go_simp)
  have r1 := low_frozen (b := w.heap.size + 1) (o := 0) (v := false) hb1 (by simp only [World.size_alloc]; omega) (by go_simp)
  have zr := World.block_lt_of_cell? _ _ r0
  clear hb1
  go_wp2_with fail
  refine (K2.out _ C1).mono ?_
  rintro e w2 ⟨rfl, hb2⟩
  have C2 : Below w.heap.size w w2 := C1.trans (hb2.mono C1.size)
  have r20 := cell_up hb2 zr r0
  have r21 := frozen_up hb2 zr r1
  have HC := Lib.hid C2
  clear hb2 C1 C2 r0 r1 zr
  go_wp2_with fail
  refine bodyPost_ret (v := .tuple #[.agg #[.slice none 0 0], .int .i64 E]) ?_ rfl ⟨none, 0, 0, rfl, ?_, Lib.hid ⟨Sheet.zero _ _ _, fun h => absurd h HE.out, fun _ => rfl⟩⟩
  · simp [results, Try.results54, go_sem, r20]
  · first | exact set1 HC.out (by omega) _ _ | exact HC.out
set_option maxRecDepth 100000 in
set_option maxHeartbeats 4000000 in
theorem RInk_e3 (p : Pap) (A B : Option Addr) (n c m d N : Nat) (ZB : Nat → Int) (L : Nat → List (Int × Int)) (w : World)
    (hN : (N : Int) = p.cols) (hN2 : N ≤ 200) (hB : IntsIn B m ZB w.heap.size w) (jb : Nat) (hjb : jb < m) (hbl : BlotsOk p.cols ZB jb) (hbad : ¬ (lastB ZB jb + 1 ≤ ZB jb ∧ ZB jb ≤ p.cols - 1))
    (K1 : Hid (∀ W, Calls Try.prog 28 #[p.v] W fun e w' => e = .returned (.int .i64 0) ∧ Below W.heap.size W w'))
    (K2 : Hid (∀ W, Below w.heap.size w W → Calls Try.prog 22 #[.slice A n c] W fun e w' => e = .returned (.tuple #[.int .i64 0, .int .i64 0]) ∧ Below W.heap.size W w')) :
    Calls Try.prog 54 #[p.v, .slice A n c, .slice B m d] w (ShP N L 1 w) := by
  have hmN : jb ≤ N := by
    have h1 := hbl.len jb (Nat.le_refl _)
    have h2 := hbl.last_bd2 jb (Nat.le_refl jb)
    have h3 : lastB ZB jb ≤ p.cols - 1 ∨ jb = 0 := by
      cases jb with
      | zero => exact .inr rfl
      | succ m => exact .inl (hbl m (by omega)).2
    omega
  have hmm : (jb : Int) ≤ 200 := by omega
  have hmb := hB.1
  have HB := Lib.hid hB
  have HN := Lib.hid hN
  have HBL := Lib.hid hbl
  have HBAD := Lib.hid hbad
  clear hB hN hbl hbad
  go_enter Try.func54, Try.ntmps54
  go_wp2_with fail
  refine (K1.out _).mono ?_
  rintro e w1 ⟨rfl, hb1⟩
  have C1 : Below w.heap.size w w1 := (box2 w _ _).trans (hb1.mono (by simp only [World.size_alloc]; omega))
  have P1 : HasPap p w.heap.size w1 := HasPap.up (by unfold HasPap; go_simp) hb1 (by simp only [World.size_alloc]; omega)
  have r0 := low_cell (b := w.heap.size + 1) (o := 0) (v := .slice none 0 0) hb1 (by simp only [World.size_alloc]; omega) (by go_simp)
  have r1 := low_frozen (b := w.heap.size + 1) (o := 0) (v := false) hb1 (by simp only [World.size_alloc]; omega) (by go_simp)
  have zr := World.block_lt_of_cell? _ _ r0
  clear hb1
  go_wp2_with fail
  refine (K2.out _ C1).mono ?_
  rintro e w2 ⟨rfl, hb2⟩
  have C2 : Below w.heap.size w w2 := C1.trans (hb2.mono C1.size)
  have P2 := P1.up hb2 P1.block
  have r20 := cell_up hb2 zr r0
  have r21 := frozen_up hb2 zr r1
  have zr2 := World.block_lt_of_cell? _ _ r20
  clear hb2 C1 P1 r0 r1 zr
  have z2 : w.heap.size < w2.heap.size := P2.block
  have HP2 := Lib.hid P2
  unfold HasPap at P2
  obtain ⟨-, -, -, -, -, p5, -⟩ := P2
  rw [← HN.out] at p5
  have hmk := run_make_bools N (by omega)
  go_wp2_with fail
  obtain ⟨G1, hG1⟩ : ∃ G, G = w2.heap.size := ⟨_, rfl⟩
  obtain ⟨wA, hwA⟩ : ∃ W, W = w2.alloc (.cells (madeCells #[.bool false] N) 4) := ⟨_, rfl⟩
  have hBA : Below w2.heap.size w2 wA := by rw [hwA]; exact box1 _ _
  have hB0 : BlI wA G1 N (blt ZB 0) wA := by rw [hwA, hG1, blt_zero]; exact BlI.new w2 N
  have CA := Lib.hid (C2.trans (hBA.mono C2.size))
  have PA := Lib.hid (HP2.out.up hBA z2)
  have RA0 := Lib.hid (cell_up hBA zr2 r20)
  have RA1 := Lib.hid (frozen_up hBA zr2 r21)
  have HB0 := Lib.hid hB0
  have hG1w : w.heap.size + 1 + 1 ≤ G1 := by omega
  have hG1A : G1 < wA.heap.size := by obtain ⟨_, cur, h2, _⟩ := hB0; exact (Array.getElem?_eq_some_iff.1 h2).1
  rw [← hG1]
  rw [← hwA]
  clear hmk p5 hB0 hwA hG1 hBA C2 r20 r21 zr2 z2 HP2
  go_loopw [11] (fun i wr => ∃ j : Nat, j ≤ jb ∧ i = .int .i64 j ∧ Hid (BlI wA G1 N (blt ZB j) wr)) (fun i _ => m - (intOf i).toNat)
  case atStart => exact ⟨0, Nat.zero_le _, rfl, HB0⟩
  case round =>
    obtain ⟨j, hj, rfl, hI⟩ := hrel
    obtain ⟨wi, rfl⟩ : ∃ wi : World, wi = wr := ⟨_, rfl⟩
    have hj0 : (0 : Int) ≤ (j : Int) := by omega
    have hBi := hI.out.below
    have hCW : Below w.heap.size w wi := CA.out.trans (hBi.mono (by omega))
    have HCW := Lib.hid hCW
    have hPi := PA.out.up hBi (by omega)
    unfold HasPap at hPi
    obtain ⟨p0, p1, p2, p3, p4, p5, p6, p7, p8, p9⟩ := hPi
    rw [← HN.out] at p5
    have zp : w.heap.size < wi.heap.size := World.block_lt_of_cell? _ _ p5
    by_cases hjl : j < jb
    · obtain ⟨b, rfl, bl, b0⟩ := (HB.out.up hCW (Nat.le_refl _)).2 j (by omega)
      have hji : (j : Int) < (m : Int) := by omega
      have hz := HBL.out.last_bd2 j (Nat.le_of_lt hjl)
      have hz2 := HBL.out j hjl
      have hz3 := HN.out
      obtain ⟨q, hq⟩ : ∃ q : Nat, (q : Int) = ZB j := ⟨(ZB j).toNat, by omega⟩
      have hqN : q < N := by omega
      have hqi : (q : Int) < (N : Int) := by omega
      have hq0 : (0 : Int) ≤ (q : Int) := by omega
      have g1 : IntKind.i64.wrap ((N : Int) - 1) = (N : Int) - 1 := IntWalk.i64_in _ (by omega)
      have KW : Hid (∀ W, Calls Try.prog 77 #[.int .i64 (q : Int), .int .i64 0, .int .i64 ((N : Int) - 1)] W fun e w' => e = .returned (.bool true) ∧ W = w') := Lib.hid fun W => within_t _ _ _ _ (by omega)
      obtain ⟨v1, v2, v3⟩ := hI.out.at hqN
      have HNX : Hid (BlI wA G1 N (blt ZB (j + 1)) (wi.setCell ⟨G1, q, none⟩ (.bool true))) := Lib.hid (by rw [← blt_succ q hq]; exact hI.out.set hqN true)
      have HNY : Hid (∀ r, BlI wA G1 N (blt ZB (j + 1)) ((wi.drewN r).setCell ⟨G1, q, none⟩ (.bool true))) := Lib.hid fun r => (by rw [← blt_succ q hq]; exact (hI.out.up (below_drewN (Below.refl wi.heap.size wi) r) v3).set hqN true)
      rw [← hq] at b0
      clear hBi hCW hz3 p0 p1 p2 p3 p4 p6 p7 p8 p9
      by_cases hj1 : j = 0
      · have dj3 : decide (0 < j) = false := by simp; omega
        have dj4 : ¬ 0 < j := by omega
        have dj : decide ((0 : Int) < (j : Int)) = false := by simp; omega
        have dj2 : decide ((j : Int) > (0 : Int)) = false := by simp; omega
        clear hz hz2 hq hj1
        go_wp2_with fail
        go_quiet ((go_at_call 77; exact Calls.quiet_of_same ((KW.out _).mono fun _ _ h => ⟨h.1, h.2.symm⟩)))
        go_wp2_with fail
        go_roundw
        case rel => exact ⟨j + 1, by omega, by go_num, Lib.hid (HNY.out _)⟩
        case measure => simp [intOf] <;> omega
      · have dj3 : decide (0 < j) = true := by simp; omega
        have dj4 : 0 < j := by omega
        have dj : decide ((0 : Int) < (j : Int)) = true := by simp; omega
        have dj2 : decide ((j : Int) > (0 : Int)) = true := by simp; omega
        obtain ⟨j', hj'⟩ : ∃ j' : Nat, j = j' + 1 := ⟨j - 1, by omega⟩
        obtain ⟨b1, e1, _, b1c⟩ := (HB.out.up HCW.out (Nat.le_refl _)).2 j' (by omega)
        cases e1
        have hlt1 : ¬ (q : Int) ≤ ZB j' := by have h9 : lastB ZB j + 1 ≤ ZB j := hz2.1; rw [hj'] at h9 hq; have h10 : ZB j' + 1 ≤ ZB (j' + 1) := h9; omega
        have dlt : decide ((q : Int) ≤ ZB j') = false := by simpa using hlt1
        have hjj : (j : Int) - 1 = (j' : Int) := by omega
        have hji1 : (j' : Int) < (m : Int) := by omega
        have hj01 : (0 : Int) ≤ (j' : Int) := by omega
        have HJ := Lib.hid hj'
        clear hz hz2 hq hlt1 hj1 hj'
        go_wp2_with fail
        go_quiet ((go_at_call 77; exact Calls.quiet_of_same ((KW.out _).mono fun _ _ h => ⟨h.1, h.2.symm⟩)))
        go_wp2_with fail
        go_roundw
        case rel => exact ⟨j + 1, by omega, by go_num, Lib.hid (HNY.out _)⟩
        case measure => simp [intOf] <;> omega
    · obtain rfl : j = jb := by omega
      obtain ⟨b, rfl, bl, b0⟩ := (HB.out.up hCW (Nat.le_refl _)).2 j (by omega)
      have hji : (j : Int) < (m : Int) := by omega
      have g1 : IntKind.i64.wrap ((N : Int) - 1) = (N : Int) - 1 := IntWalk.i64_in _ (by omega)
      have rc0 := (hBi.cell (p := ⟨w.heap.size + 1, 0, none⟩) (show w.heap.size + 1 < G1 by omega)).trans RA0.out
      have rc1 := (hBi.frozen (p := ⟨w.heap.size + 1, 0, none⟩) (show w.heap.size + 1 < G1 by omega)).trans RA1.out
      have zr := World.block_lt_of_cell? _ _ rc0
      have hz := HBL.out.last_bd2 j (Nat.le_refl _)
      have hz3 := HN.out
      clear hBi hCW p0 p1 p2 p3 p4 p6 p7 p8 p9
      by_cases hw : 0 ≤ ZB j ∧ ZB j ≤ (N : Int) - 1
      · have KW : Hid (∀ W, Calls Try.prog 77 #[.int .i64 (ZB j), .int .i64 0, .int .i64 ((N : Int) - 1)] W fun e w' => e = .returned (.bool true) ∧ W = w') := Lib.hid fun W => within_t _ _ _ _ hw
        obtain ⟨j', hj'⟩ : ∃ j' : Nat, j = j' + 1 := by
          cases j with
          | zero => exact absurd ⟨(show (-1 : Int) + 1 ≤ _ by omega), (by omega)⟩ HBAD.out
          | succ j => exact ⟨j, rfl⟩
        have hle : ZB j ≤ ZB j' := by
          have h9 := HBAD.out
          have h10 : lastB ZB j = ZB j' := by rw [hj']; rfl
          rw [h10] at h9
          omega
        have dj3 : decide (0 < j) = true := by simp; omega
        have dj4 : 0 < j := by omega
        have dj : decide ((0 : Int) < (j : Int)) = true := by simp; omega
        have dj2 : decide ((j : Int) > (0 : Int)) = true := by simp; omega
        obtain ⟨b1, e1, _, b1c⟩ := (HB.out.up HCW.out (Nat.le_refl _)).2 j' (by omega)
        cases e1
        have dlt : decide (ZB j ≤ ZB j') = true := by simpa using hle
        have hjj : (j : Int) - 1 = (j' : Int) := by omega
        have hji1 : (j' : Int) < (m : Int) := by omega
        have hj01 : (0 : Int) ≤ (j' : Int) := by omega
        clear hz hz3 hle hw hj'
        go_wp2_with fail
        go_quiet ((go_at_call 77; exact Calls.quiet_of_same ((KW.out _).mono fun _ _ h => ⟨h.1, h.2.symm⟩)))
        go_wp2_with fail
        refine bodyPost_ret (v := .tuple #[.agg #[.slice none 0 0], .int .i64 1]) ?_ rfl ⟨none, 0, 0, rfl, ?_, Lib.hid ⟨Sheet.zero _ _ _, fun h => absurd h (by decide), fun _ => rfl⟩⟩
        · simp [results, Try.results54, go_sem, rc0]
        · first | exact set1 HCW.out (by omega) _ _ | exact HCW.out | exact below_drewN HCW.out _ | exact set1 (below_drewN HCW.out _) (by omega) _ _
      · have KW : Hid (∀ W, Calls Try.prog 77 #[.int .i64 (ZB j), .int .i64 0, .int .i64 ((N : Int) - 1)] W fun e w' => e = .returned (.bool false) ∧ W = w') := Lib.hid fun W => within_f _ _ _ _ hw
        clear hz hz3 hw
        go_wp2_with fail
        go_quiet ((go_at_call 77; exact Calls.quiet_of_same ((KW.out _).mono fun _ _ h => ⟨h.1, h.2.symm⟩)))
        go_wp2_with fail
        refine bodyPost_ret (v := .tuple #[.agg #[.slice none 0 0], .int .i64 1]) ?_ rfl ⟨none, 0, 0, rfl, ?_, Lib.hid ⟨Sheet.zero _ _ _, fun h => absurd h (by decide), fun _ => rfl⟩⟩
        · simp [results, Try.results54, go_sem, rc0]
        · first | exact set1 HCW.out (by omega) _ _ | exact HCW.out | exact below_drewN HCW.out _ | exact set1 (below_drewN HCW.out _) (by omega) _ _
end Go.Proofs.Ytmeljcbefnojfaa
