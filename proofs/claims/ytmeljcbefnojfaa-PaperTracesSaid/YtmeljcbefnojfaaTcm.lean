import Derived.Test.YtmeljcbefnojfaaIkm
import Derived.Test.YtmeljcbefnojfaaMee
import Derived.Test.YtmeljcbefnojfaaIkf
namespace Go.Proofs.Ytmeljcbefnojfaa
open Go.RowKit
theorem srt_two {L : List (Int × Int)} (hL : Srt L) {r s : Int × Int} (hr : r ∈ L) (hs : s ∈ L) : r = s ∨ r.2 + 2 ≤ s.1 ∨ s.2 + 2 ≤ r.1 := by
  obtain ⟨i, hi, rfl⟩ := List.mem_iff_getElem.1 hr
  obtain ⟨j, hj, rfl⟩ := List.mem_iff_getElem.1 hs
  have h := List.pairwise_iff_getElem.1 hL.2
  rcases Nat.lt_trichotomy i j with c | c | c
  · exact .inr (.inl (h i j hi hj c))
  · subst c; exact .inl rfl
  · exact .inr (.inr (h j i hj hi c))
/-- a span of which all is held lies in one span -/
theorem srt_inside {L : List (Int × Int)} (hL : Srt L) {q : Int × Int} (hq : q.1 ≤ q.2) (h : ∀ t, q.1 ≤ t → t ≤ q.2 → Has L t) : ∃ r ∈ L, r.1 ≤ q.1 ∧ q.2 ≤ r.2 := by
  obtain ⟨r, hr, h1, h2⟩ := h q.1 (Int.le_refl _) hq
  refine ⟨r, hr, h1, ?_⟩
  by_cases hc : q.2 ≤ r.2
  · exact hc
  · obtain ⟨s, hs, h3, h4⟩ := h (r.2 + 1) (by omega) (by omega)
    rcases srt_two hL hr hs with rfl | e | e <;> omega
/-- what a point means in a column, joined or not -/
theorem means_levH {p : Pap} {t : Pt} {c : Int} {L : List (Int × Int)} (h : p.Ok) (ht : t.Ok) (hL : HtsL p t c L) (x : Int) : Has (meansOf p L) x ↔ Has (levH p L) x := by
  have hb := hts_bd h ht hL
  match L, hb with
  | [], _ => rfl
  | [a], _ => rfl
  | [a, b], hb =>
    have h1 := hb.1 0 a rfl
    have h2 := hb.1 1 b rfl
    have h3 := hb.2.1 a b rfl rfl
    have l1 := lev_mono h h1.2.1
    have l2 := lev_mono h h2.2.1
    have l3 := lev_mono h (Int.le_of_lt h3)
    have e1 : meansOf p [a, b] = addL [(lev p a.1, lev p a.2)] (lev p b.1, lev p b.2) := rfl
    have e2 : levH p [a, b] = [(lev p a.1, lev p a.2), (lev p b.1, lev p b.2)] := rfl
    rw [e1, e2]
    unfold addL
    simp only
    split
    · simp only [Has.cons]
      have e3 : ¬ Has [] x := by simp [Has]
      simp only [e3, or_false]
      omega
    · exact Iff.rfl
  | a :: b :: c :: l, hb => have := hb.2.2; simp only [List.length_cons] at this; omega
end Go.Proofs.Ytmeljcbefnojfaa
namespace Go.Proofs.Ytmeljcbefnojfaa
open Go.RowKit
attribute [local go_sem] Oper.semAt_some
set_option maxHeartbeats 400000 in
theorem in_t (a b c d : Int) (w : World) (h : c ≤ a ∧ b ≤ d) :
    Calls Try.prog 65 #[.agg #[.int .i64 a, .int .i64 b], .agg #[.int .i64 c, .int .i64 d]] w fun e w' => e = .returned (.bool true) ∧ Below w.heap.size w w' := by
  obtain ⟨h1, h2⟩ := h
  have d1 : decide (c ≤ a) = true := by simpa using h1
  have d2 : decide (b ≤ d) = true := by simpa using h2
  go_enter Try.func65, Try.ntmps65
  go_wp2_with fail
  go_ret
  exact ⟨rfl, box2 _ _ _⟩
set_option maxHeartbeats 400000 in
theorem in_f (a b c d : Int) (w : World) (h : ¬ (c ≤ a ∧ b ≤ d)) :
    Calls Try.prog 65 #[.agg #[.int .i64 a, .int .i64 b], .agg #[.int .i64 c, .int .i64 d]] w fun e w' => e = .returned (.bool false) ∧ Below w.heap.size w w' := by
  by_cases h1 : c ≤ a
  · have h2 : ¬ b ≤ d := fun h2 => h ⟨h1, h2⟩
    have d1 : decide (c ≤ a) = true := by simpa using h1
    have d2 : decide (b ≤ d) = false := by simpa using h2
    clear h h2
    go_enter Try.func65, Try.ntmps65
    go_wp2_with fail
    go_ret
    exact ⟨rfl, box2 _ _ _⟩
  · have d1 : decide (c ≤ a) = false := by simpa using h1
    clear h h1
    go_enter Try.func65, Try.ntmps65
    go_wp2_with fail
    go_ret
    exact ⟨rfl, box2 _ _ _⟩
/-- the walk along a span: where it stands, whether it went on -/
structure AtI (x : Cls) (i k : Nat) (a0 a : Int) (b : Bool) : Prop where
  lo : a0 ≤ a ∧ a ≤ 100000001
  no : b = false → a = a0
  yes : b = true → a0 < a
  all : b = false → ∀ i' k', (i' < i ∨ i' = i ∧ k' < k) → k' < x.L i' → ¬ ((x.S i' k').1 ≤ a0 ∧ a0 ≤ (x.S i' k').2)
set_option maxRecDepth 100000 in
set_option maxHeartbeats 8000000 in
theorem joined_law (A B : Option Addr) (n c m d : Nat) (S : Nat → Int × Int) (x : Cls) (w : World) (hA : SpsIn A n S w.heap.size w) (hB : ClsIn B m x w.heap.size w)
    (h1 : ∀ i, i < m → ∀ k, k < x.L i → ∃ j, j < n ∧ (S j).1 ≤ (x.S i k).1 ∧ (x.S i k).2 ≤ (S j).2)
    (h2 : ∀ j, j < n → ∀ t, (S j).1 ≤ t → t ≤ (S j).2 → ∃ i, i < m ∧ ∃ k, k < x.L i ∧ (x.S i k).1 ≤ t ∧ t ≤ (x.S i k).2)
    (h3 : ∀ i, i < m → ∀ k, k < x.L i → 0 ≤ (x.S i k).2 ∧ (x.S i k).2 ≤ 100000000) (h4 : ∀ j, j < n → 0 ≤ (S j).1 ∧ (S j).1 ≤ (S j).2 ∧ (S j).2 ≤ 100000000) :
    Calls Try.prog 66 #[.slice A n c, .slice B m d] w fun e w' => e = .returned (.bool true) ∧ Below w.heap.size w w' := by
  have hn := hA.1
  have hm := hB.1
  have HA := Lib.hid hA
  have HB := Lib.hid hB
  have H1 := Lib.hid h1
  have H2 := Lib.hid h2
  have H3 := Lib.hid h3
  have H4 := Lib.hid h4
  clear hA hB h1 h2 h3 h4
  go_enter Try.func66, Try.ntmps66
  go_wp2_with fail
  go_loopw [5, 6, 7, 8] (fun i _ _ _ wr => ∃ k : Nat, k ≤ m ∧ i = .int .i64 k ∧ Below w.heap.size w wr) (fun i _ _ _ _ => m - (intOf i).toNat)
  case atStart => exact ⟨0, Nat.zero_le _, rfl, Below.refl _ _⟩
  case round =>
    obtain ⟨i, hi, rfl, hW⟩ := hrel
    obtain ⟨wo, rfl⟩ : ∃ wo : World, wo = wr := ⟨_, rfl⟩
    have hi0 : (0 : Int) ≤ (i : Int) := by omega
    by_cases hlt : i < m
    · obtain ⟨b, rfl, bb, b0, bs⟩ := (HB.out.up hW (Nat.le_refl _)).2 i hlt
      have hil : (i : Int) < (m : Int) := by omega
      have hLm := bs.1
      have HBS := Lib.hid bs
      have HW := Lib.hid hW
      have hsz := hW.size
      clear bs hW
      go_wp2_with fail
      go_loopw [6, 7, 8] (fun k _ _ wr => ∃ k' : Nat, k' ≤ x.L i ∧ k = .int .i64 k' ∧ Below wo.heap.size wo wr) (fun k _ _ _ => x.L i - (intOf k).toNat)
      case atStart => exact ⟨0, Nat.zero_le _, rfl, Below.refl _ _⟩
      case round =>
        obtain ⟨k, hk, rfl, hW2⟩ := hrel
        obtain ⟨wp, rfl⟩ : ∃ wp : World, wp = wr := ⟨_, rfl⟩
        have hk0 : (0 : Int) ≤ (k : Int) := by omega
        have hsz2 := hW2.size
        have bl2 : (b.add i).block < wp.heap.size := by rw [add_block]; omega
        have b0' := (hW2.cell (p := b.add i) (by rw [add_block]; omega)).trans b0
        by_cases hkl : k < x.L i
        · obtain ⟨a, ea, al, a0, a1⟩ := (HBS.out.up hW2 (by omega)).2 k hkl
          have hkL : (k : Int) < (x.L i : Int) := by omega
          have HW2 := Lib.hid hW2
          clear hW2
          rw [ea] at b0'
          go_wp2_with fail
          go_loopw [7, 8] (fun g j wr => ∃ (G : Bool) (j' : Nat), j' ≤ n ∧ g = .bool G ∧ j = .int .i64 j' ∧ Below wp.heap.size wp wr ∧ (G = false → ∀ q, q < j' → ¬ ((S q).1 ≤ (x.S i k).1 ∧ (x.S i k).2 ≤ (S q).2))) (fun _ j _ => n - (intOf j).toNat)
          case atStart => exact ⟨false, 0, Nat.zero_le _, rfl, rfl, Below.refl _ _, fun _ q hq => absurd hq (by omega)⟩
          case round =>
            obtain ⟨G, j, hj, rfl, rfl, hW3, hG⟩ := hrel
            obtain ⟨wq, rfl⟩ : ∃ wq : World, wq = wr := ⟨_, rfl⟩
            have hj0 : (0 : Int) ≤ (j : Int) := by omega
            have hsz3 := hW3.size
            have HG := Lib.hid hG
            clear hG
            have c0 := (hW3.cell (p := b.add i) bl2).trans b0'
            have c1 := (hW3.cell (p := a.add (k * 2)) (by rw [add_block]; omega)).trans a0
            have c2 := (hW3.cell (p := ⟨(a.add (k * 2)).block, (a.add (k * 2)).off + 1, none⟩) (by simp only [add_block]; omega)).trans a1
            by_cases hjl : j < n
            · obtain ⟨s, rfl, sl, s0, s1⟩ := (HA.out.up ((HW.out.trans (HW2.out.mono hsz)).trans (hW3.mono (by omega))) (Nat.le_refl _)).2 j hjl
              have hjL : (j : Int) < (n : Int) := by omega
              have HW3 := Lib.hid hW3
              clear hW3
              cases G with
              | true =>
                go_wp2_with fail
                go_quiet (fail)
                go_wp2_with fail
                go_roundw
                case rel => exact ⟨true, j + 1, by omega, rfl, by go_num, (by first | exact HW3.out.drew | exact below_drewN HW3.out _), fun e => by cases e⟩
                case measure => simp [intOf]; omega
              | false =>
                by_cases hin : (S j).1 ≤ (x.S i k).1 ∧ (x.S i k).2 ≤ (S j).2
                · have K : Hid (∀ W, Calls Try.prog 65 #[.agg #[.int .i64 (x.S i k).1, .int .i64 (x.S i k).2], .agg #[.int .i64 (S j).1, .int .i64 (S j).2]] W fun e w' => e = .returned (.bool true) ∧ Below W.heap.size W w') := Lib.hid fun W => in_t _ _ _ _ W hin
                  clear hin
                  go_wp2_with fail
                  refine still_tail 13 (by kernel_rfl) (by kernel_rfl) ?_
                  simp only [List.take_succ_cons, List.take_zero, List.drop_succ_cons, List.drop_zero]
                  repeat still_step
                  refine wpStill_nil ?_
                  go_wp2_with fail
                  refine (K.out _).mono ?_
                  rintro e w4 ⟨rfl, hb4⟩
                  have hB4 : Below wp.heap.size wp w4 := HW3.out.drew.trans (hb4.mono (by simp only [World.size_drew]; omega))
                  go_wp2_with fail
                  go_roundw
                  case rel => exact ⟨true, j + 1, by omega, rfl, by go_num, hB4, fun e => by cases e⟩
                  case measure => simp [intOf]; omega
                · have K : Hid (∀ W, Calls Try.prog 65 #[.agg #[.int .i64 (x.S i k).1, .int .i64 (x.S i k).2], .agg #[.int .i64 (S j).1, .int .i64 (S j).2]] W fun e w' => e = .returned (.bool false) ∧ Below W.heap.size W w') := Lib.hid fun W => in_f _ _ _ _ W hin
                  have HIN : Hid (∀ q, q < j + 1 → ¬ ((S q).1 ≤ (x.S i k).1 ∧ (x.S i k).2 ≤ (S q).2)) := Lib.hid fun q hq => (Nat.lt_succ_iff_lt_or_eq.1 hq).elim (HG.out rfl q) (fun e => e ▸ hin)
                  clear hin
                  go_wp2_with fail
                  refine still_tail 13 (by kernel_rfl) (by kernel_rfl) ?_
                  simp only [List.take_succ_cons, List.take_zero, List.drop_succ_cons, List.drop_zero]
                  repeat still_step
                  refine wpStill_nil ?_
                  go_wp2_with fail
                  refine (K.out _).mono ?_
                  rintro e w4 ⟨rfl, hb4⟩
                  have hB4 : Below wp.heap.size wp w4 := HW3.out.drew.trans (hb4.mono (by simp only [World.size_drew]; omega))
                  go_wp2_with fail
                  go_roundw
                  case rel => exact ⟨false, j + 1, by omega, rfl, by go_num, hB4, fun _ => HIN.out⟩
                  case measure => simp [intOf]; omega
            · have hjL : (n : Int) ≤ (j : Int) := by omega
              obtain rfl : j = n := by omega
              obtain rfl : G = true := by
                cases G with
                | true => rfl
                | false =>
                  obtain ⟨q, q1, q2⟩ := H1.out i hlt k hkl
                  exact absurd q2 (HG.out rfl q q1)
              have HW3 := Lib.hid hW3
              clear hW3
              go_wp2_with fail
              go_roundw
              case rel => exact ⟨k + 1, by omega, by go_num, HW2.out.trans (HW3.out.mono hsz2)⟩
              case measure => simp [intOf]; omega
        · have hkL : (x.L i : Int) ≤ (k : Int) := by omega
          have HW2 := Lib.hid hW2
          clear hW2
          go_wp2_with fail
          go_roundw
          case rel => exact ⟨i + 1, by omega, by go_num, HW.out.trans (HW2.out.mono hsz)⟩
          case measure => simp [intOf]; omega
    · have hil : (m : Int) ≤ (i : Int) := by omega
      have HW := Lib.hid hW
      have hsz := hW.size
      clear hW
      go_wp2_with fail
      go_loopw [9, 10, 11, 12, 13] (fun j _ _ _ _ wr => ∃ j' : Nat, j' ≤ n ∧ j = .int .i64 j' ∧ wr = wo) (fun j _ _ _ _ _ => n - (intOf j).toNat)
      case atStart => exact ⟨0, Nat.zero_le _, rfl, rfl⟩
      case round =>
        obtain ⟨j, hj, rfl, rfl⟩ := hrel
        have hj0 : (0 : Int) ≤ (j : Int) := by omega
        by_cases hjl : j < n
        · obtain ⟨s, rfl, sl, s0, s1⟩ := (HA.out.up HW.out (Nat.le_refl _)).2 j hjl
          have hjL : (j : Int) < (n : Int) := by omega
          have h4 := H4.out j hjl
          go_wp2_with fail
          go_loopw [10, 11, 12, 13] (fun a g _ _ w' => ∃ (a' : Int) (G : Bool), a = .int .i64 a' ∧ g = .bool G ∧ (S j).1 ≤ a' ∧ a' ≤ 100000001 ∧ (G = false → (S j).2 < a') ∧ w' = wr) (fun a g _ _ _ => ((S j).2 + 1 - intOf a).toNat)
          case atStart => exact ⟨(S j).1, true, rfl, rfl, Int.le_refl _, by omega, fun e => (by cases e), (by first | rfl | trivial)⟩
          case round =>
            obtain ⟨a, G, rfl, rfl, ha1, ha2, haG, rfl⟩ := hrel
            by_cases hgo : a ≤ (S j).2
            · obtain rfl : G = true := by
                cases G with
                | true => rfl
                | false => have := haG rfl; omega
              have dgo : decide (a ≤ (S j).2) = true := by simpa using hgo
              clear haG
              go_wp2_with fail
              go_loopw [10, 11, 12, 13] (fun a' g i' _ w' => ∃ (z : Int) (G : Bool) (i : Nat), a' = .int .i64 z ∧ g = .bool G ∧ i' = .int .i64 i ∧ i ≤ m ∧ AtI x i 0 a z G ∧ w' = wr) (fun _ _ i' _ _ => m - (intOf i').toNat)
              case atStart => exact ⟨a, false, 0, rfl, rfl, rfl, Nat.zero_le _, ⟨⟨Int.le_refl _, ha2⟩, fun _ => rfl, fun e => (by cases e), fun _ i' k' h _ => absurd h (by omega)⟩, rfl⟩
              case round =>
                obtain ⟨z, G, i2, rfl, rfl, rfl, hi2, hAt, rfl⟩ := hrel
                have hi20 : (0 : Int) ≤ (i2 : Int) := by omega
                have HAt := Lib.hid hAt
                clear hAt
                by_cases hil2 : i2 < m
                · obtain ⟨b, rfl, bb, b0, bs⟩ := (HB.out.up HW.out (Nat.le_refl _)).2 i2 hil2
                  have hiL2 : (i2 : Int) < (m : Int) := by omega
                  have hLm := bs.1
                  have HBS := Lib.hid bs
                  clear bs
                  go_wp2_with fail
                  go_loopw [10, 11, 13] (fun a' g k' w' => ∃ (z : Int) (G : Bool) (k : Nat), a' = .int .i64 z ∧ g = .bool G ∧ k' = .int .i64 k ∧ k ≤ x.L i2 ∧ AtI x i2 k a z G ∧ w' = wr) (fun _ _ k' _ => x.L i2 - (intOf k').toNat)
                  case atStart => exact ⟨z, G, 0, rfl, rfl, rfl, Nat.zero_le _, HAt.out, rfl⟩
                  case round =>
                    obtain ⟨z, G, k, rfl, rfl, rfl, hk, hAt, rfl⟩ := hrel
                    have hk0 : (0 : Int) ≤ (k : Int) := by omega
                    have hzb := hAt.lo
                    have HAt := Lib.hid hAt
                    clear hAt
                    by_cases hkl : k < x.L i2
                    · obtain ⟨q, eq, ql, q0, q1⟩ := HBS.out.2 k hkl
                      have hkL : (k : Int) < (x.L i2 : Int) := by omega
                      have h3 := H3.out i2 hil2 k hkl
                      rw [eq] at b0
                      by_cases t1 : (x.S i2 k).1 ≤ z
                      · have d1 : decide ((x.S i2 k).1 ≤ z) = true := by simpa using t1
                        by_cases t2 : z ≤ (x.S i2 k).2
                        · have d2 : decide (z ≤ (x.S i2 k).2) = true := by simpa using t2
                          have wr1 : IntKind.i64.wrap ((x.S i2 k).2 + 1) = (x.S i2 k).2 + 1 := IntWalk.i64_in _ (by omega)
                          have HN : Hid (AtI x i2 (k + 1) a ((x.S i2 k).2 + 1) true) := Lib.hid ⟨by have := HAt.out.lo; omega, (fun e => by cases e), fun _ => by have := HAt.out.lo; omega, fun e => by cases e⟩
                          clear t1 t2
                          go_wp2_with fail
                          go_roundw
                          case rel => exact ⟨_, true, k + 1, rfl, rfl, by go_num, by omega, HN.out, (by first | rfl | trivial)⟩
                          case measure => simp [intOf]; omega
                        · have d2 : decide (z ≤ (x.S i2 k).2) = false := by simpa using t2
                          have HN : Hid (AtI x i2 (k + 1) a z G) := Lib.hid ⟨HAt.out.lo, HAt.out.no, HAt.out.yes, fun e i' k' h hL => by
                            have e1 := HAt.out.no e
                            by_cases hx : i' = i2 ∧ k' = k
                            · obtain ⟨rfl, rfl⟩ := hx; subst e1; intro g; exact t2 g.2
                            · exact HAt.out.all e i' k' (by omega) hL⟩
                          clear t1 t2
                          go_wp2_with fail
                          go_roundw
                          case rel => exact ⟨_, G, k + 1, rfl, rfl, by go_num, by omega, HN.out, (by first | rfl | trivial)⟩
                          case measure => simp [intOf]; omega
                      · have d1 : decide ((x.S i2 k).1 ≤ z) = false := by simpa using t1
                        have HN : Hid (AtI x i2 (k + 1) a z G) := Lib.hid ⟨HAt.out.lo, HAt.out.no, HAt.out.yes, fun e i' k' h hL => by
                          have e1 := HAt.out.no e
                          by_cases hx : i' = i2 ∧ k' = k
                          · obtain ⟨rfl, rfl⟩ := hx; subst e1; intro g; exact t1 g.1
                          · exact HAt.out.all e i' k' (by omega) hL⟩
                        clear t1
                        go_wp2_with fail
                        go_roundw
                        case rel => exact ⟨_, G, k + 1, rfl, rfl, by go_num, by omega, HN.out, (by first | rfl | trivial)⟩
                        case measure => simp [intOf]; omega
                    · have hkL : (x.L i2 : Int) ≤ (k : Int) := by omega
                      have HN : Hid (AtI x (i2 + 1) 0 a z G) := Lib.hid ⟨HAt.out.lo, HAt.out.no, HAt.out.yes, fun e i' k' h hL => by
                        by_cases hx : i' = i2
                        · subst hx; exact HAt.out.all e i' k' (by omega) hL
                        · exact HAt.out.all e i' k' (by omega) hL⟩
                      go_wp2_with fail
                      go_roundw
                      case rel => exact ⟨_, G, i2 + 1, rfl, rfl, by go_num, by omega, HN.out, (by first | rfl | trivial)⟩
                      case measure => simp [intOf]; omega
                · have hiL2 : (m : Int) ≤ (i2 : Int) := by omega
                  obtain rfl : G = true := by
                    cases G with
                    | true => rfl
                    | false =>
                      obtain ⟨i', e1, k', e2, e3⟩ := H2.out j hjl a ha1 hgo
                      exact absurd e3 (HAt.out.all rfl i' k' (.inl (by omega)) e2)
                  have hy := HAt.out.yes rfl
                  have hzb := HAt.out.lo
                  go_wp2_with fail
                  go_roundw
                  case rel => exact ⟨z, true, rfl, rfl, by omega, by omega, fun e => (by cases e), (by first | rfl | trivial)⟩
                  case measure => simp [intOf]; omega
            · have dgo : decide (a ≤ (S j).2) = false := by simpa using hgo
              cases G with
              | true =>
                go_wp2_with fail
                go_roundw
                case rel => exact ⟨j + 1, by omega, by go_num, (by first | rfl | trivial)⟩
                case measure => simp [intOf]; omega
              | false =>
                go_wp2_with fail
                go_roundw
                case rel => exact ⟨j + 1, by omega, by go_num, (by first | rfl | trivial)⟩
                case measure => simp [intOf]; omega
        · have hjL : (n : Int) ≤ (j : Int) := by omega
          go_wp2_with fail
          go_ret
          exact ⟨rfl, HW.out⟩
end Go.Proofs.Ytmeljcbefnojfaa
namespace Go.Proofs.Ytmeljcbefnojfaa
open Go.RowKit Go.ChangeShapes Go.WideShapes Go.ChangeAt Go.Deep
theorem newV (W : World) (u : Value) (t : TypeId) : ∀ j u', ([u] : List Value)[j]? = some u' → (W.alloc (.cells #[u] t)).cell? ((⟨W.heap.size, 0, none⟩ : Addr).add j) = some u' := by
  intro j u' hj
  match j with
  | 0 => cases hj; unfold Addr.add; rw [if_pos rfl]; go_simp
  | j + 1 => simp at hj
theorem RowOf.keep {B : Nat} {W W' : World} {v : Value} {l : List (Int × Int)} (h : RowOf B W v l) (hb : ∀ (g : Nat) (c : Array Value) (f : Nat × Nat), W.heap[g]? = some (Obj.cells c 23 f) → W'.heap[g]? = W.heap[g]?) : RowOf B W' v l := by
  rcases h with h | ⟨h0, g, cap, e, ho⟩
  · exact .inl h
  · refine .inr ⟨h0, g, cap, e, ?_⟩
    obtain ⟨o1, o2 | ⟨g', cap', cur, e1, e2, e3, e4⟩⟩ := ho
    · exact ⟨o1, .inl o2⟩
    · exact ⟨o1, .inr ⟨g', cap', cur, e1, e2, (hb g' _ _ e3).trans e3, e4⟩⟩
theorem RowOf.up {B : Nat} {W W' : World} {v : Value} {l : List (Int × Int)} (h : RowOf B W v l) (hb : Below W.heap.size W W') : RowOf B W' v l :=
  h.keep fun g _ _ hg => hb.block g (Array.getElem?_eq_some_iff.1 hg).1
theorem RowOf.mono {B C : Nat} {W : World} {v : Value} {l : List (Int × Int)} (h : RowOf B W v l) (hC : C ≤ B) : RowOf C W v l := by
  rcases h with h | ⟨h0, g, cap, e, ho⟩
  · exact .inl h
  · exact .inr ⟨h0, g, cap, e, ownsRow_base hC ho⟩
/-- rows of spans, in a row of their own -/
structure PartsI (w0 : World) (ls : List (List (Int × Int))) (v : Value) (wr : World) : Prop where
  below : Below w0.heap.size w0 wr
  own : ∃ xs : List Value, wr.ownsRow w0.heap.size 52 1 v ls.length xs ∧ ∀ (i : Nat) (l : List (Int × Int)), ls[i]? = some l → ∃ u, xs[i]? = some u ∧ RowOf w0.heap.size wr u l
theorem PartsI.nil {w0 wr : World} (hb : Below w0.heap.size w0 wr) : PartsI w0 [] (.slice none 0 0) wr := ⟨hb, [], World.ownsRow_nil _ _ _ 1, fun i l h => by simp at h⟩
theorem PartsI.up {w0 wr w' : World} {ls : List (List (Int × Int))} {v : Value} (h : PartsI w0 ls v wr) (hb : Below wr.heap.size wr w') : PartsI w0 ls v w' := by
  obtain ⟨h1, xs, h2, h3⟩ := h
  refine ⟨h1.trans (hb.mono h1.size), xs, own_keep h2 hb, fun i l hl => ?_⟩
  obtain ⟨u, e, hr⟩ := h3 i l hl
  exact ⟨u, e, hr.up hb⟩
theorem PartsI.app {w0 wr w1 : World} {ls : List (List (Int × Int))} {l : List (Int × Int)} {v v' u : Value} {o : Obj} {xs : List Value} (h1 : Below w0.heap.size w0 wr) (h2 : wr.ownsRow w0.heap.size 52 1 v ls.length xs)
    (h3 : ∀ (i : Nat) (l : List (Int × Int)), ls[i]? = some l → ∃ u, xs[i]? = some u ∧ RowOf w0.heap.size wr u l) (hu : RowOf w0.heap.size wr u l) (hg : (wr.alloc o).grownBy w1 v.ownBlock)
    (h' : w1.ownsRow w0.heap.size 52 1 v' (ls.length + 1) (xs ++ [u])) : PartsI w0 (ls ++ [l]) v' w1 := by
  have hs := h1.size
  have keep : ∀ {v0 : Value} {l0 : List (Int × Int)}, RowOf w0.heap.size wr v0 l0 → RowOf w0.heap.size w1 v0 l0 := fun hr => hr.keep fun g c f hgc => by
    have hgl := (Array.getElem?_eq_some_iff.1 hgc).1
    refine (hg.block g (by simp only [World.size_alloc]; omega) fun e => ?_).trans (Below.heap_alloc _ _ _ hgl)
    obtain ⟨_, hx | ⟨g', cap, cur, e1, e3, e4, _⟩⟩ := h2
    · rw [hx.1] at e; cases e
    · rw [e1] at e
      simp [Value.ownBlock] at e
      subst e
      rw [e4] at hgc
      simp at hgc
  refine ⟨?_, xs ++ [u], by rw [List.length_append]; exact h', fun i l' hl => ?_⟩
  · refine (h1.alloc h1.size o).grown hg (by simp only [World.size_alloc]; omega) (fun r e => ?_)
    obtain ⟨_, hx | ⟨g, cap, cur, e1, e3, _⟩⟩ := h2
    · rw [hx.1] at e; cases e
    · rw [e1] at e
      simp [Value.ownBlock] at e
      omega
  · have hxl : xs.length = ls.length := by have := h2.1; omega
    by_cases hi : i < ls.length
    · rw [List.getElem?_append_left hi] at hl
      obtain ⟨u0, e, hr⟩ := h3 i l' hl
      exact ⟨u0, by rw [List.getElem?_append_left (by omega)]; exact e, keep hr⟩
    · rw [List.getElem?_append_right (by omega)] at hl
      have : i = ls.length := by
        have := (List.getElem?_eq_some_iff.1 hl).1
        simp at this
        omega
      subst this
      simp at hl
      subst hl
      exact ⟨u, by rw [List.getElem?_append_right (by omega), hxl]; simp, keep hu⟩
theorem rowOf_sps {B : Nat} {W : World} {v : Value} {l : List (Int × Int)} (h : RowOf B W v l) (hl : l.length ≤ 1000) : ∃ A c, v = .slice A l.length c ∧ SpsIn A l.length (fun i => l.getD i (0, 0)) W.heap.size W := by
  rcases h with ⟨rfl, rfl⟩ | ⟨h0, g, cap, rfl, ho⟩
  · exact ⟨none, 0, rfl, by simp, fun i hi => absurd hi (by simp)⟩
  · refine ⟨some ⟨g, 0, none⟩, cap, rfl, by omega, fun i hi => ⟨_, rfl, ?_, ?_⟩⟩
    · obtain ⟨_, hx | ⟨g', cap', cur, e1, e2, e3, _⟩⟩ := ho
      · omega
      · cases e1; exact (Array.getElem?_eq_some_iff.1 e3).1
    · have hq : l[i]? = some (l[i]'hi) := List.getElem?_eq_getElem hi
      have hd : l.getD i (0, 0) = l[i]'hi := by simp [List.getD, hq]
      obtain ⟨u0, u1⟩ := own_span ho i _ hq
      simp only [hd]
      rw [Addr.add_lit, Nat.zero_add]
      exact ⟨u0, u1⟩
/-- rows of spans, as they are read -/
theorem parts_cls {w0 wr : World} {ls : List (List (Int × Int))} {v : Value} (h : PartsI w0 ls v wr) (h1 : ls.length ≤ 1000) (h2 : ∀ l ∈ ls, l.length ≤ 1000) : ∃ A c x, v = .slice A ls.length c ∧ ClsIn A ls.length x wr.heap.size wr ∧ ∀ i l, ls[i]? = some l → x.L i = l.length ∧ ∀ k, x.S i k = l.getD k (0, 0) := by
  obtain ⟨_, xs, ho, hx⟩ := h
  have each : ∀ i, i < ls.length → ∃ r : Option Addr × Nat, xs[i]? = some (.slice r.1 ((ls.getD i []).length) r.2) ∧ SpsIn r.1 ((ls.getD i []).length) (fun k => (ls.getD i []).getD k (0, 0)) wr.heap.size wr := by
    intro i hi
    have hl : ls[i]? = some (ls[i]'hi) := List.getElem?_eq_getElem hi
    have hd : ls.getD i [] = ls[i]'hi := by simp [List.getD, hl]
    obtain ⟨u, e, hr⟩ := hx i _ hl
    obtain ⟨A, c, rfl, hs⟩ := rowOf_sps hr (h2 _ (List.getElem_mem hi))
    rw [hd]
    exact ⟨(A, c), e, hs⟩
  obtain ⟨R, hR⟩ := choose_lt each
  refine ?_
  obtain ⟨o1, o2 | ⟨g, cap, cur, e1, e2, e3, e4, e5, e6, e7⟩⟩ := ho
  · refine ⟨none, 0, ⟨fun _ => none, fun _ => 0, fun _ => 0, fun _ _ => (0, 0)⟩, by rw [o2.1, o2.2], ⟨by omega, fun i hi => absurd hi (by omega)⟩, fun i l hl => ?_⟩
    have := (List.getElem?_eq_some_iff.1 hl).1
    omega
  · refine ⟨some ⟨g, 0, none⟩, cap, ⟨fun i => (R i).1, fun i => (ls.getD i []).length, fun i => (R i).2, fun i k => (ls.getD i []).getD k (0, 0)⟩, e1, ⟨by omega, fun i hi => ⟨_, rfl, (Array.getElem?_eq_some_iff.1 e3).1, ?_, (hR i hi).2⟩⟩, fun i l hl => ?_⟩
    · rw [Addr.add_lit, Nat.zero_add]
      have h3 := (hR i hi).1
      rw [Nat.mul_one] at e7
      rw [← e7, List.getElem?_take_of_lt hi] at h3
      simp only [Array.getElem?_toList] at h3
      simp [World.cell?, e3, h3]
    · have : ls.getD i [] = l := by simp [List.getD, hl]
      simp only [this]
      exact ⟨trivial, fun _ => trivial⟩
theorem Try.infoPt : (Try.prog.info? 44).map (fun i => (i.zero, i.size, i.bytes)) = some (some (.agg #[.int .i64 0, .int .i64 0, .int .i64 0]), 3, 24) := by kernel_rfl
def ptsV (l : List Pt) : List Value := l.flatMap fun t => [.int .i64 t.x, .int .i64 t.y, .int .i64 t.half]
theorem ptsV_snoc (l : List Pt) (t : Pt) : ptsV (l ++ [t]) = ptsV l ++ [.int .i64 t.x, .int .i64 t.y, .int .i64 t.half] := by simp [ptsV]
theorem newP (W : World) (t : Pt) : ∀ j u', ([.int .i64 t.x, .int .i64 t.y, .int .i64 t.half] : List Value)[j]? = some u' → (W.alloc (.cells #[.int .i64 t.x, .int .i64 t.y, .int .i64 t.half] 44)).cell? ((⟨W.heap.size, 0, none⟩ : Addr).add j) = some u' := by
  intro j u' hj
  rw [Addr.add_lit, Nat.zero_add]
  match j with
  | 0 => cases hj; go_simp
  | 1 => cases hj; go_simp
  | 2 => cases hj; go_simp
  | j + 3 => simp at hj
/-- a row of points, made from a world on -/
structure RowP (w0 : World) (l : List Pt) (v : Value) (wr : World) : Prop where
  below : Below w0.heap.size w0 wr
  own : wr.ownsRow w0.heap.size 44 3 v l.length (ptsV l)
theorem RowP.app {w0 wr w1 : World} {l : List Pt} {v v' : Value} {o : Obj} {z : Pt} (h : RowP w0 l v wr) (hg : (wr.alloc o).grownBy w1 v.ownBlock)
    (h' : w1.ownsRow w0.heap.size 44 3 v' (l.length + 1) (ptsV l ++ [.int .i64 z.x, .int .i64 z.y, .int .i64 z.half])) : RowP w0 (l ++ [z]) v' w1 := by
  obtain ⟨h1, h2⟩ := h
  refine ⟨?_, ?_⟩
  · refine (h1.alloc h1.size o).grown hg (by simp only [World.size_alloc]; have := h1.size; omega) (fun r e => ?_)
    obtain ⟨_, hx | ⟨g, cap, cur, e1, e3, _⟩⟩ := h2
    · rw [hx.1] at e; cases e
    · rw [e1] at e
      simp [Value.ownBlock] at e
      omega
  · rw [ptsV_snoc, List.length_append]; exact h'
/-- a list of points as a function -/
def asP (l : List Pt) (i : Nat) : Pt := l.getD i ⟨0, 0, 0⟩
theorem asP_at {l : List Pt} {i : Nat} (h : i < l.length) : asP l i = l[i] := by simp [asP, h]
theorem ptsV_at (l : List Pt) : ∀ (i : Nat) (h : i < l.length), (ptsV l)[i * 3]? = some (.int .i64 (l[i]).x) ∧ (ptsV l)[i * 3 + 1]? = some (.int .i64 (l[i]).y) ∧ (ptsV l)[i * 3 + 2]? = some (.int .i64 (l[i]).half) := by
  induction l with
  | nil => intro i h; simp at h
  | cons t l ih =>
    intro i h
    have e : ptsV (t :: l) = .int .i64 t.x :: .int .i64 t.y :: .int .i64 t.half :: ptsV l := rfl
    rw [e]
    cases i with
    | zero => simp
    | succ i =>
      have := ih i (by simpa using h)
      rw [show (i + 1) * 3 = i * 3 + 1 + 1 + 1 by omega]
      simpa using this
theorem row_pts {w : World} {B : Nat} {l : List Pt} {v : Value} (h : w.ownsRow B 44 3 v l.length (ptsV l)) (hl : l.length ≤ 1000) : ∃ A c, v = .slice A l.length c ∧ PtsIn A l.length (asP l) w.heap.size w := by
  obtain ⟨h0, hx | ⟨g, cap, cur, e1, e2, e3, e4, e5, e6, e7⟩⟩ := h
  · exact ⟨none, 0, by rw [hx.1, hx.2], by omega, fun i hi => absurd hi (by omega)⟩
  · refine ⟨some ⟨g, 0, none⟩, cap, e1, by omega, fun i hi => ⟨_, rfl, (Array.getElem?_eq_some_iff.1 e3).1, ?_⟩⟩
    obtain ⟨c0, c1, c2⟩ := ptsV_at l i hi
    rw [← e7, List.getElem?_take_of_lt (by omega)] at c0
    rw [← e7, List.getElem?_take_of_lt (by omega)] at c1
    rw [← e7, List.getElem?_take_of_lt (by omega)] at c2
    simp only [Array.getElem?_toList] at c0 c1 c2
    rw [Addr.add_lit, Nat.zero_add, asP_at hi]
    simp only [World.cell?, e3]
    exact ⟨by simp [c0], by simp [c1], by simp [c2]⟩
end Go.Proofs.Ytmeljcbefnojfaa
namespace Go.Proofs.Ytmeljcbefnojfaa
open Go.RowKit
theorem getD_at {l : List (Int × Int)} {j : Nat} (h : j < l.length) : l.getD j (0, 0) = l[j] := by simp [List.getD, List.getElem?_eq_getElem h]
/-- what Means returns: spans in order, of levels -/
theorem means_okl {p : Pap} {t : Pt} {c : Int} {L : List (Int × Int)} (h : p.Ok) (ht : t.Ok) (hL : HtsL p t c L) : (∀ q ∈ meansOf p L, q.1 ≤ q.2 ∧ 0 ≤ q.1 ∧ q.2 ≤ 12000) ∧ (meansOf p L).length ≤ 2 := by
  have hb := hts_bd h ht hL
  have hl := h.low
  have key : ∀ s : Int × Int, 0 ≤ s.1 ∧ s.1 ≤ s.2 ∧ s.2 ≤ p.height → lev p s.1 ≤ lev p s.2 ∧ 0 ≤ lev p s.1 ∧ lev p s.2 ≤ 12000 := fun s hs => by
    have a := lev_bd h (a := s.1) ⟨hs.1, by omega⟩
    have b := lev_bd h (a := s.2) ⟨by omega, hs.2.2⟩
    exact ⟨lev_mono h hs.2.1, a.1, by omega⟩
  match L, hb with
  | [], _ => exact ⟨fun q hq => absurd hq (by simp [meansOf]), by simp [meansOf]⟩
  | [a], hb =>
    have e1 : meansOf p [a] = [(lev p a.1, lev p a.2)] := rfl
    rw [e1]
    exact ⟨fun q hq => by rw [List.mem_singleton.1 hq]; exact key a (hb.1 0 a rfl), by simp⟩
  | [a, b], hb =>
    have e1 : meansOf p [a, b] = addL [(lev p a.1, lev p a.2)] (lev p b.1, lev p b.2) := rfl
    have h1 := key a (hb.1 0 a rfl)
    have h2 := key b (hb.1 1 b rfl)
    rw [e1]
    unfold addL
    simp only
    split
    · exact ⟨fun q hq => by rw [List.mem_singleton.1 hq]; simp only; omega, by simp⟩
    · refine ⟨fun q hq => ?_, by simp⟩
      rcases List.mem_cons.1 hq with rfl | hq
      · exact h1
      · rw [List.mem_singleton.1 hq]; exact h2
  | a :: b :: c :: l, hb => have := hb.2.2; simp only [List.length_cons] at this; omega
theorem hts_in {p : Pap} {t : Pt} {c : Int} {L : List (Int × Int)} (h : p.Ok) (ht : t.Ok) (hc : 0 ≤ c ∧ c ≤ p.cols - 1) (hL : HtsL p t c L) (hne : L ≠ []) : ColSome p t ∧ cLo p t ≤ c ∧ c ≤ cHi p t := by
  refine (cols_iff h ht hc).1 ?_
  rcases hL with ⟨_, rfl⟩ | ⟨_, K1, K2, K3, K4, hE, rfl⟩
  · exact absurd rfl hne
  · by_cases f1 : K1 ≤ K2 - 1
    · exact ⟨K1, (ins_two hE K1).2 (.inl ⟨Int.le_refl _, f1⟩)⟩
    · by_cases f2 : K3 ≤ K4 - 1
      · exact ⟨K3, (ins_two hE K3).2 (.inr ⟨Int.le_refl _, f2⟩)⟩
      · rw [if_neg f1, if_neg f2] at hne
        exact absurd rfl hne
theorem means_ptin {p : Pap} {t : Pt} {c : Nat} (h : p.Ok) (ht : t.Ok) (hc : (c : Int) ≤ p.cols - 1) (x : Int) : Has (meansOf p (hts p t c)) x ↔ PtIn p t c x := by
  have hL := hts_is h ht c
  rw [means_levH h ht hL]
  constructor
  · intro hx
    have hne : hts p t c ≠ [] := fun e => by
      rw [e] at hx
      obtain ⟨q, hq, _⟩ := hx
      simp [levH] at hq
    obtain ⟨a, b, d⟩ := hts_in h ht ⟨by omega, hc⟩ hL hne
    exact ⟨a, b, d, hx⟩
  · exact fun hx => hx.2.2.2
/-- what the law's joined wants of a column and its points -/
theorem joined_ok {p : Pap} {Z : Nat → Pt} {n k t nL : Nat} {bl : Nat → Bool} {S : Nat → Int × Int} {x : Cls} (h : p.Ok) (hZ : ∀ i, i < n → (Z i).Ok) (hk : (k : Int) ≤ p.cols - 1) (ht : t = if bl k = true then 0 else n)
    (hS : nL = (inkC p bl Z n k).length ∧ firstK S nL = inkC p bl Z n k) (hx : ∀ i, i < t → x.L i = (meansOf p (hts p (Z i) k)).length ∧ ∀ j, x.S i j = (meansOf p (hts p (Z i) k)).getD j (0, 0)) :
    (∀ i, i < t → ∀ j, j < x.L i → ∃ q, q < nL ∧ (S q).1 ≤ (x.S i j).1 ∧ (x.S i j).2 ≤ (S q).2) ∧
    (∀ q, q < nL → ∀ τ, (S q).1 ≤ τ → τ ≤ (S q).2 → ∃ i, i < t ∧ ∃ j, j < x.L i ∧ (x.S i j).1 ≤ τ ∧ τ ≤ (x.S i j).2) ∧
    (∀ i, i < t → ∀ j, j < x.L i → 0 ≤ (x.S i j).2 ∧ (x.S i j).2 ≤ 100000000) ∧ (∀ q, q < nL → 0 ≤ (S q).1 ∧ (S q).1 ≤ (S q).2 ∧ (S q).2 ≤ 100000000) := by
  have hs := inkC_srt (bl := bl) h n hZ k
  have hr := inkC_rng (bl := bl) h hZ k
  have hSq : ∀ q, q < nL → S q ∈ inkC p bl Z n k := fun q hq => by rw [← hS.2]; exact List.mem_map.2 ⟨q, List.mem_range.2 hq, rfl⟩
  have hSm : ∀ r ∈ inkC p bl Z n k, ∃ q, q < nL ∧ S q = r := fun r hr => by
    rw [← hS.2] at hr
    obtain ⟨q, hq, e⟩ := List.mem_map.1 hr
    exact ⟨q, List.mem_range.1 hq, e⟩
  have hxm : ∀ i, i < t → ∀ j, j < x.L i → x.S i j ∈ meansOf p (hts p (Z i) k) := fun i hi j hj => by
    rw [(hx i hi).1] at hj
    rw [(hx i hi).2 j, getD_at hj]
    exact List.getElem_mem hj
  have hin : ∀ i, i < t → i < n ∧ bl k = false := fun i hi => by
    by_cases hb : bl k = true
    · rw [ht, if_pos hb] at hi; omega
    · rw [ht, if_neg hb] at hi
      exact ⟨hi, by simpa using hb⟩
  refine ⟨fun i hi j hj => ?_, fun q hq τ h1 h2 => ?_, fun i hi j hj => ?_, fun q hq => ?_⟩
  · obtain ⟨hin1, hb⟩ := hin i hi
    have hm := hxm i hi j hj
    have ho := (means_okl h (hZ i hin1) (hts_is h (hZ i hin1) k)).1 _ hm
    obtain ⟨r, hr1, hr2⟩ := srt_inside hs ho.1 fun τ a b => (inkC_has h n hZ k τ).2 ⟨hb, i, hin1, (means_ptin h (hZ i hin1) hk τ).1 ⟨_, hm, a, b⟩⟩
    obtain ⟨q, hq, rfl⟩ := hSm r hr1
    exact ⟨q, hq, hr2⟩
  · obtain ⟨hb, i, hi, hp⟩ := (inkC_has h n hZ k τ).1 ⟨_, hSq q hq, h1, h2⟩
    have hit : i < t := by rw [ht, if_neg (by rw [hb]; simp)]; exact hi
    obtain ⟨r, hr1, hr2, hr3⟩ := (means_ptin h (hZ i hi) hk τ).2 hp
    obtain ⟨j, hj, rfl⟩ := List.mem_iff_getElem.1 hr1
    refine ⟨i, hit, j, by rw [(hx i hit).1]; exact hj, ?_⟩
    rw [(hx i hit).2 j, getD_at hj]
    exact ⟨hr2, hr3⟩
  · obtain ⟨hin1, _⟩ := hin i hi
    have ho := (means_okl h (hZ i hin1) (hts_is h (hZ i hin1) k)).1 _ (hxm i hi j hj)
    omega
  · have h1 := hs.1 _ (hSq q hq)
    have h2 := hr _ (hSq q hq)
    omega
/-- the points backwards, and perhaps one of them again -/
def backL (Z : Nat → Pt) (n j : Nat) : List Pt := (List.range j).map fun i => Z (n - 1 - i)
theorem backL_succ (Z : Nat → Pt) (n j : Nat) : backL Z n (j + 1) = backL Z n j ++ [Z (n - 1 - j)] := by simp [backL, List.range_succ]
theorem backL_len (Z : Nat → Pt) (n j : Nat) : (backL Z n j).length = j := by simp [backL]
theorem backL_mem {Z : Nat → Pt} {n : Nat} {t : Pt} : t ∈ backL Z n n ↔ ∃ i, i < n ∧ Z i = t := by
  unfold backL
  rw [List.mem_map]
  constructor
  · rintro ⟨i, hi, rfl⟩
    exact ⟨n - 1 - i, by have := List.mem_range.1 hi; omega, rfl⟩
  · rintro ⟨i, hi, rfl⟩
    exact ⟨n - 1 - i, List.mem_range.2 (by omega), by rw [show n - 1 - (n - 1 - i) = i by omega]⟩
/-- the order of points does not matter, nor how often one is traced -/
theorem ink_again {p : Pap} {bl : Nat → Bool} {Z : Nat → Pt} {n : Nat} {l : List Pt} (h : p.Ok) (hZ : ∀ i, i < n → (Z i).Ok) (hl : ∀ t, t ∈ l ↔ ∃ i, i < n ∧ Z i = t) (c : Nat) : inkC p bl (asP l) l.length c = inkC p bl Z n c := by
  have hZ' : ∀ i, i < l.length → (asP l i).Ok := fun i hi => by
    rw [asP_at hi]
    obtain ⟨j, hj, e⟩ := (hl _).1 (List.getElem_mem hi)
    rw [← e]; exact hZ j hj
  refine srt_ext (inkC_srt h _ hZ' c) (inkC_srt h n hZ c) fun x => ?_
  rw [inkC_has h _ hZ' c x, inkC_has h n hZ c x]
  refine and_congr_right fun _ => ?_
  constructor
  · rintro ⟨i, hi, hp⟩
    rw [asP_at hi] at hp
    obtain ⟨j, hj, e⟩ := (hl _).1 (List.getElem_mem hi)
    exact ⟨j, hj, by rw [e]; exact hp⟩
  · rintro ⟨j, hj, hp⟩
    obtain ⟨i, hi, e⟩ := List.mem_iff_getElem.1 ((hl (Z j)).2 ⟨j, hj, rfl⟩)
    exact ⟨i, hi, by rw [asP_at hi, e]; exact hp⟩
end Go.Proofs.Ytmeljcbefnojfaa
