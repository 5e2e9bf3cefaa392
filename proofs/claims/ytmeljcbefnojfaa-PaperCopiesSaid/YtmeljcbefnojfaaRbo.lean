import Derived.Test.YtmeljcbefnojfaaRbu
namespace Go.Proofs.Ytmeljcbefnojfaa
open Go.RowKit
set_option maxRecDepth 100000 in
set_option maxHeartbeats 4000000 in
theorem RBoth_ok (A B : Option Addr) (n c d : Nat) (x y : Cls) (w : World) (ha : ClsIn A n x w.heap.size w) (hb : ClsIn B n y w.heap.size w) (hx : InkOk x n) (hy : InkOk y n) (Lc : Nat → List (Int × Int)) (hLc : Lc = fun k => bthL (x.S k) (y.S k) (x.L k) (y.L k)) (E E2 : Int) (hE : BothE x n Lc E E2) :
    Calls Try.prog 57 #[.agg #[.slice A n c], .agg #[.slice B n d]] w (RowsP w n Lc E2) := by
  obtain ⟨i0, hi0, hz0, hz1, hz2⟩ := info_parts Try.infoRow
  have hn := ha.1
  have hn200 := hx.2.1
  have HA := Lib.hid ha
  have HB := Lib.hid hb
  have HX := Lib.hid hx
  have HY := Lib.hid hy
  have HL := Lib.hid hLc
  have HE := Lib.hid hE
  have KA : Hid (∀ W, Below w.heap.size w W → Calls Try.prog 110 #[.agg #[.slice A n c], .agg #[.slice B n d]] W fun e w' => e = .returned (.int .i64 0) ∧ Below W.heap.size W w') := Lib.hid fun W h => alike_any A B n n c d x y 0 W ((ha.up h (Nat.le_refl _)).more h.size) ((hb.up h (Nat.le_refl _)).more h.size) (.inr (.inr (.inr ⟨hx, hy, rfl, rfl⟩)))
  have HLX : Hid (∀ k, k < n → x.L k = 0 → Lc k = firstK (y.S k) (y.L k)) := Lib.hid fun k hk h0 => by
    rw [hLc]
    show bthL _ _ _ _ = _
    unfold bthL
    rw [if_pos (.inl h0), h0]
    exact putAll_self (hy.2.2 k hk).2 _ (Nat.le_refl _)
  have HLY : Hid (∀ k, k < n → y.L k = 0 → Lc k = firstK (x.S k) (x.L k)) := Lib.hid fun k hk h0 => by
    rw [hLc]
    show bthL _ _ _ _ = _
    unfold bthL
    rw [if_pos (.inr h0), h0]
    exact putAll_self (hx.2.2 k hk).2 _ (Nat.le_refl _)
  have HLM : Hid (∀ k, k < n → x.L k ≠ 0 → y.L k ≠ 0 → Lc k = bothL (firstK (x.S k) (x.L k)) (firstK (y.S k) (y.L k))) := Lib.hid fun k hk h0 h1 => by
    rw [hLc]
    show bthL _ _ _ _ = _
    unfold bthL
    rw [if_neg (by omega)]
  have hlen : Hid (∀ c, c < n → (Lc c).length ≤ 1000) := Lib.hid fun c hc => by
    rw [hLc]
    unfold bthL
    have h1 := (hx.2.2 c hc).1
    have h2 := (hy.2.2 c hc).1
    have h3 := putAll_len2 (x.S c) (y.S c) (x.L c) (y.L c)
    have h4 := bothL_length (x.S c) (firstK (y.S c) (y.L c)) (x.L c)
    rw [firstK_length] at h4
    have h5 : x.L c * y.L c ≤ 8 * 8 := Nat.mul_le_mul h1 h2
    simp only
    split <;> omega
  clear ha hb hx hy hLc hE
  go_enter Try.func57, Try.ntmps57
  go_wp2_with fail
  refine (KA.out _ (box3 _ _ _ _)).mono ?_
  rintro e w1 ⟨rfl, hb1⟩
  have r0 := low_cell (b := w.heap.size) (o := 0) (v := .slice A n c) hb1 (by simp only [World.size_alloc]; omega) (by go_simp)
  have r1 := low_cell (b := w.heap.size + 1) (o := 0) (v := .slice B n d) hb1 (by simp only [World.size_alloc]; omega) (by go_simp)
  have hB : Below w.heap.size w w1 := (box3 w _ _ _).trans (hb1.mono (by simp only [World.size_alloc]; omega))
  have z0 : w.heap.size + 1 < w1.heap.size := by have := hb1.size; simp only [World.size_alloc] at this; omega
  have r2 : w1.heap[w.heap.size + 1 + 1]? = some (.cells #[.slice none 0 0] 29 (0, 0)) := (hb1.block _ (by simp only [World.size_alloc]; omega)).trans (by have h := heap_alloc_new ((w.alloc (.cells #[.slice A n c] 29)).alloc (.cells #[.slice B n d] 29)) (.cells #[.slice none 0 0] 29); simp only [World.size_alloc] at h; exact h)
  clear hb1
  go_wp2_with fail
  have R0 := Lib.hid r0
  have R1 := Lib.hid r1
  have R2 := Lib.hid r2
  have z2 : w.heap.size + 3 ≤ w1.heap.size := by have := (Array.getElem?_eq_some_iff.1 r2).1; omega
  have HB1 := Lib.hid hB
  clear r0 r1 r2 hB
  go_loopw [7, 8, 9] (fun v nn i wr => ∃ (k : Nat) (b : Bool), k ≤ n ∧ i = .int .i64 k ∧ nn = .bool b ∧ (b = true ↔ ∃ c, c < k ∧ (Lc c).length = 0 ∧ 0 < x.L c) ∧ RowsU w Lc k v wr ∧ Below (w.heap.size + 3) w1 wr) (fun _ _ i _ => n - (intOf i).toNat)
  case atStart => exact ⟨0, false, Nat.zero_le _, rfl, rfl, ⟨fun h => (by cases h), fun ⟨c, h, _⟩ => absurd h (by omega)⟩, RowsU.nil _ _ _, Below.refl _ _⟩
  case round =>
    obtain ⟨k, b, hk, rfl, rfl, hbn, hv, hBw⟩ := hrel
    obtain ⟨wo, rfl⟩ : ∃ wo : World, wo = wr := ⟨_, rfl⟩
    have HV := Lib.hid hv
    have HBW := Lib.hid hBw
    have HBN := Lib.hid hbn
    have HBO : Hid (Below w.heap.size w wo) := Lib.hid (HB1.out.trans (hBw.mono (by omega)))
    have hws := HBO.out.size
    have hwo : w.heap.size + 3 ≤ wo.heap.size := by have := hBw.size; omega
    have r0 := low_cell hBw (by omega) R0.out
    have r1 := low_cell hBw (by omega) R1.out
    clear hv hBw hbn
    have hk0 : (0 : Int) ≤ (k : Int) := by omega
    by_cases hlt : k < n
    · obtain ⟨a, rfl, _, a0, aS⟩ := (HA.out.up HBO.out (Nat.le_refl _)).2 k hlt
      obtain ⟨b', rfl, _, b0, bS⟩ := (HB.out.up HBO.out (Nat.le_refl _)).2 k hlt
      have hki : (k : Int) < (n : Int) := by omega
      obtain ⟨xs, hown, hrows⟩ := HV.out
      have AS := Lib.hid aS
      have BS := Lib.hid bS
      clear aS bS
      by_cases tx : x.L k = 0
      · have hu : Hid (RdU w.heap.size (.slice (y.A k) (y.L k) (y.C k)) (Lc k) wo) := Lib.hid (by rw [HLX.out k hlt tx]; exact RdU.row BS.out hws)
        have hnx : Hid (b = true ↔ ∃ c, c < k + 1 ∧ (Lc c).length = 0 ∧ 0 < x.L c) := Lib.hid (HBN.out.trans ⟨fun ⟨c, h, h'⟩ => ⟨c, by omega, h'⟩, fun ⟨c, h, h'⟩ => ⟨c, by
          rcases Nat.lt_succ_iff_lt_or_eq.1 h with h | rfl
          · exact h
          · have := h'.2
            omega, h'⟩⟩)
        have e3 : Value.slice (x.A k) (x.L k) (x.C k) = .slice (x.A k) 0 (x.C k) := by rw [tx]
        rw [e3] at a0
        clear e3 tx
        go_wp2_with (first | (at_builtin; refine wpList_append_own _ rfl _ _ 27 rfl (w.heap.size + 3) 52 i0 (.slice none 0 0) 1 24 Try.underlying27 hi0 hz0 hz1 hz2 rfl (by decide) _ k _ rfl (hown.alloc _) ⟨wo.heap.size, 0, none⟩ 1 1 [.slice (y.A k) (y.L k) (y.C k)] rfl rfl (newv wo _) (by simp [Value.oneCell']) (by skip; unfold maxLen; omega) (by skip; omega) (by simp only [World.size_alloc]; omega) ?_; intro v2 w2 hown2 hg2 _) | fail)
        have hP := RowsU.put hown hrows hu.out hown2 hg2
        have hB2 := below_grow HBW.out (by omega) hg2 (fun g hg => own_ge hown g hg)
        go_roundw
        case rel => exact ⟨k + 1, b, by omega, by go_num, rfl, hnx.out, hP, hB2⟩
        case measure => simp [intOf]; omega
      · have f1 : (x.L k == 0) = false := by simpa using tx
        have f2 : ((x.L k : Int) == 0) = false := by simpa using tx
        by_cases ty : y.L k = 0
        · have hu : Hid (RdU w.heap.size (.slice (x.A k) (x.L k) (x.C k)) (Lc k) wo) := Lib.hid (by rw [HLY.out k hlt ty]; exact RdU.row AS.out hws)
          have hnx : Hid (b = true ↔ ∃ c, c < k + 1 ∧ (Lc c).length = 0 ∧ 0 < x.L c) := Lib.hid (HBN.out.trans ⟨fun ⟨c, h, h'⟩ => ⟨c, by omega, h'⟩, fun ⟨c, h, h'⟩ => ⟨c, by
            rcases Nat.lt_succ_iff_lt_or_eq.1 h with h | rfl
            · exact h
            · rw [HLY.out c hlt ty, firstK_length] at h'
              omega, h'⟩⟩)
          have e3 : Value.slice (y.A k) (y.L k) (y.C k) = .slice (y.A k) 0 (y.C k) := by rw [ty]
          rw [e3] at b0
          clear e3 ty
          go_wp2_with (first | (at_builtin; refine wpList_append_own _ rfl _ _ 27 rfl (w.heap.size + 3) 52 i0 (.slice none 0 0) 1 24 Try.underlying27 hi0 hz0 hz1 hz2 rfl (by decide) _ k _ rfl (hown.alloc _) ⟨wo.heap.size, 0, none⟩ 1 1 [.slice (x.A k) (x.L k) (x.C k)] rfl rfl (newv wo _) (by simp [Value.oneCell']) (by skip; unfold maxLen; omega) (by skip; omega) (by simp only [World.size_alloc]; omega) ?_; intro v2 w2 hown2 hg2 _) | fail)
          have hP := RowsU.put hown hrows hu.out hown2 hg2
          have hB2 := below_grow HBW.out (by omega) hg2 (fun g hg => own_ge hown g hg)
          go_roundw
          case rel => exact ⟨k + 1, b, by omega, by go_num, rfl, hnx.out, hP, hB2⟩
          case measure => simp [intOf]; omega
        · have g1 : (y.L k == 0) = false := by simpa using ty
          have g2 : ((y.L k : Int) == 0) = false := by simpa using ty
          have KM : Hid (Calls Try.prog 111 #[.slice (x.A k) (x.L k) (x.C k), .slice (y.A k) (y.L k) (y.C k)] wo fun e w' => ∃ A' m' c', e = .returned (.slice A' m' c') ∧ Below wo.heap.size wo w' ∧ Hid (m' = (Lc k).length ∧ RdU w.heap.size (.slice A' m' c') (Lc k) w')) := Lib.hid (by
            have rx := HX.out.2.2 k hlt
            have ry := HY.out.2.2 k hlt
            refine (meet_T _ _ _ _ _ _ _ _ wo rx.1 ry.1 w.heap.size (AS.out.more hws) (BS.out.more hws) rx.2.spok ry.2.spok).mono fun e w' ⟨v, h1, h2, h3⟩ => ?_
            rw [← HLM.out k hlt tx ty] at h3
            have h3' := h3
            obtain ⟨⟨A', cap', rfl, _⟩, _⟩ := h3
            exact ⟨A', _, cap', h1, h2, Lib.hid ⟨rfl, RdU.of h3'⟩⟩)
          have TX := Lib.hid tx
          clear tx ty
          go_wp2_with fail
          refine KM.out.mono ?_
          rintro e wU ⟨A', m', c', rfl, hbU, HU⟩
          have hownU := own_keep2 hown hbU
          have hrowsU := Lib.hid fun c (hc : c < k) => show ∃ u, xs[c]? = some u ∧ RdU w.heap.size u (Lc c) wU from by obtain ⟨z, e, hz⟩ := hrows c hc; exact ⟨z, e, hz.up hbU⟩
          have HBU := Lib.hid (HBW.out.trans (hbU.mono hwo))
          have hwu : w.heap.size + 3 ≤ wU.heap.size := by have := hbU.size; omega
          clear hbU
          by_cases tm : m' = 0
          · have hnx : Hid (∃ c, c < k + 1 ∧ (Lc c).length = 0 ∧ 0 < x.L c) := Lib.hid ⟨k, by omega, by have := HU.out.1; omega, by have := TX.out; omega⟩
            have hu : Hid (RdU w.heap.size (.slice A' 0 c') (Lc k) wU) := Lib.hid (by have := HU.out.2; rw [tm] at this; exact this)
            subst tm
            cases b with
            | true =>
              go_wp2_with (first | (at_builtin; refine wpList_append_own _ rfl _ _ 27 rfl (w.heap.size + 3) 52 i0 (.slice none 0 0) 1 24 Try.underlying27 hi0 hz0 hz1 hz2 rfl (by decide) _ k _ rfl (hownU.alloc _) ⟨wU.heap.size, 0, none⟩ 1 1 [.slice A' 0 c'] rfl rfl (newv wU _) (by simp [Value.oneCell']) (by skip; unfold maxLen; omega) (by skip; omega) (by simp only [World.size_alloc]; omega) ?_; intro v2 w2 hown2 hg2 _) | fail)
              have hP := RowsU.put hownU hrowsU.out hu.out hown2 hg2
              have hB2 := below_grow HBU.out (by omega) hg2 (fun g hg => own_ge hownU g hg)
              go_roundw
              case rel => exact ⟨k + 1, true, by omega, by go_num, rfl, ⟨fun _ => hnx.out, fun _ => rfl⟩, hP, hB2⟩
              case measure => simp [intOf]; omega
            | false =>
              go_wp2_with (first | (at_builtin; refine wpList_append_own _ rfl _ _ 27 rfl (w.heap.size + 3) 52 i0 (.slice none 0 0) 1 24 Try.underlying27 hi0 hz0 hz1 hz2 rfl (by decide) _ k _ rfl (hownU.alloc _) ⟨wU.heap.size, 0, none⟩ 1 1 [.slice A' 0 c'] rfl rfl (newv wU _) (by simp [Value.oneCell']) (by skip; unfold maxLen; omega) (by skip; omega) (by simp only [World.size_alloc]; omega) ?_; intro v2 w2 hown2 hg2 _) | fail)
              have hP := RowsU.put hownU hrowsU.out hu.out hown2 hg2
              have hB2 := below_grow HBU.out (by omega) hg2 (fun g hg => own_ge hownU g hg)
              go_roundw
              case rel => exact ⟨k + 1, true, by omega, by go_num, rfl, ⟨fun _ => hnx.out, fun _ => rfl⟩, hP, hB2⟩
              case measure => simp [intOf]; omega
          · have hnx : Hid (b = true ↔ ∃ c, c < k + 1 ∧ (Lc c).length = 0 ∧ 0 < x.L c) := Lib.hid (HBN.out.trans ⟨fun ⟨c, h, h'⟩ => ⟨c, by omega, h'⟩, fun ⟨c, h, h'⟩ => ⟨c, by
              rcases Nat.lt_succ_iff_lt_or_eq.1 h with h | rfl
              · exact h
              · have := HU.out.1
                omega, h'⟩⟩)
            have hu : Hid (RdU w.heap.size (.slice A' m' c') (Lc k) wU) := Lib.hid HU.out.2
            have e1 : (m' == 0) = false := by simpa using tm
            have e2 : ((m' : Int) == 0) = false := by simpa using tm
            clear tm HU
            cases b with
            | true =>
              have hn2 := Lib.hid (hnx.out.1 rfl)
              clear hnx
              go_wp2_with (first | (at_builtin; refine wpList_append_own _ rfl _ _ 27 rfl (w.heap.size + 3) 52 i0 (.slice none 0 0) 1 24 Try.underlying27 hi0 hz0 hz1 hz2 rfl (by decide) _ k _ rfl (hownU.alloc _) ⟨wU.heap.size, 0, none⟩ 1 1 [.slice A' m' c'] rfl rfl (newv wU _) (by simp [Value.oneCell']) (by skip; unfold maxLen; omega) (by skip; omega) (by simp only [World.size_alloc]; omega) ?_; intro v2 w2 hown2 hg2 _) | fail)
              have hP := RowsU.put hownU hrowsU.out hu.out hown2 hg2
              have hB2 := below_grow HBU.out (by omega) hg2 (fun g hg => own_ge hownU g hg)
              go_roundw
              case rel => exact ⟨k + 1, true, by omega, by go_num, rfl, ⟨fun _ => hn2.out, fun _ => rfl⟩, hP, hB2⟩
              case measure => simp [intOf]; omega
            | false =>
              go_wp2_with (first | (at_builtin; refine wpList_append_own _ rfl _ _ 27 rfl (w.heap.size + 3) 52 i0 (.slice none 0 0) 1 24 Try.underlying27 hi0 hz0 hz1 hz2 rfl (by decide) _ k _ rfl (hownU.alloc _) ⟨wU.heap.size, 0, none⟩ 1 1 [.slice A' m' c'] rfl rfl (newv wU _) (by simp [Value.oneCell']) (by skip; unfold maxLen; omega) (by skip; omega) (by simp only [World.size_alloc]; omega) ?_; intro v2 w2 hown2 hg2 _) | fail)
              have hP := RowsU.put hownU hrowsU.out hu.out hown2 hg2
              have hB2 := below_grow HBU.out (by omega) hg2 (fun g hg => own_ge hownU g hg)
              go_roundw
              case rel => exact ⟨k + 1, false, by omega, by go_num, rfl, hnx.out, hP, hB2⟩
              case measure => simp [intOf]; omega
    · have hki : (n : Int) ≤ (k : Int) := by omega
      obtain rfl : n = k := by omega
      have b2 : wo.heap[w.heap.size + 1 + 1]? = some (.cells #[.slice none 0 0] 29 (0, 0)) := (HBW.out.block _ (by omega)).trans R2.out
      obtain ⟨A', cap', X, rfl, hX, hXr⟩ := rows_clsu HV.out (by omega)
      have KL : ∀ G : Bool, (G = true ↔ ∀ c, c < n → (Lc c).length ≤ 8) → Hid (Calls Try.prog 112 #[.slice A' n cap'] wo (LimQ A' n cap' G wo)) := fun G hG => Lib.hid (limited_any A' n cap' X G wo hn200 hX (fun i hi => by have := hlen.out i hi; have := (hXr i hi).1; omega) (hG.trans ⟨fun h i hi => by rw [(hXr i hi).1]; exact h i hi, fun h i hi => by rw [← (hXr i hi).1]; exact h i hi⟩))
      clear hX hXr
      rcases HE.out with ⟨rfl, rfl, h8⟩ | ⟨rfl, rfl, h8, hno⟩ | ⟨rfl, rfl, h8, hno⟩
      · have K := KL false ⟨fun h => (Bool.false_ne_true h).elim, fun h => absurd h h8⟩
        clear KL h8
        go_wp2_with fail
        refine K.out.mono ?_
        rintro e w2 ⟨rfl, hb2⟩
        have b3 := Lib.hid ((hb2.block _ (by omega)).trans b2)
        have k0 : w2.cell? ⟨w.heap.size + 1 + 1, 0, none⟩ = some (.slice none 0 0) := by simp [World.cell?, b3.out]
        have k1 : w2.frozen? ⟨w.heap.size + 1 + 1, 0, none⟩ = false := by simp [World.frozen?, b3.out]
        have HB2 := Lib.hid (HBO.out.trans (hb2.mono HBO.out.size))
        have hz2' : w.heap.size + 1 + 1 < w2.heap.size := by have := hb2.size; omega
        clear hb2 b2
        go_wp2_with fail
        refine bodyPost_ret (v := .tuple #[.agg #[.slice none 0 0], .int .i64 2]) ?_ rfl ⟨none, 0, 0, rfl, by first | exact set1 (HB2.out.alloc HB2.out.size _) (by omega) _ _ | exact (set1 HB2.out (by omega) _ _).alloc (by rw [World.size_setCell]; exact HB2.out.size) _ | exact HB2.out.alloc HB2.out.size _ | exact set1 HB2.out (by omega) _ _, .inr ⟨by decide, rfl⟩⟩
        simp [results, Try.results57, go_sem, k0, hz2']
      · obtain rfl : b = true := HBN.out.2 hno
        have K := KL true ⟨fun _ => h8, fun _ => rfl⟩
        clear KL h8 hno
        go_wp2_with fail
        refine K.out.mono ?_
        rintro e w2 ⟨rfl, hb2⟩
        have b3 := Lib.hid ((hb2.block _ (by omega)).trans b2)
        have k0 : w2.cell? ⟨w.heap.size + 1 + 1, 0, none⟩ = some (.slice none 0 0) := by simp [World.cell?, b3.out]
        have k1 : w2.frozen? ⟨w.heap.size + 1 + 1, 0, none⟩ = false := by simp [World.frozen?, b3.out]
        have HB2 := Lib.hid (HBO.out.trans (hb2.mono HBO.out.size))
        have hz2' : w.heap.size + 1 + 1 < w2.heap.size := by have := hb2.size; omega
        clear hb2 b2
        go_wp2_with fail
        refine bodyPost_ret (v := .tuple #[.agg #[.slice none 0 0], .int .i64 3]) ?_ rfl ⟨none, 0, 0, rfl, by first | exact set1 (HB2.out.alloc HB2.out.size _) (by omega) _ _ | exact (set1 HB2.out (by omega) _ _).alloc (by rw [World.size_setCell]; exact HB2.out.size) _ | exact HB2.out.alloc HB2.out.size _ | exact set1 HB2.out (by omega) _ _, .inr ⟨by decide, rfl⟩⟩
        simp [results, Try.results57, go_sem, k0, hz2']
      · obtain rfl : b = false := by
          cases b with
          | false => rfl
          | true => obtain ⟨c, hc, hh⟩ := HBN.out.1 rfl; exact absurd hh (hno c hc)
        have K := KL true ⟨fun _ => h8, fun _ => rfl⟩
        clear KL h8 hno
        go_wp2_with fail
        refine K.out.mono ?_
        rintro e w2 ⟨rfl, hb2⟩
        have b3 := Lib.hid ((hb2.block _ (by omega)).trans b2)
        have k0 : w2.cell? ⟨w.heap.size + 1 + 1, 0, none⟩ = some (.slice none 0 0) := by simp [World.cell?, b3.out]
        have k1 : w2.frozen? ⟨w.heap.size + 1 + 1, 0, none⟩ = false := by simp [World.frozen?, b3.out]
        have HV2 := Lib.hid (HV.out.up hb2)
        have HB2 := Lib.hid (HBO.out.trans (hb2.mono HBO.out.size))
        have hz2' : w.heap.size + 1 + 1 < w2.heap.size := by have := hb2.size; omega
        clear hb2 b2
        go_wp2_with fail
        have hset := (HV2.out.set (b := w.heap.size + 1 + 1) ⟨by omega, by omega⟩ b3.out (by decide) 0 (.slice A' n cap')).up (box1 _ (.cells #[.slice A' n cap'] 29))
        obtain ⟨A2, cap2, X2, e2, hX2, hr2⟩ := rows_clsu hset (by omega)
        cases e2
        refine bodyPost_ret (v := .tuple #[.agg #[.slice A' n cap'], .int .i64 0]) ?_ rfl ⟨A', n, cap', rfl, (set1 HB2.out (by omega) _ _).alloc (by rw [World.size_setCell]; exact HB2.out.size) _, .inl ⟨rfl, rfl, X2, hX2, hr2⟩⟩
        simp [results, Try.results57, go_sem, k0, hz2']
end Go.Proofs.Ytmeljcbefnojfaa
