/- The law PaperBlots returns true for every paper, every list of points, every list of blots and every column, and leaves its arguments as they were; no condition. -/
import Derived.Test.YtmeljcbefnojfaaIkf
namespace Go.Proofs.Ytmeljcbefnojfaa
open Go.ChangeShapes Go.WideShapes Go.ChangeAt Go.RowKit
attribute [local go_sem] Oper.semAt_some
set_option maxRecDepth 100000 in
set_option maxHeartbeats 8000000 in
theorem blots_core (p : Pap) (A B : Option Addr) (n c m d N : Nat) (x : Int) (ZB : Nat → Int) (E1 E2 : Int) (L1 L2 : Nat → List (Int × Int)) (w : World) (hB : IntsIn B m ZB w.heap.size w) (hnn : (n : Int) ≤ 9223372036854775807) (hNN : Hid (E1 = 0 → (N : Int) = p.cols ∧ N ≤ 200))
    (K1 : Hid ((n : Int) ≤ 30 → ∀ W, Below w.heap.size w W → Calls Try.prog 53 #[p.v, .slice A n c, .slice B m d] W (ShM N L1 E1 W)))
    (K2 : Hid ((n : Int) ≤ 30 → (m : Int) ≤ 300 → E1 = 0 → ∀ W v, Below w.heap.size w W → W.ownsRow 0 3 1 v (moreL ZB x m).length (intsZ (moreL ZB x m)) → Calls Try.prog 53 #[p.v, .slice A n c, v] W (ShM N L2 E2 W)))
    (HM : Hid (E1 = 0 → ∀ k, k ≤ m → (moreK ZB x k).1.length ≤ k + 1))
    (HO : Hid (E1 = 0 → (x < 0 ∨ p.cols ≤ x) → E2 = 1)) (HI : Hid (E1 = 0 → 0 ≤ x → x < p.cols → E2 = 0))
    (K3 : Hid (E1 = 0 → 0 ≤ x → x < p.cols → ∀ W A1 c1 A2 c2, Sheet A1 N L1 W → Sheet A2 N L2 W → Calls Try.prog 60 #[.agg #[.slice A1 N c1], .agg #[.slice A2 N c2]] W fun e w' => e = .returned (.tuple #[.bool true, .int .i64 0]) ∧ Below W.heap.size W w'))
    (HL : Hid (E1 = 0 → ∀ q, q < N → (q : Int) = x → L2 q = [])) (HS : Hid (E1 = 0 → ∀ q, q < N → (q : Int) ≠ x → L2 q = L1 q)) :
    Calls Try.prog 17 #[p.v, .slice A n c, .slice B m d, .int .i64 x] w fun e w' => e = .returned (.bool true) ∧ Below w.heap.size w w' := by
  obtain ⟨i0, hi0, hz0, hz1, hz2⟩ := info_parts Try.infoInt
  have hmm := hB.1
  have HB := Lib.hid hB
  clear hB
  go_enter Try.func17, Try.ntmps17
  go_wp2_with fail
  refine (awake_any _).mono ?_
  rintro e w1 ⟨rfl, hb1⟩
  have C1 : Below w.heap.size w w1 := (box1 w _).trans (hb1.mono (by simp only [World.size_alloc]; omega))
  have P1 : HasPap p w.heap.size w1 := HasPap.up (by unfold HasPap; go_simp) hb1 (by simp only [World.size_alloc]; omega)
  clear hb1
  by_cases h1 : (30 : Int) < n
  · go_wp2_with fail
    go_ret
    exact ⟨rfl, C1⟩
  have h1' : ¬ (n : Int) > 30 := h1
  by_cases h2 : (300 : Int) < m
  · go_wp2_with fail
    go_ret
    exact ⟨rfl, C1⟩
  have hn30 : (n : Int) ≤ 30 := by omega
  have hm300 : (m : Int) ≤ 300 := by omega
  have z1 : w.heap.size < w1.heap.size := P1.block
  have HP1 := Lib.hid P1
  unfold HasPap at P1
  obtain ⟨p0, p1, p2, p3, p4, p5, p6, p7, p8, p9⟩ := P1
  go_wp2_with fail
  refine (K1.out hn30 _ C1).mono ?_
  rintro e w2 ⟨A1, k1, c1, rfl, hb2, H1⟩
  have C2 : Below w.heap.size w w2 := C1.trans (hb2.mono C1.size)
  have P2 := Lib.hid (HP1.out.up hb2 HP1.out.block)
  have zp2 : w.heap.size < w2.heap.size := P2.out.block
  clear hb2 C1 HP1 p0 p1 p2 p3 p4 p5 p6 p7 p8 p9 z1
  by_cases hE1 : E1 = 0
  case neg =>
    have d1 : (E1 == 0) = false := by simpa using hE1
    have d2 : (E1 != 0) = true := by simpa using hE1
    clear hE1
    go_wp2_with fail
    go_ret
    exact ⟨rfl, C2.alloc C2.size _⟩
  case pos =>
    have hN := (hNN.out hE1).1
    have hN2 := (hNN.out hE1).2
    have HN := Lib.hid hN
    clear hNN
    replace K2 := Lib.hid (K2.out hn30 hm300 hE1)
    replace HM := Lib.hid (HM.out hE1)
    replace HO := Lib.hid (HO.out hE1)
    replace HI := Lib.hid (HI.out hE1)
    replace K3 := Lib.hid (K3.out hE1)
    replace HL := Lib.hid (HL.out hE1)
    replace HS := Lib.hid (HS.out hE1)
    subst hE1
    obtain ⟨hk1, X1⟩ : k1 = N ∧ ClsL A1 N L1 w1.heap.size w2 := by
      rcases H1.out with h | h
      · exact ⟨h.2.1, h.2.2⟩
      · exact absurd rfl h.1
    subst hk1
    go_wp2_with fail
    obtain ⟨wX, hwX⟩ : ∃ wX, wX = w2.alloc (.cells #[.slice A1 k1 c1] 29) := ⟨_, rfl⟩
    have hbX : Below w2.heap.size w2 wX := by rw [hwX]; exact box1 _ _
    have CX := Lib.hid (C2.trans (hbX.mono C2.size))
    have PX := Lib.hid (P2.out.up hbX zp2)
    have xX : wX.cell? ⟨w2.heap.size, 0, none⟩ = some (.slice A1 k1 c1) := by rw [hwX]; go_simp
    have XX := Lib.hid xX
    have HX1 := Lib.hid (X1.up hbX)
    have hzX : wX.heap.size = w2.heap.size + 1 := by rw [hwX]; simp only [World.size_alloc]
    rw [← hwX]
    clear hwX hbX C2 P2 X1 H1 xX
    go_loopw [12, 13, 14] (fun v g i wr => ∃ k : Nat, k ≤ m ∧ i = .int .i64 k ∧ g = .bool (moreK ZB x k).2 ∧ RowZ wX (moreK ZB x k).1 v wr) (fun _ _ i _ => m - (intOf i).toNat)
    case atStart => exact ⟨0, Nat.zero_le _, rfl, rfl, Below.refl _ _, World.ownsRow_nil _ _ _ 1⟩
    case round =>
      obtain ⟨k, hk, rfl, rfl, hR⟩ := hrel
      obtain ⟨wo, rfl⟩ : ∃ wo : World, wo = wr := ⟨_, rfl⟩
      have hk0 : (0 : Int) ≤ (k : Int) := by omega
      have hle := HM.out k hk
      have HR := Lib.hid hR
      obtain ⟨hRb, hown⟩ := hR
      have hwo := hRb.size
      by_cases hlt : k < m
      · obtain ⟨b, rfl, bb, b0⟩ := (HB.out.up (CX.out.trans (hRb.mono CX.out.size)) (Nat.le_refl _)).2 k hlt
        have hki : (k : Int) < (m : Int) := by omega
        have bl : (b.add k).block < wX.heap.size := by have := CX.out.size; rw [add_block]; omega
        have b0X : Hid (wX.cell? (b.add k) = some (.int .i64 (ZB k))) := Lib.hid (((HB.out.up CX.out (Nat.le_refl _)).2 k hlt).elim fun a h => by obtain ⟨e, _, h⟩ := h; cases e; exact h)
        generalize hmk : moreK ZB x k = M at *
        obtain ⟨l, put⟩ := M
        dsimp only at *
        by_cases hx : x ≤ ZB k
        · have dx : decide (x ≤ ZB k) = true := by simpa using hx
          have dx2 : decide (ZB k ≥ x) = true := by simpa using hx
          cases put with
          | true =>
            have HN1 : Hid (moreK ZB x (k + 1) = (l ++ [ZB k], true)) := Lib.hid (by rw [moreK, hmk, if_neg (by simp)])
            clear hx hmk
            go_wp2_with (first | (at_builtin; refine wpList_append_own _ rfl _ _ 36 rfl wX.heap.size 3 i0 (.int .i64 0) 1 8 Try.underlying36 hi0 hz0 hz1 hz2 rfl (by decide) _ l.length _ rfl (hown.alloc _) ⟨wo.heap.size, 0, none⟩ 1 1 [.int .i64 (ZB k)] rfl rfl (new1 wo (ZB k)) (by simp [Value.oneCell']) (by skip; unfold maxLen; omega) (by skip; omega) (by simp only [World.size_alloc]; omega) ?_; intro va wa howna hga _; have hJ := HR.out.app hga howna; have b0a : wa.cell? (b.add k) = some (.int .i64 (ZB k)) := (hJ.below.cell (p := b.add k) bl).trans b0X.out; have hsa := hJ.below.size; have bla : (b.add k).block < wa.heap.size := Nat.lt_of_lt_of_le bl hsa; have HA1 := Lib.hid howna; clear howna hga) | fail)
            clear hown
            go_wp2_with fail
            go_roundw
            case rel => exact ⟨k + 1, by omega, by go_num, by rw [HN1.out], by rw [HN1.out]; exact hJ⟩
            case measure => simp [intOf]; omega
          | false =>
            by_cases he : ZB k = x
            · have HN1 : Hid (moreK ZB x (k + 1) = (l ++ [x], true)) := Lib.hid (by rw [moreK, hmk, if_pos ⟨rfl, hx⟩, if_pos he])
              have de : (ZB k == x) = true := by simpa using he
              clear hx he hmk
              go_wp2_with (first | (at_builtin; refine wpList_append_own _ rfl _ _ 36 rfl wX.heap.size 3 i0 (.int .i64 0) 1 8 Try.underlying36 hi0 hz0 hz1 hz2 rfl (by decide) _ l.length _ rfl (hown.alloc _) ⟨wo.heap.size, 0, none⟩ 1 1 [.int .i64 x] rfl rfl (new1 wo x) (by simp [Value.oneCell']) (by skip; unfold maxLen; omega) (by skip; omega) (by simp only [World.size_alloc]; omega) ?_; intro va wa howna hga _; have hJ := HR.out.app hga howna; have b0a : wa.cell? (b.add k) = some (.int .i64 (ZB k)) := (hJ.below.cell (p := b.add k) bl).trans b0X.out; have hsa := hJ.below.size; have bla : (b.add k).block < wa.heap.size := Nat.lt_of_lt_of_le bl hsa; have HA1 := Lib.hid howna; clear howna hga) | fail)
              clear hown
              go_wp2_with fail
              go_roundw
              case rel => exact ⟨k + 1, by omega, by go_num, by rw [HN1.out], by rw [HN1.out]; exact hJ⟩
              case measure => simp [intOf]; omega
            · have HN1 : Hid (moreK ZB x (k + 1) = (l ++ [x] ++ [ZB k], true)) := Lib.hid (by rw [moreK, hmk, if_pos ⟨rfl, hx⟩, if_neg he])
              have de : (ZB k == x) = false := by simpa using he
              have HLE2 : Hid ((l ++ [x]).length ≤ 1000) := Lib.hid (by simp only [List.length_append, List.length_cons, List.length_nil]; omega)
              clear hx he hmk
              go_wp2_with (first | (at_builtin; refine wpList_append_own _ rfl _ _ 36 rfl wX.heap.size 3 i0 (.int .i64 0) 1 8 Try.underlying36 hi0 hz0 hz1 hz2 rfl (by decide) _ l.length _ rfl (hown.alloc _) ⟨wo.heap.size, 0, none⟩ 1 1 [.int .i64 x] rfl rfl (new1 wo x) (by simp [Value.oneCell']) (by skip; unfold maxLen; omega) (by skip; omega) (by simp only [World.size_alloc]; omega) ?_; intro va wa howna hga _; have hJ := HR.out.app hga howna; have b0a : wa.cell? (b.add k) = some (.int .i64 (ZB k)) := (hJ.below.cell (p := b.add k) bl).trans b0X.out; have hsa := hJ.below.size; have bla : (b.add k).block < wa.heap.size := Nat.lt_of_lt_of_le bl hsa; have HA1 := Lib.hid howna; clear howna hga) | (at_builtin; refine wpList_append_own _ rfl _ _ 36 rfl wX.heap.size 3 i0 (.int .i64 0) 1 8 Try.underlying36 hi0 hz0 hz1 hz2 rfl (by decide) _ (l ++ [x]).length _ rfl (hJ.own.alloc _) ⟨wa.heap.size, 0, none⟩ 1 1 [.int .i64 (ZB k)] rfl rfl (new1 wa (ZB k)) (by simp [Value.oneCell']) (by have h9 := HLE2.out; unfold maxLen; omega) (by have h9 := HLE2.out; omega) (by simp only [World.size_alloc]; omega) ?_; intro vb wb hownb hgb _; have hJ2 := hJ.app hgb hownb; clear hownb hgb) | fail)
              clear hown
              go_wp2_with fail
              go_roundw
              case rel => exact ⟨k + 1, by omega, by go_num, by rw [HN1.out], by rw [HN1.out]; exact hJ2⟩
              case measure => simp [intOf]; omega
        · have dx : decide (x ≤ ZB k) = false := by simpa using hx
          have dx2 : decide (ZB k ≥ x) = false := by simpa using hx
          have HN1 : Hid (moreK ZB x (k + 1) = (l ++ [ZB k], put)) := Lib.hid (by rw [moreK, hmk, if_neg (fun h => hx h.2)])
          cases put with
          | true =>
            clear hx hmk
            go_wp2_with (first | (at_builtin; refine wpList_append_own _ rfl _ _ 36 rfl wX.heap.size 3 i0 (.int .i64 0) 1 8 Try.underlying36 hi0 hz0 hz1 hz2 rfl (by decide) _ l.length _ rfl (hown.alloc _) ⟨wo.heap.size, 0, none⟩ 1 1 [.int .i64 (ZB k)] rfl rfl (new1 wo (ZB k)) (by simp [Value.oneCell']) (by skip; unfold maxLen; omega) (by skip; omega) (by simp only [World.size_alloc]; omega) ?_; intro va wa howna hga _; have hJ := HR.out.app hga howna; have b0a : wa.cell? (b.add k) = some (.int .i64 (ZB k)) := (hJ.below.cell (p := b.add k) bl).trans b0X.out; have hsa := hJ.below.size; have bla : (b.add k).block < wa.heap.size := Nat.lt_of_lt_of_le bl hsa; have HA1 := Lib.hid howna; clear howna hga) | fail)
            clear hown
            go_wp2_with fail
            go_roundw
            case rel => exact ⟨k + 1, by omega, by go_num, by rw [HN1.out], by rw [HN1.out]; exact hJ⟩
            case measure => simp [intOf]; omega
          | false =>
            clear hx hmk
            go_wp2_with (first | (at_builtin; refine wpList_append_own _ rfl _ _ 36 rfl wX.heap.size 3 i0 (.int .i64 0) 1 8 Try.underlying36 hi0 hz0 hz1 hz2 rfl (by decide) _ l.length _ rfl (hown.alloc _) ⟨wo.heap.size, 0, none⟩ 1 1 [.int .i64 (ZB k)] rfl rfl (new1 wo (ZB k)) (by simp [Value.oneCell']) (by skip; unfold maxLen; omega) (by skip; omega) (by simp only [World.size_alloc]; omega) ?_; intro va wa howna hga _; have hJ := HR.out.app hga howna; have b0a : wa.cell? (b.add k) = some (.int .i64 (ZB k)) := (hJ.below.cell (p := b.add k) bl).trans b0X.out; have hsa := hJ.below.size; have bla : (b.add k).block < wa.heap.size := Nat.lt_of_lt_of_le bl hsa; have HA1 := Lib.hid howna; clear howna hga) | fail)
            clear hown
            go_wp2_with fail
            go_roundw
            case rel => exact ⟨k + 1, by omega, by go_num, by rw [HN1.out], by rw [HN1.out]; exact hJ⟩
            case measure => simp [intOf]; omega
      · have hki : (m : Int) ≤ (k : Int) := by omega
        obtain rfl : k = m := by omega
        generalize hmk : moreK ZB x k = M at *
        obtain ⟨l, put⟩ := M
        dsimp only at *
        have hP := PX.out.up hRb (by have := CX.out.size; have := PX.out.block; omega)
        unfold HasPap at hP
        obtain ⟨p0, p1, p2, p3, p4, p5, p6, p7, p8, p9⟩ := hP
        have zp : w.heap.size < wo.heap.size := World.block_lt_of_cell? _ _ p0
        cases put with
        | true =>
          have hm2 : moreL ZB x k = l := by unfold moreL; rw [hmk, if_pos rfl]
          have hown0 := own_mono hown (Nat.zero_le _)
          rw [← hm2] at hown0
          have HOWN := Lib.hid hown0
          have HRB := Lib.hid hRb
          clear hown hown0 hm2 hmk hRb
          go_wp2_with fail
          refine (K2.out _ _ (CX.out.trans (HRB.out.mono CX.out.size)) HOWN.out).mono ?_
          rintro e w5 ⟨A2, k2, c2, rfl, hb5, H2⟩
          have C5 : Below wX.heap.size wX w5 := HRB.out.trans (hb5.mono HRB.out.size)
          have hx5 := cell_up C5 (by omega) XX.out
          have hP5 := PX.out.up C5 PX.out.block
          have zp5 := hP5.block
          have zx5 : w2.heap.size < w5.heap.size := World.block_lt_of_cell? _ _ hx5
          unfold HasPap at hP5
          obtain ⟨-, -, -, -, -, q5, -⟩ := hP5
          have CW5 : Below w.heap.size w w5 := CX.out.trans (C5.mono CX.out.size)
          have HCW5 := Lib.hid CW5
          have HC5 := Lib.hid C5
          clear hb5 CW5 C5 p0 p1 p2 p3 p4 p5 p6 p7 p8 p9 HOWN HRB zp
          by_cases hlo : x < 0
          · obtain rfl := HO.out (.inl hlo)
            have d1 : decide (x < 0) = true := by simpa using hlo
            clear hlo
            go_wp2_with fail
            go_ret
            exact ⟨rfl, by first | exact HCW5.out.alloc HCW5.out.size _ | exact (HCW5.out.alloc HCW5.out.size _).drew | exact below_drewN (HCW5.out.alloc HCW5.out.size _) _⟩
          by_cases hhi : p.cols ≤ x
          · obtain rfl := HO.out (.inr hhi)
            have d1 : decide (x < 0) = false := by simpa using hlo
            have d2 : decide (p.cols ≤ x) = true := by simpa using hhi
            clear hlo hhi
            go_wp2_with fail
            go_ret
            exact ⟨rfl, by first | exact HCW5.out.alloc HCW5.out.size _ | exact (HCW5.out.alloc HCW5.out.size _).drew | exact below_drewN (HCW5.out.alloc HCW5.out.size _) _⟩
          have d1 : decide (x < 0) = false := by simpa using hlo
          have d2 : decide (p.cols ≤ x) = false := by simpa using hhi
          have hx0 : 0 ≤ x := by omega
          have hxc : x < p.cols := by omega
          obtain rfl := HI.out hx0 hxc
          obtain ⟨hk2, X2⟩ : k2 = k1 ∧ SheetB w5.heap.size A2 k1 L2 w5 := by
            rcases H2.out with h | h
            · exact ⟨h.2.1, (ShL.shq (.inl ⟨rfl, rfl, h.2.2⟩)).1⟩
            · exact absurd rfl h.1
          subst hk2
          have X1 : SheetB w5.heap.size A1 k2 L1 w5 := (ShL.shq (.inl ⟨rfl, rfl, HX1.out.up HC5.out⟩)).1
          have HX15 := Lib.hid X1
          have HX25 := Lib.hid X2
          clear X1 X2 H2 HX1 hlo hhi
          go_wp2_with fail
          refine (K3.out hx0 hxc _ _ _ _ _ (HX15.out.up (by first | exact box1 _ _ | exact (box1 _ _).drew) (by first | exact (box1 _ _).size | (simp only [World.size_drew]; exact (box1 _ _).size))) (HX25.out.up (by first | exact box1 _ _ | exact (box1 _ _).drew) (by first | exact (box1 _ _).size | (simp only [World.size_drew]; exact (box1 _ _).size)))).mono ?_
          rintro e w6 ⟨rfl, hb6⟩
          have hx6 := low_cell (b := w2.heap.size) (o := 0) (v := .slice A1 k2 c1) hb6 (by (try simp only [World.size_drew]); (try simp only [World.size_alloc]); omega) (by go_simp)
          have hy6 := low_cell (b := w5.heap.size) (o := 0) (v := .slice A2 k2 c2) hb6 (by (try simp only [World.size_drew]); (try simp only [World.size_alloc]); omega) (by go_simp)
          have B6 : Below w5.heap.size w5 w6 := by
            first
              | exact (box1 _ _).trans (hb6.mono (box1 _ _).size)
              | exact (box1 _ _).drew.trans (hb6.mono (by simp only [World.size_drew]; exact (box1 _ _).size))
          have zx6 : w2.heap.size < w6.heap.size := World.block_lt_of_cell? _ _ hx6
          have zy6 : w5.heap.size < w6.heap.size := World.block_lt_of_cell? _ _ hy6
          obtain ⟨Y1, y1, r1⟩ := HX15.out.up B6 B6.size
          obtain ⟨Y2, y2, r2⟩ := HX25.out.up B6 B6.size
          have HBW := Lib.hid (HCW5.out.trans (B6.mono HCW5.out.size))
          clear hb6 hx5 q5 zp5 zx5 B6
          obtain ⟨q, hq⟩ : ∃ q : Nat, (q : Int) = x := ⟨x.toNat, by omega⟩
          have hqN : q < k2 := by have := HN.out; omega
          have hqi : (q : Int) < (k2 : Int) := by omega
          have hq0 : (0 : Int) ≤ (q : Int) := by omega
          obtain ⟨a2, rfl, al2, ca2, _⟩ := y2.2 q hqN
          have hL0 : Y2.L q = 0 := by rw [(r2 q hqN).1, HL.out q hqN hq]; rfl
          rw [hL0] at ca2
          have HY1 := Lib.hid y1
          have HY2 := Lib.hid y2
          have HR1 := Lib.hid r1
          have HR2 := Lib.hid r2
          have KSS : Hid (∀ j, j < k2 → (j : Int) ≠ x → ∀ W, Below w6.heap.size w6 W → Calls Try.prog 52 #[.slice (Y1.A j) (Y1.L j) (Y1.C j), .slice (Y2.A j) (Y2.L j) (Y2.C j)] W fun e w' => e = .returned (.bool true) ∧ Below W.heap.size W w') := Lib.hid fun j hj hne W hW => by
            obtain ⟨_, _, _, _, s1⟩ := (HY1.out.up hW (Nat.le_refl _)).2 j hj
            obtain ⟨_, _, _, _, s2⟩ := (HY2.out.up hW (Nat.le_refl _)).2 j hj
            have e := reads_same HR1.out HR2.out hj hj (HS.out j hj hne).symm
            exact SameSpans_any _ _ _ _ _ _ _ _ true W (s1.more hW.size) (s2.more hW.size) ⟨fun _ => e, fun _ => rfl⟩
          clear y1 y2 r1 r2 hL0 hx0 hxc
          subst hq
          go_wp2_with fail
          try go_quiet (fail)
          try go_wp2_with fail
          go_loopw [19] (fun i wr => ∃ j : Nat, j ≤ k2 ∧ i = .int .i64 j ∧ Below w6.heap.size w6 wr) (fun i _ => k2 - (intOf i).toNat)
          case atStart => exact ⟨0, Nat.zero_le _, rfl, by first | exact Below.refl _ _ | exact (Below.refl _ _).drew | exact below_drewN (Below.refl _ _) _⟩
          case round =>
            obtain ⟨j, hj, rfl, hW⟩ := hrel
            obtain ⟨wi, rfl⟩ : ∃ wi : World, wi = wr := ⟨_, rfl⟩
            have hj0 : (0 : Int) ≤ (j : Int) := by omega
            have hxi := cell_up hW zx6 hx6
            have hyi := cell_up hW zy6 hy6
            have zxi : w2.heap.size < wi.heap.size := World.block_lt_of_cell? _ _ hxi
            have zyi : w5.heap.size < wi.heap.size := World.block_lt_of_cell? _ _ hyi
            by_cases hjl : j < k2
            · obtain ⟨a1, ea1, al1, cb1, _⟩ := (HY1.out.up hW (Nat.le_refl _)).2 j hjl
              obtain ⟨a2', ea2, al2', cb2, _⟩ := (HY2.out.up hW (Nat.le_refl _)).2 j hjl
              cases ea2
              rw [ea1] at hxi
              clear ea1
              have hji : (j : Int) < (k2 : Int) := by omega
              have hsz := hW.size
              have bl1 : (a1.add j).block < wi.heap.size := by rw [add_block]; omega
              have bl2 : (a2.add j).block < wi.heap.size := by rw [add_block]; omega
              have HW := Lib.hid hW
              clear hW hsz
              by_cases hne : (j : Int) = (q : Int)
              · have dq : ((j : Int) == (q : Int)) = true := by simpa using hne
                have dq2 : ((j : Int) != (q : Int)) = false := by simpa using hne
                clear hne
                go_wp2_with fail
                go_quiet (fail)
                go_wp2_with fail
                go_roundw
                case rel => exact ⟨j + 1, by omega, by go_num, by first | exact HW.out.drew | exact below_drewN HW.out _ | exact HW.out⟩
                case measure => simp [intOf]; omega
              · have dq : ((j : Int) == (q : Int)) = false := by simpa using hne
                have dq2 : ((j : Int) != (q : Int)) = true := by simpa using hne
                have KS1 : Hid (∀ W, Below w6.heap.size w6 W → Calls Try.prog 52 #[.slice (Y1.A j) (Y1.L j) (Y1.C j), .slice (Y2.A j) (Y2.L j) (Y2.C j)] W fun e w' => e = .returned (.bool true) ∧ Below W.heap.size W w') := Lib.hid fun W hW => KSS.out j hjl hne W hW
                clear hne
                go_wp2_with fail
                refine still_tail 14 (by kernel_rfl) (by kernel_rfl) ?_
                simp only [List.take_succ_cons, List.take_zero, List.drop_succ_cons, List.drop_zero]
                repeat still_step
                refine wpStill_nil ?_
                go_wp2_with fail
                refine (KS1.out _ HW.out.drew).mono ?_
                rintro e w7 ⟨rfl, hb7⟩
                have hB7 : Below w6.heap.size w6 w7 := HW.out.drew.trans (hb7.mono HW.out.drew.size)
                clear hb7
                go_wp2_with fail
                go_roundw
                case rel => exact ⟨j + 1, by omega, by go_num, hB7⟩
                case measure => simp [intOf]; omega
            · have hji : (k2 : Int) ≤ (j : Int) := by omega
              have hBE := Lib.hid (HBW.out.trans (hW.mono HBW.out.size))
              clear hW
              go_wp2_with fail
              go_ret
              exact ⟨rfl, hBE.out⟩
        | false =>
          have hm2 : moreL ZB x k = l ++ [x] := by unfold moreL; rw [hmk, if_neg (by simp)]
          have HM2 := Lib.hid hm2
          have HRB0 := Lib.hid hRb
          clear hm2 hmk
          go_wp2_with (first | (at_builtin; refine wpList_append_own _ rfl _ _ 36 rfl wX.heap.size 3 i0 (.int .i64 0) 1 8 Try.underlying36 hi0 hz0 hz1 hz2 rfl (by decide) _ l.length _ rfl (hown.alloc _) ⟨wo.heap.size, 0, none⟩ 1 1 [.int .i64 x] rfl rfl (new1 wo x) (by simp [Value.oneCell']) (by skip; unfold maxLen; omega) (by skip; omega) (by simp only [World.size_alloc]; omega) ?_; intro va wa howna hga _; have hJ := (RowZ.mk HRB0.out hown).app hga howna; have HRB := Lib.hid hJ.below; have HOWN : Hid (wa.ownsRow 0 3 1 va (moreL ZB x k).length (intsZ (moreL ZB x k))) := Lib.hid (by rw [HM2.out]; exact own_mono hJ.own (Nat.zero_le _)); clear howna hga hJ; have hPa := PX.out.up HRB.out PX.out.block; (unfold HasPap at hPa); (obtain ⟨s0, s1, s2, s3, s4, s5, s6, s7, s8, s9⟩ := hPa); clear p0 p1 p2 p3 p4 p5 p6 p7 p8 p9; have zpa : w.heap.size < wa.heap.size := World.block_lt_of_cell? _ _ s0) | fail)
          clear hown hRb
          go_wp2_with fail
          refine (K2.out _ _ (CX.out.trans (HRB.out.mono CX.out.size)) HOWN.out).mono ?_
          rintro e w5 ⟨A2, k2, c2, rfl, hb5, H2⟩
          have C5 : Below wX.heap.size wX w5 := HRB.out.trans (hb5.mono HRB.out.size)
          have hx5 := cell_up C5 (by omega) XX.out
          have hP5 := PX.out.up C5 PX.out.block
          have zp5 := hP5.block
          have zx5 : w2.heap.size < w5.heap.size := World.block_lt_of_cell? _ _ hx5
          unfold HasPap at hP5
          obtain ⟨-, -, -, -, -, q5, -⟩ := hP5
          have CW5 : Below w.heap.size w w5 := CX.out.trans (C5.mono CX.out.size)
          have HCW5 := Lib.hid CW5
          have HC5 := Lib.hid C5
          clear hb5 CW5 C5 s0 s1 s2 s3 s4 s5 s6 s7 s8 s9 HOWN HRB zpa
          by_cases hlo : x < 0
          · obtain rfl := HO.out (.inl hlo)
            have d1 : decide (x < 0) = true := by simpa using hlo
            clear hlo
            go_wp2_with fail
            go_ret
            exact ⟨rfl, by first | exact HCW5.out.alloc HCW5.out.size _ | exact (HCW5.out.alloc HCW5.out.size _).drew | exact below_drewN (HCW5.out.alloc HCW5.out.size _) _⟩
          by_cases hhi : p.cols ≤ x
          · obtain rfl := HO.out (.inr hhi)
            have d1 : decide (x < 0) = false := by simpa using hlo
            have d2 : decide (p.cols ≤ x) = true := by simpa using hhi
            clear hlo hhi
            go_wp2_with fail
            go_ret
            exact ⟨rfl, by first | exact HCW5.out.alloc HCW5.out.size _ | exact (HCW5.out.alloc HCW5.out.size _).drew | exact below_drewN (HCW5.out.alloc HCW5.out.size _) _⟩
          have d1 : decide (x < 0) = false := by simpa using hlo
          have d2 : decide (p.cols ≤ x) = false := by simpa using hhi
          have hx0 : 0 ≤ x := by omega
          have hxc : x < p.cols := by omega
          obtain rfl := HI.out hx0 hxc
          obtain ⟨hk2, X2⟩ : k2 = k1 ∧ SheetB w5.heap.size A2 k1 L2 w5 := by
            rcases H2.out with h | h
            · exact ⟨h.2.1, (ShL.shq (.inl ⟨rfl, rfl, h.2.2⟩)).1⟩
            · exact absurd rfl h.1
          subst hk2
          have X1 : SheetB w5.heap.size A1 k2 L1 w5 := (ShL.shq (.inl ⟨rfl, rfl, HX1.out.up HC5.out⟩)).1
          have HX15 := Lib.hid X1
          have HX25 := Lib.hid X2
          clear X1 X2 H2 HX1 hlo hhi
          go_wp2_with fail
          refine (K3.out hx0 hxc _ _ _ _ _ (HX15.out.up (by first | exact box1 _ _ | exact (box1 _ _).drew) (by first | exact (box1 _ _).size | (simp only [World.size_drew]; exact (box1 _ _).size))) (HX25.out.up (by first | exact box1 _ _ | exact (box1 _ _).drew) (by first | exact (box1 _ _).size | (simp only [World.size_drew]; exact (box1 _ _).size)))).mono ?_
          rintro e w6 ⟨rfl, hb6⟩
          have hx6 := low_cell (b := w2.heap.size) (o := 0) (v := .slice A1 k2 c1) hb6 (by (try simp only [World.size_drew]); (try simp only [World.size_alloc]); omega) (by go_simp)
          have hy6 := low_cell (b := w5.heap.size) (o := 0) (v := .slice A2 k2 c2) hb6 (by (try simp only [World.size_drew]); (try simp only [World.size_alloc]); omega) (by go_simp)
          have B6 : Below w5.heap.size w5 w6 := by
            first
              | exact (box1 _ _).trans (hb6.mono (box1 _ _).size)
              | exact (box1 _ _).drew.trans (hb6.mono (by simp only [World.size_drew]; exact (box1 _ _).size))
          have zx6 : w2.heap.size < w6.heap.size := World.block_lt_of_cell? _ _ hx6
          have zy6 : w5.heap.size < w6.heap.size := World.block_lt_of_cell? _ _ hy6
          obtain ⟨Y1, y1, r1⟩ := HX15.out.up B6 B6.size
          obtain ⟨Y2, y2, r2⟩ := HX25.out.up B6 B6.size
          have HBW := Lib.hid (HCW5.out.trans (B6.mono HCW5.out.size))
          clear hb6 hx5 q5 zp5 zx5 B6
          obtain ⟨q, hq⟩ : ∃ q : Nat, (q : Int) = x := ⟨x.toNat, by omega⟩
          have hqN : q < k2 := by have := HN.out; omega
          have hqi : (q : Int) < (k2 : Int) := by omega
          have hq0 : (0 : Int) ≤ (q : Int) := by omega
          obtain ⟨a2, rfl, al2, ca2, _⟩ := y2.2 q hqN
          have hL0 : Y2.L q = 0 := by rw [(r2 q hqN).1, HL.out q hqN hq]; rfl
          rw [hL0] at ca2
          have HY1 := Lib.hid y1
          have HY2 := Lib.hid y2
          have HR1 := Lib.hid r1
          have HR2 := Lib.hid r2
          have KSS : Hid (∀ j, j < k2 → (j : Int) ≠ x → ∀ W, Below w6.heap.size w6 W → Calls Try.prog 52 #[.slice (Y1.A j) (Y1.L j) (Y1.C j), .slice (Y2.A j) (Y2.L j) (Y2.C j)] W fun e w' => e = .returned (.bool true) ∧ Below W.heap.size W w') := Lib.hid fun j hj hne W hW => by
            obtain ⟨_, _, _, _, s1⟩ := (HY1.out.up hW (Nat.le_refl _)).2 j hj
            obtain ⟨_, _, _, _, s2⟩ := (HY2.out.up hW (Nat.le_refl _)).2 j hj
            have e := reads_same HR1.out HR2.out hj hj (HS.out j hj hne).symm
            exact SameSpans_any _ _ _ _ _ _ _ _ true W (s1.more hW.size) (s2.more hW.size) ⟨fun _ => e, fun _ => rfl⟩
          clear y1 y2 r1 r2 hL0 hx0 hxc
          subst hq
          go_wp2_with fail
          try go_quiet (fail)
          try go_wp2_with fail
          go_loopw [19] (fun i wr => ∃ j : Nat, j ≤ k2 ∧ i = .int .i64 j ∧ Below w6.heap.size w6 wr) (fun i _ => k2 - (intOf i).toNat)
          case atStart => exact ⟨0, Nat.zero_le _, rfl, by first | exact Below.refl _ _ | exact (Below.refl _ _).drew | exact below_drewN (Below.refl _ _) _⟩
          case round =>
            obtain ⟨j, hj, rfl, hW⟩ := hrel
            obtain ⟨wi, rfl⟩ : ∃ wi : World, wi = wr := ⟨_, rfl⟩
            have hj0 : (0 : Int) ≤ (j : Int) := by omega
            have hxi := cell_up hW zx6 hx6
            have hyi := cell_up hW zy6 hy6
            have zxi : w2.heap.size < wi.heap.size := World.block_lt_of_cell? _ _ hxi
            have zyi : w5.heap.size < wi.heap.size := World.block_lt_of_cell? _ _ hyi
            by_cases hjl : j < k2
            · obtain ⟨a1, ea1, al1, cb1, _⟩ := (HY1.out.up hW (Nat.le_refl _)).2 j hjl
              obtain ⟨a2', ea2, al2', cb2, _⟩ := (HY2.out.up hW (Nat.le_refl _)).2 j hjl
              cases ea2
              rw [ea1] at hxi
              clear ea1
              have hji : (j : Int) < (k2 : Int) := by omega
              have hsz := hW.size
              have bl1 : (a1.add j).block < wi.heap.size := by rw [add_block]; omega
              have bl2 : (a2.add j).block < wi.heap.size := by rw [add_block]; omega
              have HW := Lib.hid hW
              clear hW hsz
              by_cases hne : (j : Int) = (q : Int)
              · have dq : ((j : Int) == (q : Int)) = true := by simpa using hne
                have dq2 : ((j : Int) != (q : Int)) = false := by simpa using hne
                clear hne
                go_wp2_with fail
                go_quiet (fail)
                go_wp2_with fail
                go_roundw
                case rel => exact ⟨j + 1, by omega, by go_num, by first | exact HW.out.drew | exact below_drewN HW.out _ | exact HW.out⟩
                case measure => simp [intOf]; omega
              · have dq : ((j : Int) == (q : Int)) = false := by simpa using hne
                have dq2 : ((j : Int) != (q : Int)) = true := by simpa using hne
                have KS1 : Hid (∀ W, Below w6.heap.size w6 W → Calls Try.prog 52 #[.slice (Y1.A j) (Y1.L j) (Y1.C j), .slice (Y2.A j) (Y2.L j) (Y2.C j)] W fun e w' => e = .returned (.bool true) ∧ Below W.heap.size W w') := Lib.hid fun W hW => KSS.out j hjl hne W hW
                clear hne
                go_wp2_with fail
                refine still_tail 14 (by kernel_rfl) (by kernel_rfl) ?_
                simp only [List.take_succ_cons, List.take_zero, List.drop_succ_cons, List.drop_zero]
                repeat still_step
                refine wpStill_nil ?_
                go_wp2_with fail
                refine (KS1.out _ HW.out.drew).mono ?_
                rintro e w7 ⟨rfl, hb7⟩
                have hB7 : Below w6.heap.size w6 w7 := HW.out.drew.trans (hb7.mono HW.out.drew.size)
                clear hb7
                go_wp2_with fail
                go_roundw
                case rel => exact ⟨j + 1, by omega, by go_num, hB7⟩
                case measure => simp [intOf]; omega
            · have hji : (k2 : Int) ≤ (j : Int) := by omega
              have hBE := Lib.hid (HBW.out.trans (hW.mono HBW.out.size))
              clear hW
              go_wp2_with fail
              go_ret
              exact ⟨rfl, hBE.out⟩
theorem blots_law (p : Pap) (A : Option Addr) (n c : Nat) (Z : Nat → Pt) (B : Option Addr) (m d : Nat) (ZB : Nat → Int) (x : Int) (w : World) (ha : PtsIn A n Z w.heap.size w) (hb : IntsIn B m ZB w.heap.size w) :
    Calls Try.prog 17 #[p.v, .slice A n c, .slice B m d, .int .i64 x] w fun e w' => e = .returned (.bool true) ∧ Below w.heap.size w w' := by
  obtain ⟨E1, h1⟩ := inkR_ex p n Z m ZB
  obtain ⟨E2, h2⟩ := inkR_ex p n Z (moreL ZB x m).length (asZ (moreL ZB x m))
  have z1 : E1 = 0 → p.Ok ∧ n ≤ 2000 ∧ (∀ i, i < n → (Z i).Ok) ∧ BlotsOk p.cols ZB m ∧ Eight p.cols.toNat (inkC p (blt ZB m) Z n) := fun e => inkR_zero (e ▸ h1)
  have e8 : E1 = 0 → Eight p.cols.toNat (inkC p (blt (asZ (moreL ZB x m)) (moreL ZB x m).length) Z n) := fun e q hq => by
    rw [ink_more (x := x) (z1 e).2.2.2.1]
    split
    · simp
    · exact (z1 e).2.2.2.2 q hq
  refine blots_core p A B n c m d p.cols.toNat x ZB E1 E2 (inkC p (blt ZB m) Z n) (inkC p (blt (asZ (moreL ZB x m)) (moreL ZB x m).length) Z n) w hb ha.1
    (Lib.hid fun e => by have := (z1 e).1.cols; omega)
    (Lib.hid fun hn W hW => Ink_any p A B n c m d Z ZB E1 W (.inl (by omega)) ((ha.up hW (Nat.le_refl _)).more hW.size) ((hb.up hW (Nat.le_refl _)).more hW.size) h1)
    (Lib.hid fun hn hm e W v hW ho => ?_)
    (Lib.hid fun e k hk => (moreK_inv x (z1 e).2.2.2.1 k hk).len.1)
    (Lib.hid fun e hx => ?_) (Lib.hid fun e h0 hx => ?_) (Lib.hid fun e h0 hx W A1 c1 A2 c2 s1 s2 => ?_) (Lib.hid fun e q _ hq => ?_) (Lib.hid fun e q _ hq => ?_)
  · have hl := (moreL_inv x (z1 e).2.2.2.1).2.2
    obtain ⟨Av, cv, rfl, hI⟩ := row_ints ho (by omega)
    exact Ink_any p A Av n c _ cv Z _ E2 W (.inl (by omega)) ((ha.up hW (Nat.le_refl _)).more hW.size) hI h2
  · obtain ⟨o1, o2, o3, o4, o5⟩ := z1 e
    have hno : ¬ BlotsOk p.cols (asZ (moreL ZB x m)) (moreL ZB x m).length := fun g => by
      have := (more_ok o4).1 g
      omega
    rcases h2 with ⟨h, _⟩ | ⟨_, ⟨h, _⟩ | ⟨_, ⟨h, _⟩ | ⟨_, ⟨_, h⟩ | ⟨h, _⟩⟩⟩⟩
    · exact absurd o1 h
    · omega
    · exact absurd o3 h
    · exact h
    · exact absurd h hno
  · obtain ⟨o1, o2, o3, o4, o5⟩ := z1 e
    have hyes : BlotsOk p.cols (asZ (moreL ZB x m)) (moreL ZB x m).length := (more_ok o4).2 ⟨h0, by omega⟩
    rcases h2 with ⟨h, _⟩ | ⟨_, ⟨h, _⟩ | ⟨_, ⟨h, _⟩ | ⟨_, ⟨h, _⟩ | ⟨_, ⟨_, h⟩ | ⟨h, _⟩⟩⟩⟩⟩
    · exact absurd o1 h
    · omega
    · exact absurd o3 h
    · exact absurd hyes h
    · exact h
    · exact absurd (e8 e) h
  · obtain ⟨o1, o2, o3, o4, o5⟩ := z1 e
    have g1 := inkC_good o1 o3 o5
    have g2 := inkC_good o1 o3 (e8 e)
    refine Within_sh A1 A2 _ _ c1 c2 _ _ 0 true W s1 s2 (.inr (.inr (.inr ⟨g1, g2, rfl, rfl⟩))) ⟨fun _ => ⟨rfl, fun i _ => ?_⟩, fun _ => rfl⟩
    rw [ink_more (x := x) o4]
    split
    · exact fun t _ => .inl rfl
    · exact fun t h => h
  · rw [ink_more (x := x) (z1 e).2.2.2.1, if_pos hq]
  · rw [ink_more (x := x) (z1 e).2.2.2.1, if_neg hq]
theorem blots.own : ownKnob Try.prog.godebug = none := by kernel_rfl
set_option maxRecDepth 100000 in
set_option maxHeartbeats 1000000 in
theorem blots_lifted (os : Os) (started : os.Started) (H : Type) (enc : TypeId × Value → H) :
    ReturnsInHanded {} Try.checked os 17 .any (Rows.paperBlotsSpec.pre6 enc Try.prog Try.f17 Rows.paperBlotsRow.domain false) (Rows.paperBlotsSpec.post enc Try.prog Try.f17 false true false false) := by
  refine returnsInHanded_of_change (C := Try.checked) blots.own started (by kernel_rfl) Try.func17
    (ChangeSpec.witness6 (enc := enc) (C := Try.checked) false ⟨#[], #[.agg #[.int .i64 0, .int .i64 0, .int .i64 0, .int .i64 0, .int .i64 0, .int .i64 0, .int .i64 0, .int .i64 0, .int .i64 0, .int .i64 0], .slice none 0 0, .slice none 0 0, .int .i64 0], []⟩ 8 (by kernel_rfl) (by kernel_rfl) (by kernel_rfl) (by kernel_rfl)) ?_
  intro W base args ds gs before hval0 hW hcnd _
  have hval : ∀ (j : Nat) t v, Try.f17.params[j]? = some t → args[j]? = some v → Value.okWide Try.prog W .any base t v := hval0
  have hW' := hW
  obtain ⟨p, q, hA0, hV, rfl, hfz, hnd⟩ := hW
  have hA : DataW.TrodAll enc Try.prog W 0 (fun _ => true) true Try.f17.params.toList args.toList ds p := hA0
  rw [Try.params17] at hA hval
  obtain ⟨v0, v1, v2, v3, d0, d1, d2, d3, p0, p1, p2, p3, rfl, rfl, rfl, h0, h1, h2, h3⟩ := trodAll_four hA
  obtain ⟨rfl, rfl⟩ := trodVars_none hV
  have hlt := fun x hx => hW'.lt x hx
  simp only [List.append_nil, List.mem_append] at hlt
  have k0 := h0
  have k1 := h1
  have k2 := h2
  have k3 := h3
  obtain ⟨a, rfl, _, _, _⟩ := open_paper (hval 0 25 v0 rfl rfl) h0
  obtain ⟨bA, bn, bc, bP, rfl, bh⟩ := open_trace (hval 1 26 v1 rfl rfl) h1
  obtain ⟨cA, cn, cc, cP, rfl, ch⟩ := open_intl (hval 2 36 v2 rfl rfl) h2
  obtain ⟨d, rfl, _, _, _⟩ := open_int Try.underlying3 (hval 3 3 v3 rfl rfl) h3
  clear hA0 hval0
  simp only [List.append_nil] at hW'
  refine (blots_law a bA bn bc bP cA cn cc cP d W bh ch).mono fun e W' ⟨he, hw⟩ => ?_
  subst he
  exact ⟨_, rfl, [d0, d1, d2, d3], [], _, [], p0 ++ (p1 ++ (p2 ++ (p3))), [], hW', trodAll_mk1 (shut_bool Try.underlying4 true), trodAll_mk4 (Below.trod Try.laidOut (by kernel_rfl) (of_decide_eq_true (by kernel_rfl)) k0 hw (fun x hx => hlt x (by simp [hx]))) (Below.trod Try.laidOut (by kernel_rfl) (of_decide_eq_true (by kernel_rfl)) k1 hw (fun x hx => hlt x (by simp [hx]))) (Below.trod Try.laidOut (by kernel_rfl) (of_decide_eq_true (by kernel_rfl)) k2 hw (fun x hx => hlt x (by simp [hx]))) (Below.trod Try.laidOut (by kernel_rfl) (of_decide_eq_true (by kernel_rfl)) k3 hw (fun x hx => hlt x (by simp [hx]))), rfl, hw.frame _, fun h => by cases h⟩
theorem blots_holds : Rows.PaperBlotsSaid :=
  OpenClaim.holds_of_wide 17 Try.f17 rfl rfl rfl rfl rfl rfl rfl ⟨rfl, rfl, rfl, rfl, rfl⟩ rfl rfl rfl rfl rfl (by kernel_rfl) Try.func17 (by kernel_rfl)
    (of_decide_eq_true (by kernel_rfl)) (by unfold Func.isWrapper; first | (rw [if_pos (by decide +kernel)]; kernel_rfl) | (rw [if_neg (by decide +kernel)]; exact ⟨rfl, rfl⟩))
    (fun os started H enc _ => blots_lifted os started H enc)
end Go.Proofs.Ytmeljcbefnojfaa
