/- The package's runs and Stuck. -/
import Derived.Test.YtkidhmajlpceeaaRsk
namespace Go.Proofs.Ytkidhmajlpceeaa
open Go.RowKit
theorem Bt.store1 {b : Nat} {x y : Int} {w : World} (h : Bt b x y w) (v : Int) : Bt b x v (w.setCell ⟨b, 1, none⟩ (.int .i64 v)) := by
  obtain ⟨h0, h1, h2, h3⟩ := h
  exact ⟨by go_simp, by go_simp, by go_simp, by go_simp⟩
set_option maxRecDepth 100000 in
set_option maxHeartbeats 4000000 in
theorem runs_row (A : Option Addr) (n c : Nat) (Z : Nat → Int) (w : World) (hin : IntsIn A n Z w.heap.size w) (hn0 : 1 ≤ n) (hn4 : n ≤ 401) :
    Calls Try.prog 87 #[.slice A n c] w fun e w' => ∃ v, e = .returned v ∧ RowP w 23 (stuckL Z n) v w' := by
  have HIN := Lib.hid hin
  have hn := hin.1
  clear hin
  have HWr : Hid (∀ x : Int, -1000000 ≤ x → x ≤ 1000000 → IntKind.i64.wrap x = x) := Lib.hid fun x h1 h2 => IntWalk.i64_in _ (by omega)
  obtain ⟨a, ha, _, _⟩ := HIN.out.2 0 (by omega)
  subst ha
  obtain ⟨i0, hi0, hz0, hz1, hz2⟩ := info_parts Try.infoSpan
  have hwn : IntKind.i64.wrap ((n : Int) - 1) = ((n - 1 : Nat) : Int) := by rw [show (n : Int) - 1 = ((n - 1 : Nat) : Int) by omega]; exact HWr.out _ (by omega) (by omega)
  go_enter Try.func87, Try.ntmps87
  go_wp2_with fail
  go_step3
  go_wp2_with fail
  go_step3
  go_wp2_with fail
  clear hwn
  go_loopw [3, 5, 6] (fun out i _ wr => ∃ (m : Nat) (L : List (Int × Int)), m < n ∧ i = .int .i64 (m : Int) ∧ Hid (StI Z n m L) ∧ RowP w 23 L out wr) (fun _ i _ _ => n - (intOf i).toNat)
  case atStart => exact ⟨0, [], by omega, rfl, Lib.hid ⟨by omega, Nat.le_refl _, fun _ => ⟨rfl, rfl⟩, fun e => absurd e (by omega)⟩, Below.refl _ _, World.ownsRow_nil _ _ _ _⟩
  case round =>
    obtain ⟨m, L, hmn, rfl, HS, hR⟩ := hrel
    obtain ⟨wo, rfl⟩ : ∃ wo : World, wo = wr := ⟨_, rfl⟩
    have HR := Lib.hid hR
    have C2 := Lib.hid hR.below
    have hk0 : (0 : Int) ≤ (m : Int) := by omega
    have hLm := HS.out.2.1
    clear hR
    by_cases hlt : m < n - 1
    · have hki : (m : Int) < ((n - 1 : Nat) : Int) := by omega
      have hB := Bt.new wo 23 (m : Int) (m : Int)
      have HB := Lib.hid hB
      clear hB
      go_wp2_with fail
      go_loopw [3] (fun v wr => ∃ d : Nat, m + d < n - 1 ∧ Hid (∀ j, m ≤ j → j ≤ m + d → Z j = Z m) ∧ Bt wo.heap.size (m : Int) ((m + d : Nat) : Int) wr ∧ Below wo.heap.size wo wr ∧ RowP w 23 L v wo) (fun _ wr => n - (intOf ((wr.cell? ⟨wo.heap.size, 1, none⟩).getD (.int .i64 0))).toNat)
      case atStart => exact ⟨0, hlt, Lib.hid fun j h1 h2 => by rw [show j = m by omega], HB.out, box1 _ _, HR.out⟩
      case round =>
        obtain ⟨d, hd, HJ, hBt, hb, hR3⟩ := hrel
        obtain ⟨w3, rfl⟩ : ∃ w3 : World, w3 = wr := ⟨_, rfl⟩
        have D3 := Lib.hid hb
        have B3 := Lib.hid hBt
        have HR3 := Lib.hid hR3
        have zb := hBt.lt
        have hbs := hb.size
        clear hb hBt hR3
        obtain ⟨a', e1, _, c1⟩ := (HIN.out.up (nextB C2.out D3.out) (Nat.le_refl _)).2 m hmn
        cases e1
        obtain ⟨a', e1, _, c2⟩ := (HIN.out.up (nextB C2.out D3.out) (Nat.le_refl _)).2 (m + (d + 1)) (by omega)
        cases e1
        obtain ⟨x0, x1, x2, x3⟩ := B3.out
        have hd0 : (0 : Int) ≤ ((m + (d + 1) : Nat) : Int) := by omega
        have w1' : IntKind.i64.wrap (((m + d : Nat) : Int) + 1) = ((m + (d + 1) : Nat) : Int) := by rw [show ((m + d : Nat) : Int) + 1 = ((m + (d + 1) : Nat) : Int) by omega]; exact HWr.out _ (by omega) (by omega)
        have g3 : ((m + (d + 1) : Nat) : Int) < (n : Int) := by omega
        have g5 : (m : Int) < (n : Int) := by omega
        by_cases he : Z (m + (d + 1)) = Z m
        · rw [he] at c2
          have HN : Hid (∀ j, m ≤ j → j ≤ m + (d + 1) → Z j = Z m) := Lib.hid fun j h1 h2 => by
            rcases Nat.lt_or_ge (m + d) j with h3 | h3
            · rw [show j = m + (d + 1) by omega, he]
            · exact HJ.out j h1 h3
          clear he
          have HB4 : Hid (∀ q, Bt wo.heap.size (m : Int) ((m + (d + 1) : Nat) : Int) ((w3.drewN q).setCell ⟨wo.heap.size, 1, none⟩ (.int .i64 ((m + (d + 1) : Nat) : Int)))) := Lib.hid fun q => (B3.out.up (below_drewN (Below.refl _ _) q)).store1 _
          have HD4 : Hid (∀ q, Below wo.heap.size wo ((w3.drewN q).setCell ⟨wo.heap.size, 1, none⟩ (.int .i64 ((m + (d + 1) : Nat) : Int)))) := Lib.hid fun q => set1 (below_drewN D3.out q) (Nat.le_refl _) _ _
          by_cases hl : m + (d + 1) = n - 1
          · have hsl := (run_last (n := n) (HS.out.2.2.1 hmn).1 hmn fun j h1 h2 => HN.out j h1 (by omega)).1 hlt
            rw [← (HS.out.2.2.1 hmn).2] at hsl
            generalize m + d = q at *
            generalize m + (d + 1) = s at *
            have HSL := Lib.hid hsl
            clear hsl
            subst hl
            go_wp2_with fail
            go_quiet (fail)
            have HR4 := Lib.hid (HR3.out.up (HD4.out nq))
            have hown := HR4.out.own
            have hs4 := HR4.out.below.size
            have hz4 : ((w3.drewN nq).setCell ⟨wo.heap.size, 1, none⟩ (.int .i64 ((n - 1 : Nat) : Int))).heap.size = w3.heap.size := by simp
            rw [hz4] at hs4
            go_wp2_with (at_builtin; refine wpList_append_own _ rfl _ _ 48 rfl w.heap.size 23 i0 (.agg #[.int .i64 0, .int .i64 0]) 2 16 Try.underlying48 hi0 hz0 hz1 hz2 rfl (by decide) _ _ _ rfl (hown.alloc _) ⟨w3.heap.size, 0, none⟩ 1 1 [.int .i64 (m : Int), .int .i64 ((n - 1 : Nat) : Int)] rfl rfl (by rw [← hz4]; exact new2 _ _ _ _) (by simp [Value.oneCell']) (by unfold maxLen; omega) (by omega) (by rw [World.size_alloc, hz4]; omega) ?_; intro v8 w8 hown8 hg8 _; have HN8 := Lib.hid (HR4.out.app (box1 _ _) hg8 hown8); clear hown hown8 hg8)
            rw [Exit.noGoto_ret]
            go_ret
            exact ⟨_, rfl, by rw [HSL.out]; exact HN8.out⟩
          · have hl2 : ¬ ((m + (d + 1) : Nat) : Int) = ((n - 1 : Nat) : Int) := by omega
            have HL2 := Lib.hid hl
            clear hl
            generalize hq : m + d = q at *
            generalize hs : m + (d + 1) = s at *
            have HSS := Lib.hid hs
            have HQQ := Lib.hid hq
            have hm3 : (w3.cell? ⟨wo.heap.size, 1, none⟩).getD (.int .i64 0) = .int .i64 (q : Int) := by rw [x1]; rfl
            have HM3 := Lib.hid hm3
            clear hs hq hm3
            go_wp2_with fail
            go_quiet (fail)
            go_wp2_with fail
            have hB5 := HB4.out nq
            refine ⟨⟨d + 1, by have := HSS.out; have := HL2.out; omega, (by rw [HSS.out]; exact HN), (by rw [HSS.out]; exact hB5), HD4.out nq, HR3.out⟩, ?_⟩
            rw [HM3.out, hB5.c1]
            have := HSS.out
            have := HQQ.out
            simp only [intOf, Option.getD_some]
            omega
        · have HNE := Lib.hid (fun (e : some wo.heap.size = Value.ownBlock _) => by
            have := (own_block HR3.out.own e.symm).2.1
            omega : some wo.heap.size ≠ Value.ownBlock _)
          have hnx := HS.out.next (k := m + d) hmn (by omega) (by omega) HJ.out (fun _ => he)
          have HNX := Lib.hid hnx
          have HR4 : Hid (∀ q, RowP w 23 L _ (w3.drewN q)) := Lib.hid fun q => HR3.out.up (below_drewN D3.out q)
          clear hnx
          generalize Z m = zm at c1 he
          generalize Z (m + (d + 1)) = zk at c2 he
          have u0 : decide (zk = zm) = false := decide_eq_false he
          by_cases hd1 : 0 < d
          · have g1 : (m : Int) < ((m + d : Nat) : Int) := by omega
            have HQ := Lib.hid (HNX.out.1 (by omega))
            have u1 : decide ((m : Int) < ((m + d : Nat) : Int)) = true := decide_eq_true g1
            clear HNX
            generalize hq : m + d = q at *
            generalize m + (d + 1) = s at *
            have HQQ := Lib.hid hq
            clear hq
            go_wp2_with fail
            go_quiet (fail)
            have hown := (HR4.out nq).own
            have hs4 := (HR4.out nq).below.size
            have HR5 := Lib.hid (HR4.out nq)
            have hz4 : (w3.drewN nq).heap.size = w3.heap.size := by simp
            rw [hz4] at hs4
            go_upto_region 12 with (at_builtin; refine wpList_append_own _ rfl _ _ 48 rfl w.heap.size 23 i0 (.agg #[.int .i64 0, .int .i64 0]) 2 16 Try.underlying48 hi0 hz0 hz1 hz2 rfl (by decide) _ _ _ rfl (hown.alloc _) ⟨w3.heap.size, 0, none⟩ 1 1 [.int .i64 (m : Int), .int .i64 (q : Int)] rfl rfl (by rw [← hz4]; exact new2 _ _ _ _) (by simp [Value.oneCell']) (by unfold maxLen; omega) (by omega) (by rw [World.size_alloc, hz4]; omega) ?_; intro v8 w8 hown8 hg8 _; have HN8 := Lib.hid (HR5.out.app (box1 _ _) hg8 hown8); have HG8 := Lib.hid hg8; clear hown hown8 hg8)
            have x18 := cell_row HG8.out (by rw [World.size_alloc, hz4]; omega) HNE.out (cell_up (box1 _ _) (by rw [hz4]; exact zb) (cell_up (below_drewN (Below.refl _ _) nq) zb x1))
            have w2' : IntKind.i64.wrap ((q : Int) + 1) = ((q + 1 : Nat) : Int) := by rw [show (q : Int) + 1 = ((q + 1 : Nat) : Int) by omega]; exact HWr.out _ (by have := HQQ.out; omega) (by have := HQQ.out; omega)
            clear w1'
            go_wp2_with fail
            refine ⟨⟨q + 1, L ++ [((m : Int), (q : Int))], by have := HQQ.out; omega, by go_num, Lib.hid HQ.out, HN8.out⟩, ?_⟩
            have := HQQ.out
            simp only [intOf]
            omega
          · obtain rfl : d = 0 := by omega
            have HQ := Lib.hid (HNX.out.2 (by omega))
            clear HNX
            simp only [Nat.add_zero] at x1 w1' HQ
            generalize hs : m + (0 + 1) = s at *
            have HSM := Lib.hid hs
            clear hs
            have u1 : decide ((m : Int) < (m : Int)) = false := decide_eq_false (by omega)
            go_wp2_with fail
            go_quiet (fail)
            go_wp2_with fail
            have := HSM.out
            refine ⟨⟨s, L, by omega, rfl, Lib.hid HQ.out, HR4.out nq⟩, ?_⟩
            simp only [intOf]
            omega
    · have hki : ((n - 1 : Nat) : Int) ≤ (m : Int) := by omega
      have hL : stuckL Z n = L := by
        obtain ⟨t1, t2⟩ := HS.out.2.2.1 hmn
        rw [t2]
        exact (run_last t1 hmn fun j h1 h2 => by rw [show j = m by omega]).2 (by omega)
      have HL := Lib.hid hL
      clear hL
      go_wp2_with fail
      rw [Exit.noGoto_ret]
      go_ret
      exact ⟨_, rfl, by rw [HL.out]; exact HR.out⟩
set_option maxHeartbeats 1000000 in
theorem Stuck_any (p : Pn) (A : Option Addr) (n c : Nat) (Z : Nat → Int) (E : Int) (w : World) (hin : IntsIn A n Z w.heap.size w) (hE : memR p n Z E) :
    Calls Try.prog 46 #[p.v, .slice A n c] w fun e w' => PPost w (stuckL Z n) E e w' := by
  have HIN := Lib.hid (fun o => (hin.up (box1 w o) (Nat.le_refl _)).more (box1 w o).size)
  have HIN2 := Lib.hid hin
  clear hin
  rcases hE with ⟨h, rfl⟩ | ⟨h, ⟨hl, rfl⟩ | ⟨hl, rfl⟩⟩
  · go_enter Try.func46, Try.ntmps46
    go_wp2_with fail
    refine (checkList_bad p _ _ _ _ h).mono ?_
    rintro e w1 ⟨rfl, hb⟩
    go_wp2_with fail
    go_ret2
    exact ⟨fun e => by simp at e, fun _ => ⟨rfl, (box1 _ _).trans (hb.mono (by simp))⟩⟩
  · have HL := Lib.hid hl
    clear hl
    go_enter Try.func46, Try.ntmps46
    go_wp2_with fail
    refine (checkList_arg p _ _ _ Z _ (HIN.out _) h HL.out).mono ?_
    rintro e w1 ⟨rfl, hb⟩
    go_wp2_with fail
    go_ret2
    exact ⟨fun e => by simp at e, fun _ => ⟨rfl, (box1 _ _).trans (hb.mono (by simp))⟩⟩
  · have HL := Lib.hid hl
    clear hl
    go_enter Try.func46, Try.ntmps46
    go_wp2_with fail
    refine (checkList_ok p _ _ _ Z _ (HIN.out _) h HL.out).mono ?_
    rintro e w1 ⟨rfl, hb⟩
    have C1 := Lib.hid (nextB (box1 w _) hb)
    have KR := Lib.hid (runs_row A n c Z w1 ((HIN2.out.up C1.out (Nat.le_refl _)).more C1.out.size) HL.out.1 HL.out.2.1)
    clear hb
    go_wp2_with fail
    refine KR.out.mono ?_
    rintro e w2 ⟨v, rfl, hR⟩
    have HR := Lib.hid hR
    clear hR
    go_wp2_with fail
    go_ret2
    exact ⟨fun _ => ⟨_, rfl, HR.out.from_ C1.out⟩, fun e => absurd rfl e⟩
end Go.Proofs.Ytkidhmajlpceeaa
