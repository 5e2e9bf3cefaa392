/- The specification's turned, Turns, Swing. -/
import Derived.Test.YtkidhmajlpceeaaRtm
namespace Go.Proofs.Ytkidhmajlpceeaa
open Go.RowKit
theorem trd_at {Z : Nat → Int} {n i k : Nat} (h1 : i < k) (h2 : k < n) (h3 : ∀ j, i < j → j < k → Z j = Z i) (h4 : Z k ≠ Z i) : trdP Z n i ↔ (0 < i ∧ Z i ≠ Z (i - 1) ∧ (Z i < Z k ↔ Z i < Z (i - 1))) := by
  constructor
  · rintro ⟨a1, a2, m, b1, b2, b3, b4, b5⟩
    have hm : m = k := by
      rcases Nat.lt_or_ge m k with h5 | h5
      · exact absurd (h3 m b1 h5) b4
      · rcases Nat.lt_or_ge k m with h6 | h6
        · exact absurd (b3 k h1 h6) h4
        · omega
    subst hm
    exact ⟨a1, a2, b5⟩
  · rintro ⟨a1, a2, a3⟩
    exact ⟨a1, a2, k, h1, h2, h3, h4, a3⟩
set_option maxRecDepth 100000 in
set_option maxHeartbeats 2000000 in
theorem Rturned_any (A : Option Addr) (n c i : Nat) (Z : Nat → Int) (G : Bool) (w : World) (hin : IntsIn A n Z w.heap.size w) (hi : i < n) (hn4 : n ≤ 401) (hG : G = true ↔ trdP Z n i) :
    Calls Try.prog 93 #[.slice A n c, .int .i64 (i : Int)] w fun e w' => e = .returned (.bool G) ∧ Below w.heap.size w w' := by
  have HIN := Lib.hid hin
  have hn := hin.1
  clear hin
  have HWr : Hid (∀ x : Int, -1000000 ≤ x → x ≤ 1000000 → IntKind.i64.wrap x = x) := Lib.hid fun x h1 h2 => IntWalk.i64_in _ (by omega)
  by_cases h0 : i = 0
  · subst h0
    obtain rfl : G = false := by
      cases G with
      | false => rfl
      | true => exact absurd (hG.1 rfl).1 (by omega)
    clear hG
    go_enter Try.func93, Try.ntmps93
    go_wp2_with fail
    go_quiet (fail)
    go_wp2_with fail
    go_ret
    exact ⟨rfl, by first | exact below_drewN (Below.refl _ _) _ | exact Below.refl _ _⟩
  · obtain ⟨m, rfl⟩ : ∃ m, i = m + 1 := ⟨i - 1, by omega⟩
    obtain ⟨a, ha, _, c1⟩ := HIN.out.2 (m + 1) hi
    obtain ⟨a', e1, _, c2⟩ := HIN.out.2 m (by omega)
    subst ha
    cases e1
    have i1 : ((m + 1 : Nat) : Int) < (n : Int) := by omega
    have i2 : (0 : Int) ≤ ((m + 1 : Nat) : Int) := by omega
    have i3 : (m : Int) < (n : Int) := by omega
    have i4 : (0 : Int) ≤ (m : Int) := by omega
    have i5 : ¬ ((m + 1 : Nat) : Int) = 0 := by omega
    have i6 : decide (((m + 1 : Nat) : Int) = 0) = false := decide_eq_false i5
    have i7 : (((m + 1 : Nat) : Int) == 0) = false := by simpa using i5
    have w1' : IntKind.i64.wrap (((m + 1 : Nat) : Int) - 1) = (m : Int) := by rw [show ((m + 1 : Nat) : Int) - 1 = (m : Int) by omega]; exact HWr.out _ (by omega) (by omega)
    have w2' : IntKind.i64.wrap (((m + 1 : Nat) : Int) + 1) = ((m + 2 : Nat) : Int) := by rw [show ((m + 1 : Nat) : Int) + 1 = ((m + 2 : Nat) : Int) by omega]; exact HWr.out _ (by omega) (by omega)
    by_cases he : Z (m + 1) = Z m
    · obtain rfl : G = false := by
        cases G with
        | false => rfl
        | true => exact absurd he (by have := (hG.1 rfl).2.1; simpa using this)
      rw [he] at c1
      clear hG he w2'
      generalize m + 1 = q at *
      generalize Z m = zm at *
      go_enter Try.func93, Try.ntmps93
      go_wp2_with fail
      go_quiet (fail)
      go_wp2_with fail
      go_ret
      exact ⟨rfl, by first | exact below_drewN (Below.refl _ _) _ | exact Below.refl _ _⟩
    · have HG := Lib.hid hG
      have HE := Lib.hid he
      clear hG
      generalize hzq : Z (m + 1) = zq at *
      generalize hzm : Z m = zm at *
      have HZQ := Lib.hid hzq
      have HZM := Lib.hid hzm
      generalize hq : m + 1 = q at *
      have HQ := Lib.hid hq
      clear hzq hzm hq
      go_enter Try.func93, Try.ntmps93
      go_wp2_with fail
      go_quiet (fail)
      clear w1'
      go_wp2_with fail
      go_loopw [5] (fun k wr => ∃ d : Nat, q + 1 + d ≤ n ∧ k = .int .i64 ((q + 1 + d : Nat) : Int) ∧ Hid (∀ j, q < j → j < q + 1 + d → Z j = Z q) ∧ Below w.heap.size w wr) (fun k _ => n - (intOf k).toNat)
      case atStart => exact ⟨0, by omega, by have := HQ.out; subst this; rfl, Lib.hid fun j h1 h2 => absurd h2 (by omega), by first | exact below_drewN (Below.refl _ _) _ | exact Below.refl _ _⟩
      case round =>
        obtain ⟨d, hd, rfl, HJ, hb⟩ := hrel
        obtain ⟨wo, rfl⟩ : ∃ wo : World, wo = wr := ⟨_, rfl⟩
        have C2 := Lib.hid hb
        have hk0 : (0 : Int) ≤ ((q + 1 + d : Nat) : Int) := by omega
        have d1 := (hb.cell (World.block_lt_of_cell? _ _ c1)).trans c1
        have d2 := (hb.cell (World.block_lt_of_cell? _ _ c2)).trans c2
        clear hb
        by_cases hlt : q + 1 + d < n
        · have hki : ((q + 1 + d : Nat) : Int) < (n : Int) := by omega
          obtain ⟨a', e1, _, d3⟩ := (HIN.out.up C2.out (Nat.le_refl _)).2 (q + 1 + d) hlt
          cases e1
          by_cases hz : Z (q + 1 + d) = zq
          · have HN : Hid (∀ j, q < j → j < q + 1 + (d + 1) → Z j = Z q) := Lib.hid fun j h1 h2 => by
              rcases Nat.lt_or_ge j (q + 1 + d) with h3 | h3
              · exact HJ.out j h1 h3
              · obtain rfl : j = q + 1 + d := by omega
                rw [hz, HZQ.out]
            rw [hz] at d3
            have w3' : IntKind.i64.wrap (((q + 1 + d : Nat) : Int) + 1) = ((q + 1 + (d + 1) : Nat) : Int) := by rw [show ((q + 1 + d : Nat) : Int) + 1 = ((q + 1 + (d + 1) : Nat) : Int) by omega]; exact HWr.out _ (by omega) (by omega)
            clear hz
            generalize hs : q + 1 + d = s at *
            have HS := Lib.hid hs
            clear hs
            go_wp2_with fail
            go_quiet (fail)
            go_wp2_with fail
            refine ⟨⟨d + 1, by have := HS.out; omega, by rw [show ((q + 1 + (d + 1) : Nat) : Int) = (q : Int) + 1 + ((d : Int) + 1) by omega], HN, below_drewN C2.out _⟩, ?_⟩
            have := HS.out
            simp [intOf]
            omega
          · have hk := trd_at (Z := Z) (n := n) (i := q) (k := q + 1 + d) (by omega) hlt (fun j h1 h2 => HJ.out j h1 h2) (by rw [HZQ.out]; exact hz)
            have hZm : Z (q - 1) = zm := by
              have := HQ.out
              rw [show q - 1 = m by omega]
              exact HZM.out
            rw [HZQ.out, hZm] at hk
            have hG : G = (decide (zq < Z (q + 1 + d)) == decide (zq < zm)) := Bool.eq_iff_iff.2 (HG.out.trans (hk.trans (by
              rw [beq_iff_eq, decide_eq_decide]
              exact ⟨fun h => h.2.2, fun h => ⟨by have := HQ.out; omega, HE.out, h⟩⟩)))
            have w3' : IntKind.i64.wrap ((q : Int) - 1) = (m : Int) := by have := HQ.out; rw [show (q : Int) - 1 = (m : Int) by omega]; exact HWr.out _ (by omega) (by omega)
            have HGV := Lib.hid hG
            have u1 : decide (Z (q + 1 + d) = zq) = false := decide_eq_false hz
            clear hG hk hZm HJ HQ HZM HZQ HG HE
            generalize Z (q + 1 + d) = zk at *
            generalize q + 1 + d = s at *
            go_wp2_with fail
            go_quiet (fail)
            go_wp2_with fail
            go_quiet (fail)
            go_wp2_with fail
            go_ret
            exact ⟨by rw [HGV.out]; rfl, below_drewN (below_drewN C2.out _) _⟩
        · have hki : (n : Int) ≤ ((q + 1 + d : Nat) : Int) := by omega
          obtain rfl : G = false := by
            cases G with
            | false => rfl
            | true =>
              obtain ⟨_, _, k, b1, b2, _, b4, _⟩ := HG.out.1 rfl
              exact absurd (HJ.out k b1 (by omega)) b4
          go_wp2_with fail
          go_ret
          exact ⟨rfl, C2.out⟩
set_option maxRecDepth 100000 in
set_option maxHeartbeats 2000000 in
theorem RTurns_any (A : Option Addr) (n c : Nat) (Z : Nat → Int) (E : Int) (w : World) (hin : IntsIn A n Z w.heap.size w) (hE : turR n Z E) :
    Calls Try.prog 51 #[.slice A n c] w fun e w' => ZPost w (turnsL Z n) E e w' := by
  have HIN := Lib.hid hin
  have hn := hin.1
  rcases hE with ⟨hl, rfl⟩ | ⟨hl, rfl⟩
  · have KL := Lib.hid (levels_is A n c Z true w hin ⟨fun _ => hl, fun _ => rfl⟩)
    have hn0 := hl.1
    have hn4 := hl.2.1
    clear hin hl
    have HWr : Hid (∀ x : Int, -1000000 ≤ x → x ≤ 1000000 → IntKind.i64.wrap x = x) := Lib.hid fun x h1 h2 => IntWalk.i64_in _ (by omega)
    obtain ⟨i0, hi0, hz0, hz1, hz2⟩ := info_parts Try.infoInt
    go_enter Try.func51, Try.ntmps51
    go_wp2_with fail
    refine KL.out.mono ?_
    rintro e w' ⟨rfl, rfl⟩
    clear KL
    go_wp2_with fail
    go_loopw [4, 5] (fun out i wr => ∃ k : Nat, k ≤ n ∧ i = .int .i64 (k : Int) ∧ RowZ w (rT Z n k) out wr) (fun _ i _ => n - (intOf i).toNat)
    case atStart => exact ⟨0, by omega, rfl, Below.refl _ _, World.ownsRow_nil _ _ _ _⟩
    case round =>
      obtain ⟨k, hk, rfl, hR⟩ := hrel
      obtain ⟨wo, rfl⟩ : ∃ wo : World, wo = wr := ⟨_, rfl⟩
      have HR := Lib.hid hR
      have hk0 : (0 : Int) ≤ (k : Int) := by omega
      have hlen := rT_len Z n k
      clear hR
      by_cases hlt : k < n
      · have hki : (k : Int) < (n : Int) := by omega
        obtain ⟨G, hG⟩ : ∃ G : Bool, G = true ↔ trdP Z n k := by
          by_cases h : trdP Z n k
          · exact ⟨true, fun _ => h, fun _ => rfl⟩
          · exact ⟨false, fun e => (by cases e), fun e => absurd e h⟩
        have KT := Lib.hid (Rturned_any A n c k Z G wo ((HIN.out.up HR.out.below (Nat.le_refl _)).more HR.out.below.size) hlt (by omega) hG)
        have w1' : IntKind.i64.wrap ((k : Int) + 1) = ((k + 1 : Nat) : Int) := by rw [show (k : Int) + 1 = ((k + 1 : Nat) : Int) by omega]; exact HWr.out _ (by omega) (by omega)
        have HG := Lib.hid hG
        clear hG
        go_wp2_with fail
        refine KT.out.mono ?_
        rintro e w5 ⟨rfl, hb5⟩
        have hR5 : RowZ w (rT Z n k) _ w5 := ⟨nextB HR.out.below hb5, own_keep HR.out.own hb5⟩
        have HR5 := Lib.hid hR5
        have hown := hR5.own
        have hsz := hR5.below.size
        clear hR5 hb5 KT
        cases G with
        | true =>
          have HS := Lib.hid (rT_yes (HG.out.1 rfl))
          go_wp2_with (at_builtin; refine wpList_append_own _ rfl _ _ 28 rfl w.heap.size 3 i0 (.int .i64 0) 1 8 Try.underlying28 hi0 hz0 hz1 hz2 rfl (by decide) _ _ _ rfl (hown.alloc _) ⟨w5.heap.size, 0, none⟩ 1 1 [.int .i64 (k : Int)] rfl rfl (new1 _ _) (by simp [Value.oneCell']) (by unfold maxLen; omega) (by omega) (by rw [World.size_alloc]; omega) ?_; intro v8 w8 hown8 hg8 _; have HN8 := Lib.hid (HR5.out.app (z := (k : Int)) hg8 hown8); clear hown hown8 hg8)
          go_roundw
          case rel => exact ⟨k + 1, by omega, by go_num, by rw [HS.out]; exact HN8.out⟩
          case measure => simp [intOf]; omega
        | false =>
          have HS := Lib.hid (rT_no (fun h => by cases HG.out.2 h))
          go_wp2_with fail
          go_roundw
          case rel => exact ⟨k + 1, by omega, by go_num, by rw [HS.out]; exact HR5.out⟩
          case measure => simp [intOf]; omega
      · have hki : (n : Int) ≤ (k : Int) := by omega
        obtain rfl : k = n := by omega
        have HS := Lib.hid (rT_all (Z := Z) hn0)
        go_wp2_with fail
        go_ret2
        exact ⟨fun _ => ⟨_, rfl, by rw [← HS.out]; exact HR.out⟩, fun e => absurd rfl e⟩
  · have KL := Lib.hid (levels_is A n c Z false w hin ⟨fun h => (by cases h), fun h => absurd h hl⟩)
    clear hin hl
    go_enter Try.func51, Try.ntmps51
    go_wp2_with fail
    refine KL.out.mono ?_
    rintro e w' ⟨rfl, rfl⟩
    go_wp2_with fail
    go_ret2
    exact ⟨fun e => by simp at e, fun _ => ⟨rfl, Below.refl _ _⟩⟩
set_option maxHeartbeats 1000000 in
theorem RSwing_any (A : Option Addr) (n c : Nat) (Z : Nat → Int) (L H E : Int) (w : World) (hin : IntsIn A n Z w.heap.size w) (hE : swgR n Z L H E) :
    Calls Try.prog 49 #[.slice A n c] w fun e w' => e = .returned (.tuple #[.agg #[.int .i64 L, .int .i64 H], .int .i64 E]) ∧ Below w.heap.size w w' := by
  have hb := box1 w (.cells #[.int .i64 0, .int .i64 0] 23)
  have hin1 := (hin.up hb (Nat.le_refl _)).more hb.size
  rcases hE with ⟨hl, rfl, rfl, rfl⟩ | ⟨hl, rfl, rfl, rfl⟩
  · have K := Lib.hid (levels_is A n c Z true _ hin1 ⟨fun _ => hl, fun _ => rfl⟩)
    have KS := Lib.hid (Rswing_any A n c Z _ hin1 hl.1)
    have B0 := Bt.new w 23 0 0
    clear hin hin1 hl hb
    go_enter Try.func49, Try.ntmps49
    go_wp2_with fail
    refine K.out.mono ?_
    rintro e w' ⟨rfl, rfl⟩
    go_wp2_with fail
    refine KS.out.mono ?_
    rintro e w2 ⟨rfl, hb2⟩
    obtain ⟨y0, y1, y2, y3⟩ := B0.up hb2
    have C2 := Lib.hid (nextB (box1 w _) hb2)
    clear hb2 B0
    go_wp2_with fail
    exact bodyPost_ret (v := .tuple #[.agg #[.int .i64 (swL Z (n - 1)), .int .i64 (swH Z (n - 1))], .int .i64 0]) (by simp [results, Try.results49, go_sem, y0, y1]) rfl ⟨rfl, set1 (set1 C2.out (by omega) _ _) (by omega) _ _⟩
  · have K := Lib.hid (levels_is A n c Z false _ hin1 ⟨fun h => (by cases h), fun h => absurd h hl⟩)
    clear hin hin1 hl hb
    go_enter Try.func49, Try.ntmps49
    go_wp2_with fail
    refine K.out.mono ?_
    rintro e w' ⟨rfl, rfl⟩
    go_wp2_with fail
    exact bodyPost_ret (v := .tuple #[.agg #[.int .i64 0, .int .i64 0], .int .i64 1]) (by simp [results, Try.results49, go_sem]) rfl ⟨rfl, box1 _ _⟩
end Go.Proofs.Ytkidhmajlpceeaa
