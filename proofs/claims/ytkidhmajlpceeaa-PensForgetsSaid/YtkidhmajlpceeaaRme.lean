/- The specification's Memory. -/
import Derived.Test.YtkidhmajlpceeaaRfg
import Derived.Test.YtkidhmajlpceeaaRsw
import Derived.Test.YtkidhmajlpceeaaRmm
namespace Go.Proofs.Ytkidhmajlpceeaa
open Go.RowKit
theorem IntsIn.tail {a : Addr} {n : Nat} {Z : Nat → Int} {B : Nat} {w : World} (h : IntsIn (some a) n Z B w) (s : Nat) (hs : s ≤ n) : IntsIn (some (a.add s)) (n - s) (fun k => Z (s + k)) B w := by
  have h1 := h.1
  refine ⟨by omega, fun i hi => ?_⟩
  obtain ⟨a', e, hb, hc⟩ := h.2 (s + i) (by omega)
  cases e
  refine ⟨_, rfl, ?_, ?_⟩
  · unfold Addr.add
    split
    · exact hb
    · exact hb
  · rw [add_adds]
    exact hc
set_option maxRecDepth 100000 in
set_option maxHeartbeats 4000000 in
theorem RMemory_any (p : Pn) (A : Option Addr) (n c : Nat) (Z : Nat → Int) (E : Int) (w : World) (hin : IntsIn A n Z w.heap.size w) (hE : memR p n Z E) (hc : n ≤ c) :
    Calls Try.prog 55 #[p.v, .slice A n c] w fun e w' => ZPost w (memL p.b Z n) E e w' := by
  have HIN := Lib.hid hin
  have hn := hin.1
  clear hin
  have KC : Hid (∀ W, Below w.heap.size w W → Calls Try.prog 79 #[p.v, .slice A n c] W fun e w' => e = .returned (.int .i64 E) ∧ Below W.heap.size W w') :=
    Lib.hid fun W hW => checkShown_any p A n c Z E W ((HIN.out.up hW (Nat.le_refl _)).more hW.size) hE
  by_cases hck : p.Ok ∧ LsOk Z n
  · obtain ⟨h, hl⟩ := hck
    obtain rfl : E = 0 := by
      rcases hE with ⟨h1, _⟩ | ⟨_, ⟨h1, _⟩ | ⟨_, h1⟩⟩
      · exact absurd h h1
      · exact absurd hl h1
      · exact h1
    have hn0 := hl.1
    have hn4 := hl.2.1
    have HLv := Lib.hid hl.2.2
    obtain ⟨b1, b2⟩ := h.b
    have HWr : Hid (∀ x : Int, -1000000 ≤ x → x ≤ 1000000 → IntKind.i64.wrap x = x) := Lib.hid fun x h1 h2 => IntWalk.i64_in _ (by omega)
    obtain ⟨a, ha, _, _⟩ := HIN.out.2 0 (by omega)
    subst ha
    have hwn : IntKind.i64.wrap ((n : Int) - 1) = ((n - 1 : Nat) : Int) := by rw [show (n : Int) - 1 = ((n - 1 : Nat) : Int) by omega]; exact HWr.out _ (by omega) (by omega)
    clear h hl hE
    obtain ⟨i0, hi0, hz0, hz1, hz2⟩ := info_parts Try.infoInt
    go_enter Try.func55, Try.ntmps55
    go_wp2_with fail
    refine (KC.out _ (box1 _ _)).mono ?_
    rintro e w1 ⟨rfl, hb⟩
    have C1 := Lib.hid (nextB (box1 w _) hb)
    have P1 := Lib.hid ((pn_new w p.b p.lo p.hi p.r).up hb (by simp))
    have zp1 := P1.out.lt
    clear hb KC
    go_wp2_with fail
    go_loopw [7, 8] (fun out i wr => ∃ (k : Nat) (L : List Int), k + 1 ≤ n ∧ i = .int .i64 (k : Int) ∧ L.length ≤ k ∧ Hid (L ++ (bk p.b Z n (n - 1 - k)).reverse = memL p.b Z n) ∧ RowZ w1 L out wr) (fun _ i _ => n - (intOf i).toNat)
    case atStart => exact ⟨0, [], by omega, rfl, Nat.le_refl _, Lib.hid (bk_all (by omega)), Below.refl _ _, World.ownsRow_nil _ _ _ _⟩
    case round =>
      obtain ⟨k, L, hk, rfl, hLk, HLb, hR⟩ := hrel
      obtain ⟨wo, rfl⟩ : ∃ wo : World, wo = wr := ⟨_, rfl⟩
      have HR := Lib.hid hR
      have C2 := Lib.hid (nextB C1.out hR.below)
      have P2 := Lib.hid (P1.out.up hR.below zp1)
      have zp2 := P2.out.lt
      have hk0 : (0 : Int) ≤ (k : Int) := by omega
      clear hR
      by_cases hlt : k + 1 < n
      · have hki : (k : Int) < ((n - 1 : Nat) : Int) := by omega
        have hT := (HIN.out.up C2.out (Nat.le_refl _)).tail (k + 1) (by omega)
        have KS := Rswing_any (some (a.add (k + 1))) (n - (k + 1)) (c - (k + 1)) (fun j => Z (k + 1 + j)) wo (hT.more C2.out.size) (by omega)
        have hst := sw_tail Z n k hlt
        rw [show n - (k + 1) - 1 = n - 1 - (k + 1) by omega, hst.1, hst.2] at KS
        have KS := Lib.hid KS
        have w1' : IntKind.i64.wrap ((k : Int) + 1) = ((k + 1 : Nat) : Int) := by rw [show (k : Int) + 1 = ((k + 1 : Nat) : Int) by omega]; exact HWr.out _ (by omega) (by omega)
        have hc1 : ¬ c = k + 1 := by omega
        have hc2 : ¬ k + 1 = c := by omega
        have hc3 : ¬ c - (k + 1) = 0 := by omega
        have hc4 : ¬ c ≤ k + 1 := by omega
        have hc5 : k + 1 < c := by omega
        clear hT hst
        go_wp2_with fail
        refine KS.out.mono ?_
        rintro e w3 ⟨rfl, hb3⟩
        have D3 := Lib.hid hb3
        clear hc1 hc2 hc3 hc4 hc5
        go_wp2_with fail
        obtain ⟨w4, hw4⟩ : ∃ w4, w4 = w3.alloc (.cells #[.int .i64 (mLo Z n (n - 2 - k)), .int .i64 (mHi Z n (n - 2 - k))] 23) := ⟨_, rfl⟩
        have hb4 : Below wo.heap.size wo w4 := by rw [hw4]; exact nextB D3.out (box1 _ _)
        have hB4 : Bt w3.heap.size (mLo Z n (n - 2 - k)) (mHi Z n (n - 2 - k)) w4 := by rw [hw4]; exact Bt.new w3 _ _ _
        rw [← hw4]
        have D4 := Lib.hid hb4
        have P4 := Lib.hid (P2.out.up hb4 zp2)
        obtain ⟨a', e4, _, c4⟩ := (HIN.out.up (nextB C2.out hb4) (Nat.le_refl _)).2 k (by omega)
        cases e4
        obtain ⟨x0, x1, x2, x3⟩ := P4.out
        obtain ⟨y0, y1, y2, y3⟩ := hB4
        have hbd := mBd Z n HLv.out (by omega) (n - 2 - k)
        have hzk := HLv.out k (by omega)
        obtain ⟨G, hG⟩ : ∃ G : Bool, G = true ↔ kpt p.b Z n (n - 2 - k) := ⟨decide _, decide_eq_true_iff⟩
        have hstep := bk_step (b := p.b) (Z := Z) hlt HLb.out
        have HST := Lib.hid hstep
        have hkp : kpt p.b Z n (n - 2 - k) ↔ ((mHi Z n (n - 2 - k) < Z k ∨ Z k < mLo Z n (n - 2 - k)) ∧ mHi Z n (n - 2 - k) - mLo Z n (n - 2 - k) < 2 * p.b) := by
          unfold kpt
          rw [show n - 2 - (n - 2 - k) = k by omega]
          omega
        have HG := Lib.hid hG
        have hG' := hG.trans hkp
        clear hw4 hb4 hstep hG hkp KS w1'
        have hkn : (k : Int) < (n : Int) := by omega
        generalize mLo Z n (n - 2 - k) = Lo at *
        generalize mHi Z n (n - 2 - k) = Hi at *
        generalize Z k = zk at *
        have w2' : IntKind.i64.wrap (Hi - Lo) = Hi - Lo := HWr.out _ (by omega) (by omega)
        have w3' : IntKind.i64.wrap (2 * p.b) = 2 * p.b := HWr.out _ (by omega) (by omega)
        clear hbd hzk
        go_wp2_with fail
        go_upto_region 9 with fail
        go_cut [54] (fun v wx => v = .bool G ∧ Below w4.heap.size w4 wx)
        case first =>
          by_cases g1 : Hi < zk
          · have hx : G = decide (Hi - Lo < 2 * p.b) := Bool.eq_iff_iff.2 (hG'.trans ⟨fun h => decide_eq_true h.2, fun h => ⟨.inl g1, of_decide_eq_true h⟩⟩)
            have HX := Lib.hid hx
            have u1 : decide (Hi < zk) = true := decide_eq_true g1
            clear hx hG'
            go_quiet (fail)
            go_wp2_with fail
            go_meet
            exact ⟨by rw [HX.out], below_drewN (Below.refl _ _) _⟩
          · have u1 : decide (Hi < zk) = false := decide_eq_false g1
            by_cases g2 : zk < Lo
            · have hx : G = decide (Hi - Lo < 2 * p.b) := Bool.eq_iff_iff.2 (hG'.trans ⟨fun h => decide_eq_true h.2, fun h => ⟨.inr g2, of_decide_eq_true h⟩⟩)
              have HX := Lib.hid hx
              have u2 : decide (zk < Lo) = true := decide_eq_true g2
              clear hx hG'
              go_quiet (fail)
              go_wp2_with fail
              go_meet
              exact ⟨by rw [HX.out], below_drewN (Below.refl _ _) _⟩
            · have hx : G = false := by
                cases G with
                | false => rfl
                | true => exact absurd (hG'.1 rfl).1 (by omega)
              have HX := Lib.hid hx
              have u2 : decide (zk < Lo) = false := decide_eq_false g2
              clear hx hG'
              go_quiet (fail)
              go_wp2_with fail
              go_meet
              exact ⟨by rw [HX.out], below_drewN (Below.refl _ _) _⟩
        case rest =>
          obtain ⟨rfl, hb5⟩ := hcut
          obtain ⟨w5, rfl⟩ : ∃ w5 : World, w5 = wc := ⟨_, rfl⟩
          have h5 := nextB D4.out hb5
          have hR5 : RowZ w1 L _ w5 := ⟨nextB HR.out.below h5, own_keep HR.out.own h5⟩
          have HR5 := Lib.hid hR5
          have hown := hR5.own
          have w6' : IntKind.i64.wrap ((k : Int) + 1) = ((k + 1 : Nat) : Int) := by rw [show (k : Int) + 1 = ((k + 1 : Nat) : Int) by omega]; exact HWr.out _ (by omega) (by omega)
          have hsz := hR5.below.size
          clear hR5 h5 hb5 x0 x1 x2 x3 y0 y1 y2 y3 c4 w2' w3' hG'
          cases G with
          | true =>
            have HS := Lib.hid (HST.out.1 (HG.out.1 rfl))
            go_wp2_with (at_builtin; refine wpList_append_own _ rfl _ _ 28 rfl w1.heap.size 3 i0 (.int .i64 0) 1 8 Try.underlying28 hi0 hz0 hz1 hz2 rfl (by decide) _ _ _ rfl (hown.alloc _) ⟨w5.heap.size, 0, none⟩ 1 1 [.int .i64 (k : Int)] rfl rfl (new1 _ _) (by simp [Value.oneCell']) (by unfold maxLen; omega) (by omega) (by rw [World.size_alloc]; omega) ?_; intro v8 w8 hown8 hg8 _; have HN8 := Lib.hid (HR5.out.app (z := (k : Int)) hg8 hown8); clear hown hown8 hg8)
            go_roundw
            case rel => exact ⟨k + 1, L ++ [(k : Int)], by omega, by go_num, by simp; omega, Lib.hid HS.out, HN8.out⟩
            case measure => simp [intOf]; omega
          | false =>
            have HS := Lib.hid (HST.out.2 (fun h => by cases HG.out.2 h))
            go_wp2_with fail
            go_roundw
            case rel => exact ⟨k + 1, L, by omega, by go_num, by omega, Lib.hid HS.out, HR5.out⟩
            case measure => simp [intOf]; omega
      · have hki : ((n - 1 : Nat) : Int) ≤ (k : Int) := by omega
        have hkn : k = n - 1 := by omega
        have hL : L ++ [((n - 1 : Nat) : Int)] = memL p.b Z n := by
          have h1 := HLb.out
          rw [hkn, Nat.sub_self] at h1
          exact h1
        have HL := Lib.hid hL
        have hown := HR.out.own
        have hsz := HR.out.below.size
        clear hL hkn HLb
        go_wp2_with (at_builtin; refine wpList_append_own _ rfl _ _ 28 rfl w1.heap.size 3 i0 (.int .i64 0) 1 8 Try.underlying28 hi0 hz0 hz1 hz2 rfl (by decide) _ _ _ rfl (hown.alloc _) ⟨wo.heap.size, 0, none⟩ 1 1 [.int .i64 ((n - 1 : Nat) : Int)] rfl rfl (new1 _ _) (by simp [Value.oneCell']) (by unfold maxLen; omega) (by omega) (by rw [World.size_alloc]; omega) ?_; intro v8 w8 hown8 hg8 _; have HN8 := Lib.hid (HR.out.app (z := ((n - 1 : Nat) : Int)) hg8 hown8); clear hown hown8 hg8)
        go_ret2
        exact ⟨fun _ => ⟨_, rfl, by rw [← HL.out]; exact HN8.out.from_ C1.out⟩, fun e => absurd rfl e⟩
  · have hne : E ≠ 0 := by
      intro e
      subst e
      rcases hE with ⟨_, h1⟩ | ⟨h0, ⟨_, h1⟩ | ⟨h2, _⟩⟩
      · cases h1
      · cases h1
      · exact hck ⟨h0, h2⟩
    have e0 : (E == 0) = false := by simpa using hne
    clear hE hck
    go_enter Try.func55, Try.ntmps55
    go_wp2_with fail
    refine (KC.out _ (box1 _ _)).mono ?_
    rintro e w1 ⟨rfl, hb⟩
    have C1 := Lib.hid (nextB (box1 w _) hb)
    clear hb KC
    go_wp2_with fail
    go_ret2
    exact ⟨fun e => absurd e hne, fun _ => ⟨rfl, C1.out⟩⟩
end Go.Proofs.Ytkidhmajlpceeaa
