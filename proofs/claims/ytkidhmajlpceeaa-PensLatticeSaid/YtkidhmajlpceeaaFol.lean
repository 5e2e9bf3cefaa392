import Derived.Test.YtkidhmajlpceeaaShw
namespace Go.Proofs.Ytkidhmajlpceeaa
open Go.RowKit
set_option maxRecDepth 100000 in
set_option maxHeartbeats 2000000 in
theorem follow_any (p : Pn) (f : Int) (A : Option Addr) (n c j : Nat) (Z : Nat → Int) (w : World) (h : p.Ok) (hf : -60000 ≤ f ∧ f ≤ 60000) (hL : Lvs Z n) (h0 : 0 < n) (hn : n ≤ 401) (hin : IntsIn A n Z w.heap.size w)
    (hj : j ≤ n) (h1 : ∀ k, k < j → okAt p f Z k) (h2 : j < n → ¬ okAt p f Z j) :
    Calls Try.prog 71 #[.func (.func 67) #[p.v] #[], .int .i64 f, .slice A n c] w fun e w' => FPost w (upTo (shw p.b f Z) n) (decide (j = n)) e w' := by
  obtain ⟨i0, hi0, hz0, hz1, hz2⟩ := info_parts Try.infoInt
  have HIN := Lib.hid hin
  have H1 := Lib.hid h1
  have H2 := Lib.hid h2
  have RD := Lib.hid fun k (hk : k < n) => rd_of (p := p) (f := f) h hf hL hk
  have HB := Lib.hid h.b
  have HR := Lib.hid h.r
  obtain ⟨a0, rfl, ab0, c00⟩ := hin.2 0 h0
  rw [add_zero] at c00
  have h0i : (0 : Int) < n := by omega
  clear hin h1 h2 hL h hf
  go_enter Try.func71, Try.ntmps71
  go_wp2_with fail
  have HI0 : Hid (ShI w p.b f Z 0 (.slice none 0 0) (w.alloc (.cells #[.int .i64 f, .int .i64 (Z 0)] 27))) := Lib.hid ⟨box1 _ _, World.ownsRow_nil _ _ _ _, by go_simp; rfl, by go_simp; rfl, by go_simp, by go_simp⟩
  go_loopw [8, 11, 12, 13, 21] (fun v _ _ _ i wr => ∃ k : Nat, k ≤ j ∧ i = .int .i64 k ∧ ShI w p.b f Z k v wr) (fun _ _ _ _ i _ => n - (intOf i).toNat)
  case atStart => exact ⟨0, Nat.zero_le _, rfl, HI0.out⟩
  case round =>
    obtain ⟨k, hk, rfl, hI⟩ := hrel
    obtain ⟨wo, rfl⟩ : ∃ wo : World, wo = wr := ⟨_, rfl⟩
    have hk0 : (0 : Int) ≤ (k : Int) := by omega
    have HI := Lib.hid hI
    have z0 := hI.lt
    have hsz := hI.below.size
    obtain ⟨hB, hown, m0, m1, mf0, mf1⟩ := hI
    clear HI0 c00
    by_cases hlt : k < n
    · obtain ⟨a, ea, ab, c0⟩ := (HIN.out.up hB (Nat.le_refl _)).2 k hlt
      cases ea
      have hki : (k : Int) < (n : Int) := by omega
      have rd := RD.out k hlt
      by_cases hkj : k < j
      · obtain ⟨g1, g2⟩ := rd.ok (H1.out k hkj)
        have K := Lib.hid fun W => next_t p _ _ _ W rd.s rd.r rd.z HB.out HR.out g1 g2
        rw [← shw_pv] at K
        clear g1 g2 rd hB
        go_wp2_with fail
        refine (K.out _).mono ?_
        rintro e w1 ⟨rfl, hb⟩
        have hown1 := (own_keep hown hb).alloc (.cells #[.int .i64 (shw p.b f Z k), .int .i64 (Z k)] 27)
        have s1 := hb.size
        have HBB := Lib.hid hb
        clear hb m0 m1 mf0 mf1 c0
        go_wp2_with (at_builtin; refine wpList_append_own _ rfl _ _ 28 rfl (w.heap.size + 1) 3 i0 (.int .i64 0) 1 8 Try.underlying28 hi0 hz0 hz1 hz2 rfl (by decide) _ k _ rfl (hown1.alloc _) ⟨w1.heap.size + 1, 0, none⟩ 1 1 [.int .i64 (shw p.b f Z k)] rfl rfl (by have := new1 (w1.alloc (.cells #[.int .i64 (shw p.b f Z k), .int .i64 (Z k)] 27)) (shw p.b f Z k); rwa [World.size_alloc] at this) (by simp [Value.oneCell']) (by unfold maxLen; omega) (by omega) (by rw [World.size_alloc, World.size_alloc]; omega) ?_; intro v1 w2 hown2 hg2 _; have ST := Lib.hid (HI.out.step HBB.out hg2 hown2); obtain ⟨y0, y1, y2, y3, x0, x1, q2, q3⟩ := HI.out.facts HBB.out hg2; clear hg2 hown2)
        go_roundw
        case rel => exact ⟨k + 1, by omega, by go_num, ST.out⟩
        case measure => simp [intOf]; omega
      · obtain rfl : k = j := by omega
        have hno := H2.out hlt
        rcases rd.no hno with g1 | ⟨g1, g2⟩
        · have K := Lib.hid fun W => next_no1 p _ _ (Z k) W rd.s rd.r HB.out g1
          have HBo := Lib.hid hB
          clear g1 rd hB hno
          go_wp2_with fail
          refine (K.out _).mono ?_
          rintro e w1 ⟨rfl, hb⟩
          go_wp2_with fail
          go_ret2
          exact ⟨fun e => by simp at e; omega, fun _ => ⟨rfl, (HBo.out.trans (hb.mono hsz)).alloc (by have := hb.size; omega) _⟩⟩
        · have K := Lib.hid fun W => next_no2 p _ _ _ W rd.s rd.r rd.z HB.out HR.out g1 g2
          have HBo := Lib.hid hB
          clear g1 g2 rd hB hno
          go_wp2_with fail
          refine (K.out _).mono ?_
          rintro e w1 ⟨rfl, hb⟩
          go_wp2_with fail
          go_ret2
          exact ⟨fun e => by simp at e; omega, fun _ => ⟨rfl, (HBo.out.trans (hb.mono hsz)).alloc (by have := hb.size; omega) _⟩⟩
    · have hki : (n : Int) ≤ (k : Int) := by omega
      obtain rfl : k = n := by omega
      obtain rfl : j = k := by omega
      go_wp2_with fail
      go_ret2
      exact ⟨fun _ => ⟨_, rfl, HI.out.below, by rw [upTo_len]; exact own_mono HI.out.own (by omega)⟩, fun e => by simp at e⟩
end Go.Proofs.Ytkidhmajlpceeaa
