import Derived.Test.YtkidhmajlpceeaaNrw
namespace Go.Proofs.Ytkidhmajlpceeaa
open Go.RowKit
theorem lt_of_int {k n : Nat} (h : (k : Int) < (n : Int) - 1) : k < n - 1 := by omega
set_option maxRecDepth 100000 in
set_option maxHeartbeats 4000000 in
theorem narrow_any (p : Pn) (Z : Nat → Int) (a : Addr) (n c g cap bs bl bp B : Nat) (w0 w : World) (h : p.Ok) (hL : Lvs Z n) (h0 : 0 < n) (hn : n ≤ 401) (hg : NrG a g bs bl bp B) (hI : NrI p Z a n c g cap bs bl bp B w0 (Ofs p Z) w) (hB : B ≤ w.heap.size) :
    Calls Try.prog 98 #[.slice (some ⟨g, 0, none⟩) n cap, .agg #[.func (.func 99) #[] #[.pointer (some ⟨bs, 0, none⟩), .pointer (some ⟨bl, 0, none⟩), .pointer (some ⟨bp, 0, none⟩)]]] w fun e w' => e = .returned (.tuple #[]) ∧ NrI p Z a n c g cap bs bl bp B w0 (Gs p Z n) w' := by
  have hbd := S_bd h hL h0 hn
  have HBD := Lib.hid hbd
  have K := Lib.hid fun (fr tt : Nat) (S : Nat → Int × Int) (W : World) (hf : fr < n) (ht : tt < n) (hW : NrI p Z a n c g cap bs bl bp B w0 S W) (hb : ∀ i, i < n → Bd 1000000000 (S i)) =>
    left_any p fr tt a n c g cap bs bl bp Z S W hf ht hn (hW.zs fr hf) (hW.zs tt ht) hW.hs hW.hl hW.hp hW.sp h.r hL hb
  have HG := Lib.hid hg
  have hgn : g < w.heap.size := hI.sp.lt
  have HI0 := Lib.hid hI
  clear hbd h hL hg hI
  have e0 : IntKind.i64.wrap ((n : Int) - 1) = (n : Int) - 1 := IntWalk.i64_in _ (by omega)
  go_enter Try.func98, Try.ntmps98
  go_wp2_with fail
  have HI1 : Hid (NrI p Z a n c g cap bs bl bp B w0 (Sfw p Z 0) (w.alloc (.cells #[(.func (.func 99) #[] #[.pointer (some ⟨bs, 0, none⟩), .pointer (some ⟨bl, 0, none⟩), .pointer (some ⟨bp, 0, none⟩)])] 111))) := Lib.hid (by rw [Sfw_zero]; exact HI0.out.up hB (box1 _ _))
  go_loopw [5, 11] (fun _ i wr => ∃ k : Nat, k ≤ n - 1 ∧ i = .int .i64 k ∧ NrI p Z a n c g cap bs bl bp B w0 (Sfw p Z k) wr ∧ w.heap.size < wr.heap.size ∧ wr.cell? ⟨w.heap.size, 0, none⟩ = some (.func (.func 99) #[] #[.pointer (some ⟨bs, 0, none⟩), .pointer (some ⟨bl, 0, none⟩), .pointer (some ⟨bp, 0, none⟩)])) (fun _ i _ => n - (intOf i).toNat)
  case atStart => exact ⟨0, Nat.zero_le _, rfl, HI1.out, by simp, by go_simp⟩
  case round =>
    obtain ⟨k, hk, rfl, hI, hsz, hfv⟩ := hrel
    obtain ⟨wo, rfl⟩ : ∃ wo : World, wo = wr := ⟨_, rfl⟩
    have hk0 : (0 : Int) ≤ (k : Int) := by omega
    have HI := Lib.hid hI
    have gl := hI.sp.lt
    clear hI HI1
    by_cases hlt : k < n - 1
    · have hki : (k : Int) < (n : Int) - 1 := by omega
      have g1 := HI.out.sp.c0 (k + 1) (by omega)
      have g2 := HI.out.sp.c1 (k + 1) (by omega)
      have hk1 : (k : Int) + 1 < n := by omega
      have KK0 := K.out k (k + 1) (Sfw p Z k) wo (by omega) (by omega) HI.out (HBD.out.1 k)
      rw [show ((k + 1 : Nat) : Int) = (k : Int) + 1 by omega] at KK0
      have KK := Lib.hid KK0
      clear KK0
      go_wp2_with fail
      refine KK.out.mono ?_
      rintro e w1 ⟨rfl, hb⟩
      have HI2 := Lib.hid (HI.out.up (by omega) hb)
      have s1 := hb.size
      have x1 := cell_up hb gl g1
      have x2 := cell_up hb gl g2
      have xf := HI2.out.sp.f ((k + 1) * 2)
      have xf2 := HI2.out.sp.f ((k + 1) * 2 + 1)
      have fv2 := cell_up hb hsz hfv
      have z1 : g < w1.heap.size := by omega
      clear hb g1 g2 hfv
      go_wp2_with fail
      have HS := Lib.hid (HI2.out.set (x := (lft p.r (Sfw p Z k (k + 1)) (Sfw p Z k k) (Z (k + 1) - Z k)).1) (y := (lft p.r (Sfw p Z k (k + 1)) (Sfw p Z k k) (Z (k + 1) - Z k)).2) HG.out (k := k + 1) (by omega))
      rw [Sfw_succ] at HS
      refine ⟨⟨k + 1, by omega, by go_num, HS.out, by simp only [World.size_setCell]; omega, cell_ne (cell_ne fv2 (by simp; omega)) (by simp; omega)⟩, by simp [intOf]; omega⟩
    · obtain rfl : k = n - 1 := by omega
      have hki : (n : Int) - 1 ≤ ((n - 1 : Nat) : Int) := by omega
      have en : ((n - 1 : Nat) : Int) = (n : Int) - 1 := by omega
      have HI1 : Hid (NrI p Z a n c g cap bs bl bp B w0 (Sbw p Z n (n - 1)) wo) := Lib.hid ⟨HI.out.zs, HI.out.hs, HI.out.hl, HI.out.hp, ⟨HI.out.sp.lt, fun i hi => by rw [Sbw_last p Z n i hi]; exact HI.out.sp.c0 i hi, fun i hi => by rw [Sbw_last p Z n i hi]; exact HI.out.sp.c1 i hi, HI.out.sp.f⟩, HI.out.bel⟩
      have EN := Lib.hid en
      have HSZ := Lib.hid hsz
      have HFV := Lib.hid hfv
      clear en hsz hfv
      go_wp2_with fail
      go_loopw [6] (fun i wr => ∃ k : Nat, k ≤ n - 1 ∧ i = .int .i64 k ∧ NrI p Z a n c g cap bs bl bp B w0 (Sbw p Z n k) wr ∧ w.heap.size < wr.heap.size ∧ wr.cell? ⟨w.heap.size, 0, none⟩ = some (.func (.func 99) #[] #[.pointer (some ⟨bs, 0, none⟩), .pointer (some ⟨bl, 0, none⟩), .pointer (some ⟨bp, 0, none⟩)])) (fun i _ => (intOf i).toNat)
      case atStart => exact ⟨n - 1, Nat.le_refl _, by rw [EN.out], HI1.out, HSZ.out, HFV.out⟩
      case round =>
        obtain ⟨k, hk, rfl, hI, hsz, hfv⟩ := hrel
        obtain ⟨wq, rfl⟩ : ∃ wq : World, wq = wr := ⟨_, rfl⟩
        have HI' := Lib.hid hI
        have gl := hI.sp.lt
        clear hI HI1 HI hki
        by_cases hlt : 0 < k
        · obtain ⟨m, rfl⟩ : ∃ m, k = m + 1 := ⟨k - 1, by omega⟩
          have e1 : ((m + 1 : Nat) : Int) = (m : Int) + 1 := by omega
          have KK0 := K.out (m + 1) m (Sbw p Z n (m + 1)) wq (by omega) (by omega) HI'.out (HBD.out.2 (m + 1))
          rw [e1] at KK0
          have KK := Lib.hid KK0
          have g1 := HI'.out.sp.c0 m (by omega)
          have g2 := HI'.out.sp.c1 m (by omega)
          have hm0 : (0 : Int) ≤ (m : Int) := by omega
          have hm1 : (m : Int) < n := by omega
          have hm2 : (0 : Int) < (m : Int) + 1 := by omega
          rw [e1]
          clear KK0 e1
          go_wp2_with fail
          refine KK.out.mono ?_
          rintro e w1 ⟨rfl, hb⟩
          have HI2 := Lib.hid (HI'.out.up (by omega) hb)
          have s1 := hb.size
          have x1 := cell_up hb gl g1
          have x2 := cell_up hb gl g2
          have xf := HI2.out.sp.f (m * 2)
          have xf2 := HI2.out.sp.f (m * 2 + 1)
          have fv2 := cell_up hb hsz hfv
          have z1 : g < w1.heap.size := by omega
          clear hb g1 g2 hfv
          go_wp2_with fail
          have HS := Lib.hid (HI2.out.set (x := (lft p.r (Sbw p Z n (m + 1) m) (Sbw p Z n (m + 1) (m + 1)) (Z m - Z (m + 1))).1) (y := (lft p.r (Sbw p Z n (m + 1) m) (Sbw p Z n (m + 1) (m + 1)) (Z m - Z (m + 1))).2) HG.out (k := m) (by omega))
          rw [Sbw_succ p Z n m (by omega)] at HS
          refine ⟨⟨m, by omega, by first | rfl | go_num, HS.out, by simp only [World.size_setCell]; omega, cell_ne (cell_ne fv2 (by simp; omega)) (by simp; omega)⟩, by simp [intOf]⟩
        · obtain rfl : k = 0 := by omega
          have HF : Hid (NrI p Z a n c g cap bs bl bp B w0 (Gs p Z n) wq) := Lib.hid (by
            have e : Sbw p Z n 0 = Gs p Z n := by funext i; unfold Sbw; rw [if_pos (by omega)]
            rw [← e]; exact HI'.out)
          rw [show ((0 : Nat) : Int) = 0 from rfl]
          go_wp2_with fail
          go_end0
          exact ⟨rfl, HF.out⟩
end Go.Proofs.Ytkidhmajlpceeaa
