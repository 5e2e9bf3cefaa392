/- The specification's gap and its spans. -/
import Derived.Test.YtpikaohodieeaaaRgp
namespace Go.Proofs.Ytpikaohodieeaaa
open Go.RowKit
set_option linter.unusedSimpArgs false
set_option linter.unusedVariables false
theorem fwd_bd {n : Nat} {G S : Nat → Int × Int} (hS : Tk n S) (hG : ∀ i, i < n → 0 ≤ (G i).1 ∧ (G i).1 ≤ (G i).2 ∧ (G i).2 ≤ 10000) : ∀ i, i ≤ n → (0 ≤ (fwd G S i).1 ∧ (fwd G S i).1 ≤ 400 + i * 10000) ∧ 0 ≤ (fwd G S i).2 ∧ (fwd G S i).2 ≤ 400
  | 0, hi => by have := hS 0 hi; simp only [fwd]; omega
  | i + 1, hi => by
    have h1 := fwd_bd hS hG i (by omega)
    have h2 := hS (i + 1) hi
    have h3 := hG i (by omega)
    simp only [fwd, nar, addS]
    omega
theorem bwd_bd {n : Nat} {G f : Nat → Int × Int} (hf : ∀ i, i ≤ n → (0 ≤ (f i).1 ∧ (f i).1 ≤ 2010000) ∧ 0 ≤ (f i).2 ∧ (f i).2 ≤ 400) (hG : ∀ i, i < n → 0 ≤ (G i).1 ∧ (G i).1 ≤ (G i).2 ∧ (G i).2 ≤ 10000) : ∀ j, j ≤ n → (0 ≤ (bwd n G f j).1 ∧ (bwd n G f j).1 ≤ 2010000) ∧ -(j * 10000) ≤ (bwd n G f j).2 ∧ (bwd n G f j).2 ≤ 400
  | 0, hj => by have := hf n (Nat.le_refl _); simp only [bwd]; omega
  | j + 1, hj => by
    have h1 := bwd_bd hf hG j (by omega)
    have h2 := hf (n - 1 - j) (by omega)
    have h3 := hG (n - 1 - j) (by omega)
    simp only [bwd, nar, addS, oppS]
    omega
theorem fwK_bd {n : Nat} {G S : Nat → Int × Int} (hn : n ≤ 200) (hS : Tk n S) (hG : ∀ i, i < n → 0 ≤ (G i).1 ∧ (G i).1 ≤ (G i).2 ∧ (G i).2 ≤ 10000) (k i : Nat) (hi : i ≤ n) : Bd 3000000 (fwK G S k i) := by
  have h1 := fwd_bd hS hG i hi
  have h2 := hS i hi
  unfold fwK Bd
  split <;> omega
theorem bwK_bd {n : Nat} {G S : Nat → Int × Int} (hn : n ≤ 200) (hS : Tk n S) (hG : ∀ i, i < n → 0 ≤ (G i).1 ∧ (G i).1 ≤ (G i).2 ∧ (G i).2 ≤ 10000) (k i : Nat) (hi : i ≤ n) : Bd 3000000 (bwK n G (fwd G S) k i) := by
  have hf : ∀ i, i ≤ n → (0 ≤ (fwd G S i).1 ∧ (fwd G S i).1 ≤ 2010000) ∧ 0 ≤ (fwd G S i).2 ∧ (fwd G S i).2 ≤ 400 := fun i hi => by
    have := fwd_bd hS hG i hi
    omega
  have h1 := bwd_bd hf hG (n - i) (by omega)
  have h2 := hf i hi
  unfold bwK Bd
  split <;> omega
theorem SpR.congr {g n : Nat} {S S' : Nat → Int × Int} {w : World} (h : SpR g n S w) (e : ∀ i, i < n → S i = S' i) : SpR g n S' w :=
  ⟨h.lt, fun i hi => by rw [← e i hi]; exact h.c0 i hi, fun i hi => by rw [← e i hi]; exact h.c1 i hi, h.f⟩
/-- the spans under way -/
structure SpI (d : Drm) (w : World) (N : Nat) (S : Nat → Int × Int) (wr : World) : Prop where
  bl : Below w.heap.size w wr
  dr : HasDr d w.heap.size wr
  sp : SpR (w.heap.size + 1) N S wr
theorem SpI.up {d : Drm} {w wr wr' : World} {N : Nat} {S : Nat → Int × Int} (h : SpI d w N S wr) (hb : Below wr.heap.size wr wr') : SpI d w N S wr' := ⟨nextB h.bl hb, h.dr.up hb, h.sp.up hb⟩
theorem SpI.set {d : Drm} {w wr : World} {N k : Nat} {S : Nat → Int × Int} (h : SpI d w N S wr) (hk : k < N) (x y : Int) : SpI d w N (upd S k (x, y)) ((wr.setCell ⟨w.heap.size + 1, k * 2, none⟩ (.int .i64 x)).setCell ⟨w.heap.size + 1, k * 2 + 1, none⟩ (.int .i64 y)) :=
  ⟨set1 (set1 h.bl (by omega) _ _) (by omega) _ _, (h.dr.other (by omega)).other (by omega), h.sp.set hk⟩
theorem SpI.congr {d : Drm} {w wr : World} {N : Nat} {S S' : Nat → Int × Int} (h : SpI d w N S wr) (e : ∀ i, i < N → S i = S' i) : SpI d w N S' wr := ⟨h.bl, h.dr, h.sp.congr e⟩
set_option maxRecDepth 100000 in
set_option maxHeartbeats 4000000 in
theorem RGap_any (d : Drm) (x : Int) (s : Int × Int) (E : Int) (w : World) (hin : DrIn d w.heap.size w) (hE : GpR d x s E) :
    Calls Try.prog 24 #[d.v, .int .i64 x] w fun e w' => e = .returned (.tuple #[Sp s, .int .i64 E]) ∧ Below w.heap.size w w' := by
  have DD : Hid (∀ W, Below w.heap.size w W → DrIn d W.heap.size W) := Lib.hid fun W h => (hin.up h (Nat.le_refl _)).more h.size
  have hdn := hin.1.1
  obtain ⟨w1, hw1⟩ : ∃ w1 : World, w1 = (w.alloc (drO d)).alloc (.cells #[.int .i64 0, .int .i64 0] 31) := ⟨_, rfl⟩
  have B1 : Below w.heap.size w w1 := by rw [hw1]; exact box2 _ _ _
  have P1 : HasDr d w.heap.size w1 := by rw [hw1]; exact (dr_new w d).up (box1 _ _)
  have R1 : Bt (w.heap.size + 1) 0 0 w1 := by
    rw [hw1]
    have := Bt.new (w.alloc (drO d)) 31 0 0
    rw [World.size_alloc] at this
    exact this
  have D := Lib.hid B1
  have P := Lib.hid P1
  have R := Lib.hid R1
  have HW := Lib.hid hw1
  have K1 := Lib.hid fun E (h : (E = 0 ∧ DrOk d) ∨ (E = 20 ∧ ¬ DrOk d)) => RCheck_any d E w1 (DD.out w1 B1) h
  clear hin B1 P1 R1 hw1
  obtain ⟨x0, x1⟩ := P.out
  rcases hE with ⟨rfl, rfl, h⟩ | ⟨rfl, rfl, h, hn⟩ | ⟨rfl, h, h1, h2, rfl⟩
  · have K2 := Lib.hid (K1.out 20 (.inr ⟨rfl, h⟩))
    clear h
    go_enter Try.func24, Try.ntmps24
    go_wp2_with fail
    rw [← HW.out]
    refine K2.out.mono ?_
    rintro e w2 ⟨rfl, hb2⟩
    have D := Lib.hid (nextB D.out hb2)
    have P := Lib.hid (P.out.up hb2)
    have R := Lib.hid (R.out.up hb2)
    clear hb2 x0 x1
    obtain ⟨x0, x1⟩ := P.out
    have zR := R.out.lt
    have hset : Below w.heap.size w ((w2.setCell ⟨w.heap.size + 1, 0, none⟩ (.int .i64 (0))).setCell ⟨w.heap.size + 1, 1, none⟩ (.int .i64 (0))) := set1 (set1 D.out (by omega) _ _) (by omega) _ _
    have HF := Lib.hid hset
    have HQ := Lib.hid (R.out.store (0) (0))
    clear hset
    obtain ⟨r0, r1, r2, r3⟩ := R.out
    go_wp2_with fail
    obtain ⟨wf, hwf⟩ : ∃ wf : World, wf = (w2.setCell ⟨w.heap.size + 1, 0, none⟩ (.int .i64 (0))).setCell ⟨w.heap.size + 1, 1, none⟩ (.int .i64 (0)) := ⟨_, rfl⟩
    have HF2 := HF.out
    have hq := HQ.out
    rw [← hwf] at hq HF2 ⊢
    obtain ⟨q0, q1, _, _⟩ := hq
    exact bodyPost_ret (v := .tuple #[Sp (0, 0), .int .i64 20]) (by simp [results, Try.results24, go_sem, q0, q1]) rfl ⟨rfl, HF2⟩
  · have K2 := Lib.hid (K1.out 0 (.inl ⟨rfl, h⟩))
    have wn : IntKind.i64.wrap ((d.n : Int) - 1) = (d.n : Int) - 1 := IntWalk.i64_in _ (by have := h.n2; omega)
    have HN := Lib.hid hn
    clear h hn
    go_enter Try.func24, Try.ntmps24
    go_wp2_with fail
    rw [← HW.out]
    refine K2.out.mono ?_
    rintro e w2 ⟨rfl, hb2⟩
    have D := Lib.hid (nextB D.out hb2)
    have P := Lib.hid (P.out.up hb2)
    have R := Lib.hid (R.out.up hb2)
    clear hb2 x0 x1
    obtain ⟨x0, x1⟩ := P.out
    go_wp2_with fail
    refine (Rwithin_any x 0 ((d.n : Int) - 1) false w2 (rw_no (by have := HN.out; omega))).mono ?_
    rintro e w9 ⟨rfl, hw9⟩
    rw [hw9]
    clear hw9 w9 wn
    have zR := R.out.lt
    have hset : Below w.heap.size w ((w2.setCell ⟨w.heap.size + 1, 0, none⟩ (.int .i64 (0))).setCell ⟨w.heap.size + 1, 1, none⟩ (.int .i64 (0))) := set1 (set1 D.out (by omega) _ _) (by omega) _ _
    have HF := Lib.hid hset
    have HQ := Lib.hid (R.out.store (0) (0))
    clear hset
    obtain ⟨r0, r1, r2, r3⟩ := R.out
    go_wp2_with fail
    obtain ⟨wf, hwf⟩ : ∃ wf : World, wf = (w2.setCell ⟨w.heap.size + 1, 0, none⟩ (.int .i64 (0))).setCell ⟨w.heap.size + 1, 1, none⟩ (.int .i64 (0)) := ⟨_, rfl⟩
    have HF2 := HF.out
    have hq := HQ.out
    rw [← hwf] at hq HF2 ⊢
    obtain ⟨q0, q1, _, _⟩ := hq
    exact bodyPost_ret (v := .tuple #[Sp (0, 0), .int .i64 1]) (by simp [results, Try.results24, go_sem, q0, q1]) rfl ⟨rfl, HF2⟩
  · have K2 := Lib.hid (K1.out 0 (.inl ⟨rfl, h⟩))
    have wn : IntKind.i64.wrap ((d.n : Int) - 1) = (d.n : Int) - 1 := IntWalk.i64_in _ (by have := h.n2; omega)
    obtain ⟨q, rfl⟩ : ∃ q : Nat, x = (q : Int) := ⟨x.toNat, by omega⟩
    have hq : q < d.n := by omega
    have HD := Lib.hid h
    rw [Int.toNat_natCast]
    obtain ⟨⟨g1, g2⟩, hg⟩ : ∃ g, g = gapF d q := ⟨_, rfl⟩
    rw [← hg]
    have HGq := Lib.hid hg
    clear h h1 h2 hg
    go_enter Try.func24, Try.ntmps24
    go_wp2_with fail
    rw [← HW.out]
    refine K2.out.mono ?_
    rintro e w2 ⟨rfl, hb2⟩
    have D := Lib.hid (nextB D.out hb2)
    have P := Lib.hid (P.out.up hb2)
    have R := Lib.hid (R.out.up hb2)
    clear hb2 x0 x1
    obtain ⟨x0, x1⟩ := P.out
    go_wp2_with fail
    refine (Rwithin_any (q : Int) 0 ((d.n : Int) - 1) true w2 (rw_yes (by omega))).mono ?_
    rintro e w9 ⟨rfl, hw9⟩
    rw [hw9]
    clear hw9 w9 wn
    go_wp2_with fail
    have KG := Lib.hid (Rgap_any d q w2 (DD.out w2 D.out) HD.out hq)
    rw [← HGq.out] at KG
    refine KG.out.mono ?_
    rintro e w3 ⟨rfl, hb2⟩
    have D := Lib.hid (nextB D.out hb2)
    have P := Lib.hid (P.out.up hb2)
    have R := Lib.hid (R.out.up hb2)
    clear hb2 x0 x1
    obtain ⟨x0, x1⟩ := P.out
    have zR := R.out.lt
    have hset : Below w.heap.size w ((w3.setCell ⟨w.heap.size + 1, 0, none⟩ (.int .i64 (g1))).setCell ⟨w.heap.size + 1, 1, none⟩ (.int .i64 (g2))) := set1 (set1 D.out (by omega) _ _) (by omega) _ _
    have HF := Lib.hid hset
    have HQ := Lib.hid (R.out.store (g1) (g2))
    clear hset
    obtain ⟨r0, r1, r2, r3⟩ := R.out
    go_wp2_with fail
    obtain ⟨wf, hwf⟩ : ∃ wf : World, wf = (w3.setCell ⟨w.heap.size + 1, 0, none⟩ (.int .i64 (g1))).setCell ⟨w.heap.size + 1, 1, none⟩ (.int .i64 (g2)) := ⟨_, rfl⟩
    have HF2 := HF.out
    have hq := HQ.out
    rw [← hwf] at hq HF2 ⊢
    obtain ⟨q0, q1, _, _⟩ := hq
    exact bodyPost_ret (v := .tuple #[Sp (g1, g2), .int .i64 0]) (by simp [results, Try.results24, go_sem, q0, q1]) rfl ⟨rfl, HF2⟩
set_option maxRecDepth 100000 in
set_option maxHeartbeats 8000000 in
theorem Rspans_any (d : Drm) (MA : Option Addr) (m mc : Nat) (F : Nat → Int × Int × Int) (R : Bool) (S : Nat → Int × Int) (w : World) (hin : DrIn d w.heap.size w) (hm : TrsIn MA m F w.heap.size w) (hd : DrOk d) (hk : m ≤ 100 ∧ ∀ i, i < m → mkOk d F i)
    (hR : (R = true ∧ Ends d.n (Rdg d.n (gapF d) m F) S) ∨ (R = false ∧ ∀ T, ¬ Rdg d.n (gapF d) m F T)) :
    Calls Try.prog 86 #[d.v, .slice MA m mc] w fun e w' => ∃ v, e = .returned (.tuple #[v, .bool R]) ∧ RdV d.n (if R = true then 0 else 22) S v w w' := by
  have DD : Hid (∀ W, Below w.heap.size w W → DrIn d W.heap.size W) := Lib.hid fun W h => (hin.up h (Nat.le_refl _)).more h.size
  have MM : Hid (∀ W, Below w.heap.size w W → TrsIn MA m F W.heap.size W) := Lib.hid fun W h => (hm.up h (Nat.le_refl _)).more h.size
  have hn1 := hd.n1
  have hn2 := hd.n2
  have hm64 := hk.1
  have HD := Lib.hid hd
  have HK := Lib.hid hk
  have HR := Lib.hid hR
  have gpk := gpOk hd
  have mok : MkOk d.n m F := fun j hj => by
    have h1 := hk.2 j hj
    unfold mkOk isS at h1
    omega
  have HTK : Hid (Tk d.n (mkS F m)) := Lib.hid (mkS_tk m fun j hj => (mok j hj).2)
  have HTK1 : Hid (∀ k, k ≤ m → Tk d.n (mkS F k)) := Lib.hid fun k hk => mkS_tk k fun j hj => (mok j (by omega)).2
  have HG := Lib.hid gpk.2.2
  obtain ⟨N, hN⟩ : ∃ N, N = d.n + 1 := ⟨_, rfl⟩
  have hNn : N ≤ 200 := by omega
  have wN : IntKind.i64.wrap ((d.n : Int) + 1) = (N : Int) := by rw [show ((d.n : Int) + 1) = (N : Int) by omega]; exact IntWalk.i64_in _ (by omega)
  have hmk := run_make_spans N (by omega) (w.alloc (drO d))
  obtain ⟨w1, hw1⟩ : ∃ w1 : World, w1 = (w.alloc (drO d)).alloc (.cells (madeCells #[.int .i64 0, .int .i64 0] (N * 2)) 31) := ⟨_, rfl⟩
  have I1 : SpI d w N (fun _ => (0, 0)) w1 := by
    rw [hw1]
    refine ⟨box2 _ _ _, (dr_new w d).up (box1 _ _), ?_⟩
    have := SpR.new (w.alloc (drO d)) N
    rw [World.size_alloc] at this
    exact this
  rw [← hw1, World.size_alloc] at hmk
  simp only [drO] at hmk
  have HI := Lib.hid I1
  have HN := Lib.hid hN
  clear hin hm hd hk hR gpk mok I1 hw1 hN
  obtain ⟨x0, x1⟩ := HI.out.dr
  have x0' := dr_new w d
  go_enter Try.func86, Try.ntmps86
  go_wp2_with fail
  clear x0 x1 x0' hmk wN
  go_loopw [8] (fun v wr => ∃ k : Nat, k ≤ N ∧ v = .int .i64 k ∧ SpI d w N (fun i => if i < k then (0, 400) else (0, 0)) wr) (fun v _ => N - (intOf v).toNat)
  case atStart => exact ⟨0, Nat.zero_le _, rfl, HI.out.congr fun i _ => (if_neg (by omega)).symm⟩
  case round =>
    obtain ⟨k, hk, rfl, hI⟩ := hrel
    obtain ⟨wo, rfl⟩ : ∃ wo : World, wo = wr := ⟨_, rfl⟩
    have I := Lib.hid hI
    clear hI
    have hk0 : (0 : Int) ≤ (k : Int) := by omega
    by_cases hlt : k < N
    · have hki : (k : Int) < (N : Int) := by omega
      have wk : IntKind.i64.wrap ((k : Int) + 1) = ((k + 1 : Nat) : Int) := by rw [show ((k : Int) + 1) = ((k + 1 : Nat) : Int) by omega]; exact IntWalk.i64_in _ (by omega)
      have g0 := I.out.sp.c0 k hlt
      have g1 := I.out.sp.c1 k hlt
      have f0 := I.out.sp.f (k * 2)
      have f1 := I.out.sp.f (k * 2 + 1)
      have gl := I.out.sp.lt
      have HS := Lib.hid (I.out.set hlt 0 400)
      go_wp2_with fail
      go_roundw
      case rel => exact ⟨k + 1, by omega, by first | rfl | go_num, HS.out.congr fun i hi => by
        unfold upd
        show (if i = k then _ else (if i < k then _ else _)) = (if i < k + 1 then _ else _)
        by_cases e : i = k
        · rw [if_pos e, if_pos (by omega)]
        · rw [if_neg e]
          by_cases h : i < k
          · rw [if_pos h, if_pos (by omega)]
          · rw [if_neg h, if_neg (by omega)]⟩
      case measure => (simp [intOf] <;> omega)
    · obtain rfl : k = N := by omega
      have hki : ¬ ((k : Int) < (k : Int)) := by omega
      have I2 := Lib.hid (I.out.congr (S' := mkS F 0) fun i hi => if_pos hi)
      clear I
      go_wp2_with fail
      go_loopw [9, 10] (fun v _ wr => ∃ j : Nat, j ≤ m ∧ v = .int .i64 j ∧ SpI d w k (mkS F j) wr) (fun v _ _ => m - (intOf v).toNat)
      case atStart => exact ⟨0, Nat.zero_le _, rfl, I2.out⟩
      case round =>
        obtain ⟨j, hj, rfl, hI⟩ := hrel
        obtain ⟨w2, rfl⟩ : ∃ w2 : World, w2 = wr := ⟨_, rfl⟩
        have I := Lib.hid hI
        clear hI
        have hj0 : (0 : Int) ≤ (j : Int) := by omega
        by_cases hjm : j < m
        · have hji : (j : Int) < (m : Int) := by omega
          have wj : IntKind.i64.wrap ((j : Int) + 1) = ((j + 1 : Nat) : Int) := by rw [show ((j : Int) + 1) = ((j + 1 : Nat) : Int) by omega]; exact IntWalk.i64_in _ (by omega)
          have WJ := Lib.hid wj
          clear wj
          obtain ⟨a, ea, ab, s0, s1, s2⟩ := (MM.out w2 I.out.bl).2 j hjm
          have hok := HK.out.2 j hjm
          unfold mkOk at hok
          have HMS : Hid (mkS F (j + 1) = upd (mkS F j) (F j).1.toNat (nar (mkS F j (F j).1.toNat) (F j).2)) := Lib.hid (by funext i; rfl)
          obtain ⟨⟨y0, y1, y2⟩, hg⟩ : ∃ g, g = F j := ⟨_, rfl⟩
          rw [← hg] at s0 s1 s2 hok HMS
          simp only at s0 s1 s2 hok
          clear hg
          obtain ⟨cc, rfl⟩ : ∃ cc : Nat, y0 = (cc : Int) := ⟨y0.toNat, by omega⟩
          have hcN : cc < k := by have := HN.out; omega
          have hci : (cc : Int) < (k : Int) := by omega
          have hc0 : (0 : Int) ≤ (cc : Int) := by omega
          have hms := HMS.out
          simp only [Int.toNat_natCast] at hms
          have g0 := I.out.sp.c0 cc hcN
          have g1 := I.out.sp.c1 cc hcN
          have f0 := I.out.sp.f (cc * 2)
          have f1 := I.out.sp.f (cc * 2 + 1)
          have gl := I.out.sp.lt
          obtain ⟨⟨p, q⟩, hpq⟩ : ∃ g, g = mkS F j cc := ⟨_, rfl⟩
          rw [← hpq] at g0 g1 hms
          simp only at g0 g1
          have HMS2 := Lib.hid hms
          have HST := Lib.hid (I.out.set hcN (max p y1) (min q y2))
          clear hok hms hpq HMS
          rw [ea]
          go_wp2_with fail
          refine wp_region_M [28] (fun w' => w'.cell? ⟨(a.add (j * 3)).block, (a.add (j * 3)).off + 1, none⟩ = some (.int .i64 y1) ∧ w'.cell? ⟨(a.add (j * 3)).block, (a.add (j * 3)).off + 2, none⟩ = some (.int .i64 y2) ∧ w'.cell? ⟨w.heap.size + 1, cc * 2, none⟩ = some (.int .i64 p) ∧ w'.cell? ⟨w.heap.size + 1, cc * 2 + 1, none⟩ = some (.int .i64 q)) (by kernel_rfl) (by kernel_rfl) (by (try dsimp only); (repeat' apply And.intro); all_goals first | assumption | (go_simp; done)) (fun hT0 => ?_)
          refine M_take (v := ?_) 0 rfl (by kernel_rfl) (by assumption) (fun _ _ _ h => h) (Or.inl ⟨by rfl, ?_⟩) ?_
          rotate_left
          · (intro w hSw; (try dsimp only at hSw); go_simp; (try with_reducible rfl))
          (try simp only [Act.put, List.setIfInBounds_toArray, List.set_cons_zero, List.set_cons_succ])
          refine M_take (v := ?_) 1 rfl (by kernel_rfl) (by assumption) (fun _ _ _ h => h) (Or.inl ⟨by rfl, ?_⟩) ?_
          rotate_left
          · (intro w hSw; (try dsimp only at hSw); go_simp; (try with_reducible rfl))
          (try simp only [Act.put, List.setIfInBounds_toArray, List.set_cons_zero, List.set_cons_succ])
          refine M_take (v := ?_) 2 rfl (by kernel_rfl) (by assumption) (fun _ _ _ h => h) (Or.inl ⟨by rfl, ?_⟩) ?_
          rotate_left
          · (intro w hSw; (try dsimp only at hSw); go_simp; (try with_reducible rfl))
          (try simp only [Act.put, List.setIfInBounds_toArray, List.set_cons_zero, List.set_cons_succ])
          refine M_take (v := ?_) 3 rfl (by kernel_rfl) (by assumption) (fun _ _ _ h => h) (Or.inl ⟨by rfl, ?_⟩) ?_
          rotate_left
          · (intro w hSw; (try dsimp only at hSw); go_simp; (try with_reducible rfl))
          (try simp only [Act.put, List.setIfInBounds_toArray, List.set_cons_zero, List.set_cons_succ])
          refine M_take (v := ?_) 4 rfl (by kernel_rfl) (by assumption) (fun _ _ _ h => h) (Or.inl ⟨by rfl, ?_⟩) ?_
          rotate_left
          · (intro w hSw; (try dsimp only at hSw); go_simp; (try with_reducible rfl))
          (try simp only [Act.put, List.setIfInBounds_toArray, List.set_cons_zero, List.set_cons_succ])
          refine M_take (v := ?_) 5 rfl (by kernel_rfl) (by assumption) (fun _ _ _ h => h) (Or.inl ⟨by rfl, ?_⟩) ?_
          rotate_left
          · (intro w hSw; (try dsimp only at hSw); go_simp; (try with_reducible rfl))
          (try simp only [Act.put, List.setIfInBounds_toArray, List.set_cons_zero, List.set_cons_succ])
          refine M_take (v := ?_) 6 rfl (by kernel_rfl) (by assumption) (fun _ _ _ h => h) (Or.inl ⟨by rfl, ?_⟩) ?_
          rotate_left
          · (intro w hSw; (try dsimp only at hSw); go_simp; (try with_reducible rfl))
          (try simp only [Act.put, List.setIfInBounds_toArray, List.set_cons_zero, List.set_cons_succ])
          refine M_take (v := ?_) 7 rfl (by kernel_rfl) (by assumption) (fun _ _ _ h => h) (Or.inl ⟨by rfl, ?_⟩) ?_
          rotate_left
          · (intro w hSw; (try dsimp only at hSw); go_simp; (try with_reducible rfl))
          (try simp only [Act.put, List.setIfInBounds_toArray, List.set_cons_zero, List.set_cons_succ])
          refine M_take (v := ?_) 8 rfl (by kernel_rfl) (by assumption) (fun _ _ _ h => h) (Or.inl ⟨by rfl, ?_⟩) ?_
          rotate_left
          · (intro w hSw; (try dsimp only at hSw); go_simp; (try with_reducible rfl))
          (try simp only [Act.put, List.setIfInBounds_toArray, List.set_cons_zero, List.set_cons_succ])
          refine M_take (v := ?_) 9 rfl (by kernel_rfl) (by assumption) (fun _ _ _ h => h) (Or.inl ⟨by rfl, ?_⟩) ?_
          rotate_left
          · (intro w hSw; (try dsimp only at hSw); go_simp; (try with_reducible rfl))
          (try simp only [Act.put, List.setIfInBounds_toArray, List.set_cons_zero, List.set_cons_succ])
          refine M_take (v := ?_) 10 rfl (by kernel_rfl) (by assumption) (fun _ _ _ h => h) (Or.inl ⟨by rfl, ?_⟩) ?_
          rotate_left
          · (intro w hSw; (try dsimp only at hSw); go_simp; (try with_reducible rfl))
          (try simp only [Act.put, List.setIfInBounds_toArray, List.set_cons_zero, List.set_cons_succ])
          refine M_take (v := ?_) 11 rfl (by kernel_rfl) (by assumption) (fun _ _ _ h => h) (Or.inl ⟨by rfl, ?_⟩) ?_
          rotate_left
          · (intro w hSw; (try dsimp only at hSw); go_simp; (try with_reducible rfl))
          (try simp only [Act.put, List.setIfInBounds_toArray, List.set_cons_zero, List.set_cons_succ])
          refine M_take (v := ?_) 12 rfl (by kernel_rfl) (by assumption) (fun _ _ _ h => h) (Or.inl ⟨by rfl, ?_⟩) ?_
          rotate_left
          · (intro w hSw; (try dsimp only at hSw); go_simp; (try with_reducible rfl))
          (try simp only [Act.put, List.setIfInBounds_toArray, List.set_cons_zero, List.set_cons_succ])
          refine M_take (v := ?_) 13 rfl (by kernel_rfl) (by assumption) (fun _ _ _ h => h) (Or.inl ⟨by rfl, ?_⟩) ?_
          rotate_left
          · (intro w hSw; (try dsimp only at hSw); go_simp; (try with_reducible rfl))
          (try simp only [Act.put, List.setIfInBounds_toArray, List.set_cons_zero, List.set_cons_succ])
          refine M_take (v := ?_) 14 rfl (by kernel_rfl) (by assumption) (fun _ _ _ h => h) (Or.inl ⟨by rfl, ?_⟩) ?_
          rotate_left
          · (intro w hSw; (try dsimp only at hSw); go_simp; (try with_reducible rfl))
          (try simp only [Act.put, List.setIfInBounds_toArray, List.set_cons_zero, List.set_cons_succ])
          refine M_take (v := ?_) 15 rfl (by kernel_rfl) (by assumption) (fun _ _ _ h => h) (Or.inl ⟨by rfl, ?_⟩) ?_
          rotate_left
          · (intro w hSw; (try dsimp only at hSw); go_simp; (try with_reducible rfl))
          (try simp only [Act.put, List.setIfInBounds_toArray, List.set_cons_zero, List.set_cons_succ])
          refine M_take (v := ?_) 16 rfl (by kernel_rfl) (by assumption) (fun _ _ _ h => h) (Or.inl ⟨by rfl, ?_⟩) ?_
          rotate_left
          · (intro w hSw; (try dsimp only at hSw); go_simp; (try with_reducible rfl))
          (try simp only [Act.put, List.setIfInBounds_toArray, List.set_cons_zero, List.set_cons_succ])
          refine M_take (v := ?_) 17 rfl (by kernel_rfl) (by assumption) (fun _ _ _ h => h) (Or.inl ⟨by rfl, ?_⟩) ?_
          rotate_left
          · (intro w hSw; (try dsimp only at hSw); go_simp; (try with_reducible rfl))
          (try simp only [Act.put, List.setIfInBounds_toArray, List.set_cons_zero, List.set_cons_succ])
          refine M_take (v := ?_) 18 rfl (by kernel_rfl) (by assumption) (fun _ _ _ h => h) (Or.inl ⟨by rfl, ?_⟩) ?_
          rotate_left
          · (intro w hSw; (try dsimp only at hSw); go_simp; (try with_reducible rfl))
          (try simp only [Act.put, List.setIfInBounds_toArray, List.set_cons_zero, List.set_cons_succ])
          refine M_take (v := ?_) 19 rfl (by kernel_rfl) (by assumption) (fun _ _ _ h => h) (Or.inl ⟨by rfl, ?_⟩) ?_
          rotate_left
          · (intro w hSw; (try dsimp only at hSw); go_simp; (try with_reducible rfl))
          (try simp only [Act.put, List.setIfInBounds_toArray, List.set_cons_zero, List.set_cons_succ])
          refine M_take (v := ?_) 20 rfl (by kernel_rfl) (by assumption) (fun _ _ _ h => h) (Or.inl ⟨by rfl, ?_⟩) ?_
          rotate_left
          · (intro w hSw; (try dsimp only at hSw); go_simp; (try with_reducible rfl))
          (try simp only [Act.put, List.setIfInBounds_toArray, List.set_cons_zero, List.set_cons_succ])
          refine M_take (v := ?_) 21 rfl (by kernel_rfl) (by assumption) (fun _ _ _ h => h) (Or.inl ⟨by rfl, ?_⟩) ?_
          rotate_left
          · (intro w hSw; (try dsimp only at hSw); go_simp; (try with_reducible rfl))
          (try simp only [Act.put, List.setIfInBounds_toArray, List.set_cons_zero, List.set_cons_succ])
          refine M_take (v := ?_) 22 rfl (by kernel_rfl) (by assumption) (fun _ _ _ h => h) (Or.inl ⟨by rfl, ?_⟩) ?_
          rotate_left
          · (intro w hSw; (try dsimp only at hSw); go_simp; (try with_reducible rfl))
          (try simp only [Act.put, List.setIfInBounds_toArray, List.set_cons_zero, List.set_cons_succ])
          refine M_take (v := ?_) 23 rfl (by kernel_rfl) (by assumption) (fun _ _ _ h => h) (Or.inl ⟨by rfl, ?_⟩) ?_
          rotate_left
          · (intro w hSw; (try dsimp only at hSw); go_simp; (try with_reducible rfl))
          (try simp only [Act.put, List.setIfInBounds_toArray, List.set_cons_zero, List.set_cons_succ])
          refine M_take (v := ?_) 24 rfl (by kernel_rfl) (by assumption) (fun _ _ _ h => h) (Or.inl ⟨by rfl, ?_⟩) ?_
          rotate_left
          · (intro w hSw; (try dsimp only at hSw); go_simp; (try with_reducible rfl))
          (try simp only [Act.put, List.setIfInBounds_toArray, List.set_cons_zero, List.set_cons_succ])
          refine M_take (v := ?_) 25 rfl (by kernel_rfl) (by assumption) (fun _ _ _ h => h) (Or.inl ⟨by rfl, ?_⟩) ?_
          rotate_left
          · (intro w hSw; (try dsimp only at hSw); go_simp; (try with_reducible rfl))
          (try simp only [Act.put, List.setIfInBounds_toArray, List.set_cons_zero, List.set_cons_succ])
          refine M_take (v := ?_) 26 rfl (by kernel_rfl) (by assumption) (fun _ _ _ h => h) (Or.inl ⟨by rfl, ?_⟩) ?_
          rotate_left
          · (intro w hSw; (try dsimp only at hSw); go_simp; (try with_reducible rfl))
          (try simp only [Act.put, List.setIfInBounds_toArray, List.set_cons_zero, List.set_cons_succ])
          refine M_take (v := ?_) 27 rfl (by kernel_rfl) (by assumption) (fun _ _ _ h => h) (Or.inl ⟨by rfl, ?_⟩) ?_
          rotate_left
          · (intro w hSw; (try dsimp only at hSw); go_simp; (try with_reducible rfl))
          (try simp only [Act.put, List.setIfInBounds_toArray, List.set_cons_zero, List.set_cons_succ])
          refine M_step 28 rfl (by kernel_rfl) (fun K hK => ?_)
          go_simp
          skip
          refine hK.out _ _ (fun e => by cases e) ?_
          clear hK K
          (try simp only [Act.put, List.setIfInBounds_toArray, List.set_cons_zero, List.set_cons_succ])
          refine M_done (by kernel_rfl) ?_ _
          clear hT0 g0 g1 f0 f1 gl s0 s1 s2
          have wj := WJ.out
          go_wp2_with fail
          go_roundw
          case rel => exact ⟨j + 1, by omega, by first | rfl | go_num, by rw [HMS2.out]; exact HST.out.up (Below.refl _ _).drew⟩
          case measure => (simp [intOf] <;> omega)
        · have hjm2 : j = m := by omega
          rw [hjm2] at I
          have hji : ¬ ((j : Int) < (m : Int)) := by omega
          go_wp2_with fail
          clear hjm2 hjm hji hj hj0
          go_loopw [11, 12] (fun v _ wr => ∃ j : Nat, 1 ≤ j ∧ j ≤ k ∧ v = .int .i64 j ∧ SpI d w k (fwK (gapF d) (mkS F m) (j - 1)) wr) (fun v _ _ => k - (intOf v).toNat)
          case atStart => exact ⟨1, Nat.le_refl _, by have := HN.out; omega, rfl, I.out.congr fun i _ => (fwK_0 _ _ i).symm⟩
          case round =>
            obtain ⟨j, hj1, hj, rfl, hI⟩ := hrel
            obtain ⟨w3, rfl⟩ : ∃ w3 : World, w3 = wr := ⟨_, rfl⟩
            obtain ⟨q, hq⟩ : ∃ q, q + 1 = j := ⟨j - 1, by omega⟩
            rw [show j - 1 = q by omega] at hI
            have I := Lib.hid hI
            clear hI
            have hj0 : (0 : Int) ≤ (j : Int) := by omega
            by_cases hjk : j < k
            · have hji : (j : Int) < (k : Int) := by omega
              have hqi : (q : Int) < (k : Int) := by omega
              have hq0 : (0 : Int) ≤ (q : Int) := by omega
              have hqk : q < k := by omega
              have hqn : q < d.n := by have := HN.out; omega
              have hjn : j ≤ d.n := by have := HN.out; omega
              have wj : IntKind.i64.wrap ((j : Int) + 1) = ((j + 1 : Nat) : Int) := by rw [show ((j : Int) + 1) = ((j + 1 : Nat) : Int) by omega]; exact IntWalk.i64_in _ (by omega)
              have WJ := Lib.hid wj
              have wm : IntKind.i64.wrap ((j : Int) - 1) = (q : Int) := by rw [show ((j : Int) - 1) = (q : Int) by omega]; exact IntWalk.i64_in _ (by omega)
              have hF : ∀ i, upd (fwK (gapF d) (mkS F m) q) j (nar (fwK (gapF d) (mkS F m) q j) (addS (fwK (gapF d) (mkS F m) q q) (gapF d q))) i = fwK (gapF d) (mkS F m) j i := fun i => by rw [← hq]; exact fwK_succ _ _ _ _
              have hb1 := fwK_bd (G := gapF d) (by omega) HTK.out HG.out q j hjn
              have hb2 := fwK_bd (G := gapF d) (by omega) HTK.out HG.out q q (by omega)
              have hb3 := HG.out q hqn
              have KG := Lib.hid (Rgap_any d q w3 (DD.out w3 I.out.bl) HD.out hqn)
              have g0 := I.out.sp.c0 j hjk
              have g1 := I.out.sp.c1 j hjk
              have g2 := I.out.sp.c0 q hqk
              have g3 := I.out.sp.c1 q hqk
              obtain ⟨⟨u, v⟩, huv⟩ : ∃ g, g = gapF d q := ⟨_, rfl⟩
              obtain ⟨⟨a1, b1⟩, h1⟩ : ∃ g, g = fwK (gapF d) (mkS F m) q j := ⟨_, rfl⟩
              obtain ⟨⟨a0, b0⟩, h0⟩ : ∃ g, g = fwK (gapF d) (mkS F m) q q := ⟨_, rfl⟩
              rw [← huv] at KG hF hb3
              rw [← h1] at hF hb1 g0 g1
              rw [← h0] at hF hb2 g2 g3
              unfold Bd at hb1 hb2
              simp only [nar, addS] at hF hb1 hb2 hb3 g0 g1 g2 g3
              have wu : IntKind.i64.wrap (a0 + u) = a0 + u := IntWalk.i64_in _ (by omega)
              have wv : IntKind.i64.wrap (b0 + v) = b0 + v := IntWalk.i64_in _ (by omega)
              have HF := Lib.hid hF
              have HQJ := Lib.hid hq
              have G : Hid (∀ W, Below w3.heap.size w3 W → W.cell? ⟨w.heap.size + 1, j * 2, none⟩ = some (.int .i64 a1) ∧ W.cell? ⟨w.heap.size + 1, j * 2 + 1, none⟩ = some (.int .i64 b1) ∧ W.cell? ⟨w.heap.size + 1, q * 2, none⟩ = some (.int .i64 a0) ∧ W.cell? ⟨w.heap.size + 1, q * 2 + 1, none⟩ = some (.int .i64 b0)) := Lib.hid fun W h => ⟨cell_up h I.out.sp.lt g0, cell_up h I.out.sp.lt g1, cell_up h I.out.sp.lt g2, cell_up h I.out.sp.lt g3⟩
              obtain ⟨x0, x1⟩ := I.out.dr
              clear huv h1 h0 hb1 hb2 hb3 hq g0 g1 g2 g3 hF wj
              go_wp2_with fail
              refine KG.out.mono ?_
              rintro e w4 ⟨rfl, hb4⟩
              have B4 := Lib.hid hb4
              have I4 := Lib.hid (I.out.up hb4)
              clear hb4 x0 x1
              go_wp2_with fail
              obtain ⟨w5, hw5⟩ : ∃ w5 : World, w5 = w4.alloc (.cells #[.int .i64 u, .int .i64 v] 31) := ⟨_, rfl⟩
              rw [← hw5]
              have B5 := Lib.hid (show Below w3.heap.size w3 w5 from by rw [hw5]; exact nextB B4.out (box1 _ _))
              have I5 := Lib.hid (show SpI d w k (fwK (gapF d) (mkS F m) q) w5 from by rw [hw5]; exact I4.out.up (box1 _ _))
              have U5 := Lib.hid (show Bt w4.heap.size u v w5 from by rw [hw5]; exact Bt.new _ _ _ _)
              clear hw5
              obtain ⟨g0, g1, g2, g3⟩ := G.out w5 B5.out
              obtain ⟨u0, u1, _, _⟩ := U5.out
              have f0 := I5.out.sp.f (j * 2)
              have f1 := I5.out.sp.f (j * 2 + 1)
              have gl := I5.out.sp.lt
              have HST := Lib.hid (I5.out.set hjk (max a1 (a0 + u)) (min b1 (b0 + v)))
              refine wp_region_M [34] (fun w' => w'.cell? ⟨w.heap.size + 1, j * 2, none⟩ = some (.int .i64 a1) ∧ w'.cell? ⟨w.heap.size + 1, j * 2 + 1, none⟩ = some (.int .i64 b1) ∧ w'.cell? ⟨w.heap.size + 1, q * 2, none⟩ = some (.int .i64 a0) ∧ w'.cell? ⟨w.heap.size + 1, q * 2 + 1, none⟩ = some (.int .i64 b0) ∧ w'.cell? ⟨w4.heap.size, 0, none⟩ = some (.int .i64 u) ∧ w'.cell? ⟨w4.heap.size, 1, none⟩ = some (.int .i64 v)) (by kernel_rfl) (by kernel_rfl) (by (try dsimp only); (repeat' apply And.intro); all_goals first | assumption | (go_simp; done)) (fun hT0 => ?_)
              refine M_take (v := ?_) 0 rfl (by kernel_rfl) (by assumption) (fun _ _ _ h => h) (Or.inl ⟨by rfl, ?_⟩) ?_
              rotate_left
              · (intro w hSw; (try dsimp only at hSw); go_simp; (try with_reducible rfl))
              (try simp only [Act.put, List.setIfInBounds_toArray, List.set_cons_zero, List.set_cons_succ])
              refine M_take (v := ?_) 1 rfl (by kernel_rfl) (by assumption) (fun _ _ _ h => h) (Or.inl ⟨by rfl, ?_⟩) ?_
              rotate_left
              · (intro w hSw; (try dsimp only at hSw); go_simp; (try with_reducible rfl))
              (try simp only [Act.put, List.setIfInBounds_toArray, List.set_cons_zero, List.set_cons_succ])
              refine M_take (v := ?_) 2 rfl (by kernel_rfl) (by assumption) (fun _ _ _ h => h) (Or.inl ⟨by rfl, ?_⟩) ?_
              rotate_left
              · (intro w hSw; (try dsimp only at hSw); go_simp; (try with_reducible rfl))
              (try simp only [Act.put, List.setIfInBounds_toArray, List.set_cons_zero, List.set_cons_succ])
              refine M_take (v := ?_) 3 rfl (by kernel_rfl) (by assumption) (fun _ _ _ h => h) (Or.inl ⟨by rfl, ?_⟩) ?_
              rotate_left
              · (intro w hSw; (try dsimp only at hSw); go_simp; (try with_reducible rfl))
              (try simp only [Act.put, List.setIfInBounds_toArray, List.set_cons_zero, List.set_cons_succ])
              refine M_take (v := ?_) 4 rfl (by kernel_rfl) (by assumption) (fun _ _ _ h => h) (Or.inl ⟨by rfl, ?_⟩) ?_
              rotate_left
              · (intro w hSw; (try dsimp only at hSw); go_simp; (try with_reducible rfl))
              (try simp only [Act.put, List.setIfInBounds_toArray, List.set_cons_zero, List.set_cons_succ])
              refine M_take (v := ?_) 5 rfl (by kernel_rfl) (by assumption) (fun _ _ _ h => h) (Or.inl ⟨by rfl, ?_⟩) ?_
              rotate_left
              · (intro w hSw; (try dsimp only at hSw); go_simp; (try with_reducible rfl))
              (try simp only [Act.put, List.setIfInBounds_toArray, List.set_cons_zero, List.set_cons_succ])
              refine M_take (v := ?_) 6 rfl (by kernel_rfl) (by assumption) (fun _ _ _ h => h) (Or.inl ⟨by rfl, ?_⟩) ?_
              rotate_left
              · (intro w hSw; (try dsimp only at hSw); go_simp; (try with_reducible rfl))
              (try simp only [Act.put, List.setIfInBounds_toArray, List.set_cons_zero, List.set_cons_succ])
              refine M_take (v := ?_) 7 rfl (by kernel_rfl) (by assumption) (fun _ _ _ h => h) (Or.inl ⟨by rfl, ?_⟩) ?_
              rotate_left
              · (intro w hSw; (try dsimp only at hSw); go_simp; (try with_reducible rfl))
              (try simp only [Act.put, List.setIfInBounds_toArray, List.set_cons_zero, List.set_cons_succ])
              refine M_take (v := ?_) 8 rfl (by kernel_rfl) (by assumption) (fun _ _ _ h => h) (Or.inl ⟨by rfl, ?_⟩) ?_
              rotate_left
              · (intro w hSw; (try dsimp only at hSw); go_simp; (try with_reducible rfl))
              (try simp only [Act.put, List.setIfInBounds_toArray, List.set_cons_zero, List.set_cons_succ])
              refine M_take (v := ?_) 9 rfl (by kernel_rfl) (by assumption) (fun _ _ _ h => h) (Or.inl ⟨by rfl, ?_⟩) ?_
              rotate_left
              · (intro w hSw; (try dsimp only at hSw); go_simp; (try with_reducible rfl))
              (try simp only [Act.put, List.setIfInBounds_toArray, List.set_cons_zero, List.set_cons_succ])
              refine M_take (v := ?_) 10 rfl (by kernel_rfl) (by assumption) (fun _ _ _ h => h) (Or.inl ⟨by rfl, ?_⟩) ?_
              rotate_left
              · (intro w hSw; (try dsimp only at hSw); go_simp; (try with_reducible rfl))
              (try simp only [Act.put, List.setIfInBounds_toArray, List.set_cons_zero, List.set_cons_succ])
              refine M_take (v := ?_) 11 rfl (by kernel_rfl) (by assumption) (fun _ _ _ h => h) (Or.inl ⟨by rfl, ?_⟩) ?_
              rotate_left
              · (intro w hSw; (try dsimp only at hSw); go_simp; (try with_reducible rfl))
              (try simp only [Act.put, List.setIfInBounds_toArray, List.set_cons_zero, List.set_cons_succ])
              refine M_take (v := ?_) 12 rfl (by kernel_rfl) (by assumption) (fun _ _ _ h => h) (Or.inl ⟨by rfl, ?_⟩) ?_
              rotate_left
              · (intro w hSw; (try dsimp only at hSw); go_simp; (try with_reducible rfl))
              (try simp only [Act.put, List.setIfInBounds_toArray, List.set_cons_zero, List.set_cons_succ])
              refine M_take (v := ?_) 13 rfl (by kernel_rfl) (by assumption) (fun _ _ _ h => h) (Or.inl ⟨by rfl, ?_⟩) ?_
              rotate_left
              · (intro w hSw; (try dsimp only at hSw); go_simp; (try with_reducible rfl))
              (try simp only [Act.put, List.setIfInBounds_toArray, List.set_cons_zero, List.set_cons_succ])
              refine M_take (v := ?_) 14 rfl (by kernel_rfl) (by assumption) (fun _ _ _ h => h) (Or.inl ⟨by rfl, ?_⟩) ?_
              rotate_left
              · (intro w hSw; (try dsimp only at hSw); go_simp; (try with_reducible rfl))
              (try simp only [Act.put, List.setIfInBounds_toArray, List.set_cons_zero, List.set_cons_succ])
              refine M_take (v := ?_) 15 rfl (by kernel_rfl) (by assumption) (fun _ _ _ h => h) (Or.inl ⟨by rfl, ?_⟩) ?_
              rotate_left
              · (intro w hSw; (try dsimp only at hSw); go_simp; (try with_reducible rfl))
              (try simp only [Act.put, List.setIfInBounds_toArray, List.set_cons_zero, List.set_cons_succ])
              refine M_take (v := ?_) 16 rfl (by kernel_rfl) (by assumption) (fun _ _ _ h => h) (Or.inl ⟨by rfl, ?_⟩) ?_
              rotate_left
              · (intro w hSw; (try dsimp only at hSw); go_simp; (try with_reducible rfl))
              (try simp only [Act.put, List.setIfInBounds_toArray, List.set_cons_zero, List.set_cons_succ])
              refine M_take (v := ?_) 17 rfl (by kernel_rfl) (by assumption) (fun _ _ _ h => h) (Or.inl ⟨by rfl, ?_⟩) ?_
              rotate_left
              · (intro w hSw; (try dsimp only at hSw); go_simp; (try with_reducible rfl))
              (try simp only [Act.put, List.setIfInBounds_toArray, List.set_cons_zero, List.set_cons_succ])
              refine M_take (v := ?_) 18 rfl (by kernel_rfl) (by assumption) (fun _ _ _ h => h) (Or.inl ⟨by rfl, ?_⟩) ?_
              rotate_left
              · (intro w hSw; (try dsimp only at hSw); go_simp; (try with_reducible rfl))
              (try simp only [Act.put, List.setIfInBounds_toArray, List.set_cons_zero, List.set_cons_succ])
              refine M_take (v := ?_) 19 rfl (by kernel_rfl) (by assumption) (fun _ _ _ h => h) (Or.inl ⟨by rfl, ?_⟩) ?_
              rotate_left
              · (intro w hSw; (try dsimp only at hSw); go_simp; (try with_reducible rfl))
              (try simp only [Act.put, List.setIfInBounds_toArray, List.set_cons_zero, List.set_cons_succ])
              refine M_take (v := ?_) 20 rfl (by kernel_rfl) (by assumption) (fun _ _ _ h => h) (Or.inl ⟨by rfl, ?_⟩) ?_
              rotate_left
              · (intro w hSw; (try dsimp only at hSw); go_simp; (try with_reducible rfl))
              (try simp only [Act.put, List.setIfInBounds_toArray, List.set_cons_zero, List.set_cons_succ])
              refine M_take (v := ?_) 21 rfl (by kernel_rfl) (by assumption) (fun _ _ _ h => h) (Or.inl ⟨by rfl, ?_⟩) ?_
              rotate_left
              · (intro w hSw; (try dsimp only at hSw); go_simp; (try with_reducible rfl))
              (try simp only [Act.put, List.setIfInBounds_toArray, List.set_cons_zero, List.set_cons_succ])
              refine M_take (v := ?_) 22 rfl (by kernel_rfl) (by assumption) (fun _ _ _ h => h) (Or.inl ⟨by rfl, ?_⟩) ?_
              rotate_left
              · (intro w hSw; (try dsimp only at hSw); go_simp; (try with_reducible rfl))
              (try simp only [Act.put, List.setIfInBounds_toArray, List.set_cons_zero, List.set_cons_succ])
              refine M_take (v := ?_) 23 rfl (by kernel_rfl) (by assumption) (fun _ _ _ h => h) (Or.inl ⟨by rfl, ?_⟩) ?_
              rotate_left
              · (intro w hSw; (try dsimp only at hSw); go_simp; (try with_reducible rfl))
              (try simp only [Act.put, List.setIfInBounds_toArray, List.set_cons_zero, List.set_cons_succ])
              refine M_take (v := ?_) 24 rfl (by kernel_rfl) (by assumption) (fun _ _ _ h => h) (Or.inl ⟨by rfl, ?_⟩) ?_
              rotate_left
              · (intro w hSw; (try dsimp only at hSw); go_simp; (try with_reducible rfl))
              (try simp only [Act.put, List.setIfInBounds_toArray, List.set_cons_zero, List.set_cons_succ])
              refine M_take (v := ?_) 25 rfl (by kernel_rfl) (by assumption) (fun _ _ _ h => h) (Or.inl ⟨by rfl, ?_⟩) ?_
              rotate_left
              · (intro w hSw; (try dsimp only at hSw); go_simp; (try with_reducible rfl))
              (try simp only [Act.put, List.setIfInBounds_toArray, List.set_cons_zero, List.set_cons_succ])
              refine M_take (v := ?_) 26 rfl (by kernel_rfl) (by assumption) (fun _ _ _ h => h) (Or.inl ⟨by rfl, ?_⟩) ?_
              rotate_left
              · (intro w hSw; (try dsimp only at hSw); go_simp; (try with_reducible rfl))
              (try simp only [Act.put, List.setIfInBounds_toArray, List.set_cons_zero, List.set_cons_succ])
              refine M_take (v := ?_) 27 rfl (by kernel_rfl) (by assumption) (fun _ _ _ h => h) (Or.inl ⟨by rfl, ?_⟩) ?_
              rotate_left
              · (intro w hSw; (try dsimp only at hSw); go_simp; (try with_reducible rfl))
              (try simp only [Act.put, List.setIfInBounds_toArray, List.set_cons_zero, List.set_cons_succ])
              refine M_take (v := ?_) 28 rfl (by kernel_rfl) (by assumption) (fun _ _ _ h => h) (Or.inl ⟨by rfl, ?_⟩) ?_
              rotate_left
              · (intro w hSw; (try dsimp only at hSw); go_simp; (try with_reducible rfl))
              (try simp only [Act.put, List.setIfInBounds_toArray, List.set_cons_zero, List.set_cons_succ])
              refine M_take (v := ?_) 29 rfl (by kernel_rfl) (by assumption) (fun _ _ _ h => h) (Or.inl ⟨by rfl, ?_⟩) ?_
              rotate_left
              · (intro w hSw; (try dsimp only at hSw); go_simp; (try with_reducible rfl))
              (try simp only [Act.put, List.setIfInBounds_toArray, List.set_cons_zero, List.set_cons_succ])
              refine M_take (v := ?_) 30 rfl (by kernel_rfl) (by assumption) (fun _ _ _ h => h) (Or.inl ⟨by rfl, ?_⟩) ?_
              rotate_left
              · (intro w hSw; (try dsimp only at hSw); go_simp; (try with_reducible rfl))
              (try simp only [Act.put, List.setIfInBounds_toArray, List.set_cons_zero, List.set_cons_succ])
              refine M_take (v := ?_) 31 rfl (by kernel_rfl) (by assumption) (fun _ _ _ h => h) (Or.inl ⟨by rfl, ?_⟩) ?_
              rotate_left
              · (intro w hSw; (try dsimp only at hSw); go_simp; (try with_reducible rfl))
              (try simp only [Act.put, List.setIfInBounds_toArray, List.set_cons_zero, List.set_cons_succ])
              refine M_take (v := ?_) 32 rfl (by kernel_rfl) (by assumption) (fun _ _ _ h => h) (Or.inl ⟨by rfl, ?_⟩) ?_
              rotate_left
              · (intro w hSw; (try dsimp only at hSw); go_simp; (try with_reducible rfl))
              (try simp only [Act.put, List.setIfInBounds_toArray, List.set_cons_zero, List.set_cons_succ])
              refine M_take (v := ?_) 33 rfl (by kernel_rfl) (by assumption) (fun _ _ _ h => h) (Or.inl ⟨by rfl, ?_⟩) ?_
              rotate_left
              · (intro w hSw; (try dsimp only at hSw); go_simp; (try with_reducible rfl))
              (try simp only [Act.put, List.setIfInBounds_toArray, List.set_cons_zero, List.set_cons_succ])
              refine M_step 34 rfl (by kernel_rfl) (fun K hK => ?_)
              go_simp
              skip
              refine hK.out _ _ (fun e => by cases e) ?_
              clear hK K
              (try simp only [Act.put, List.setIfInBounds_toArray, List.set_cons_zero, List.set_cons_succ])
              refine M_done (by kernel_rfl) ?_ _
              clear hT0 g0 g1 g2 g3 f0 f1 gl u0 u1 wu wv wm
              have wj := WJ.out
              go_wp2_with fail
              go_roundw
              case rel => exact ⟨j + 1, by omega, by omega, by first | rfl | go_num, (HST.out.up (Below.refl _ _).drew).congr fun i _ => HF.out i⟩
              case measure => (simp [intOf] <;> omega)
            · have hjk2 : j = k := by omega
              have hji : ¬ ((j : Int) < (k : Int)) := by omega
              have I6 : Hid (SpI d w k (bwK d.n (gapF d) (fwd (gapF d) (mkS F m)) 0) w3) := Lib.hid (I.out.congr fun i hi => by
                have := HN.out
                rw [bwK_0 _ _ _ i (by omega)]
                unfold fwK
                rw [if_pos (by omega)])
              have wn : IntKind.i64.wrap ((k : Int) - 2) = (k : Int) - 2 := IntWalk.i64_in _ (by omega)
              clear I
              go_wp2_with fail
              clear hjk2 hjk hji hj hj0 hj1 hq wn
              go_loopw [13, 14] (fun v _ wr => ∃ (r : Nat) (z : Int), r ≤ d.n ∧ v = .int .i64 z ∧ Hid (z = (d.n : Int) - 1 - r) ∧ SpI d w k (bwK d.n (gapF d) (fwd (gapF d) (mkS F m)) r) wr) (fun v _ _ => (intOf v + 1).toNat)
              case atStart => exact ⟨0, _, Nat.zero_le _, rfl, Lib.hid (by have := HN.out; omega), I6.out⟩
              case round =>
                obtain ⟨r, z, hr, rfl, hz, hI⟩ := hrel
                obtain ⟨w4, rfl⟩ : ∃ w4 : World, w4 = wr := ⟨_, rfl⟩
                have I := Lib.hid hI
                clear hI
                by_cases hrn : r < d.n
                · have hz1 := hz.out
                  obtain ⟨j, rfl⟩ : ∃ j : Nat, z = (j : Int) := ⟨z.toNat, by omega⟩
                  have hjr : j = d.n - 1 - r := by omega
                  have hNd := HN.out
                  have hj0 : (0 : Int) ≤ (j : Int) := by omega
                  have hj0' : decide ((j : Int) ≥ 0) = true := decide_eq_true (by omega)
                  have hjk : j < k := by omega
                  have hji : (j : Int) < (k : Int) := by omega
                  have hjn : j < d.n := by omega
                  obtain ⟨q, hq⟩ : ∃ q, q = j + 1 := ⟨_, rfl⟩
                  have hqi : (q : Int) < (k : Int) := by omega
                  have hq0 : (0 : Int) ≤ (q : Int) := by omega
                  have hqk : q < k := by omega
                  have wq : IntKind.i64.wrap ((j : Int) + 1) = (q : Int) := by rw [show ((j : Int) + 1) = (q : Int) by omega]; exact IntWalk.i64_in _ (by omega)
                  have wm : IntKind.i64.wrap ((j : Int) - 1) = (j : Int) - 1 := IntWalk.i64_in _ (by omega)
                  have WM := Lib.hid wm
                  have hF : ∀ i, i < k → upd (bwK d.n (gapF d) (fwd (gapF d) (mkS F m)) r) j (nar (bwK d.n (gapF d) (fwd (gapF d) (mkS F m)) r j) (addS (bwK d.n (gapF d) (fwd (gapF d) (mkS F m)) r q) (oppS (gapF d j)))) i = bwK d.n (gapF d) (fwd (gapF d) (mkS F m)) (r + 1) i := fun i hi => by rw [hq, hjr]; exact bwK_succ _ _ _ _ _ hrn (by omega)
                  have hb1 := bwK_bd (G := gapF d) (by omega) HTK.out HG.out r j (by omega)
                  have hb2 := bwK_bd (G := gapF d) (by omega) HTK.out HG.out r q (by omega)
                  have hb3 := HG.out j hjn
                  have KG := Lib.hid (Rgap_any d j w4 (DD.out w4 I.out.bl) HD.out hjn)
                  have g0 := I.out.sp.c0 j hjk
                  have g1 := I.out.sp.c1 j hjk
                  have g2 := I.out.sp.c0 q hqk
                  have g3 := I.out.sp.c1 q hqk
                  obtain ⟨⟨u, v⟩, huv⟩ : ∃ g, g = gapF d j := ⟨_, rfl⟩
                  obtain ⟨⟨a1, b1⟩, h1⟩ : ∃ g, g = bwK d.n (gapF d) (fwd (gapF d) (mkS F m)) r j := ⟨_, rfl⟩
                  obtain ⟨⟨a0, b0⟩, h0⟩ : ∃ g, g = bwK d.n (gapF d) (fwd (gapF d) (mkS F m)) r q := ⟨_, rfl⟩
                  rw [← huv] at KG hF hb3
                  rw [← h1] at hF hb1 g0 g1
                  rw [← h0] at hF hb2 g2 g3
                  unfold Bd at hb1 hb2
                  simp only [nar, addS, oppS, ← Int.sub_eq_add_neg] at hF hb1 hb2 hb3 g0 g1 g2 g3
                  have wu : IntKind.i64.wrap (a0 - v) = a0 - v := IntWalk.i64_in _ (by omega)
                  have wv : IntKind.i64.wrap (b0 - u) = b0 - u := IntWalk.i64_in _ (by omega)
                  have HF := Lib.hid hF
                  have HZ2 : Hid ((j : Int) - 1 = (d.n : Int) - 1 - ((r + 1 : Nat) : Int)) := Lib.hid (by omega)
                  have G : Hid (∀ W, Below w4.heap.size w4 W → W.cell? ⟨w.heap.size + 1, j * 2, none⟩ = some (.int .i64 a1) ∧ W.cell? ⟨w.heap.size + 1, j * 2 + 1, none⟩ = some (.int .i64 b1) ∧ W.cell? ⟨w.heap.size + 1, q * 2, none⟩ = some (.int .i64 a0) ∧ W.cell? ⟨w.heap.size + 1, q * 2 + 1, none⟩ = some (.int .i64 b0)) := Lib.hid fun W h => ⟨cell_up h I.out.sp.lt g0, cell_up h I.out.sp.lt g1, cell_up h I.out.sp.lt g2, cell_up h I.out.sp.lt g3⟩
                  obtain ⟨x0, x1⟩ := I.out.dr
                  clear huv h1 h0 hb1 hb2 hb3 hq g0 g1 g2 g3 hF hz hz1 hjr hNd wm
                  go_wp2_with fail
                  refine KG.out.mono ?_
                  rintro e w5 ⟨rfl, hb5⟩
                  have B5 := Lib.hid hb5
                  have I5 := Lib.hid (I.out.up hb5)
                  clear hb5 x0 x1
                  go_wp2_with fail
                  obtain ⟨w6, hw6⟩ : ∃ w6 : World, w6 = w5.alloc (.cells #[.int .i64 u, .int .i64 v] 31) := ⟨_, rfl⟩
                  rw [← hw6]
                  have B6 := Lib.hid (show Below w4.heap.size w4 w6 from by rw [hw6]; exact nextB B5.out (box1 _ _))
                  have I6 := Lib.hid (show SpI d w k (bwK d.n (gapF d) (fwd (gapF d) (mkS F m)) r) w6 from by rw [hw6]; exact I5.out.up (box1 _ _))
                  have U6 := Lib.hid (show Bt w5.heap.size u v w6 from by rw [hw6]; exact Bt.new _ _ _ _)
                  clear hw6
                  obtain ⟨g0, g1, g2, g3⟩ := G.out w6 B6.out
                  obtain ⟨u0, u1, _, _⟩ := U6.out
                  have f0 := I6.out.sp.f (j * 2)
                  have f1 := I6.out.sp.f (j * 2 + 1)
                  have gl := I6.out.sp.lt
                  have HST := Lib.hid (I6.out.set hjk (max a1 (a0 - v)) (min b1 (b0 - u)))
                  refine wp_region_M [34] (fun w' => w'.cell? ⟨w.heap.size + 1, j * 2, none⟩ = some (.int .i64 a1) ∧ w'.cell? ⟨w.heap.size + 1, j * 2 + 1, none⟩ = some (.int .i64 b1) ∧ w'.cell? ⟨w.heap.size + 1, q * 2, none⟩ = some (.int .i64 a0) ∧ w'.cell? ⟨w.heap.size + 1, q * 2 + 1, none⟩ = some (.int .i64 b0) ∧ w'.cell? ⟨w5.heap.size, 0, none⟩ = some (.int .i64 u) ∧ w'.cell? ⟨w5.heap.size, 1, none⟩ = some (.int .i64 v)) (by kernel_rfl) (by kernel_rfl) (by (try dsimp only); (repeat' apply And.intro); all_goals first | assumption | (go_simp; done)) (fun hT0 => ?_)
                  refine M_take (v := ?_) 0 rfl (by kernel_rfl) (by assumption) (fun _ _ _ h => h) (Or.inl ⟨by rfl, ?_⟩) ?_
                  rotate_left
                  · (intro w hSw; (try dsimp only at hSw); go_simp; (try with_reducible rfl))
                  (try simp only [Act.put, List.setIfInBounds_toArray, List.set_cons_zero, List.set_cons_succ])
                  refine M_take (v := ?_) 1 rfl (by kernel_rfl) (by assumption) (fun _ _ _ h => h) (Or.inl ⟨by rfl, ?_⟩) ?_
                  rotate_left
                  · (intro w hSw; (try dsimp only at hSw); go_simp; (try with_reducible rfl))
                  (try simp only [Act.put, List.setIfInBounds_toArray, List.set_cons_zero, List.set_cons_succ])
                  refine M_take (v := ?_) 2 rfl (by kernel_rfl) (by assumption) (fun _ _ _ h => h) (Or.inl ⟨by rfl, ?_⟩) ?_
                  rotate_left
                  · (intro w hSw; (try dsimp only at hSw); go_simp; (try with_reducible rfl))
                  (try simp only [Act.put, List.setIfInBounds_toArray, List.set_cons_zero, List.set_cons_succ])
                  refine M_take (v := ?_) 3 rfl (by kernel_rfl) (by assumption) (fun _ _ _ h => h) (Or.inl ⟨by rfl, ?_⟩) ?_
                  rotate_left
                  · (intro w hSw; (try dsimp only at hSw); go_simp; (try with_reducible rfl))
                  (try simp only [Act.put, List.setIfInBounds_toArray, List.set_cons_zero, List.set_cons_succ])
                  refine M_take (v := ?_) 4 rfl (by kernel_rfl) (by assumption) (fun _ _ _ h => h) (Or.inl ⟨by rfl, ?_⟩) ?_
                  rotate_left
                  · (intro w hSw; (try dsimp only at hSw); go_simp; (try with_reducible rfl))
                  (try simp only [Act.put, List.setIfInBounds_toArray, List.set_cons_zero, List.set_cons_succ])
                  refine M_take (v := ?_) 5 rfl (by kernel_rfl) (by assumption) (fun _ _ _ h => h) (Or.inl ⟨by rfl, ?_⟩) ?_
                  rotate_left
                  · (intro w hSw; (try dsimp only at hSw); go_simp; (try with_reducible rfl))
                  (try simp only [Act.put, List.setIfInBounds_toArray, List.set_cons_zero, List.set_cons_succ])
                  refine M_take (v := ?_) 6 rfl (by kernel_rfl) (by assumption) (fun _ _ _ h => h) (Or.inl ⟨by rfl, ?_⟩) ?_
                  rotate_left
                  · (intro w hSw; (try dsimp only at hSw); go_simp; (try with_reducible rfl))
                  (try simp only [Act.put, List.setIfInBounds_toArray, List.set_cons_zero, List.set_cons_succ])
                  refine M_take (v := ?_) 7 rfl (by kernel_rfl) (by assumption) (fun _ _ _ h => h) (Or.inl ⟨by rfl, ?_⟩) ?_
                  rotate_left
                  · (intro w hSw; (try dsimp only at hSw); go_simp; (try with_reducible rfl))
                  (try simp only [Act.put, List.setIfInBounds_toArray, List.set_cons_zero, List.set_cons_succ])
                  refine M_take (v := ?_) 8 rfl (by kernel_rfl) (by assumption) (fun _ _ _ h => h) (Or.inl ⟨by rfl, ?_⟩) ?_
                  rotate_left
                  · (intro w hSw; (try dsimp only at hSw); go_simp; (try with_reducible rfl))
                  (try simp only [Act.put, List.setIfInBounds_toArray, List.set_cons_zero, List.set_cons_succ])
                  refine M_take (v := ?_) 9 rfl (by kernel_rfl) (by assumption) (fun _ _ _ h => h) (Or.inl ⟨by rfl, ?_⟩) ?_
                  rotate_left
                  · (intro w hSw; (try dsimp only at hSw); go_simp; (try with_reducible rfl))
                  (try simp only [Act.put, List.setIfInBounds_toArray, List.set_cons_zero, List.set_cons_succ])
                  refine M_take (v := ?_) 10 rfl (by kernel_rfl) (by assumption) (fun _ _ _ h => h) (Or.inl ⟨by rfl, ?_⟩) ?_
                  rotate_left
                  · (intro w hSw; (try dsimp only at hSw); go_simp; (try with_reducible rfl))
                  (try simp only [Act.put, List.setIfInBounds_toArray, List.set_cons_zero, List.set_cons_succ])
                  refine M_take (v := ?_) 11 rfl (by kernel_rfl) (by assumption) (fun _ _ _ h => h) (Or.inl ⟨by rfl, ?_⟩) ?_
                  rotate_left
                  · (intro w hSw; (try dsimp only at hSw); go_simp; (try with_reducible rfl))
                  (try simp only [Act.put, List.setIfInBounds_toArray, List.set_cons_zero, List.set_cons_succ])
                  refine M_take (v := ?_) 12 rfl (by kernel_rfl) (by assumption) (fun _ _ _ h => h) (Or.inl ⟨by rfl, ?_⟩) ?_
                  rotate_left
                  · (intro w hSw; (try dsimp only at hSw); go_simp; (try with_reducible rfl))
                  (try simp only [Act.put, List.setIfInBounds_toArray, List.set_cons_zero, List.set_cons_succ])
                  refine M_take (v := ?_) 13 rfl (by kernel_rfl) (by assumption) (fun _ _ _ h => h) (Or.inl ⟨by rfl, ?_⟩) ?_
                  rotate_left
                  · (intro w hSw; (try dsimp only at hSw); go_simp; (try with_reducible rfl))
                  (try simp only [Act.put, List.setIfInBounds_toArray, List.set_cons_zero, List.set_cons_succ])
                  refine M_take (v := ?_) 14 rfl (by kernel_rfl) (by assumption) (fun _ _ _ h => h) (Or.inl ⟨by rfl, ?_⟩) ?_
                  rotate_left
                  · (intro w hSw; (try dsimp only at hSw); go_simp; (try with_reducible rfl))
                  (try simp only [Act.put, List.setIfInBounds_toArray, List.set_cons_zero, List.set_cons_succ])
                  refine M_take (v := ?_) 15 rfl (by kernel_rfl) (by assumption) (fun _ _ _ h => h) (Or.inl ⟨by rfl, ?_⟩) ?_
                  rotate_left
                  · (intro w hSw; (try dsimp only at hSw); go_simp; (try with_reducible rfl))
                  (try simp only [Act.put, List.setIfInBounds_toArray, List.set_cons_zero, List.set_cons_succ])
                  refine M_take (v := ?_) 16 rfl (by kernel_rfl) (by assumption) (fun _ _ _ h => h) (Or.inl ⟨by rfl, ?_⟩) ?_
                  rotate_left
                  · (intro w hSw; (try dsimp only at hSw); go_simp; (try with_reducible rfl))
                  (try simp only [Act.put, List.setIfInBounds_toArray, List.set_cons_zero, List.set_cons_succ])
                  refine M_take (v := ?_) 17 rfl (by kernel_rfl) (by assumption) (fun _ _ _ h => h) (Or.inl ⟨by rfl, ?_⟩) ?_
                  rotate_left
                  · (intro w hSw; (try dsimp only at hSw); go_simp; (try with_reducible rfl))
                  (try simp only [Act.put, List.setIfInBounds_toArray, List.set_cons_zero, List.set_cons_succ])
                  refine M_take (v := ?_) 18 rfl (by kernel_rfl) (by assumption) (fun _ _ _ h => h) (Or.inl ⟨by rfl, ?_⟩) ?_
                  rotate_left
                  · (intro w hSw; (try dsimp only at hSw); go_simp; (try with_reducible rfl))
                  (try simp only [Act.put, List.setIfInBounds_toArray, List.set_cons_zero, List.set_cons_succ])
                  refine M_take (v := ?_) 19 rfl (by kernel_rfl) (by assumption) (fun _ _ _ h => h) (Or.inl ⟨by rfl, ?_⟩) ?_
                  rotate_left
                  · (intro w hSw; (try dsimp only at hSw); go_simp; (try with_reducible rfl))
                  (try simp only [Act.put, List.setIfInBounds_toArray, List.set_cons_zero, List.set_cons_succ])
                  refine M_take (v := ?_) 20 rfl (by kernel_rfl) (by assumption) (fun _ _ _ h => h) (Or.inl ⟨by rfl, ?_⟩) ?_
                  rotate_left
                  · (intro w hSw; (try dsimp only at hSw); go_simp; (try with_reducible rfl))
                  (try simp only [Act.put, List.setIfInBounds_toArray, List.set_cons_zero, List.set_cons_succ])
                  refine M_take (v := ?_) 21 rfl (by kernel_rfl) (by assumption) (fun _ _ _ h => h) (Or.inl ⟨by rfl, ?_⟩) ?_
                  rotate_left
                  · (intro w hSw; (try dsimp only at hSw); go_simp; (try with_reducible rfl))
                  (try simp only [Act.put, List.setIfInBounds_toArray, List.set_cons_zero, List.set_cons_succ])
                  refine M_take (v := ?_) 22 rfl (by kernel_rfl) (by assumption) (fun _ _ _ h => h) (Or.inl ⟨by rfl, ?_⟩) ?_
                  rotate_left
                  · (intro w hSw; (try dsimp only at hSw); go_simp; (try with_reducible rfl))
                  (try simp only [Act.put, List.setIfInBounds_toArray, List.set_cons_zero, List.set_cons_succ])
                  refine M_take (v := ?_) 23 rfl (by kernel_rfl) (by assumption) (fun _ _ _ h => h) (Or.inl ⟨by rfl, ?_⟩) ?_
                  rotate_left
                  · (intro w hSw; (try dsimp only at hSw); go_simp; (try with_reducible rfl))
                  (try simp only [Act.put, List.setIfInBounds_toArray, List.set_cons_zero, List.set_cons_succ])
                  refine M_take (v := ?_) 24 rfl (by kernel_rfl) (by assumption) (fun _ _ _ h => h) (Or.inl ⟨by rfl, ?_⟩) ?_
                  rotate_left
                  · (intro w hSw; (try dsimp only at hSw); go_simp; (try with_reducible rfl))
                  (try simp only [Act.put, List.setIfInBounds_toArray, List.set_cons_zero, List.set_cons_succ])
                  refine M_take (v := ?_) 25 rfl (by kernel_rfl) (by assumption) (fun _ _ _ h => h) (Or.inl ⟨by rfl, ?_⟩) ?_
                  rotate_left
                  · (intro w hSw; (try dsimp only at hSw); go_simp; (try with_reducible rfl))
                  (try simp only [Act.put, List.setIfInBounds_toArray, List.set_cons_zero, List.set_cons_succ])
                  refine M_take (v := ?_) 26 rfl (by kernel_rfl) (by assumption) (fun _ _ _ h => h) (Or.inl ⟨by rfl, ?_⟩) ?_
                  rotate_left
                  · (intro w hSw; (try dsimp only at hSw); go_simp; (try with_reducible rfl))
                  (try simp only [Act.put, List.setIfInBounds_toArray, List.set_cons_zero, List.set_cons_succ])
                  refine M_take (v := ?_) 27 rfl (by kernel_rfl) (by assumption) (fun _ _ _ h => h) (Or.inl ⟨by rfl, ?_⟩) ?_
                  rotate_left
                  · (intro w hSw; (try dsimp only at hSw); go_simp; (try with_reducible rfl))
                  (try simp only [Act.put, List.setIfInBounds_toArray, List.set_cons_zero, List.set_cons_succ])
                  refine M_take (v := ?_) 28 rfl (by kernel_rfl) (by assumption) (fun _ _ _ h => h) (Or.inl ⟨by rfl, ?_⟩) ?_
                  rotate_left
                  · (intro w hSw; (try dsimp only at hSw); go_simp; (try with_reducible rfl))
                  (try simp only [Act.put, List.setIfInBounds_toArray, List.set_cons_zero, List.set_cons_succ])
                  refine M_take (v := ?_) 29 rfl (by kernel_rfl) (by assumption) (fun _ _ _ h => h) (Or.inl ⟨by rfl, ?_⟩) ?_
                  rotate_left
                  · (intro w hSw; (try dsimp only at hSw); go_simp; (try with_reducible rfl))
                  (try simp only [Act.put, List.setIfInBounds_toArray, List.set_cons_zero, List.set_cons_succ])
                  refine M_take (v := ?_) 30 rfl (by kernel_rfl) (by assumption) (fun _ _ _ h => h) (Or.inl ⟨by rfl, ?_⟩) ?_
                  rotate_left
                  · (intro w hSw; (try dsimp only at hSw); go_simp; (try with_reducible rfl))
                  (try simp only [Act.put, List.setIfInBounds_toArray, List.set_cons_zero, List.set_cons_succ])
                  refine M_take (v := ?_) 31 rfl (by kernel_rfl) (by assumption) (fun _ _ _ h => h) (Or.inl ⟨by rfl, ?_⟩) ?_
                  rotate_left
                  · (intro w hSw; (try dsimp only at hSw); go_simp; (try with_reducible rfl))
                  (try simp only [Act.put, List.setIfInBounds_toArray, List.set_cons_zero, List.set_cons_succ])
                  refine M_take (v := ?_) 32 rfl (by kernel_rfl) (by assumption) (fun _ _ _ h => h) (Or.inl ⟨by rfl, ?_⟩) ?_
                  rotate_left
                  · (intro w hSw; (try dsimp only at hSw); go_simp; (try with_reducible rfl))
                  (try simp only [Act.put, List.setIfInBounds_toArray, List.set_cons_zero, List.set_cons_succ])
                  refine M_take (v := ?_) 33 rfl (by kernel_rfl) (by assumption) (fun _ _ _ h => h) (Or.inl ⟨by rfl, ?_⟩) ?_
                  rotate_left
                  · (intro w hSw; (try dsimp only at hSw); go_simp; (try with_reducible rfl))
                  (try simp only [Act.put, List.setIfInBounds_toArray, List.set_cons_zero, List.set_cons_succ])
                  refine M_step 34 rfl (by kernel_rfl) (fun K hK => ?_)
                  go_simp
                  skip
                  refine hK.out _ _ (fun e => by cases e) ?_
                  clear hK K
                  (try simp only [Act.put, List.setIfInBounds_toArray, List.set_cons_zero, List.set_cons_succ])
                  refine M_done (by kernel_rfl) ?_ _
                  clear hT0 g0 g1 g2 g3 f0 f1 gl u0 u1 wu wv wq
                  have wm := WM.out
                  go_wp2_with fail
                  go_roundw
                  case rel => exact ⟨r + 1, (j : Int) - 1, by omega, rfl, HZ2, (HST.out.up (Below.refl _ _).drew).congr fun i hi => HF.out i hi⟩
                  case measure => (simp [intOf] <;> omega)
                · have hz1 := hz.out
                  have hz0 : decide (z ≥ 0) = false := decide_eq_false (by omega)
                  have hz0' : decide (0 ≤ z) = false := hz0
                  have I7 : Hid (SpI d w k (spF d.n (gapF d) (mkS F m)) w4) := Lib.hid (I.out.congr fun i hi => by
                    have := HN.out
                    unfold bwK spF
                    rw [if_pos (by omega)])
                  obtain ⟨jb, hb1, hb2, hb3⟩ := first_bad (fun i => neS (spF d.n (gapF d) (mkS F m) i)) k
                  have HB2 := Lib.hid hb2
                  have HB3 := Lib.hid hb3
                  have HIFF : Hid (∀ T, RdS d.n (gapF d) (mkS F m) T ↔ Rdg d.n (gapF d) m F T) := Lib.hid (mkS_iff fun j hj => by have h1 := HK.out.2 j hj; unfold mkOk at h1; exact h1.1)
                  clear I hz1 hz hb2 hb3 hrn
                  go_wp2_with fail
                  clear hz0 hz0'
                  go_loopw [15] (fun v wr => ∃ i : Nat, i ≤ jb ∧ v = .int .i64 i ∧ SpI d w k (spF d.n (gapF d) (mkS F m)) wr) (fun v _ => k - (intOf v).toNat)
                  case atStart => exact ⟨0, Nat.zero_le _, rfl, I7.out⟩
                  case round =>
                    obtain ⟨i, hi, rfl, hI⟩ := hrel
                    obtain ⟨w5, rfl⟩ : ∃ w5 : World, w5 = wr := ⟨_, rfl⟩
                    have I := Lib.hid hI
                    clear hI
                    have hi0 : (0 : Int) ≤ (i : Int) := by omega
                    by_cases hik : i < k
                    · have hii : (i : Int) < (k : Int) := by omega
                      have wi : IntKind.i64.wrap ((i : Int) + 1) = ((i + 1 : Nat) : Int) := by rw [show ((i : Int) + 1) = ((i + 1 : Nat) : Int) by omega]; exact IntWalk.i64_in _ (by omega)
                      have WI := Lib.hid wi
                      clear wi
                      have g0 := I.out.sp.c0 i hik
                      have g1 := I.out.sp.c1 i hik
                      obtain ⟨⟨p, q⟩, hpq⟩ : ∃ g, g = spF d.n (gapF d) (mkS F m) i := ⟨_, rfl⟩
                      rw [← hpq] at g0 g1
                      simp only at g0 g1
                      have HPQ := Lib.hid hpq
                      clear hpq
                      by_cases hij : i < jb
                      · have hne := HB2.out i hij
                        rw [← HPQ.out] at hne
                        unfold neS at hne
                        simp only at hne
                        have d1 : decide (p > q) = false := decide_eq_false (by omega)
                        have d1' : decide (q < p) = false := d1
                        clear hne
                        go_wp2_with fail
                        refine wp_region_M [] (fun w' => w'.cell? ⟨w.heap.size + 1, i * 2, none⟩ = some (.int .i64 p) ∧ w'.cell? ⟨w.heap.size + 1, i * 2 + 1, none⟩ = some (.int .i64 q)) (by kernel_rfl) (by kernel_rfl) (by (try dsimp only); (repeat' apply And.intro); all_goals first | assumption | (go_simp; done)) (fun hT0 => ?_)
                        refine M_take (v := ?_) 0 rfl (by kernel_rfl) (by assumption) (fun _ _ _ h => h) (Or.inl ⟨by rfl, ?_⟩) ?_
                        rotate_left
                        · (intro w hSw; (try dsimp only at hSw); go_simp; (try with_reducible rfl))
                        (try simp only [Act.put, List.setIfInBounds_toArray, List.set_cons_zero, List.set_cons_succ])
                        refine M_take (v := ?_) 1 rfl (by kernel_rfl) (by assumption) (fun _ _ _ h => h) (Or.inl ⟨by rfl, ?_⟩) ?_
                        rotate_left
                        · (intro w hSw; (try dsimp only at hSw); go_simp; (try with_reducible rfl))
                        (try simp only [Act.put, List.setIfInBounds_toArray, List.set_cons_zero, List.set_cons_succ])
                        refine M_take (v := ?_) 2 rfl (by kernel_rfl) (by assumption) (fun _ _ _ h => h) (Or.inl ⟨by rfl, ?_⟩) ?_
                        rotate_left
                        · (intro w hSw; (try dsimp only at hSw); go_simp; (try with_reducible rfl))
                        (try simp only [Act.put, List.setIfInBounds_toArray, List.set_cons_zero, List.set_cons_succ])
                        refine M_take (v := ?_) 3 rfl (by kernel_rfl) (by assumption) (fun _ _ _ h => h) (Or.inl ⟨by rfl, ?_⟩) ?_
                        rotate_left
                        · (intro w hSw; (try dsimp only at hSw); go_simp; (try with_reducible rfl))
                        (try simp only [Act.put, List.setIfInBounds_toArray, List.set_cons_zero, List.set_cons_succ])
                        refine M_take (v := ?_) 4 rfl (by kernel_rfl) (by assumption) (fun _ _ _ h => h) (Or.inl ⟨by rfl, ?_⟩) ?_
                        rotate_left
                        · (intro w hSw; (try dsimp only at hSw); go_simp; (try with_reducible rfl))
                        (try simp only [Act.put, List.setIfInBounds_toArray, List.set_cons_zero, List.set_cons_succ])
                        refine M_take (v := ?_) 5 rfl (by kernel_rfl) (by assumption) (fun _ _ _ h => h) (Or.inl ⟨by rfl, ?_⟩) ?_
                        rotate_left
                        · (intro w hSw; (try dsimp only at hSw); go_simp; (try with_reducible rfl))
                        (try simp only [Act.put, List.setIfInBounds_toArray, List.set_cons_zero, List.set_cons_succ])
                        refine M_take (v := ?_) 6 rfl (by kernel_rfl) (by assumption) (fun _ _ _ h => h) (Or.inl ⟨by rfl, ?_⟩) ?_
                        rotate_left
                        · (intro w hSw; (try dsimp only at hSw); go_simp; (try with_reducible rfl))
                        (try simp only [Act.put, List.setIfInBounds_toArray, List.set_cons_zero, List.set_cons_succ])
                        refine M_take (v := ?_) 7 rfl (by kernel_rfl) (by assumption) (fun _ _ _ h => h) (Or.inl ⟨by rfl, ?_⟩) ?_
                        rotate_left
                        · (intro w hSw; (try dsimp only at hSw); go_simp; (try with_reducible rfl))
                        (try simp only [Act.put, List.setIfInBounds_toArray, List.set_cons_zero, List.set_cons_succ])
                        refine M_take (v := ?_) 8 rfl (by kernel_rfl) (by assumption) (fun _ _ _ h => h) (Or.inl ⟨by rfl, ?_⟩) ?_
                        rotate_left
                        · (intro w hSw; (try dsimp only at hSw); go_simp; (try with_reducible rfl))
                        (try simp only [Act.put, List.setIfInBounds_toArray, List.set_cons_zero, List.set_cons_succ])
                        refine M_take (v := ?_) 9 rfl (by kernel_rfl) (by assumption) (fun _ _ _ h => h) (Or.inl ⟨by rfl, ?_⟩) ?_
                        rotate_left
                        · (intro w hSw; (try dsimp only at hSw); go_simp; (try with_reducible rfl))
                        (try simp only [Act.put, List.setIfInBounds_toArray, List.set_cons_zero, List.set_cons_succ])
                        refine M_take (v := ?_) 10 rfl (by kernel_rfl) (by assumption) (fun _ _ _ h => h) (Or.inl ⟨by rfl, ?_⟩) ?_
                        rotate_left
                        · (intro w hSw; (try dsimp only at hSw); go_simp; (try with_reducible rfl))
                        (try simp only [Act.put, List.setIfInBounds_toArray, List.set_cons_zero, List.set_cons_succ])
                        refine M_done (by kernel_rfl) ?_ _
                        clear hT0 g0 g1
                        have wi := WI.out
                        go_wp2_with fail
                        go_roundw
                        case rel => exact ⟨i + 1, by omega, by first | rfl | go_num, I.out.up (Below.refl _ _).drew⟩
                        case measure => (simp [intOf] <;> omega)
                      · have hij2 : i = jb := by omega
                        have hbad := HB3.out (by omega)
                        rw [← hij2] at hbad
                        have hnone : ∀ T, ¬ Rdg d.n (gapF d) m F T := fun T hT => spF_none (by have := HN.out; omega) hbad T ((HIFF.out T).2 hT)
                        obtain rfl : R = false := by
                          rcases HR.out with ⟨_, h⟩ | ⟨h, _⟩
                          · exact absurd h.lo (hnone _)
                          · exact h
                        rw [← HPQ.out] at hbad
                        unfold neS at hbad
                        simp only at hbad
                        have d1 : decide (p > q) = true := decide_eq_true (by omega)
                        have d1' : decide (q < p) = true := d1
                        clear hbad hij2 hnone
                        go_wp2_with fail
                        refine wp_region_M [] (fun w' => w'.cell? ⟨w.heap.size + 1, i * 2, none⟩ = some (.int .i64 p) ∧ w'.cell? ⟨w.heap.size + 1, i * 2 + 1, none⟩ = some (.int .i64 q)) (by kernel_rfl) (by kernel_rfl) (by (try dsimp only); (repeat' apply And.intro); all_goals first | assumption | (go_simp; done)) (fun hT0 => ?_)
                        refine M_take (v := ?_) 0 rfl (by kernel_rfl) (by assumption) (fun _ _ _ h => h) (Or.inl ⟨by rfl, ?_⟩) ?_
                        rotate_left
                        · (intro w hSw; (try dsimp only at hSw); go_simp; (try with_reducible rfl))
                        (try simp only [Act.put, List.setIfInBounds_toArray, List.set_cons_zero, List.set_cons_succ])
                        refine M_take (v := ?_) 1 rfl (by kernel_rfl) (by assumption) (fun _ _ _ h => h) (Or.inl ⟨by rfl, ?_⟩) ?_
                        rotate_left
                        · (intro w hSw; (try dsimp only at hSw); go_simp; (try with_reducible rfl))
                        (try simp only [Act.put, List.setIfInBounds_toArray, List.set_cons_zero, List.set_cons_succ])
                        refine M_take (v := ?_) 2 rfl (by kernel_rfl) (by assumption) (fun _ _ _ h => h) (Or.inl ⟨by rfl, ?_⟩) ?_
                        rotate_left
                        · (intro w hSw; (try dsimp only at hSw); go_simp; (try with_reducible rfl))
                        (try simp only [Act.put, List.setIfInBounds_toArray, List.set_cons_zero, List.set_cons_succ])
                        refine M_take (v := ?_) 3 rfl (by kernel_rfl) (by assumption) (fun _ _ _ h => h) (Or.inl ⟨by rfl, ?_⟩) ?_
                        rotate_left
                        · (intro w hSw; (try dsimp only at hSw); go_simp; (try with_reducible rfl))
                        (try simp only [Act.put, List.setIfInBounds_toArray, List.set_cons_zero, List.set_cons_succ])
                        refine M_take (v := ?_) 4 rfl (by kernel_rfl) (by assumption) (fun _ _ _ h => h) (Or.inl ⟨by rfl, ?_⟩) ?_
                        rotate_left
                        · (intro w hSw; (try dsimp only at hSw); go_simp; (try with_reducible rfl))
                        (try simp only [Act.put, List.setIfInBounds_toArray, List.set_cons_zero, List.set_cons_succ])
                        refine M_take (v := ?_) 5 rfl (by kernel_rfl) (by assumption) (fun _ _ _ h => h) (Or.inl ⟨by rfl, ?_⟩) ?_
                        rotate_left
                        · (intro w hSw; (try dsimp only at hSw); go_simp; (try with_reducible rfl))
                        (try simp only [Act.put, List.setIfInBounds_toArray, List.set_cons_zero, List.set_cons_succ])
                        refine M_take (v := ?_) 6 rfl (by kernel_rfl) (by assumption) (fun _ _ _ h => h) (Or.inl ⟨by rfl, ?_⟩) ?_
                        rotate_left
                        · (intro w hSw; (try dsimp only at hSw); go_simp; (try with_reducible rfl))
                        (try simp only [Act.put, List.setIfInBounds_toArray, List.set_cons_zero, List.set_cons_succ])
                        refine M_take (v := ?_) 7 rfl (by kernel_rfl) (by assumption) (fun _ _ _ h => h) (Or.inl ⟨by rfl, ?_⟩) ?_
                        rotate_left
                        · (intro w hSw; (try dsimp only at hSw); go_simp; (try with_reducible rfl))
                        (try simp only [Act.put, List.setIfInBounds_toArray, List.set_cons_zero, List.set_cons_succ])
                        refine M_take (v := ?_) 8 rfl (by kernel_rfl) (by assumption) (fun _ _ _ h => h) (Or.inl ⟨by rfl, ?_⟩) ?_
                        rotate_left
                        · (intro w hSw; (try dsimp only at hSw); go_simp; (try with_reducible rfl))
                        (try simp only [Act.put, List.setIfInBounds_toArray, List.set_cons_zero, List.set_cons_succ])
                        refine M_take (v := ?_) 9 rfl (by kernel_rfl) (by assumption) (fun _ _ _ h => h) (Or.inl ⟨by rfl, ?_⟩) ?_
                        rotate_left
                        · (intro w hSw; (try dsimp only at hSw); go_simp; (try with_reducible rfl))
                        (try simp only [Act.put, List.setIfInBounds_toArray, List.set_cons_zero, List.set_cons_succ])
                        refine M_take (v := ?_) 10 rfl (by kernel_rfl) (by assumption) (fun _ _ _ h => h) (Or.inl ⟨by rfl, ?_⟩) ?_
                        rotate_left
                        · (intro w hSw; (try dsimp only at hSw); go_simp; (try with_reducible rfl))
                        (try simp only [Act.put, List.setIfInBounds_toArray, List.set_cons_zero, List.set_cons_succ])
                        refine M_done (by kernel_rfl) ?_ _
                        clear hT0 g0 g1
                        go_wp2_with fail
                        go_ret2
                        exact ⟨.slice none 0 0, by simp, I.out.bl.drew, .inl ⟨by decide, rfl⟩⟩
                    · have hik2 : i = k := by omega
                      have hii : ¬ ((i : Int) < (k : Int)) := by omega
                      have hE : Ends d.n (Rdg d.n (gapF d) m F) (spF d.n (gapF d) (mkS F m)) := (spF_ends (fun i hi => by have := HG.out i hi; unfold neS; omega) fun i hi => HB2.out i (by have := HN.out; omega)).congr HIFF.out
                      obtain ⟨rfl, hS⟩ : R = true ∧ Ends d.n (Rdg d.n (gapF d) m F) S := by
                        rcases HR.out with h | ⟨_, h⟩
                        · exact h
                        · exact absurd hE.lo (h _)
                      have I8 := Lib.hid (I.out.congr (S' := S) fun i hi => hE.same hS i (by have := HN.out; omega))
                      clear I hik2 hE hS
                      go_wp2_with fail
                      go_ret2
                      exact ⟨.slice (some ⟨w.heap.size + 1, 0, none⟩) k k, by simp, I8.out.bl, .inr ⟨by simp, w.heap.size + 1, by rw [HN.out], by omega, by rw [← HN.out]; exact I8.out.sp⟩⟩
end Go.Proofs.Ytpikaohodieeaaa
