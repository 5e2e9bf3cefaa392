/- The specification's differences: passed, At, between, Between, lowest, Drift. -/
import Derived.Test.YtpikaohodieeaaaRwi
namespace Go.Proofs.Ytpikaohodieeaaa
open Go.RowKit
set_option linter.unusedSimpArgs false
set_option linter.unusedVariables false
set_option maxRecDepth 100000 in
set_option maxHeartbeats 2000000 in
theorem Rpassed_any (A : Option Addr) (n c : Nat) (Z : Nat → Int) (x : Int) (w : World) (hin : IntsIn A n Z w.heap.size w) :
    Calls Try.prog 101 #[.slice A n c, .int .i64 x] w fun e w' => e = .returned (.int .i64 (lastP Z x n)) ∧ w' = w := by
  have HIN := Lib.hid hin
  have hn := hin.1
  clear hin
  go_enter Try.func101, Try.ntmps101
  go_wp2_with fail
  go_loopw [5, 6] (fun l i wr => ∃ k : Nat, k ≤ n ∧ i = .int .i64 k ∧ l = .int .i64 (lastP Z x k) ∧ wr = w) (fun _ i _ => n - (intOf i).toNat)
  case atStart => exact ⟨0, Nat.zero_le _, rfl, rfl, rfl⟩
  case round =>
    obtain ⟨k, hk, rfl, rfl, hw9⟩ := hrel
    rw [hw9]
    clear hw9 wr
    have hk0 : (0 : Int) ≤ (k : Int) := by omega
    by_cases hlt : k < n
    · obtain ⟨a, rfl, ab, c0⟩ := HIN.out.2 k hlt
      have hki : (k : Int) < (n : Int) := by omega
      have wk : IntKind.i64.wrap ((k : Int) + 1) = ((k + 1 : Nat) : Int) := by rw [show ((k : Int) + 1) = ((k + 1 : Nat) : Int) by omega]; exact IntWalk.i64_in _ (by omega)
      have WK := Lib.hid wk
      clear wk
      by_cases hx : Z k ≤ x
      · have d1 : decide (Z k ≤ x) = true := decide_eq_true hx
        have HL := Lib.hid (show lastP Z x (k + 1) = (k : Int) by simp only [lastP]; rw [if_pos hx])
        generalize lastP Z x k = l at *
        generalize Z k = z at *
        go_wp2_with fail
        have wk := WK.out
        go_wp2_with fail
        go_roundw
        case rel => exact ⟨k + 1, by omega, by first | rfl | go_num, by rw [HL.out], by first | trivial | rfl⟩
        case measure => (simp [intOf] <;> omega)
      · have d1 : decide (Z k ≤ x) = false := decide_eq_false hx
        have HL := Lib.hid (show lastP Z x (k + 1) = lastP Z x k by simp only [lastP]; rw [if_neg hx])
        generalize lastP Z x k = l at *
        generalize Z k = z at *
        go_wp2_with fail
        have wk := WK.out
        go_wp2_with fail
        go_roundw
        case rel => exact ⟨k + 1, by omega, by first | rfl | go_num, by rw [HL.out], by first | trivial | rfl⟩
        case measure => (simp [intOf] <;> omega)
    · have hki : (n : Int) ≤ (k : Int) := by omega
      obtain rfl : k = n := by omega
      go_wp2_with fail
      go_ret
      first | exact ⟨rfl, rfl⟩ | trivial
set_option maxRecDepth 100000 in
set_option maxHeartbeats 4000000 in
theorem RAt_any (d : Drm) (MA : Option Addr) (m mc : Nat) (F : Nat → Int × Int × Int) (x : Int) (vd : Bool) (E : Int) (S : Nat → Int × Int) (w : World) (hin : DrIn d w.heap.size w) (hm : TrsIn MA m F w.heap.size w) (hvd : vd = true ↔ 0 ≤ x ∧ x ≤ 400) (hE : RdR d m F vd E S) :
    Calls Try.prog 49 #[d.v, .slice MA m mc, .int .i64 x] w fun e w' => e = .returned (.tuple #[Sp (if E = 0 then (lastP (fun i => (S i).2) x (d.n + 1), lastP (fun i => (S i).1) x (d.n + 1)) else (0, 0)), .int .i64 E]) ∧ Below w.heap.size w w' := by
  have DD : Hid (∀ W, Below w.heap.size w W → DrIn d W.heap.size W) := Lib.hid fun W h => (hin.up h (Nat.le_refl _)).more h.size
  have MM : Hid (∀ W, Below w.heap.size w W → TrsIn MA m F W.heap.size W) := Lib.hid fun W h => (hm.up h (Nat.le_refl _)).more h.size
  obtain ⟨w1, hw1⟩ : ∃ w1 : World, w1 = (w.alloc (drO d)).alloc (.cells #[.int .i64 0, .int .i64 0] 31) := ⟨_, rfl⟩
  have B1 : Below w.heap.size w w1 := by rw [hw1]; exact box2 _ _ _
  have P1 : HasDr d w.heap.size w1 := by rw [hw1]; exact (dr_new w d).up (box1 _ _)
  have R1 : Bt (w.heap.size + 1) 0 0 w1 := by
    rw [hw1]
    have := Bt.new (w.alloc (drO d)) 31 0 0
    rw [World.size_alloc] at this
    exact this
  have D := Lib.hid B1
  have P := Lib.hid P1
  have R := Lib.hid R1
  have HW := Lib.hid hw1
  obtain ⟨x0, x1⟩ := P.out
  have K1 := Lib.hid fun E (h : ChR d m F E) => Rasked_any d MA m mc F E w1 (DD.out w1 B1) (MM.out w1 B1) h
  clear hin hm B1 P1 R1 hw1
  rcases hE with ⟨hE, hC⟩ | ⟨hd, hk, hE⟩
  · have hne : ¬ E = 0 := by omega
    have hn1 : (E == 0) = false := by simpa using hne
    have hn2 : (E != 0) = true := by simpa using hne
    have HNE := Lib.hid hne
    have K2 := Lib.hid (K1.out E hC)
    clear hE hne hC
    go_enter Try.func49, Try.ntmps49
    go_wp2_with fail
    rw [← HW.out]
    refine K2.out.mono ?_
    rintro e w2 ⟨rfl, hb2⟩
    have D := Lib.hid (nextB D.out hb2)
    have P := Lib.hid (P.out.up hb2)
    have R := Lib.hid (R.out.up hb2)
    clear hb2 x0 x1
    obtain ⟨x0, x1⟩ := P.out
    have zR := R.out.lt
    have hset : Below w.heap.size w ((w2.setCell ⟨w.heap.size + 1, 0, none⟩ (.int .i64 (0))).setCell ⟨w.heap.size + 1, 1, none⟩ (.int .i64 (0))) := set1 (set1 D.out (by omega) _ _) (by omega) _ _
    have HF := Lib.hid hset
    have HQ := Lib.hid (R.out.store (0) (0))
    clear hset
    obtain ⟨r0, r1, r2, r3⟩ := R.out
    go_wp2_with fail
    obtain ⟨wf, hwf⟩ : ∃ wf : World, wf = (w2.setCell ⟨w.heap.size + 1, 0, none⟩ (.int .i64 (0))).setCell ⟨w.heap.size + 1, 1, none⟩ (.int .i64 (0)) := ⟨_, rfl⟩
    have HF2 := HF.out
    have hq := HQ.out
    rw [← hwf] at hq HF2 ⊢
    obtain ⟨q0, q1, _, _⟩ := hq
    exact bodyPost_ret (v := .tuple #[Sp (0, 0), .int .i64 (E)]) (by simp [results, Try.results49, go_sem, q0, q1]) rfl ⟨(by first | rfl | rw [if_neg HNE.out]), HF2⟩
  · have K2 := Lib.hid (K1.out 0 (.inr (.inr ⟨rfl, hd, hk⟩)))
    by_cases hx : 0 ≤ x ∧ x ≤ 400
    · have hvt := hvd.2 hx
      subst hvt
      have HX := Lib.hid hx
      have KT := Lib.hid fun W h => Rtold_any d MA m mc F E S W (DD.out W h) (MM.out W h) (.inr ⟨hd, hk, hE⟩)
      have hn5 : d.n ≤ 200 := by have := hd.n2; omega
      clear hE hd hk hx hvd
      go_enter Try.func49, Try.ntmps49
      go_wp2_with fail
      rw [← HW.out]
      refine K2.out.mono ?_
      rintro e w2 ⟨rfl, hb2⟩
      have D := Lib.hid (nextB D.out hb2)
      have P := Lib.hid (P.out.up hb2)
      have R := Lib.hid (R.out.up hb2)
      clear hb2 x0 x1
      obtain ⟨x0, x1⟩ := P.out
      go_wp2_with fail
      refine (Rwithin_any x 0 400 true w2 (rw_yes HX.out)).mono ?_
      rintro e w9 ⟨rfl, hw9⟩
      rw [hw9]
      clear hw9 w9
      go_wp2_with fail
      refine (KT.out _ D.out).mono ?_
      rintro e w3 ⟨v, rfl, hb3, hv⟩
      have D := Lib.hid (nextB D.out hb3)
      have P := Lib.hid (P.out.up hb3)
      have R := Lib.hid (R.out.up hb3)
      clear hb3 x0 x1
      obtain ⟨x0, x1⟩ := P.out
      rcases hv with ⟨hne, rfl⟩ | ⟨rfl, t, rfl, ht, hS⟩
      · have hn2 : (E != 0) = true := by simpa using hne
        have HNE := Lib.hid hne
        clear hne
        have zR := R.out.lt
        have hset : Below w.heap.size w ((w3.setCell ⟨w.heap.size + 1, 0, none⟩ (.int .i64 (0))).setCell ⟨w.heap.size + 1, 1, none⟩ (.int .i64 (0))) := set1 (set1 D.out (by omega) _ _) (by omega) _ _
        have HF := Lib.hid hset
        have HQ := Lib.hid (R.out.store (0) (0))
        clear hset
        obtain ⟨r0, r1, r2, r3⟩ := R.out
        go_wp2_with fail
        obtain ⟨wf, hwf⟩ : ∃ wf : World, wf = (w3.setCell ⟨w.heap.size + 1, 0, none⟩ (.int .i64 (0))).setCell ⟨w.heap.size + 1, 1, none⟩ (.int .i64 (0)) := ⟨_, rfl⟩
        have HF2 := HF.out
        have hq := HQ.out
        rw [← hwf] at hq HF2 ⊢
        obtain ⟨q0, q1, _, _⟩ := hq
        exact bodyPost_ret (v := .tuple #[Sp (0, 0), .int .i64 (E)]) (by simp [results, Try.results49, go_sem, q0, q1]) rfl ⟨(by first | rfl | rw [if_neg HNE.out]), HF2⟩
      · have HS := Lib.hid hS
        obtain ⟨p, hp⟩ : ∃ p, p = lastP (fun i => (S i).2) x (d.n + 1) := ⟨_, rfl⟩
        obtain ⟨q, hq⟩ : ∃ q, q = lastP (fun i => (S i).1) x (d.n + 1) := ⟨_, rfl⟩
        have KP1 : Hid (∀ A c W, IntsIn A (d.n + 1) (fun i => if true = true then (S i).2 else (S i).1) W.heap.size W → Calls Try.prog 101 #[.slice A (d.n + 1) c, .int .i64 x] W fun e w' => e = .returned (.int .i64 p) ∧ w' = W) := Lib.hid (by rw [hp]; exact fun A c W h => Rpassed_any A (d.n + 1) c _ x W h)
        have KP2 : Hid (∀ A c W, IntsIn A (d.n + 1) (fun i => if false = true then (S i).2 else (S i).1) W.heap.size W → Calls Try.prog 101 #[.slice A (d.n + 1) c, .int .i64 x] W fun e w' => e = .returned (.int .i64 q) ∧ w' = W) := Lib.hid (by rw [hq]; exact fun A c W h => Rpassed_any A (d.n + 1) c _ x W h)
        have HP := Lib.hid hp
        have HQ' := Lib.hid hq
        clear hS hp hq
        go_wp2_with fail
        refine (Rends_any (some ⟨t, 0, none⟩) (d.n + 1) (d.n + 1) S true w3 (HS.out.sps (by omega)) (by omega)).mono ?_
        rintro e w4 ⟨A4, c4, rfl, hi4, hb4⟩
        have HS := Lib.hid (HS.out.up hb4)
        have I4 := Lib.hid hi4
        clear hi4
        have D := Lib.hid (nextB D.out hb4)
        have P := Lib.hid (P.out.up hb4)
        have R := Lib.hid (R.out.up hb4)
        clear hb4 x0 x1
        obtain ⟨x0, x1⟩ := P.out
        go_wp2_with fail
        refine (KP1.out A4 c4 w4 I4.out).mono ?_
        rintro e w9 ⟨rfl, hw9⟩
        rw [hw9]
        clear hw9 w9
        go_wp2_with fail
        refine (Rends_any (some ⟨t, 0, none⟩) (d.n + 1) (d.n + 1) S false w4 (HS.out.sps (by omega)) (by omega)).mono ?_
        rintro e w5 ⟨A5, c5, rfl, hi5, hb5⟩
        have I5 := Lib.hid hi5
        clear hi5
        have D := Lib.hid (nextB D.out hb5)
        have P := Lib.hid (P.out.up hb5)
        have R := Lib.hid (R.out.up hb5)
        clear hb5 x0 x1
        obtain ⟨x0, x1⟩ := P.out
        go_wp2_with fail
        refine (KP2.out A5 c5 w5 I5.out).mono ?_
        rintro e w9 ⟨rfl, hw9⟩
        rw [hw9]
        clear hw9 w9
        have zR := R.out.lt
        have hset : Below w.heap.size w ((w5.setCell ⟨w.heap.size + 1, 0, none⟩ (.int .i64 (p))).setCell ⟨w.heap.size + 1, 1, none⟩ (.int .i64 (q))) := set1 (set1 D.out (by omega) _ _) (by omega) _ _
        have HF := Lib.hid hset
        have HQ := Lib.hid (R.out.store (p) (q))
        clear hset
        obtain ⟨r0, r1, r2, r3⟩ := R.out
        go_wp2_with fail
        obtain ⟨wf, hwf⟩ : ∃ wf : World, wf = (w5.setCell ⟨w.heap.size + 1, 0, none⟩ (.int .i64 (p))).setCell ⟨w.heap.size + 1, 1, none⟩ (.int .i64 (q)) := ⟨_, rfl⟩
        have HF2 := HF.out
        have hq := HQ.out
        rw [← hwf] at hq HF2 ⊢
        obtain ⟨q0, q1, _, _⟩ := hq
        exact bodyPost_ret (v := .tuple #[Sp (p, q), .int .i64 (0)]) (by simp [results, Try.results49, go_sem, q0, q1]) rfl ⟨(by first | (rw [if_pos rfl, ← HP.out, ← HQ'.out]) | (rw [← HP.out, ← HQ'.out]) | simp [← HP.out, ← HQ'.out]), HF2⟩
    · have HX := Lib.hid hx
      obtain rfl : E = 1 := by
        rcases hE with ⟨_, h⟩ | ⟨h, _⟩ | ⟨h, _⟩
        · exact h
        · exact absurd (hvd.1 h) hx
        · exact absurd (hvd.1 h) hx
      clear hE hd hk hx hvd
      go_enter Try.func49, Try.ntmps49
      go_wp2_with fail
      rw [← HW.out]
      refine K2.out.mono ?_
      rintro e w2 ⟨rfl, hb2⟩
      have D := Lib.hid (nextB D.out hb2)
      have P := Lib.hid (P.out.up hb2)
      have R := Lib.hid (R.out.up hb2)
      clear hb2 x0 x1
      obtain ⟨x0, x1⟩ := P.out
      go_wp2_with fail
      refine (Rwithin_any x 0 400 false w2 (rw_no HX.out)).mono ?_
      rintro e w9 ⟨rfl, hw9⟩
      rw [hw9]
      clear hw9 w9
      have zR := R.out.lt
      have hset : Below w.heap.size w ((w2.setCell ⟨w.heap.size + 1, 0, none⟩ (.int .i64 (0))).setCell ⟨w.heap.size + 1, 1, none⟩ (.int .i64 (0))) := set1 (set1 D.out (by omega) _ _) (by omega) _ _
      have HF := Lib.hid hset
      have HQ := Lib.hid (R.out.store (0) (0))
      clear hset
      obtain ⟨r0, r1, r2, r3⟩ := R.out
      go_wp2_with fail
      obtain ⟨wf, hwf⟩ : ∃ wf : World, wf = (w2.setCell ⟨w.heap.size + 1, 0, none⟩ (.int .i64 (0))).setCell ⟨w.heap.size + 1, 1, none⟩ (.int .i64 (0)) := ⟨_, rfl⟩
      have HF2 := HF.out
      have hq := HQ.out
      rw [← hwf] at hq HF2 ⊢
      obtain ⟨q0, q1, _, _⟩ := hq
      exact bodyPost_ret (v := .tuple #[Sp (0, 0), .int .i64 (1)]) (by simp [results, Try.results49, go_sem, q0, q1]) rfl ⟨(by first | rfl | simp), HF2⟩
theorem rdg_cat1 {n : Nat} {G : Nat → Int × Int} {m a : Nat} {t : Int} {F : Nat → Int × Int × Int} (T : Nat → Int) : Rdg n G (m + 1) (catF m F fun _ => ((a : Int), t, t)) T ↔ Rdg n G m F T ∧ T a = t := by
  constructor
  · intro h
    refine ⟨⟨h.tick, h.gap, fun i hi => ?_⟩, ?_⟩
    · have := h.mark i (by omega)
      unfold catF at this
      rwa [if_pos hi] at this
    · have := h.mark m (by omega)
      unfold catF at this
      rw [if_neg (by omega)] at this
      unfold hasP at this
      simp only [Int.toNat_natCast] at this
      omega
  · rintro ⟨h, ht⟩
    refine ⟨h.tick, h.gap, fun i hi => ?_⟩
    unfold catF
    split
    · exact h.mark i (by assumption)
    · unfold hasP
      simp only [Int.toNat_natCast]
      omega
set_option maxRecDepth 100000 in
set_option maxHeartbeats 4000000 in
theorem Rbetween_any (d : Drm) (MA : Option Addr) (m mc : Nat) (F : Nat → Int × Int × Int) (a b : Nat) (S : Nat → Int × Int) (w : World) (hin : DrIn d w.heap.size w) (hm : TrsIn MA m F w.heap.size w) (hd : DrOk d) (hk : MksOk d m F) (ha : a ≤ d.n) (hb : b ≤ d.n) (hS : Ends d.n (Rdg d.n (gapF d) m F) S) :
    Calls Try.prog 98 #[d.v, .slice MA m mc, .int .i64 (a : Int), .int .i64 (b : Int)] w fun e w' => e = .returned (Sp (apS (gapF d) S a b)) ∧ Below w.heap.size w w' := by
  have DD : Hid (∀ W, Below w.heap.size w W → DrIn d W.heap.size W) := Lib.hid fun W h => (hin.up h (Nat.le_refl _)).more h.size
  have MM : Hid (∀ W, Below w.heap.size w W → TrsIn MA m F W.heap.size W) := Lib.hid fun W h => (hm.up h (Nat.le_refl _)).more h.size
  obtain ⟨w1, hw1⟩ : ∃ w1 : World, w1 = ((w.alloc (drO d)).alloc (.cells #[.int .i64 0, .int .i64 0] 31)).alloc (.cells #[.int .i64 800, .int .i64 (-800)] 31) := ⟨_, rfl⟩
  have B1 : Below w.heap.size w w1 := by rw [hw1]; exact box3 _ _ _ _
  have P1 : HasDr d w.heap.size w1 := by rw [hw1]; exact ((dr_new w d).up (box1 _ _)).up (box1 _ _)
  have R1 : Bt (w.heap.size + 1) 0 0 w1 := by
    rw [hw1]
    have h := (Bt.new (w.alloc (drO d)) 31 0 0).up (box1 _ (.cells #[.int .i64 800, .int .i64 (-800)] 31))
    rw [World.size_alloc] at h
    exact h
  have U1 : Bt (w.heap.size + 1 + 1) 800 (-800) w1 := by
    rw [hw1]
    have h := Bt.new ((w.alloc (drO d)).alloc (.cells #[.int .i64 0, .int .i64 0] 31)) 31 800 (-800)
    rw [World.size_alloc, World.size_alloc] at h
    exact h
  have D := Lib.hid B1
  have P := Lib.hid P1
  have R := Lib.hid R1
  have U := Lib.hid U1
  have HW := Lib.hid hw1
  have HDo := Lib.hid hd
  have HK := Lib.hid hk
  have hn2 := hd.n2
  have hm5 : m ≤ 200 := by have := hk.1; omega
  have HA := Lib.hid ha
  have HB := Lib.hid hb
  have HS := Lib.hid hS
  have HRT : Hid (∀ T, Rdg d.n (gapF d) m F T → ∀ i, i < d.n + 1 → 0 ≤ T i ∧ T i ≤ 400) := Lib.hid fun T hT => hT.tick
  have ha0 : (0 : Int) ≤ (a : Int) := by omega
  have hb0 : (0 : Int) ≤ (b : Int) := by omega
  clear hin hm hd hk hS B1 P1 R1 U1 hw1
  obtain ⟨x0, x1⟩ := P.out
  go_enter Try.func98, Try.ntmps98
  go_wp2_with fail
  rw [← HW.out]
  clear x0 x1
  go_loopw [10, 11, 12] (fun v _ _ wr => ∃ (k : Nat) (s : Int × Int), k ≤ 401 ∧ v = .int .i64 k ∧ Below w.heap.size w wr ∧ HasDr d w.heap.size wr ∧ Bt (w.heap.size + 1) 0 0 wr ∧ Bt (w.heap.size + 1 + 1) s.1 s.2 wr ∧ Hid (btI (Rdg d.n (gapF d) m F) a b k s)) (fun v _ _ _ => 401 - (intOf v).toNat)
  case atStart => exact ⟨0, (800, -800), by omega, rfl, D.out, P.out, R.out, U.out, Lib.hid (btI_0 HRT.out HA.out)⟩
  case round =>
    obtain ⟨k, s, hk, rfl, hbl, hp, hr, hu, hbt⟩ := hrel
    obtain ⟨w2, rfl⟩ : ∃ w2 : World, w2 = wr := ⟨_, rfl⟩
    obtain ⟨s1, s2⟩ := s
    have D := Lib.hid hbl
    have P := Lib.hid hp
    have R := Lib.hid hr
    have U := Lib.hid hu
    clear hbl hp hr hu
    obtain ⟨x0, x1⟩ := P.out
    have hk0 : (0 : Int) ≤ (k : Int) := by omega
    by_cases hlt : k ≤ 400
    · have hki : (k : Int) ≤ 400 := by omega
      have wk : IntKind.i64.wrap ((k : Int) + 1) = ((k + 1 : Nat) : Int) := by rw [show ((k : Int) + 1) = ((k + 1 : Nat) : Int) by omega]; exact IntWalk.i64_in _ (by omega)
      have WK := Lib.hid wk
      clear wk
      have hmk := mkOk_cat1 (F := F) (c := (a : Int)) (t := (k : Int)) HK.out (by have := HA.out; omega) (by omega)
      obtain ⟨Rk, Sk, hRk⟩ : ∃ (Rk : Bool) (Sk : Nat → Int × Int), (Rk = true ∧ Ends d.n (Rdg d.n (gapF d) (m + 1) (catF m F fun _ => ((a : Int), (k : Int), (k : Int)))) Sk) ∨ (Rk = false ∧ ∀ T, ¬ Rdg d.n (gapF d) (m + 1) (catF m F fun _ => ((a : Int), (k : Int), (k : Int))) T) := by
        rcases ends_ex (m := m + 1) (F := catF m F fun _ => ((a : Int), (k : Int), (k : Int))) (gpOk HDo.out) (fun j hj => by have h1 := hmk.2 j hj; unfold mkOk isS at h1; omega) with ⟨S2, h⟩ | h
        · exact ⟨true, S2, .inl ⟨rfl, h⟩⟩
        · exact ⟨false, fun _ => (0, 0), .inr ⟨rfl, h⟩⟩
      have KS : Hid (∀ A' c' W, Below w.heap.size w W → TrsIn A' (m + 1) (catF m F fun _ => ((a : Int), (k : Int), (k : Int))) W.heap.size W → Calls Try.prog 86 #[d.v, .slice A' (m + 1) c'] W fun e w' => ∃ v, e = .returned (.tuple #[v, .bool Rk]) ∧ RdV d.n (if Rk = true then 0 else 22) Sk v W w') := Lib.hid fun A' c' W h h2 => Rspans_any d A' (m + 1) c' _ Rk Sk W (DD.out W h) h2 HDo.out hmk hRk
      have HRK := Lib.hid hRk
      clear hmk hRk
      go_wp2_with fail
      refine wp_region_M [] (fun w' => w'.cell? ⟨w.heap.size, 0, none⟩ = some (.slice d.RA d.n d.rc) ∧ w'.cell? ⟨w.heap.size, 1, none⟩ = some (.slice d.SA d.m d.sc)) (by kernel_rfl) (by kernel_rfl) (by (try dsimp only); (repeat' apply And.intro); all_goals first | assumption | (go_simp; done)) (fun hT0 => ?_)
      refine M_take (v := ?_) 0 rfl (by kernel_rfl) (by assumption) (fun _ _ _ h => h) (Or.inl ⟨by rfl, ?_⟩) ?_
      rotate_left
      · (intro w hSw; (try dsimp only at hSw); go_simp; (try with_reducible rfl))
      (try simp only [Act.put, List.setIfInBounds_toArray, List.set_cons_zero, List.set_cons_succ])
      refine M_take (v := ?_) 1 rfl (by kernel_rfl) (by assumption) (fun _ _ _ h => h) (Or.inl ⟨by rfl, ?_⟩) ?_
      rotate_left
      · (intro w hSw; (try dsimp only at hSw); go_simp; (try with_reducible rfl))
      (try simp only [Act.put, List.setIfInBounds_toArray, List.set_cons_zero, List.set_cons_succ])
      refine M_take (v := ?_) 2 rfl (by kernel_rfl) (by assumption) (fun _ _ _ h => h) (Or.inl ⟨by rfl, ?_⟩) ?_
      rotate_left
      · (intro w hSw; (try dsimp only at hSw); go_simp; (try with_reducible rfl))
      (try simp only [Act.put, List.setIfInBounds_toArray, List.set_cons_zero, List.set_cons_succ])
      refine M_take (v := ?_) 3 rfl (by kernel_rfl) (by assumption) (fun _ _ _ h => h) (Or.inl ⟨by rfl, ?_⟩) ?_
      rotate_left
      · (intro w hSw; (try dsimp only at hSw); go_simp; (try with_reducible rfl))
      (try simp only [Act.put, List.setIfInBounds_toArray, List.set_cons_zero, List.set_cons_succ])
      refine M_take (v := ?_) 4 rfl (by kernel_rfl) (by assumption) (fun _ _ _ h => h) (Or.inl ⟨by rfl, ?_⟩) ?_
      rotate_left
      · (intro w hSw; (try dsimp only at hSw); go_simp; (try with_reducible rfl))
      (try simp only [Act.put, List.setIfInBounds_toArray, List.set_cons_zero, List.set_cons_succ])
      refine M_take (v := ?_) 5 rfl (by kernel_rfl) (by assumption) (fun _ _ _ h => h) (Or.inl ⟨by rfl, ?_⟩) ?_
      rotate_left
      · (intro w hSw; (try dsimp only at hSw); go_simp; (try with_reducible rfl))
      (try simp only [Act.put, List.setIfInBounds_toArray, List.set_cons_zero, List.set_cons_succ])
      refine M_take (v := ?_) 6 rfl (by kernel_rfl) (by assumption) (fun _ _ _ h => h) (Or.inl ⟨by rfl, ?_⟩) ?_
      rotate_left
      · (intro w hSw; (try dsimp only at hSw); go_simp; (try with_reducible rfl))
      (try simp only [Act.put, List.setIfInBounds_toArray, List.set_cons_zero, List.set_cons_succ])
      refine M_step 7 rfl (by kernel_rfl) (fun K hK => ?_)
      go_simp
      go_at_call 96
      refine (Rwith_any MA m mc F (a : Int) (k : Int) (k : Int) _ (MM.out _ (nextB D.out (Below.refl _ _).drew)) (by omega)).mono ?_
      rintro e w7 ⟨B7, k7, rfl, hm7, hb7⟩
      have B7' := Lib.hid (show Below w2.heap.size w2 w7 from nextB (Below.refl _ _).drew hb7)
      have M7 := Lib.hid hm7
      have hT7 : (fun w' => w'.cell? ⟨w.heap.size, 0, none⟩ = some (.slice d.RA d.n d.rc) ∧ w'.cell? ⟨w.heap.size, 1, none⟩ = some (.slice d.SA d.m d.sc)) w7 := P.out.up B7'.out
      clear hb7 hm7
      refine hK.out _ _ (fun _ => hT7) ?_
      clear hK K
      (try simp only [Act.put, List.setIfInBounds_toArray, List.set_cons_zero, List.set_cons_succ])
      refine M_step 8 rfl (by kernel_rfl) (fun K hK => ?_)
      go_simp
      go_at_call 86
      refine (KS.out B7 k7 w7 (nextB D.out B7'.out) M7.out).mono ?_
      rintro e w8 ⟨v, rfl, hb8, hv⟩
      have D8 := Lib.hid (nextB D.out (nextB B7'.out hb8))
      have SZ := Lib.hid (nextB D.out B7'.out).size
      have HB8 := Lib.hid (nextB B7'.out hb8)
      have hT8 : (fun w' => w'.cell? ⟨w.heap.size, 0, none⟩ = some (.slice d.RA d.n d.rc) ∧ w'.cell? ⟨w.heap.size, 1, none⟩ = some (.slice d.SA d.m d.sc)) w8 := P.out.up HB8.out
      clear hb8
      have HV := Lib.hid hv
      obtain ⟨Av, qv, cv, rfl⟩ : ∃ A q c, v = .slice A q c := by
        rcases hv with ⟨_, h⟩ | ⟨_, t, h, _⟩
        · exact ⟨_, _, _, h⟩
        · exact ⟨_, _, _, h⟩
      clear hv
      refine hK.out _ _ (fun _ => hT8) ?_
      clear hK K
      (try simp only [Act.put, List.setIfInBounds_toArray, List.set_cons_zero, List.set_cons_succ])
      refine M_take (v := ?_) 9 rfl (by kernel_rfl) (by assumption) (fun _ _ _ h => h) (Or.inl ⟨by rfl, ?_⟩) ?_
      rotate_left
      · (intro w hSw; (try dsimp only at hSw); go_simp; (try with_reducible rfl))
      (try simp only [Act.put, List.setIfInBounds_toArray, List.set_cons_zero, List.set_cons_succ])
      refine M_take (v := ?_) 10 rfl (by kernel_rfl) (by assumption) (fun _ _ _ h => h) (Or.inl ⟨by rfl, ?_⟩) ?_
      rotate_left
      · (intro w hSw; (try dsimp only at hSw); go_simp; (try with_reducible rfl))
      (try simp only [Act.put, List.setIfInBounds_toArray, List.set_cons_zero, List.set_cons_succ])
      refine M_take (v := ?_) 11 rfl (by kernel_rfl) (by assumption) (fun _ _ _ h => h) (Or.inl ⟨by rfl, ?_⟩) ?_
      rotate_left
      · (intro w hSw; (try dsimp only at hSw); go_simp; (try with_reducible rfl))
      (try simp only [Act.put, List.setIfInBounds_toArray, List.set_cons_zero, List.set_cons_succ])
      refine M_step 12 rfl (by kernel_rfl) (fun K hK => ?_)
      go_simp
      refine hK.out _ _ (fun _ => by assumption) ?_
      clear hK K
      (try simp only [Act.put, List.setIfInBounds_toArray, List.set_cons_zero, List.set_cons_succ])
      refine M_step 13 rfl (by kernel_rfl) (fun K hK => ?_)
      go_simp
      refine hK.out _ _ (fun _ => by assumption) ?_
      clear hK K
      (try simp only [Act.put, List.setIfInBounds_toArray, List.set_cons_zero, List.set_cons_succ])
      refine M_done (by kernel_rfl) ?_ _
      clear hT0 hT7 hT8 x0 x1
      have P8 := Lib.hid (P.out.up HB8.out)
      have R8 := Lib.hid (R.out.up HB8.out)
      have U8 := Lib.hid (U.out.up HB8.out)
      rcases HRK.out with ⟨rfl, hE⟩ | ⟨rfl, hno⟩
      · have hE2 : Ends d.n (fun T => Rdg d.n (gapF d) m F T ∧ T a = (k : Int)) Sk := hE.congr fun T => rdg_cat1 T
        have HNX := Lib.hid (btI_yes HRT.out HA.out HB.out hbt.out hE2)
        have hbd1 := HRT.out _ hE2.lo.1 b (by have := HB.out; omega)
        have hbd2 := HRT.out _ hE2.hi.1 b (by have := HB.out; omega)
        obtain ⟨t', rfl, rfl, rfl, hS⟩ : ∃ t', Av = some ⟨t', 0, none⟩ ∧ qv = d.n + 1 ∧ cv = d.n + 1 ∧ SpR t' (d.n + 1) Sk w8 := by
          rcases HV.out with ⟨h, _⟩ | ⟨_, t', h, _, hS⟩
          · exact absurd rfl h
          · injection h with h1 h2 h3
            exact ⟨t', h1, h2, h3, hS⟩
        have hbn : b < d.n + 1 := by have := HB.out; omega
        have hbi : (b : Int) < (d.n : Int) + 1 := by omega
        have g0 := hS.c0 b hbn
        have g1 := hS.c1 b hbn
        obtain ⟨⟨p, q⟩, hpq⟩ : ∃ g, g = Sk b := ⟨_, rfl⟩
        rw [← hpq] at g0 g1 HNX hbd1 hbd2
        simp only at g0 g1 hbd1 hbd2
        have wp1 : IntKind.i64.wrap (p - (k : Int)) = p - (k : Int) := IntWalk.i64_in _ (by omega)
        have wq1 : IntKind.i64.wrap (q - (k : Int)) = q - (k : Int) := IntWalk.i64_in _ (by omega)
        obtain ⟨u0, u1, u2, u3⟩ := U8.out
        have zU := U8.out.lt
        have HST := Lib.hid (U8.out.store (min s1 (p - (k : Int))) (max s2 (q - (k : Int))))
        have HBL := Lib.hid (set1 (set1 D8.out (show w.heap.size ≤ w.heap.size + 1 + 1 by omega) 0 (.int .i64 (min s1 (p - (k : Int))))) (show w.heap.size ≤ w.heap.size + 1 + 1 by omega) 1 (.int .i64 (max s2 (q - (k : Int)))))
        clear hS hpq hE hE2 hbd1 hbd2
        go_wp2_with fail
        refine wp_region_M [21] (fun w' => w'.cell? ⟨w.heap.size + 1 + 1, 0, none⟩ = some (.int .i64 s1) ∧ w'.cell? ⟨w.heap.size + 1 + 1, 1, none⟩ = some (.int .i64 s2) ∧ w'.cell? ⟨t', b * 2, none⟩ = some (.int .i64 p) ∧ w'.cell? ⟨t', b * 2 + 1, none⟩ = some (.int .i64 q)) (by kernel_rfl) (by kernel_rfl) (by (try dsimp only); (repeat' apply And.intro); all_goals first | assumption | (go_simp; done)) (fun hT0 => ?_)
        refine M_take (v := ?_) 0 rfl (by kernel_rfl) (by assumption) (fun _ _ _ h => h) (Or.inl ⟨by rfl, ?_⟩) ?_
        rotate_left
        · (intro w hSw; (try dsimp only at hSw); go_simp; (try with_reducible rfl))
        (try simp only [Act.put, List.setIfInBounds_toArray, List.set_cons_zero, List.set_cons_succ])
        refine M_take (v := ?_) 1 rfl (by kernel_rfl) (by assumption) (fun _ _ _ h => h) (Or.inl ⟨by rfl, ?_⟩) ?_
        rotate_left
        · (intro w hSw; (try dsimp only at hSw); go_simp; (try with_reducible rfl))
        (try simp only [Act.put, List.setIfInBounds_toArray, List.set_cons_zero, List.set_cons_succ])
        refine M_take (v := ?_) 2 rfl (by kernel_rfl) (by assumption) (fun _ _ _ h => h) (Or.inl ⟨by rfl, ?_⟩) ?_
        rotate_left
        · (intro w hSw; (try dsimp only at hSw); go_simp; (try with_reducible rfl))
        (try simp only [Act.put, List.setIfInBounds_toArray, List.set_cons_zero, List.set_cons_succ])
        refine M_take (v := ?_) 3 rfl (by kernel_rfl) (by assumption) (fun _ _ _ h => h) (Or.inl ⟨by rfl, ?_⟩) ?_
        rotate_left
        · (intro w hSw; (try dsimp only at hSw); go_simp; (try with_reducible rfl))
        (try simp only [Act.put, List.setIfInBounds_toArray, List.set_cons_zero, List.set_cons_succ])
        refine M_take (v := ?_) 4 rfl (by kernel_rfl) (by assumption) (fun _ _ _ h => h) (Or.inl ⟨by rfl, ?_⟩) ?_
        rotate_left
        · (intro w hSw; (try dsimp only at hSw); go_simp; (try with_reducible rfl))
        (try simp only [Act.put, List.setIfInBounds_toArray, List.set_cons_zero, List.set_cons_succ])
        refine M_take (v := ?_) 5 rfl (by kernel_rfl) (by assumption) (fun _ _ _ h => h) (Or.inl ⟨by rfl, ?_⟩) ?_
        rotate_left
        · (intro w hSw; (try dsimp only at hSw); go_simp; (try with_reducible rfl))
        (try simp only [Act.put, List.setIfInBounds_toArray, List.set_cons_zero, List.set_cons_succ])
        refine M_take (v := ?_) 6 rfl (by kernel_rfl) (by assumption) (fun _ _ _ h => h) (Or.inl ⟨by rfl, ?_⟩) ?_
        rotate_left
        · (intro w hSw; (try dsimp only at hSw); go_simp; (try with_reducible rfl))
        (try simp only [Act.put, List.setIfInBounds_toArray, List.set_cons_zero, List.set_cons_succ])
        refine M_take (v := ?_) 7 rfl (by kernel_rfl) (by assumption) (fun _ _ _ h => h) (Or.inl ⟨by rfl, ?_⟩) ?_
        rotate_left
        · (intro w hSw; (try dsimp only at hSw); go_simp; (try with_reducible rfl))
        (try simp only [Act.put, List.setIfInBounds_toArray, List.set_cons_zero, List.set_cons_succ])
        refine M_take (v := ?_) 8 rfl (by kernel_rfl) (by assumption) (fun _ _ _ h => h) (Or.inl ⟨by rfl, ?_⟩) ?_
        rotate_left
        · (intro w hSw; (try dsimp only at hSw); go_simp; (try with_reducible rfl))
        (try simp only [Act.put, List.setIfInBounds_toArray, List.set_cons_zero, List.set_cons_succ])
        refine M_take (v := ?_) 9 rfl (by kernel_rfl) (by assumption) (fun _ _ _ h => h) (Or.inl ⟨by rfl, ?_⟩) ?_
        rotate_left
        · (intro w hSw; (try dsimp only at hSw); go_simp; (try with_reducible rfl))
        (try simp only [Act.put, List.setIfInBounds_toArray, List.set_cons_zero, List.set_cons_succ])
        refine M_take (v := ?_) 10 rfl (by kernel_rfl) (by assumption) (fun _ _ _ h => h) (Or.inl ⟨by rfl, ?_⟩) ?_
        rotate_left
        · (intro w hSw; (try dsimp only at hSw); go_simp; (try with_reducible rfl))
        (try simp only [Act.put, List.setIfInBounds_toArray, List.set_cons_zero, List.set_cons_succ])
        refine M_take (v := ?_) 11 rfl (by kernel_rfl) (by assumption) (fun _ _ _ h => h) (Or.inl ⟨by rfl, ?_⟩) ?_
        rotate_left
        · (intro w hSw; (try dsimp only at hSw); go_simp; (try with_reducible rfl))
        (try simp only [Act.put, List.setIfInBounds_toArray, List.set_cons_zero, List.set_cons_succ])
        refine M_take (v := ?_) 12 rfl (by kernel_rfl) (by assumption) (fun _ _ _ h => h) (Or.inl ⟨by rfl, ?_⟩) ?_
        rotate_left
        · (intro w hSw; (try dsimp only at hSw); go_simp; (try with_reducible rfl))
        (try simp only [Act.put, List.setIfInBounds_toArray, List.set_cons_zero, List.set_cons_succ])
        refine M_take (v := ?_) 13 rfl (by kernel_rfl) (by assumption) (fun _ _ _ h => h) (Or.inl ⟨by rfl, ?_⟩) ?_
        rotate_left
        · (intro w hSw; (try dsimp only at hSw); go_simp; (try with_reducible rfl))
        (try simp only [Act.put, List.setIfInBounds_toArray, List.set_cons_zero, List.set_cons_succ])
        refine M_take (v := ?_) 14 rfl (by kernel_rfl) (by assumption) (fun _ _ _ h => h) (Or.inl ⟨by rfl, ?_⟩) ?_
        rotate_left
        · (intro w hSw; (try dsimp only at hSw); go_simp; (try with_reducible rfl))
        (try simp only [Act.put, List.setIfInBounds_toArray, List.set_cons_zero, List.set_cons_succ])
        refine M_take (v := ?_) 15 rfl (by kernel_rfl) (by assumption) (fun _ _ _ h => h) (Or.inl ⟨by rfl, ?_⟩) ?_
        rotate_left
        · (intro w hSw; (try dsimp only at hSw); go_simp; (try with_reducible rfl))
        (try simp only [Act.put, List.setIfInBounds_toArray, List.set_cons_zero, List.set_cons_succ])
        refine M_take (v := ?_) 16 rfl (by kernel_rfl) (by assumption) (fun _ _ _ h => h) (Or.inl ⟨by rfl, ?_⟩) ?_
        rotate_left
        · (intro w hSw; (try dsimp only at hSw); go_simp; (try with_reducible rfl))
        (try simp only [Act.put, List.setIfInBounds_toArray, List.set_cons_zero, List.set_cons_succ])
        refine M_take (v := ?_) 17 rfl (by kernel_rfl) (by assumption) (fun _ _ _ h => h) (Or.inl ⟨by rfl, ?_⟩) ?_
        rotate_left
        · (intro w hSw; (try dsimp only at hSw); go_simp; (try with_reducible rfl))
        (try simp only [Act.put, List.setIfInBounds_toArray, List.set_cons_zero, List.set_cons_succ])
        refine M_take (v := ?_) 18 rfl (by kernel_rfl) (by assumption) (fun _ _ _ h => h) (Or.inl ⟨by rfl, ?_⟩) ?_
        rotate_left
        · (intro w hSw; (try dsimp only at hSw); go_simp; (try with_reducible rfl))
        (try simp only [Act.put, List.setIfInBounds_toArray, List.set_cons_zero, List.set_cons_succ])
        refine M_take (v := ?_) 19 rfl (by kernel_rfl) (by assumption) (fun _ _ _ h => h) (Or.inl ⟨by rfl, ?_⟩) ?_
        rotate_left
        · (intro w hSw; (try dsimp only at hSw); go_simp; (try with_reducible rfl))
        (try simp only [Act.put, List.setIfInBounds_toArray, List.set_cons_zero, List.set_cons_succ])
        refine M_take (v := ?_) 20 rfl (by kernel_rfl) (by assumption) (fun _ _ _ h => h) (Or.inl ⟨by rfl, ?_⟩) ?_
        rotate_left
        · (intro w hSw; (try dsimp only at hSw); go_simp; (try with_reducible rfl))
        (try simp only [Act.put, List.setIfInBounds_toArray, List.set_cons_zero, List.set_cons_succ])
        refine M_step 21 rfl (by kernel_rfl) (fun K hK => ?_)
        go_simp
        skip
        refine hK.out _ _ (fun e => by cases e) ?_
        clear hK K
        (try simp only [Act.put, List.setIfInBounds_toArray, List.set_cons_zero, List.set_cons_succ])
        refine M_done (by kernel_rfl) ?_ _
        clear hT0 g0 g1 u0 u1 u2 u3 wp1 wq1
        have wk := WK.out
        go_wp2_with fail
        go_roundw
        case rel => exact ⟨k + 1, (min s1 (p - (k : Int)), max s2 (q - (k : Int))), by omega, by first | rfl | go_num, HBL.out.drew, ((P8.out.other (by omega)).other (by omega)).up (Below.refl _ _).drew, ((R8.out.other (by omega)).other (by omega)).up (Below.refl _ _).drew, HST.out.up (Below.refl _ _).drew, HNX⟩
        case measure => (simp [intOf] <;> omega)
      · have HNX := Lib.hid (btI_no hbt.out fun T hT h => hno T ((rdg_cat1 T).2 ⟨hT, h⟩))
        clear hno
        have wk := WK.out
        go_wp2_with fail
        go_roundw
        case rel => exact ⟨k + 1, (s1, s2), by omega, by first | rfl | go_num, D8.out, P8.out, R8.out, U8.out, HNX⟩
        case measure => (simp [intOf] <;> omega)
    · obtain rfl : k = 401 := by omega
      have hG : ∀ i, i < d.n → (gapF d i).1 ≤ (gapF d i).2 := fun i hi => ((gpOk HDo.out).2.2 i hi).2.1
      have hx := HS.out.diff hG (mkOk_of HK.out) HA.out HB.out
      have hne := apS_ne HS.out HA.out HB.out
      have hend := btI_end HRT.out HA.out hbt.out (x := apS (gapF d) S a b) (fun T hT => (hx _).1 ⟨T, hT, rfl⟩) ((hx _).2 ⟨Int.le_refl _, hne⟩) ((hx _).2 ⟨hne, Int.le_refl _⟩)
      have HEND := Lib.hid hend
      have hki : ¬ (((401 : Nat) : Int) ≤ 400) := by omega
      obtain ⟨u0, u1, u2, u3⟩ := U.out
      obtain ⟨r0, r1, r2, r3⟩ := R.out
      have zR := R.out.lt
      have HSTO := Lib.hid (R.out.store s1 s2)
      have HBL := Lib.hid (set1 (set1 D.out (show w.heap.size ≤ w.heap.size + 1 by omega) 0 (.int .i64 s1)) (show w.heap.size ≤ w.heap.size + 1 by omega) 1 (.int .i64 s2))
      clear hG hx hne hend hbt
      go_wp2_with fail
      obtain ⟨wf, hwf⟩ : ∃ wf : World, wf = (w2.setCell ⟨w.heap.size + 1, 0, none⟩ (.int .i64 s1)).setCell ⟨w.heap.size + 1, 1, none⟩ (.int .i64 s2) := ⟨_, rfl⟩
      have HF2 := HBL.out
      have hq := HSTO.out
      rw [← hwf] at hq HF2 ⊢
      obtain ⟨q0, q1, _, _⟩ := hq
      exact bodyPost_ret (v := Sp (s1, s2)) (by simp [results, Try.results98, go_sem, q0, q1]) rfl ⟨by rw [HEND.out], HF2⟩
set_option maxRecDepth 100000 in
set_option maxHeartbeats 4000000 in
theorem RBetween_any (d : Drm) (MA : Option Addr) (m mc : Nat) (F : Nat → Int × Int × Int) (a b : Int) (vd : Bool) (E : Int) (S : Nat → Int × Int) (w : World) (hin : DrIn d w.heap.size w) (hm : TrsIn MA m F w.heap.size w) (hvd : vd = true ↔ (0 ≤ a ∧ a ≤ d.n) ∧ 0 ≤ b ∧ b ≤ d.n) (hE : RdR d m F vd E S) :
    Calls Try.prog 47 #[d.v, .slice MA m mc, .int .i64 a, .int .i64 b] w fun e w' => e = .returned (.tuple #[Sp (if E = 0 then apS (gapF d) S a.toNat b.toNat else (0, 0)), .int .i64 E]) ∧ Below w.heap.size w w' := by
  have DD : Hid (∀ W, Below w.heap.size w W → DrIn d W.heap.size W) := Lib.hid fun W h => (hin.up h (Nat.le_refl _)).more h.size
  have MM : Hid (∀ W, Below w.heap.size w W → TrsIn MA m F W.heap.size W) := Lib.hid fun W h => (hm.up h (Nat.le_refl _)).more h.size
  obtain ⟨w1, hw1⟩ : ∃ w1 : World, w1 = (w.alloc (drO d)).alloc (.cells #[.int .i64 0, .int .i64 0] 31) := ⟨_, rfl⟩
  have B1 : Below w.heap.size w w1 := by rw [hw1]; exact box2 _ _ _
  have P1 : HasDr d w.heap.size w1 := by rw [hw1]; exact (dr_new w d).up (box1 _ _)
  have R1 : Bt (w.heap.size + 1) 0 0 w1 := by
    rw [hw1]
    have := Bt.new (w.alloc (drO d)) 31 0 0
    rw [World.size_alloc] at this
    exact this
  have D := Lib.hid B1
  have P := Lib.hid P1
  have R := Lib.hid R1
  have HW := Lib.hid hw1
  obtain ⟨x0, x1⟩ := P.out
  have K1 := Lib.hid fun E (h : CoR d m F vd E) => Rcolumns_any d MA m mc F a b vd E w1 (DD.out w1 B1) (MM.out w1 B1) hvd h
  clear hin hm B1 P1 R1 hw1
  by_cases hc : CoR d m F vd 0
  · have K2 := Lib.hid (K1.out 0 hc)
    obtain ⟨hd, hk, hvt⟩ : DrOk d ∧ MksOk d m F ∧ vd = true := by
      rcases hc with ⟨h, _⟩ | ⟨h1, h2, ⟨_, h⟩ | ⟨h, _⟩⟩
      · omega
      · omega
      · exact ⟨h1, h2, h⟩
    subst hvt
    have hx := hvd.1 rfl
    have KT := Lib.hid fun W h => Rtold_any d MA m mc F E S W (DD.out W h) (MM.out W h) hE
    have HEN : Hid (E = 0 → Ends d.n (Rdg d.n (gapF d) m F) S) := Lib.hid fun h0 => by
      rcases hE with ⟨h, _⟩ | ⟨_, _, ⟨h, _⟩ | ⟨_, h, _⟩ | ⟨_, _, h⟩⟩
      · omega
      · cases h
      · omega
      · exact h
    obtain ⟨qa, rfl⟩ : ∃ k : Nat, a = (k : Int) := ⟨a.toNat, by omega⟩
    obtain ⟨qb, rfl⟩ : ∃ k : Nat, b = (k : Int) := ⟨b.toNat, by omega⟩
    rw [Int.toNat_natCast, Int.toNat_natCast]
    have KB : Hid (∀ W, Below w.heap.size w W → Ends d.n (Rdg d.n (gapF d) m F) S → Calls Try.prog 98 #[d.v, .slice MA m mc, .int .i64 (qa : Int), .int .i64 (qb : Int)] W fun e w' => e = .returned (Sp (apS (gapF d) S qa qb)) ∧ Below W.heap.size W w') := Lib.hid fun W h hS => Rbetween_any d MA m mc F qa qb S W (DD.out W h) (MM.out W h) hd hk (by omega) (by omega) hS
    clear hE hvd hc hd hk hx
    go_enter Try.func47, Try.ntmps47
    go_wp2_with fail
    rw [← HW.out]
    refine K2.out.mono ?_
    rintro e w2 ⟨rfl, hb2⟩
    have D := Lib.hid (nextB D.out hb2)
    have P := Lib.hid (P.out.up hb2)
    have R := Lib.hid (R.out.up hb2)
    clear hb2 x0 x1
    obtain ⟨x0, x1⟩ := P.out
    go_wp2_with fail
    refine (KT.out _ D.out).mono ?_
    rintro e w3 ⟨v, rfl, hb3, hv⟩
    have D := Lib.hid (nextB D.out hb3)
    have P := Lib.hid (P.out.up hb3)
    have R := Lib.hid (R.out.up hb3)
    clear hb3 x0 x1
    obtain ⟨x0, x1⟩ := P.out
    rcases hv with ⟨hne, rfl⟩ | ⟨rfl, t, rfl, ht, hS⟩
    · have hn2 : (E != 0) = true := by simpa using hne
      have HNE := Lib.hid hne
      clear hne
      have zR := R.out.lt
      have hset : Below w.heap.size w ((w3.setCell ⟨w.heap.size + 1, 0, none⟩ (.int .i64 (0))).setCell ⟨w.heap.size + 1, 1, none⟩ (.int .i64 (0))) := set1 (set1 D.out (by omega) _ _) (by omega) _ _
      have HF := Lib.hid hset
      have HQ := Lib.hid (R.out.store (0) (0))
      clear hset
      obtain ⟨r0, r1, r2, r3⟩ := R.out
      go_wp2_with fail
      obtain ⟨wf, hwf⟩ : ∃ wf : World, wf = (w3.setCell ⟨w.heap.size + 1, 0, none⟩ (.int .i64 (0))).setCell ⟨w.heap.size + 1, 1, none⟩ (.int .i64 (0)) := ⟨_, rfl⟩
      have HF2 := HF.out
      have hq := HQ.out
      rw [← hwf] at hq HF2 ⊢
      obtain ⟨q0, q1, _, _⟩ := hq
      exact bodyPost_ret (v := .tuple #[Sp (0, 0), .int .i64 (E)]) (by simp [results, Try.results47, go_sem, q0, q1]) rfl ⟨(by first | rfl | rw [if_neg HNE.out]), HF2⟩
    · clear hS ht
      have KB2 := Lib.hid (KB.out w3 D.out (HEN.out rfl))
      obtain ⟨⟨p, q⟩, hpq⟩ : ∃ g, g = apS (gapF d) S qa qb := ⟨_, rfl⟩
      rw [← hpq] at KB2
      have HPQ := Lib.hid hpq
      clear hpq
      go_wp2_with fail
      refine KB2.out.mono ?_
      rintro e w4 ⟨rfl, hb4⟩
      have D := Lib.hid (nextB D.out hb4)
      have P := Lib.hid (P.out.up hb4)
      have R := Lib.hid (R.out.up hb4)
      clear hb4 x0 x1
      obtain ⟨x0, x1⟩ := P.out
      have zR := R.out.lt
      have hset : Below w.heap.size w ((w4.setCell ⟨w.heap.size + 1, 0, none⟩ (.int .i64 (p))).setCell ⟨w.heap.size + 1, 1, none⟩ (.int .i64 (q))) := set1 (set1 D.out (by omega) _ _) (by omega) _ _
      have HF := Lib.hid hset
      have HQ := Lib.hid (R.out.store (p) (q))
      clear hset
      obtain ⟨r0, r1, r2, r3⟩ := R.out
      go_wp2_with fail
      obtain ⟨wf, hwf⟩ : ∃ wf : World, wf = (w4.setCell ⟨w.heap.size + 1, 0, none⟩ (.int .i64 (p))).setCell ⟨w.heap.size + 1, 1, none⟩ (.int .i64 (q)) := ⟨_, rfl⟩
      have HF2 := HF.out
      have hq := HQ.out
      rw [← hwf] at hq HF2 ⊢
      obtain ⟨q0, q1, _, _⟩ := hq
      exact bodyPost_ret (v := .tuple #[Sp (p, q), .int .i64 (0)]) (by simp [results, Try.results47, go_sem, q0, q1]) rfl ⟨(by first | (rw [if_pos rfl, ← HPQ.out]) | (rw [← HPQ.out]) | simp [← HPQ.out]), HF2⟩
  · obtain ⟨hne, hc1⟩ : ¬ E = 0 ∧ CoR d m F vd E := by
      rcases hE with h | ⟨h1, h2, ⟨h3, h4⟩ | ⟨h3, _⟩ | ⟨h3, _⟩⟩
      · exact ⟨by omega, .inl h⟩
      · exact ⟨by omega, .inr ⟨h1, h2, .inl ⟨h3, h4⟩⟩⟩
      · exact absurd (.inr ⟨h1, h2, .inr ⟨h3, rfl⟩⟩) hc
      · exact absurd (.inr ⟨h1, h2, .inr ⟨h3, rfl⟩⟩) hc
    have K2 := Lib.hid (K1.out E hc1)
    have hn1 : (E != 0) = true := by simpa using hne
    have HNE := Lib.hid hne
    clear hE hvd hc hc1 hne
    go_enter Try.func47, Try.ntmps47
    go_wp2_with fail
    rw [← HW.out]
    refine K2.out.mono ?_
    rintro e w2 ⟨rfl, hb2⟩
    have D := Lib.hid (nextB D.out hb2)
    have P := Lib.hid (P.out.up hb2)
    have R := Lib.hid (R.out.up hb2)
    clear hb2 x0 x1
    obtain ⟨x0, x1⟩ := P.out
    have zR := R.out.lt
    have hset : Below w.heap.size w ((w2.setCell ⟨w.heap.size + 1, 0, none⟩ (.int .i64 (0))).setCell ⟨w.heap.size + 1, 1, none⟩ (.int .i64 (0))) := set1 (set1 D.out (by omega) _ _) (by omega) _ _
    have HF := Lib.hid hset
    have HQ := Lib.hid (R.out.store (0) (0))
    clear hset
    obtain ⟨r0, r1, r2, r3⟩ := R.out
    go_wp2_with fail
    obtain ⟨wf, hwf⟩ : ∃ wf : World, wf = (w2.setCell ⟨w.heap.size + 1, 0, none⟩ (.int .i64 (0))).setCell ⟨w.heap.size + 1, 1, none⟩ (.int .i64 (0)) := ⟨_, rfl⟩
    have HF2 := HF.out
    have hq := HQ.out
    rw [← hwf] at hq HF2 ⊢
    obtain ⟨q0, q1, _, _⟩ := hq
    exact bodyPost_ret (v := .tuple #[Sp (0, 0), .int .i64 (E)]) (by simp [results, Try.results47, go_sem, q0, q1]) rfl ⟨(by first | rfl | rw [if_neg HNE.out]), HF2⟩
end Go.Proofs.Ytpikaohodieeaaa
