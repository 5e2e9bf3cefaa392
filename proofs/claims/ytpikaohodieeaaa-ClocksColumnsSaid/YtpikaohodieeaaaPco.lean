/- ClocksColumns' law. -/
import Derived.Test.YtpikaohodieeaaaCnm
namespace Go.Proofs.Ytpikaohodieeaaa
open Go.RowKit
set_option linter.unusedSimpArgs false
set_option linter.unusedVariables false
theorem lastP_mono {Z : Nat → Int} {x y : Int} (h : x ≤ y) : ∀ n, lastP Z x n ≤ lastP Z y n ∧ -1 ≤ lastP Z x n ∧ lastP Z x n < n
  | 0 => by simp [lastP]
  | n + 1 => by
    obtain ⟨h1, h2, h3⟩ := lastP_mono (Z := Z) h n
    have h4 : lastP Z y n < n := by
      have : ∀ n, lastP Z y n < n ∧ -1 ≤ lastP Z y n := by
        intro n
        induction n with
        | zero => simp [lastP]
        | succ n ih => unfold lastP; split <;> omega
      exact (this n).1
    unfold lastP
    split
    · rw [if_pos (by omega)]; omega
    · split <;> omega
/-- what Columns asks of the bounds -/
theorem col_vals {c : Clo} {S : Nat → Int × Int} {t : Int} (hd : DrOk c.d) (hk : MksOk c.d c.m c.F) (he : Ends c.d.n (Rdg c.d.n (gapF c.d) c.m c.F) S) (hm : c.m ≤ 20) (ht : 0 ≤ t ∧ t ≤ 400) {lo hi : Int} (hlo : lo = lastP (fun i => (S i).2) t (c.d.n + 1)) (hhi : hi = lastP (fun i => (S i).1) t (c.d.n + 1)) :
    (-1 ≤ lo ∧ lo ≤ c.d.n ∧ -1 ≤ hi ∧ hi ≤ c.d.n) ∧ (t < 400 → (CanP c 1 (fun _ => (0, t + 1, 400)) ↔ lo ≤ -1 ∧ -1 ≤ hi)) ∧ (∀ k : Nat, k < c.d.n → t < 400 → (CanP c 2 (pair3 ((k : Int), 0, t) ((k : Int) + 1, t + 1, 400)) ↔ lo ≤ k ∧ k ≤ hi)) ∧
      (CanP c 1 (fun _ => ((c.d.n : Int), 0, t)) ↔ lo ≤ (c.d.n : Int) ∧ (c.d.n : Int) ≤ hi) ∧ (t = 400 → lo = c.d.n) := by
  have hg := gpOk hd
  have hG : ∀ i, i < c.d.n → 1 ≤ (gapF c.d i).1 ∧ (gapF c.d i).1 ≤ (gapF c.d i).2 := fun i hi => by
    have := gapK_bd hd c.d.m (Nat.le_refl _) i hi
    exact ⟨this.1, this.2.1⟩
  have r1 : ∀ i, i + 1 < c.d.n + 1 → (S i).1 < (S (i + 1)).1 := fun i hi => by
    have h1 := he.lo.gap i (by omega)
    have h2 := hG i (by omega)
    unfold hasP at h1
    omega
  have r2 : ∀ i, i + 1 < c.d.n + 1 → (S i).2 < (S (i + 1)).2 := fun i hi => by
    have h1 := he.hi.gap i (by omega)
    have h2 := hG i (by omega)
    unfold hasP at h1
    omega
  obtain ⟨l1, l2, l3⟩ := lastP_rise (Z := fun i => (S i).2) (x := t) (c.d.n + 1) r2
  obtain ⟨k1, k2, k3⟩ := lastP_rise (Z := fun i => (S i).1) (x := t) (c.d.n + 1) r1
  rw [← hlo] at l1 l2 l3
  rw [← hhi] at k1 k2 k3
  have hle : ∀ i, i ≤ c.d.n → (S i).1 ≤ (S i).2 := fun i hi => (he.all _ he.lo i hi).2
  have hmk := mkOk_of hk
  have hn2 := hd.n2
  have hgl : ∀ i, i < c.d.n → (gapF c.d i).1 ≤ (gapF c.d i).2 := fun i hi => (hG i hi).2
  refine ⟨by omega, fun h4 => ?_, fun k hkn h4 => ?_, ?_, fun h4 => ?_⟩
  · rw [canP_iff hd hk (by omega)]
    have z0 := l3 0 (by omega)
    constructor
    · rintro ⟨_, T, hT, h⟩
      have h := h 0 (by omega)
      have h2 := he.all T hT 0 (by omega)
      unfold hasP at h
      simp only at h
      have : (0 : Int).toNat = 0 := rfl
      rw [this] at h
      omega
    · intro h
      refine ⟨fun j _ => ⟨⟨by simp only; omega, by simp only; omega⟩, by unfold isS; simp only; omega⟩, ?_⟩
      refine ⟨_, he.hi, fun j _ => ?_⟩
      have b := he.hi.tick 0 (by omega)
      unfold hasP
      simp only
      have : (0 : Int).toNat = 0 := rfl
      rw [this]
      omega
  · rw [canP_iff hd hk (by omega)]
    have z0 := k3 k (by omega)
    have z1 := l3 (k + 1) (by omega)
    constructor
    · rintro ⟨_, T, hT, h⟩
      have h0 := h 0 (by omega)
      have h1 := h 1 (by omega)
      unfold hasP pair3 at h0 h1
      simp only [if_true, if_neg (show ¬ (1 : Nat) = 0 by omega)] at h0 h1
      rw [Int.toNat_natCast] at h0
      rw [show ((k : Int) + 1).toNat = k + 1 by omega] at h1
      have p : T k ≤ t ∧ t < T (k + 1) := by omega
      have := (he.col hG hmk hkn t).1 ⟨T, hT, p.1, p.2⟩
      omega
    · intro h
      have p : (S k).1 ≤ t ∧ t < (S (k + 1)).2 := by omega
      obtain ⟨T, hT, h0, h1⟩ := (he.col hG hmk hkn t).2 p
      refine ⟨fun j _ => ?_, T, hT, fun j _ => ?_⟩
      · unfold mkOk pair3 isS
        by_cases e : j = 0
        · simp only [if_pos e]; omega
        · simp only [if_neg e]; omega
      · have b0 := hT.tick k (by omega)
        have b1 := hT.tick (k + 1) (by omega)
        unfold hasP pair3
        by_cases e : j = 0
        · simp only [if_pos e]; rw [Int.toNat_natCast]; omega
        · simp only [if_neg e]; rw [show ((k : Int) + 1).toNat = k + 1 by omega]; omega
  · rw [canP_iff hd hk (by omega)]
    have z0 := k3 c.d.n (by omega)
    constructor
    · rintro ⟨_, T, hT, h⟩
      have h := h 0 (by omega)
      have h2 := he.all T hT c.d.n (by omega)
      unfold hasP at h
      rw [Int.toNat_natCast] at h
      simp only at h
      omega
    · intro h
      refine ⟨fun j _ => ⟨⟨by simp only; omega, by simp only; omega⟩, by unfold isS; simp only; omega⟩, _, he.lo, fun j _ => ?_⟩
      have b := he.lo.tick c.d.n (by omega)
      unfold hasP
      rw [Int.toNat_natCast]
      (try simp only at b ⊢)
      omega
  · have z1 := l3 c.d.n (by omega)
    have b := he.hi.tick c.d.n (by omega)
    omega
set_option maxRecDepth 100000 in
set_option maxHeartbeats 4000000 in
theorem columns_law (c : Clo) (x : Aks) (w : World) (hc : ClIn c w.heap.size w) (hx : AkIn x w.heap.size w) :
    Calls Try.prog 12 #[c.v, x.v] w fun e w' => e = .returned (.bool true) ∧ Below w.heap.size w w' := by
  have CC : Hid (∀ W, Below w.heap.size w W → ClIn c W.heap.size W) := Lib.hid fun W h => (hc.up h (Nat.le_refl _)).more h.size
  have AA : Hid (∀ W, Below w.heap.size w W → AkIn x W.heap.size W) := Lib.hid fun W h => (hx.up h (Nat.le_refl _)).more h.size
  obtain ⟨G, hG⟩ := few_ex c
  have HG := Lib.hid hG
  clear hc hG hx
  go_enter Try.func12, Try.ntmps12
  go_wp2_with fail
  refine (awake_any _).mono ?_
  rintro e w2 ⟨rfl, hb⟩
  have D := Lib.hid (nextB (w2b_below c x w) hb)
  have C : Hid (HasCl c w.heap.size w2) := Lib.hid ((w2b_cl c x w).up hb)
  have X : Hid (HasAk x (w.heap.size + 1) w2) := Lib.hid ((w2b_ak c x w).up hb)
  clear hb
  obtain ⟨c0, c1, c2⟩ := C.out
  have zC := C.out.lt
  have x2 : w2.cell? ⟨w.heap.size + 1, 2, none⟩ = some (.int .i64 x.t) := X.out.c 2 _ rfl
  have zX := X.out.lt
  go_wp2_with fail
  refine (few_any c G _ HG.out).mono ?_
  rintro e w3 ⟨rfl, hb⟩
  have J := Lib.hid (hb)
  have D := Lib.hid (nextB D.out J.out)
  clear c0 c1 c2 zC x2 zX
  have C := Lib.hid (C.out.up J.out)
  have X := Lib.hid (X.out.up J.out)
  clear hb
  obtain ⟨c0, c1, c2⟩ := C.out
  have zC := C.out.lt
  have x2 : w3.cell? ⟨w.heap.size + 1, 2, none⟩ = some (.int .i64 x.t) := X.out.c 2 _ rfl
  have zX := X.out.lt
  cases G with
  | false =>
    go_wp2_with fail
    go_ret
    exact ⟨rfl, D.out⟩
  | true =>
    clear HG
    by_cases hm20 : c.m ≤ 20
    · have dm1 : decide (20 < c.m) = false := decide_eq_false (by omega)
      have dm2 : decide ((20 : Int) < (c.m : Int)) = false := decide_eq_false (by omega)
      have HM20 := Lib.hid hm20
      clear hm20
      obtain ⟨vd, hv⟩ := bool_of (0 ≤ x.t ∧ x.t ≤ 400)
      obtain ⟨E, S, hE⟩ := rdR_ex c.d c.m c.F vd
      obtain ⟨⟨s1, s2⟩, hs⟩ : ∃ s : Int × Int, (if E = 0 then (lastP (fun i => (S i).2) x.t (c.d.n + 1), lastP (fun i => (S i).1) x.t (c.d.n + 1)) else (0, 0)) = s := ⟨_, rfl⟩
      have K1 := Lib.hid fun W h => At_any c.d c.MA c.m c.mc c.F x.t vd E S W (CC.out W h).1 (CC.out W h).2 hv hE
      rw [hs] at K1
      have HV := Lib.hid hv
      have HE := Lib.hid hE
      have HS := Lib.hid hs
      clear hv hE hs
      go_wp2_with fail
      refine (K1.out _ D.out).mono ?_
      rintro e w4 ⟨rfl, hb⟩
      have J := Lib.hid (hb)
      have D := Lib.hid (nextB D.out J.out)
      clear c0 c1 c2 zC x2 zX
      have C := Lib.hid (C.out.up J.out)
      have X := Lib.hid (X.out.up J.out)
      clear hb
      obtain ⟨c0, c1, c2⟩ := C.out
      have zC := C.out.lt
      have x2 : w4.cell? ⟨w.heap.size + 1, 2, none⟩ = some (.int .i64 x.t) := X.out.c 2 _ rfl
      have zX := X.out.lt
      by_cases hz : E = 0
      · subst hz
        obtain ⟨hvt, hd, hk, he⟩ := rdR_0 HE.out
        have ht := HV.out.1 hvt
        have hS := HS.out
        rw [if_pos rfl] at hS
        injection hS with hs1 hs2
        have HC := Lib.hid (col_vals hd hk he HM20.out ht hs1.symm hs2.symm)
        obtain ⟨t2, ht2⟩ : ∃ t2, IntKind.i64.wrap (x.t + 1) = t2 := ⟨_, rfl⟩
        have ht3 : t2 = x.t + 1 := by rw [← ht2]; exact IntWalk.i64_in _ (by omega)
        obtain ⟨vd2, hv2⟩ := bool_of (0 ≤ t2 ∧ t2 ≤ 400)
        obtain ⟨⟨r1, r2⟩, hr⟩ : ∃ s : Int × Int, (lastP (fun i => (S i).2) t2 (c.d.n + 1), lastP (fun i => (S i).1) t2 (c.d.n + 1)) = s := ⟨_, rfl⟩
        have hmono : s1 ≤ r1 ∧ s2 ≤ r2 := by
          injection hr with e1 e2
          rw [← hs1, ← hs2, ← e1, ← e2]
          exact ⟨(lastP_mono (by omega) _).1, (lastP_mono (by omega) _).1⟩
        have K2 := Lib.hid fun W h (hv : vd2 = true) => At_any c.d c.MA c.m c.mc c.F t2 vd2 0 S W (CC.out W h).1 (CC.out W h).2 hv2 (.inr ⟨hd, hk, .inr (.inr ⟨hv, rfl, he⟩)⟩)
        rw [if_pos rfl, hr] at K2
        have K3 := Lib.hid fun W h (hv : vd2 = false) => At_any c.d c.MA c.m c.mc c.F t2 vd2 1 S W (CC.out W h).1 (CC.out W h).2 hv2 (.inr ⟨hd, hk, .inl ⟨hv, rfl⟩⟩)
        have KC := Lib.hid fun q H G1 ad qc W (h : Below w.heap.size w W) hq (hq1 : 1 ≤ q ∧ q ≤ 2) hG => can_any c ad q qc H G1 W (CC.out W h) hq (by have := HM20.out; omega) (by omega) hq1.1 hG
        have HT := Lib.hid ht
        have HT2 := Lib.hid ht2
        have HT3 := Lib.hid ht3
        have HMO := Lib.hid hmono
        have HN := Lib.hid hd.n2
        have HN1 := Lib.hid hd.n1
        obtain ⟨i0, hi0, hz0, hz1, hz2⟩ := info_parts Try.infoMark
        clear hvt hd hk he hs1 hs2 ht ht2 ht3 hr hmono hv2
        go_wp2_with fail
        obtain ⟨w5, hw5⟩ : ∃ w5 : World, w5 = w4.alloc (.cells #[.int .i64 s1, .int .i64 s2] 31) := ⟨_, rfl⟩
        have hb5 : Below w4.heap.size w4 w5 := by rw [hw5]; exact box1 _ _
        have L : Hid (Bt w4.heap.size s1 s2 w5) := Lib.hid (by rw [hw5]; exact Bt.new _ _ _ _)
        rw [← hw5]
        clear hw5
        have D := Lib.hid (nextB D.out hb5)
        have C := Lib.hid (C.out.up hb5)
        have X := Lib.hid (X.out.up hb5)
        clear hb5 c0 c1 c2 zC x2 zX
        go_loopw [9, 10, 11] (fun k more may wr => ∃ j : Int, -1 ≤ j ∧ j ≤ c.d.n + 1 ∧ k = .int .i64 j ∧ Below w5.heap.size w5 wr) (fun k _ _ _ => ((c.d.n : Int) + 1 - intOf k).toNat)
        case atStart => exact ⟨-1, by omega, by omega, rfl, Below.refl _ _⟩
        case round =>
          obtain ⟨j, hj1, hj2, rfl, hb⟩ := hrel
          obtain ⟨w6, rfl⟩ : ∃ w6 : World, w6 = wr := ⟨_, rfl⟩
          have HB6 := Lib.hid hb
          have D5 := D
          have D := Lib.hid (nextB D.out hb)
          have C := Lib.hid (C.out.up hb)
          have X := Lib.hid (X.out.up hb)
          have L := Lib.hid (L.out.up hb)
          clear hb
          obtain ⟨c0, c1, c2⟩ := C.out
          have zC := C.out.lt
          have x2 : w6.cell? ⟨w.heap.size + 1, 2, none⟩ = some (.int .i64 x.t) := X.out.c 2 _ rfl
          have zX := X.out.lt
          obtain ⟨l0, l1, l2, l3⟩ := L.out
          have zL := L.out.lt
          by_cases hjl : j ≤ (c.d.n : Int)
          · obtain ⟨⟨hb1, hb2, hb3, hb4⟩, hca, hcb, hcc, hcd⟩ := HC.out
            have DW0 : Hid (Below w6.heap.size w6 w6) := Lib.hid (Below.refl _ _)
            obtain ⟨hn200, hn1⟩ : c.d.n < 200 ∧ 1 ≤ c.d.n := ⟨HN.out, HN1.out⟩
            obtain ⟨ht0, ht400⟩ := HT.out
            rcases (show j = -1 ∨ (0 ≤ j ∧ j < c.d.n) ∨ j = c.d.n by omega) with hj | ⟨hj3, hj4⟩ | hj
            · subst hj
              have wj : IntKind.i64.wrap (-1 + 1) = 0 := by decide
              have ht3 := HT3.out
              have wt : IntKind.i64.wrap (x.t + 1) = x.t + 1 := by rw [HT2.out]; exact ht3
              clear ht3
              by_cases hlt : x.t < 400
              · by_cases hlo : s1 ≤ (-1)
                · have dt : decide (x.t < 400) = true := decide_eq_true hlt
                  have dlo : decide (s1 ≤ (-1)) = true := decide_eq_true hlo
                  obtain ⟨g, hg⟩ := bool_of ((-1) ≤ s2)
                  have dhi : decide ((-1) ≤ s2) = g := Bool.eq_iff_iff.2 (by rw [decide_eq_true_eq, hg])
                  have HG18 : Hid (g = true ↔ CanP c 1 (fun _ => (0, x.t + 1, 400))) := Lib.hid (hg.trans ⟨fun h => (hca hlt).2 ⟨hlo, h⟩, fun h => ((hca hlt).1 h).2⟩)
                  clear hg
                  clear hca hcb hcc hcd hb1 hb2 hb3 hb4
                  clear c0 c1 c2 l0 l1 l2 l3 zC zL
                  go_wp2_with (at_builtin; refine wpList_append_own _ rfl _ _ 26 rfl w6.heap.size 33 i0 (.agg #[.int .i64 0, .int .i64 0, .int .i64 0]) 3 24 Try.underlying26 hi0 hz0 hz1 hz2 rfl (by decide) _ 0 [] rfl (World.ownsRow_nil _ _ _ _) ⟨w6.heap.size, 0, none⟩ 1 1 [.int .i64 (0), .int .i64 (x.t + 1), .int .i64 (400)] rfl rfl (new3 _ _ _ _ _ _ rfl) (by simp [Value.oneCell']) (by unfold maxLen; omega) (by omega) (by rw [World.size_alloc]; have := DW0.out.size; omega) ?_; intro v1 w7 hown hg _; have DW1 : Hid (Below w6.heap.size w6 w7) := Lib.hid ((nextB DW0.out (box1 w6 _)).grown hg (by rw [World.size_alloc]; have := DW0.out.size; omega) (fun r e => by cases e)); clear x2 zX; have x2 : w7.cell? ⟨w.heap.size + 1, 2, none⟩ = some (.int .i64 x.t) := (X.out.up DW1.out).c 2 _ rfl; have zX := (X.out.up DW1.out).lt; have OWN1 := Lib.hid hown; clear hown hg)
                  have hrow : w7.ownsRow w6.heap.size 33 3 v1 1 (rowT (fun _ => (0, x.t + 1, 400)) 1) := OWN1.out
                  obtain ⟨g9, cap9, rfl, htr⟩ : ∃ g cap, v1 = .slice (some ⟨g, 0, none⟩) 1 cap ∧ TrsIn (some ⟨g, 0, none⟩) 1 (fun _ => (0, x.t + 1, 400)) w7.heap.size w7 := by
                    obtain ⟨_, ⟨_, f⟩ | ⟨g, cap, cur, f1, _⟩⟩ := id hrow
                    · cases f
                    · subst f1; exact ⟨g, cap, rfl, row_trs hrow (by omega)⟩
                  have HTR := Lib.hid htr
                  clear hrow htr
                  have HD : Hid (Below w6.heap.size w6 w7) := DW1
                  obtain ⟨c0, c1, c2⟩ := (C.out.up HD.out)
                  obtain ⟨l0, l1, _, _⟩ := (L.out.up HD.out)
                  have zC := (C.out.up HD.out).lt
                  have zL := (L.out.up HD.out).lt
                  refine wp_region_M [] (fun w' => w'.cell? ⟨w.heap.size, 0, none⟩ = some (.slice c.d.RA c.d.n c.d.rc) ∧ w'.cell? ⟨w.heap.size, 1, none⟩ = some (.slice c.d.SA c.d.m c.d.sc) ∧ w'.cell? ⟨w.heap.size, 2, none⟩ = some (.slice c.MA c.m c.mc) ∧ w'.cell? ⟨w4.heap.size, 0, none⟩ = some (.int .i64 s1) ∧ w'.cell? ⟨w4.heap.size, 1, none⟩ = some (.int .i64 s2)) (by kernel_rfl) (by kernel_rfl) (by (try dsimp only); (repeat' apply And.intro); all_goals first | assumption | (go_simp; done)) (fun hT0 => ?_)
                  refine M_take (v := ?_) 0 rfl (by kernel_rfl) (by assumption) (fun _ _ _ h => h) (Or.inl ⟨by rfl, ?_⟩) ?_
                  rotate_left
                  · (intro w hSw; (try dsimp only at hSw); go_simp; (try with_reducible rfl))
                  (try simp only [Act.put, List.setIfInBounds_toArray, List.set_cons_zero, List.set_cons_succ])
                  refine M_take (v := ?_) 1 rfl (by kernel_rfl) (by assumption) (fun _ _ _ h => h) (Or.inl ⟨by rfl, ?_⟩) ?_
                  rotate_left
                  · (intro w hSw; (try dsimp only at hSw); go_simp; (try with_reducible rfl))
                  (try simp only [Act.put, List.setIfInBounds_toArray, List.set_cons_zero, List.set_cons_succ])
                  refine M_take (v := ?_) 2 rfl (by kernel_rfl) (by assumption) (fun _ _ _ h => h) (Or.inl ⟨by rfl, ?_⟩) ?_
                  rotate_left
                  · (intro w hSw; (try dsimp only at hSw); go_simp; (try with_reducible rfl))
                  (try simp only [Act.put, List.setIfInBounds_toArray, List.set_cons_zero, List.set_cons_succ])
                  refine M_take (v := ?_) 3 rfl (by kernel_rfl) (by assumption) (fun _ _ _ h => h) (Or.inl ⟨by rfl, ?_⟩) ?_
                  rotate_left
                  · (intro w hSw; (try dsimp only at hSw); go_simp; (try with_reducible rfl))
                  (try simp only [Act.put, List.setIfInBounds_toArray, List.set_cons_zero, List.set_cons_succ])
                  refine M_take (v := ?_) 6 rfl (by kernel_rfl) (by assumption) (fun _ _ _ h => h) (Or.inl ⟨by rfl, ?_⟩) ?_
                  rotate_left
                  · (intro w hSw; (try dsimp only at hSw); go_simp; (try with_reducible rfl))
                  (try simp only [Act.put, List.setIfInBounds_toArray, List.set_cons_zero, List.set_cons_succ])
                  refine M_take (v := ?_) 7 rfl (by kernel_rfl) (by assumption) (fun _ _ _ h => h) (Or.inl ⟨by rfl, ?_⟩) ?_
                  rotate_left
                  · (intro w hSw; (try dsimp only at hSw); go_simp; (try with_reducible rfl))
                  (try simp only [Act.put, List.setIfInBounds_toArray, List.set_cons_zero, List.set_cons_succ])
                  refine M_take (v := ?_) 8 rfl (by kernel_rfl) (by assumption) (fun _ _ _ h => h) (Or.inl ⟨by rfl, ?_⟩) ?_
                  rotate_left
                  · (intro w hSw; (try dsimp only at hSw); go_simp; (try with_reducible rfl))
                  (try simp only [Act.put, List.setIfInBounds_toArray, List.set_cons_zero, List.set_cons_succ])
                  refine M_take (v := ?_) 9 rfl (by kernel_rfl) (by assumption) (fun _ _ _ h => h) (Or.inl ⟨by rfl, ?_⟩) ?_
                  rotate_left
                  · (intro w hSw; (try dsimp only at hSw); go_simp; (try with_reducible rfl))
                  (try simp only [Act.put, List.setIfInBounds_toArray, List.set_cons_zero, List.set_cons_succ])
                  refine M_step 4 rfl (by kernel_rfl) (fun K hK => ?_)
                  go_simp
                  go_at_call 67
                  refine (KC.out 1 (fun _ => (0, x.t + 1, 400)) g _ _ _ (nextB D.out (nextB HD.out (Below.refl _ _).drew)) ((HTR.out.up (Below.refl w7.heap.size w7).drew (Nat.le_refl _)).more (Below.refl w7.heap.size w7).drew.size) (by omega) HG18.out).mono ?_
                  rintro e wA ⟨rfl, hbA⟩
                  have HBA := Lib.hid (show Below w7.heap.size w7 wA from nextB (Below.refl _ _).drew hbA)
                  have hTA : (fun w' => w'.cell? ⟨w.heap.size, 0, none⟩ = some (.slice c.d.RA c.d.n c.d.rc) ∧ w'.cell? ⟨w.heap.size, 1, none⟩ = some (.slice c.d.SA c.d.m c.d.sc) ∧ w'.cell? ⟨w.heap.size, 2, none⟩ = some (.slice c.MA c.m c.mc) ∧ w'.cell? ⟨w4.heap.size, 0, none⟩ = some (.int .i64 s1) ∧ w'.cell? ⟨w4.heap.size, 1, none⟩ = some (.int .i64 s2)) wA := ⟨(HBA.out.cell (World.block_lt_of_cell? _ _ c0)).trans c0, (HBA.out.cell (World.block_lt_of_cell? _ _ c1)).trans c1, (HBA.out.cell (World.block_lt_of_cell? _ _ c2)).trans c2, (HBA.out.cell (World.block_lt_of_cell? _ _ l0)).trans l0, (HBA.out.cell (World.block_lt_of_cell? _ _ l1)).trans l1⟩
                  clear hbA
                  refine hK.out _ _ (fun _ => hTA) ?_
                  clear hK K
                  (try simp only [Act.put, List.setIfInBounds_toArray, List.set_cons_zero, List.set_cons_succ])
                  refine M_take (v := ?_) 5 rfl (by kernel_rfl) (by assumption) (fun _ _ _ h => h) (Or.inl ⟨by rfl, ?_⟩) ?_
                  rotate_left
                  · (intro w hSw; (try dsimp only at hSw); go_simp; (try with_reducible rfl))
                  (try simp only [Act.put, List.setIfInBounds_toArray, List.set_cons_zero, List.set_cons_succ])
                  refine M_take (v := ?_) 10 rfl (by kernel_rfl) (by assumption) (fun _ _ _ h => h) (Or.inl ⟨by rfl, ?_⟩) ?_
                  rotate_left
                  · (intro w hSw; (try dsimp only at hSw); go_simp; (try with_reducible rfl))
                  (try simp only [Act.put, List.setIfInBounds_toArray, List.set_cons_zero, List.set_cons_succ])
                  refine M_take (v := ?_) 11 rfl (by kernel_rfl) (by assumption) (fun _ _ _ h => h) (Or.inl ⟨by rfl, ?_⟩) ?_
                  rotate_left
                  · (intro w hSw; (try dsimp only at hSw); go_simp; (try with_reducible rfl))
                  (try simp only [Act.put, List.setIfInBounds_toArray, List.set_cons_zero, List.set_cons_succ])
                  refine M_take (v := ?_) 12 rfl (by kernel_rfl) (by assumption) (fun _ _ _ h => h) (Or.inl ⟨by rfl, ?_⟩) ?_
                  rotate_left
                  · (intro w hSw; (try dsimp only at hSw); go_simp; (try with_reducible rfl))
                  (try simp only [Act.put, List.setIfInBounds_toArray, List.set_cons_zero, List.set_cons_succ])
                  refine M_take (v := ?_) 13 rfl (by kernel_rfl) (by assumption) (fun _ _ _ h => h) (Or.inl ⟨by rfl, ?_⟩) ?_
                  rotate_left
                  · (intro w hSw; (try dsimp only at hSw); go_simp; (try with_reducible rfl))
                  (try simp only [Act.put, List.setIfInBounds_toArray, List.set_cons_zero, List.set_cons_succ])
                  refine M_take (v := ?_) 14 rfl (by kernel_rfl) (by assumption) (fun _ _ _ h => h) (Or.inl ⟨by rfl, ?_⟩) ?_
                  rotate_left
                  · (intro w hSw; (try dsimp only at hSw); go_simp; (try with_reducible rfl))
                  (try simp only [Act.put, List.setIfInBounds_toArray, List.set_cons_zero, List.set_cons_succ])
                  refine M_take (v := ?_) 15 rfl (by kernel_rfl) (by assumption) (fun _ _ _ h => h) (Or.inl ⟨by rfl, ?_⟩) ?_
                  rotate_left
                  · (intro w hSw; (try dsimp only at hSw); go_simp; (try with_reducible rfl))
                  (try simp only [Act.put, List.setIfInBounds_toArray, List.set_cons_zero, List.set_cons_succ])
                  refine M_take (v := ?_) 16 rfl (by kernel_rfl) (by assumption) (fun _ _ _ h => h) (Or.inl ⟨by rfl, ?_⟩) ?_
                  rotate_left
                  · (intro w hSw; (try dsimp only at hSw); go_simp; (try with_reducible rfl))
                  (try simp only [Act.put, List.setIfInBounds_toArray, List.set_cons_zero, List.set_cons_succ])
                  refine M_done (by kernel_rfl) ?_ _
                  have HF : Hid (Below w5.heap.size w5 wA) := Lib.hid (nextB HB6.out (nextB HD.out HBA.out))
                  clear hT0 hTA c0 c1 c2 l0 l1 zC zL
                  go_wp2_with fail
                  go_roundw
                  case rel => exact ⟨0, by omega, by omega, rfl, HF.out⟩
                  case measure => (simp [intOf] <;> omega)
                · have dt : decide (x.t < 400) = true := decide_eq_true hlt
                  have dlo : decide (s1 ≤ (-1)) = false := decide_eq_false hlo
                  have HG18 : Hid (false = true ↔ CanP c 1 (fun _ => (0, x.t + 1, 400))) := Lib.hid ⟨fun h => (Bool.false_ne_true h).elim, fun h => absurd ((hca hlt).1 h).1 hlo⟩
                  clear hca hcb hcc hcd hb1 hb2 hb3 hb4
                  clear c0 c1 c2 l0 l1 l2 l3 zC zL
                  go_wp2_with (at_builtin; refine wpList_append_own _ rfl _ _ 26 rfl w6.heap.size 33 i0 (.agg #[.int .i64 0, .int .i64 0, .int .i64 0]) 3 24 Try.underlying26 hi0 hz0 hz1 hz2 rfl (by decide) _ 0 [] rfl (World.ownsRow_nil _ _ _ _) ⟨w6.heap.size, 0, none⟩ 1 1 [.int .i64 (0), .int .i64 (x.t + 1), .int .i64 (400)] rfl rfl (new3 _ _ _ _ _ _ rfl) (by simp [Value.oneCell']) (by unfold maxLen; omega) (by omega) (by rw [World.size_alloc]; have := DW0.out.size; omega) ?_; intro v1 w7 hown hg _; have DW1 : Hid (Below w6.heap.size w6 w7) := Lib.hid ((nextB DW0.out (box1 w6 _)).grown hg (by rw [World.size_alloc]; have := DW0.out.size; omega) (fun r e => by cases e)); clear x2 zX; have x2 : w7.cell? ⟨w.heap.size + 1, 2, none⟩ = some (.int .i64 x.t) := (X.out.up DW1.out).c 2 _ rfl; have zX := (X.out.up DW1.out).lt; have OWN1 := Lib.hid hown; clear hown hg)
                  have hrow : w7.ownsRow w6.heap.size 33 3 v1 1 (rowT (fun _ => (0, x.t + 1, 400)) 1) := OWN1.out
                  obtain ⟨g9, cap9, rfl, htr⟩ : ∃ g cap, v1 = .slice (some ⟨g, 0, none⟩) 1 cap ∧ TrsIn (some ⟨g, 0, none⟩) 1 (fun _ => (0, x.t + 1, 400)) w7.heap.size w7 := by
                    obtain ⟨_, ⟨_, f⟩ | ⟨g, cap, cur, f1, _⟩⟩ := id hrow
                    · cases f
                    · subst f1; exact ⟨g, cap, rfl, row_trs hrow (by omega)⟩
                  have HTR := Lib.hid htr
                  clear hrow htr
                  have HD : Hid (Below w6.heap.size w6 w7) := DW1
                  obtain ⟨c0, c1, c2⟩ := (C.out.up HD.out)
                  obtain ⟨l0, l1, _, _⟩ := (L.out.up HD.out)
                  have zC := (C.out.up HD.out).lt
                  have zL := (L.out.up HD.out).lt
                  refine wp_region_M [] (fun w' => w'.cell? ⟨w.heap.size, 0, none⟩ = some (.slice c.d.RA c.d.n c.d.rc) ∧ w'.cell? ⟨w.heap.size, 1, none⟩ = some (.slice c.d.SA c.d.m c.d.sc) ∧ w'.cell? ⟨w.heap.size, 2, none⟩ = some (.slice c.MA c.m c.mc) ∧ w'.cell? ⟨w4.heap.size, 0, none⟩ = some (.int .i64 s1) ∧ w'.cell? ⟨w4.heap.size, 1, none⟩ = some (.int .i64 s2)) (by kernel_rfl) (by kernel_rfl) (by (try dsimp only); (repeat' apply And.intro); all_goals first | assumption | (go_simp; done)) (fun hT0 => ?_)
                  refine M_take (v := ?_) 0 rfl (by kernel_rfl) (by assumption) (fun _ _ _ h => h) (Or.inl ⟨by rfl, ?_⟩) ?_
                  rotate_left
                  · (intro w hSw; (try dsimp only at hSw); go_simp; (try with_reducible rfl))
                  (try simp only [Act.put, List.setIfInBounds_toArray, List.set_cons_zero, List.set_cons_succ])
                  refine M_take (v := ?_) 1 rfl (by kernel_rfl) (by assumption) (fun _ _ _ h => h) (Or.inl ⟨by rfl, ?_⟩) ?_
                  rotate_left
                  · (intro w hSw; (try dsimp only at hSw); go_simp; (try with_reducible rfl))
                  (try simp only [Act.put, List.setIfInBounds_toArray, List.set_cons_zero, List.set_cons_succ])
                  refine M_take (v := ?_) 2 rfl (by kernel_rfl) (by assumption) (fun _ _ _ h => h) (Or.inl ⟨by rfl, ?_⟩) ?_
                  rotate_left
                  · (intro w hSw; (try dsimp only at hSw); go_simp; (try with_reducible rfl))
                  (try simp only [Act.put, List.setIfInBounds_toArray, List.set_cons_zero, List.set_cons_succ])
                  refine M_take (v := ?_) 3 rfl (by kernel_rfl) (by assumption) (fun _ _ _ h => h) (Or.inl ⟨by rfl, ?_⟩) ?_
                  rotate_left
                  · (intro w hSw; (try dsimp only at hSw); go_simp; (try with_reducible rfl))
                  (try simp only [Act.put, List.setIfInBounds_toArray, List.set_cons_zero, List.set_cons_succ])
                  refine M_take (v := ?_) 6 rfl (by kernel_rfl) (by assumption) (fun _ _ _ h => h) (Or.inl ⟨by rfl, ?_⟩) ?_
                  rotate_left
                  · (intro w hSw; (try dsimp only at hSw); go_simp; (try with_reducible rfl))
                  (try simp only [Act.put, List.setIfInBounds_toArray, List.set_cons_zero, List.set_cons_succ])
                  refine M_take (v := ?_) 7 rfl (by kernel_rfl) (by assumption) (fun _ _ _ h => h) (Or.inl ⟨by rfl, ?_⟩) ?_
                  rotate_left
                  · (intro w hSw; (try dsimp only at hSw); go_simp; (try with_reducible rfl))
                  (try simp only [Act.put, List.setIfInBounds_toArray, List.set_cons_zero, List.set_cons_succ])
                  refine M_take (v := ?_) 8 rfl (by kernel_rfl) (by assumption) (fun _ _ _ h => h) (Or.inl ⟨by rfl, ?_⟩) ?_
                  rotate_left
                  · (intro w hSw; (try dsimp only at hSw); go_simp; (try with_reducible rfl))
                  (try simp only [Act.put, List.setIfInBounds_toArray, List.set_cons_zero, List.set_cons_succ])
                  refine M_take (v := ?_) 9 rfl (by kernel_rfl) (by assumption) (fun _ _ _ h => h) (Or.inl ⟨by rfl, ?_⟩) ?_
                  rotate_left
                  · (intro w hSw; (try dsimp only at hSw); go_simp; (try with_reducible rfl))
                  (try simp only [Act.put, List.setIfInBounds_toArray, List.set_cons_zero, List.set_cons_succ])
                  refine M_step 4 rfl (by kernel_rfl) (fun K hK => ?_)
                  go_simp
                  go_at_call 67
                  refine (KC.out 1 (fun _ => (0, x.t + 1, 400)) false _ _ _ (nextB D.out (nextB HD.out (Below.refl _ _).drew)) ((HTR.out.up (Below.refl w7.heap.size w7).drew (Nat.le_refl _)).more (Below.refl w7.heap.size w7).drew.size) (by omega) HG18.out).mono ?_
                  rintro e wA ⟨rfl, hbA⟩
                  have HBA := Lib.hid (show Below w7.heap.size w7 wA from nextB (Below.refl _ _).drew hbA)
                  have hTA : (fun w' => w'.cell? ⟨w.heap.size, 0, none⟩ = some (.slice c.d.RA c.d.n c.d.rc) ∧ w'.cell? ⟨w.heap.size, 1, none⟩ = some (.slice c.d.SA c.d.m c.d.sc) ∧ w'.cell? ⟨w.heap.size, 2, none⟩ = some (.slice c.MA c.m c.mc) ∧ w'.cell? ⟨w4.heap.size, 0, none⟩ = some (.int .i64 s1) ∧ w'.cell? ⟨w4.heap.size, 1, none⟩ = some (.int .i64 s2)) wA := ⟨(HBA.out.cell (World.block_lt_of_cell? _ _ c0)).trans c0, (HBA.out.cell (World.block_lt_of_cell? _ _ c1)).trans c1, (HBA.out.cell (World.block_lt_of_cell? _ _ c2)).trans c2, (HBA.out.cell (World.block_lt_of_cell? _ _ l0)).trans l0, (HBA.out.cell (World.block_lt_of_cell? _ _ l1)).trans l1⟩
                  clear hbA
                  refine hK.out _ _ (fun _ => hTA) ?_
                  clear hK K
                  (try simp only [Act.put, List.setIfInBounds_toArray, List.set_cons_zero, List.set_cons_succ])
                  refine M_take (v := ?_) 5 rfl (by kernel_rfl) (by assumption) (fun _ _ _ h => h) (Or.inl ⟨by rfl, ?_⟩) ?_
                  rotate_left
                  · (intro w hSw; (try dsimp only at hSw); go_simp; (try with_reducible rfl))
                  (try simp only [Act.put, List.setIfInBounds_toArray, List.set_cons_zero, List.set_cons_succ])
                  refine M_take (v := ?_) 10 rfl (by kernel_rfl) (by assumption) (fun _ _ _ h => h) (Or.inl ⟨by rfl, ?_⟩) ?_
                  rotate_left
                  · (intro w hSw; (try dsimp only at hSw); go_simp; (try with_reducible rfl))
                  (try simp only [Act.put, List.setIfInBounds_toArray, List.set_cons_zero, List.set_cons_succ])
                  refine M_take 11 rfl (by kernel_rfl) (by assumption) (fun _ _ _ h => h) (Or.inr ⟨by rfl, rfl⟩) ?_
                  (try simp only [Act.put, List.setIfInBounds_toArray, List.set_cons_zero, List.set_cons_succ])
                  refine M_take 12 rfl (by kernel_rfl) (by assumption) (fun _ _ _ h => h) (Or.inr ⟨by rfl, rfl⟩) ?_
                  (try simp only [Act.put, List.setIfInBounds_toArray, List.set_cons_zero, List.set_cons_succ])
                  refine M_take 13 rfl (by kernel_rfl) (by assumption) (fun _ _ _ h => h) (Or.inr ⟨by rfl, rfl⟩) ?_
                  (try simp only [Act.put, List.setIfInBounds_toArray, List.set_cons_zero, List.set_cons_succ])
                  refine M_take 14 rfl (by kernel_rfl) (by assumption) (fun _ _ _ h => h) (Or.inr ⟨by rfl, rfl⟩) ?_
                  (try simp only [Act.put, List.setIfInBounds_toArray, List.set_cons_zero, List.set_cons_succ])
                  refine M_take (v := ?_) 15 rfl (by kernel_rfl) (by assumption) (fun _ _ _ h => h) (Or.inl ⟨by rfl, ?_⟩) ?_
                  rotate_left
                  · (intro w hSw; (try dsimp only at hSw); go_simp; (try with_reducible rfl))
                  (try simp only [Act.put, List.setIfInBounds_toArray, List.set_cons_zero, List.set_cons_succ])
                  refine M_take (v := ?_) 16 rfl (by kernel_rfl) (by assumption) (fun _ _ _ h => h) (Or.inl ⟨by rfl, ?_⟩) ?_
                  rotate_left
                  · (intro w hSw; (try dsimp only at hSw); go_simp; (try with_reducible rfl))
                  (try simp only [Act.put, List.setIfInBounds_toArray, List.set_cons_zero, List.set_cons_succ])
                  refine M_done (by kernel_rfl) ?_ _
                  have HF : Hid (Below w5.heap.size w5 wA) := Lib.hid (nextB HB6.out (nextB HD.out HBA.out))
                  clear hT0 hTA c0 c1 c2 l0 l1 zC zL
                  go_wp2_with fail
                  go_roundw
                  case rel => exact ⟨0, by omega, by omega, rfl, HF.out⟩
                  case measure => (simp [intOf] <;> omega)
              · have dt : decide (x.t < 400) = false := decide_eq_false hlt
                have dlo : decide (s1 ≤ (-1)) = false := decide_eq_false (by have := hcd (by omega); omega)
                clear hca hcb hcc hcd hb1 hb2 hb3 hb4
                clear c0 c1 c2 l0 l1 l2 l3 zC zL
                go_wp2_with (at_builtin; refine wpList_append_own _ rfl _ _ 26 rfl w6.heap.size 33 i0 (.agg #[.int .i64 0, .int .i64 0, .int .i64 0]) 3 24 Try.underlying26 hi0 hz0 hz1 hz2 rfl (by decide) _ 0 [] rfl (World.ownsRow_nil _ _ _ _) ⟨w6.heap.size, 0, none⟩ 1 1 [.int .i64 (0), .int .i64 (x.t + 1), .int .i64 (400)] rfl rfl (new3 _ _ _ _ _ _ rfl) (by simp [Value.oneCell']) (by unfold maxLen; omega) (by omega) (by rw [World.size_alloc]; have := DW0.out.size; omega) ?_; intro v1 w7 hown hg _; have DW1 : Hid (Below w6.heap.size w6 w7) := Lib.hid ((nextB DW0.out (box1 w6 _)).grown hg (by rw [World.size_alloc]; have := DW0.out.size; omega) (fun r e => by cases e)); clear x2 zX; have x2 : w7.cell? ⟨w.heap.size + 1, 2, none⟩ = some (.int .i64 x.t) := (X.out.up DW1.out).c 2 _ rfl; have zX := (X.out.up DW1.out).lt; have OWN1 := Lib.hid hown; clear hown hg)
                have HD : Hid (Below w6.heap.size w6 w7) := DW1
                obtain ⟨c0, c1, c2⟩ := (C.out.up HD.out)
                obtain ⟨l0, l1, _, _⟩ := (L.out.up HD.out)
                have zC := (C.out.up HD.out).lt
                have zL := (L.out.up HD.out).lt
                refine wp_region_M [] (fun w' => w'.cell? ⟨w.heap.size, 0, none⟩ = some (.slice c.d.RA c.d.n c.d.rc) ∧ w'.cell? ⟨w.heap.size, 1, none⟩ = some (.slice c.d.SA c.d.m c.d.sc) ∧ w'.cell? ⟨w.heap.size, 2, none⟩ = some (.slice c.MA c.m c.mc) ∧ w'.cell? ⟨w4.heap.size, 0, none⟩ = some (.int .i64 s1) ∧ w'.cell? ⟨w4.heap.size, 1, none⟩ = some (.int .i64 s2)) (by kernel_rfl) (by kernel_rfl) (by (try dsimp only); (repeat' apply And.intro); all_goals first | assumption | (go_simp; done)) (fun hT0 => ?_)
                refine M_take (v := ?_) 0 rfl (by kernel_rfl) (by assumption) (fun _ _ _ h => h) (Or.inl ⟨by rfl, ?_⟩) ?_
                rotate_left
                · (intro w hSw; (try dsimp only at hSw); go_simp; (try with_reducible rfl))
                (try simp only [Act.put, List.setIfInBounds_toArray, List.set_cons_zero, List.set_cons_succ])
                refine M_take (v := ?_) 1 rfl (by kernel_rfl) (by assumption) (fun _ _ _ h => h) (Or.inl ⟨by rfl, ?_⟩) ?_
                rotate_left
                · (intro w hSw; (try dsimp only at hSw); go_simp; (try with_reducible rfl))
                (try simp only [Act.put, List.setIfInBounds_toArray, List.set_cons_zero, List.set_cons_succ])
                refine M_take 2 rfl (by kernel_rfl) (by assumption) (fun _ _ _ h => h) (Or.inr ⟨by rfl, rfl⟩) ?_
                (try simp only [Act.put, List.setIfInBounds_toArray, List.set_cons_zero, List.set_cons_succ])
                refine M_take 3 rfl (by kernel_rfl) (by assumption) (fun _ _ _ h => h) (Or.inr ⟨by rfl, rfl⟩) ?_
                (try simp only [Act.put, List.setIfInBounds_toArray, List.set_cons_zero, List.set_cons_succ])
                refine M_take 4 rfl (by kernel_rfl) (by assumption) (fun _ _ _ h => h) (Or.inr ⟨by rfl, rfl⟩) ?_
                (try simp only [Act.put, List.setIfInBounds_toArray, List.set_cons_zero, List.set_cons_succ])
                refine M_take (v := ?_) 5 rfl (by kernel_rfl) (by assumption) (fun _ _ _ h => h) (Or.inl ⟨by rfl, ?_⟩) ?_
                rotate_left
                · (intro w hSw; (try dsimp only at hSw); go_simp; (try with_reducible rfl))
                (try simp only [Act.put, List.setIfInBounds_toArray, List.set_cons_zero, List.set_cons_succ])
                refine M_take (v := ?_) 6 rfl (by kernel_rfl) (by assumption) (fun _ _ _ h => h) (Or.inl ⟨by rfl, ?_⟩) ?_
                rotate_left
                · (intro w hSw; (try dsimp only at hSw); go_simp; (try with_reducible rfl))
                (try simp only [Act.put, List.setIfInBounds_toArray, List.set_cons_zero, List.set_cons_succ])
                refine M_take (v := ?_) 7 rfl (by kernel_rfl) (by assumption) (fun _ _ _ h => h) (Or.inl ⟨by rfl, ?_⟩) ?_
                rotate_left
                · (intro w hSw; (try dsimp only at hSw); go_simp; (try with_reducible rfl))
                (try simp only [Act.put, List.setIfInBounds_toArray, List.set_cons_zero, List.set_cons_succ])
                refine M_take (v := ?_) 8 rfl (by kernel_rfl) (by assumption) (fun _ _ _ h => h) (Or.inl ⟨by rfl, ?_⟩) ?_
                rotate_left
                · (intro w hSw; (try dsimp only at hSw); go_simp; (try with_reducible rfl))
                (try simp only [Act.put, List.setIfInBounds_toArray, List.set_cons_zero, List.set_cons_succ])
                refine M_take (v := ?_) 9 rfl (by kernel_rfl) (by assumption) (fun _ _ _ h => h) (Or.inl ⟨by rfl, ?_⟩) ?_
                rotate_left
                · (intro w hSw; (try dsimp only at hSw); go_simp; (try with_reducible rfl))
                (try simp only [Act.put, List.setIfInBounds_toArray, List.set_cons_zero, List.set_cons_succ])
                refine M_take (v := ?_) 10 rfl (by kernel_rfl) (by assumption) (fun _ _ _ h => h) (Or.inl ⟨by rfl, ?_⟩) ?_
                rotate_left
                · (intro w hSw; (try dsimp only at hSw); go_simp; (try with_reducible rfl))
                (try simp only [Act.put, List.setIfInBounds_toArray, List.set_cons_zero, List.set_cons_succ])
                refine M_take 11 rfl (by kernel_rfl) (by assumption) (fun _ _ _ h => h) (Or.inr ⟨by rfl, rfl⟩) ?_
                (try simp only [Act.put, List.setIfInBounds_toArray, List.set_cons_zero, List.set_cons_succ])
                refine M_take 12 rfl (by kernel_rfl) (by assumption) (fun _ _ _ h => h) (Or.inr ⟨by rfl, rfl⟩) ?_
                (try simp only [Act.put, List.setIfInBounds_toArray, List.set_cons_zero, List.set_cons_succ])
                refine M_take 13 rfl (by kernel_rfl) (by assumption) (fun _ _ _ h => h) (Or.inr ⟨by rfl, rfl⟩) ?_
                (try simp only [Act.put, List.setIfInBounds_toArray, List.set_cons_zero, List.set_cons_succ])
                refine M_take 14 rfl (by kernel_rfl) (by assumption) (fun _ _ _ h => h) (Or.inr ⟨by rfl, rfl⟩) ?_
                (try simp only [Act.put, List.setIfInBounds_toArray, List.set_cons_zero, List.set_cons_succ])
                refine M_take (v := ?_) 15 rfl (by kernel_rfl) (by assumption) (fun _ _ _ h => h) (Or.inl ⟨by rfl, ?_⟩) ?_
                rotate_left
                · (intro w hSw; (try dsimp only at hSw); go_simp; (try with_reducible rfl))
                (try simp only [Act.put, List.setIfInBounds_toArray, List.set_cons_zero, List.set_cons_succ])
                refine M_take (v := ?_) 16 rfl (by kernel_rfl) (by assumption) (fun _ _ _ h => h) (Or.inl ⟨by rfl, ?_⟩) ?_
                rotate_left
                · (intro w hSw; (try dsimp only at hSw); go_simp; (try with_reducible rfl))
                (try simp only [Act.put, List.setIfInBounds_toArray, List.set_cons_zero, List.set_cons_succ])
                refine M_done (by kernel_rfl) ?_ _
                have HF : Hid (Below w5.heap.size w5 w7.drew) := Lib.hid (nextB HB6.out (nextB HD.out (Below.refl _ _).drew))
                clear hT0 c0 c1 c2 l0 l1 zC zL
                go_wp2_with fail
                go_roundw
                case rel => exact ⟨0, by omega, by omega, rfl, HF.out⟩
                case measure => (simp [intOf] <;> omega)
            · obtain ⟨k, rfl⟩ : ∃ k : Nat, j = (k : Int) := ⟨j.toNat, by omega⟩
              have hkn : k < c.d.n := by omega
              have hk0 : (0 : Int) ≤ (k : Int) := by omega
              have wj : IntKind.i64.wrap ((k : Int) + 1) = (k : Int) + 1 := IntWalk.i64_in _ (by omega)
              have hcb := hcb k hkn
              have ht3 := HT3.out
              have wt : IntKind.i64.wrap (x.t + 1) = x.t + 1 := by rw [HT2.out]; exact ht3
              clear ht3
              by_cases hlt : x.t < 400
              · by_cases hlo : s1 ≤ (k : Int)
                · have dt : decide (x.t < 400) = true := decide_eq_true hlt
                  have dlo : decide (s1 ≤ (k : Int)) = true := decide_eq_true hlo
                  obtain ⟨g, hg⟩ := bool_of ((k : Int) ≤ s2)
                  have dhi : decide ((k : Int) ≤ s2) = g := Bool.eq_iff_iff.2 (by rw [decide_eq_true_eq, hg])
                  have HG18 : Hid (g = true ↔ CanP c 2 (pair3 ((k : Int), 0, x.t) ((k : Int) + 1, x.t + 1, 400))) := Lib.hid (hg.trans ⟨fun h => (hcb hlt).2 ⟨hlo, h⟩, fun h => ((hcb hlt).1 h).2⟩)
                  clear hg
                  clear hca hcb hcc hcd hb1 hb2 hb3 hb4
                  clear c0 c1 c2 l0 l1 l2 l3 zC zL
                  go_upto_region 15 with (at_builtin; refine wpList_append_own _ rfl _ _ 26 rfl w6.heap.size 33 i0 (.agg #[.int .i64 0, .int .i64 0, .int .i64 0]) 3 24 Try.underlying26 hi0 hz0 hz1 hz2 rfl (by decide) _ 0 [] rfl (World.ownsRow_nil _ _ _ _) ⟨w6.heap.size, 0, none⟩ 1 1 [.int .i64 ((k : Int)), .int .i64 (0), .int .i64 (x.t)] rfl rfl (new3 _ _ _ _ _ _ rfl) (by simp [Value.oneCell']) (by unfold maxLen; omega) (by omega) (by rw [World.size_alloc]; have := DW0.out.size; omega) ?_; intro v1 w7 hown hg _; have DW1 : Hid (Below w6.heap.size w6 w7) := Lib.hid ((nextB DW0.out (box1 w6 _)).grown hg (by rw [World.size_alloc]; have := DW0.out.size; omega) (fun r e => by cases e)); clear x2 zX; have x2 : w7.cell? ⟨w.heap.size + 1, 2, none⟩ = some (.int .i64 x.t) := (X.out.up DW1.out).c 2 _ rfl; have zX := (X.out.up DW1.out).lt; have OWN1 := Lib.hid hown; clear hown hg)
                  obtain ⟨g1, cap1, rfl⟩ : ∃ g cap, v1 = .slice (some ⟨g, 0, none⟩) 1 cap := by
                    obtain ⟨_, ⟨_, f⟩ | ⟨g, cap, cur, f1, _⟩⟩ := OWN1.out
                    · cases f
                    · exact ⟨g, cap, f1⟩
                  go_wp2_with (at_builtin; refine wpList_append_own _ rfl _ _ 26 rfl w6.heap.size 33 i0 (.agg #[.int .i64 0, .int .i64 0, .int .i64 0]) 3 24 Try.underlying26 hi0 hz0 hz1 hz2 rfl (by decide) _ (0 + 1) _ rfl (OWN1.out.alloc _) ⟨w7.heap.size, 0, none⟩ 1 1 [.int .i64 ((k : Int) + 1), .int .i64 (x.t + 1), .int .i64 (400)] rfl rfl (new3 _ _ _ _ _ _ rfl) (by simp [Value.oneCell']) (by unfold maxLen; omega) (by omega) (by rw [World.size_alloc]; have := DW1.out.size; omega) ?_; intro v2 w8 hown hg _; have DW2 : Hid (Below w6.heap.size w6 w8) := Lib.hid ((nextB DW1.out (box1 w7 _)).grown hg (by rw [World.size_alloc]; have := DW1.out.size; omega) (fun r e => (own_block (OWN1.out) e).1)); clear x2 zX; have x2 : w8.cell? ⟨w.heap.size + 1, 2, none⟩ = some (.int .i64 x.t) := (X.out.up DW2.out).c 2 _ rfl; have zX := (X.out.up DW2.out).lt; have OWN2 := Lib.hid hown; clear hown hg)
                  have hrow : w8.ownsRow w6.heap.size 33 3 v2 2 (rowT (pair3 ((k : Int), 0, x.t) ((k : Int) + 1, x.t + 1, 400)) 2) := OWN2.out
                  obtain ⟨g9, cap9, rfl, htr⟩ : ∃ g cap, v2 = .slice (some ⟨g, 0, none⟩) 2 cap ∧ TrsIn (some ⟨g, 0, none⟩) 2 (pair3 ((k : Int), 0, x.t) ((k : Int) + 1, x.t + 1, 400)) w8.heap.size w8 := by
                    obtain ⟨_, ⟨_, f⟩ | ⟨g, cap, cur, f1, _⟩⟩ := id hrow
                    · cases f
                    · subst f1; exact ⟨g, cap, rfl, row_trs hrow (by omega)⟩
                  have HTR := Lib.hid htr
                  clear hrow htr
                  have HD : Hid (Below w6.heap.size w6 w8) := DW2
                  obtain ⟨c0, c1, c2⟩ := (C.out.up HD.out)
                  obtain ⟨l0, l1, _, _⟩ := (L.out.up HD.out)
                  have zC := (C.out.up HD.out).lt
                  have zL := (L.out.up HD.out).lt
                  refine wp_region_M [] (fun w' => w'.cell? ⟨w.heap.size, 0, none⟩ = some (.slice c.d.RA c.d.n c.d.rc) ∧ w'.cell? ⟨w.heap.size, 1, none⟩ = some (.slice c.d.SA c.d.m c.d.sc) ∧ w'.cell? ⟨w.heap.size, 2, none⟩ = some (.slice c.MA c.m c.mc) ∧ w'.cell? ⟨w4.heap.size, 0, none⟩ = some (.int .i64 s1) ∧ w'.cell? ⟨w4.heap.size, 1, none⟩ = some (.int .i64 s2)) (by kernel_rfl) (by kernel_rfl) (by (try dsimp only); (repeat' apply And.intro); all_goals first | assumption | (go_simp; done)) (fun hT0 => ?_)
                  refine M_take (v := ?_) 0 rfl (by kernel_rfl) (by assumption) (fun _ _ _ h => h) (Or.inl ⟨by rfl, ?_⟩) ?_
                  rotate_left
                  · (intro w hSw; (try dsimp only at hSw); go_simp; (try with_reducible rfl))
                  (try simp only [Act.put, List.setIfInBounds_toArray, List.set_cons_zero, List.set_cons_succ])
                  refine M_take (v := ?_) 1 rfl (by kernel_rfl) (by assumption) (fun _ _ _ h => h) (Or.inl ⟨by rfl, ?_⟩) ?_
                  rotate_left
                  · (intro w hSw; (try dsimp only at hSw); go_simp; (try with_reducible rfl))
                  (try simp only [Act.put, List.setIfInBounds_toArray, List.set_cons_zero, List.set_cons_succ])
                  refine M_take (v := ?_) 2 rfl (by kernel_rfl) (by assumption) (fun _ _ _ h => h) (Or.inl ⟨by rfl, ?_⟩) ?_
                  rotate_left
                  · (intro w hSw; (try dsimp only at hSw); go_simp; (try with_reducible rfl))
                  (try simp only [Act.put, List.setIfInBounds_toArray, List.set_cons_zero, List.set_cons_succ])
                  refine M_take (v := ?_) 3 rfl (by kernel_rfl) (by assumption) (fun _ _ _ h => h) (Or.inl ⟨by rfl, ?_⟩) ?_
                  rotate_left
                  · (intro w hSw; (try dsimp only at hSw); go_simp; (try with_reducible rfl))
                  (try simp only [Act.put, List.setIfInBounds_toArray, List.set_cons_zero, List.set_cons_succ])
                  refine M_take (v := ?_) 6 rfl (by kernel_rfl) (by assumption) (fun _ _ _ h => h) (Or.inl ⟨by rfl, ?_⟩) ?_
                  rotate_left
                  · (intro w hSw; (try dsimp only at hSw); go_simp; (try with_reducible rfl))
                  (try simp only [Act.put, List.setIfInBounds_toArray, List.set_cons_zero, List.set_cons_succ])
                  refine M_take (v := ?_) 7 rfl (by kernel_rfl) (by assumption) (fun _ _ _ h => h) (Or.inl ⟨by rfl, ?_⟩) ?_
                  rotate_left
                  · (intro w hSw; (try dsimp only at hSw); go_simp; (try with_reducible rfl))
                  (try simp only [Act.put, List.setIfInBounds_toArray, List.set_cons_zero, List.set_cons_succ])
                  refine M_take (v := ?_) 8 rfl (by kernel_rfl) (by assumption) (fun _ _ _ h => h) (Or.inl ⟨by rfl, ?_⟩) ?_
                  rotate_left
                  · (intro w hSw; (try dsimp only at hSw); go_simp; (try with_reducible rfl))
                  (try simp only [Act.put, List.setIfInBounds_toArray, List.set_cons_zero, List.set_cons_succ])
                  refine M_take (v := ?_) 9 rfl (by kernel_rfl) (by assumption) (fun _ _ _ h => h) (Or.inl ⟨by rfl, ?_⟩) ?_
                  rotate_left
                  · (intro w hSw; (try dsimp only at hSw); go_simp; (try with_reducible rfl))
                  (try simp only [Act.put, List.setIfInBounds_toArray, List.set_cons_zero, List.set_cons_succ])
                  refine M_step 4 rfl (by kernel_rfl) (fun K hK => ?_)
                  go_simp
                  go_at_call 67
                  refine (KC.out 2 (pair3 ((k : Int), 0, x.t) ((k : Int) + 1, x.t + 1, 400)) g _ _ _ (nextB D.out (nextB HD.out (Below.refl _ _).drew)) ((HTR.out.up (Below.refl w8.heap.size w8).drew (Nat.le_refl _)).more (Below.refl w8.heap.size w8).drew.size) (by omega) HG18.out).mono ?_
                  rintro e wA ⟨rfl, hbA⟩
                  have HBA := Lib.hid (show Below w8.heap.size w8 wA from nextB (Below.refl _ _).drew hbA)
                  have hTA : (fun w' => w'.cell? ⟨w.heap.size, 0, none⟩ = some (.slice c.d.RA c.d.n c.d.rc) ∧ w'.cell? ⟨w.heap.size, 1, none⟩ = some (.slice c.d.SA c.d.m c.d.sc) ∧ w'.cell? ⟨w.heap.size, 2, none⟩ = some (.slice c.MA c.m c.mc) ∧ w'.cell? ⟨w4.heap.size, 0, none⟩ = some (.int .i64 s1) ∧ w'.cell? ⟨w4.heap.size, 1, none⟩ = some (.int .i64 s2)) wA := ⟨(HBA.out.cell (World.block_lt_of_cell? _ _ c0)).trans c0, (HBA.out.cell (World.block_lt_of_cell? _ _ c1)).trans c1, (HBA.out.cell (World.block_lt_of_cell? _ _ c2)).trans c2, (HBA.out.cell (World.block_lt_of_cell? _ _ l0)).trans l0, (HBA.out.cell (World.block_lt_of_cell? _ _ l1)).trans l1⟩
                  clear hbA
                  refine hK.out _ _ (fun _ => hTA) ?_
                  clear hK K
                  (try simp only [Act.put, List.setIfInBounds_toArray, List.set_cons_zero, List.set_cons_succ])
                  refine M_take (v := ?_) 5 rfl (by kernel_rfl) (by assumption) (fun _ _ _ h => h) (Or.inl ⟨by rfl, ?_⟩) ?_
                  rotate_left
                  · (intro w hSw; (try dsimp only at hSw); go_simp; (try with_reducible rfl))
                  (try simp only [Act.put, List.setIfInBounds_toArray, List.set_cons_zero, List.set_cons_succ])
                  refine M_take (v := ?_) 10 rfl (by kernel_rfl) (by assumption) (fun _ _ _ h => h) (Or.inl ⟨by rfl, ?_⟩) ?_
                  rotate_left
                  · (intro w hSw; (try dsimp only at hSw); go_simp; (try with_reducible rfl))
                  (try simp only [Act.put, List.setIfInBounds_toArray, List.set_cons_zero, List.set_cons_succ])
                  refine M_take (v := ?_) 11 rfl (by kernel_rfl) (by assumption) (fun _ _ _ h => h) (Or.inl ⟨by rfl, ?_⟩) ?_
                  rotate_left
                  · (intro w hSw; (try dsimp only at hSw); go_simp; (try with_reducible rfl))
                  (try simp only [Act.put, List.setIfInBounds_toArray, List.set_cons_zero, List.set_cons_succ])
                  refine M_take (v := ?_) 12 rfl (by kernel_rfl) (by assumption) (fun _ _ _ h => h) (Or.inl ⟨by rfl, ?_⟩) ?_
                  rotate_left
                  · (intro w hSw; (try dsimp only at hSw); go_simp; (try with_reducible rfl))
                  (try simp only [Act.put, List.setIfInBounds_toArray, List.set_cons_zero, List.set_cons_succ])
                  refine M_take (v := ?_) 13 rfl (by kernel_rfl) (by assumption) (fun _ _ _ h => h) (Or.inl ⟨by rfl, ?_⟩) ?_
                  rotate_left
                  · (intro w hSw; (try dsimp only at hSw); go_simp; (try with_reducible rfl))
                  (try simp only [Act.put, List.setIfInBounds_toArray, List.set_cons_zero, List.set_cons_succ])
                  refine M_take (v := ?_) 14 rfl (by kernel_rfl) (by assumption) (fun _ _ _ h => h) (Or.inl ⟨by rfl, ?_⟩) ?_
                  rotate_left
                  · (intro w hSw; (try dsimp only at hSw); go_simp; (try with_reducible rfl))
                  (try simp only [Act.put, List.setIfInBounds_toArray, List.set_cons_zero, List.set_cons_succ])
                  refine M_take (v := ?_) 15 rfl (by kernel_rfl) (by assumption) (fun _ _ _ h => h) (Or.inl ⟨by rfl, ?_⟩) ?_
                  rotate_left
                  · (intro w hSw; (try dsimp only at hSw); go_simp; (try with_reducible rfl))
                  (try simp only [Act.put, List.setIfInBounds_toArray, List.set_cons_zero, List.set_cons_succ])
                  refine M_take (v := ?_) 16 rfl (by kernel_rfl) (by assumption) (fun _ _ _ h => h) (Or.inl ⟨by rfl, ?_⟩) ?_
                  rotate_left
                  · (intro w hSw; (try dsimp only at hSw); go_simp; (try with_reducible rfl))
                  (try simp only [Act.put, List.setIfInBounds_toArray, List.set_cons_zero, List.set_cons_succ])
                  refine M_done (by kernel_rfl) ?_ _
                  have HF : Hid (Below w5.heap.size w5 wA) := Lib.hid (nextB HB6.out (nextB HD.out HBA.out))
                  clear hT0 hTA c0 c1 c2 l0 l1 zC zL
                  go_wp2_with fail
                  go_roundw
                  case rel => exact ⟨(k : Int) + 1, by omega, by omega, rfl, HF.out⟩
                  case measure => (simp [intOf] <;> omega)
                · have dt : decide (x.t < 400) = true := decide_eq_true hlt
                  have dlo : decide (s1 ≤ (k : Int)) = false := decide_eq_false hlo
                  have HG18 : Hid (false = true ↔ CanP c 2 (pair3 ((k : Int), 0, x.t) ((k : Int) + 1, x.t + 1, 400))) := Lib.hid ⟨fun h => (Bool.false_ne_true h).elim, fun h => absurd ((hcb hlt).1 h).1 hlo⟩
                  clear hca hcb hcc hcd hb1 hb2 hb3 hb4
                  clear c0 c1 c2 l0 l1 l2 l3 zC zL
                  go_upto_region 15 with (at_builtin; refine wpList_append_own _ rfl _ _ 26 rfl w6.heap.size 33 i0 (.agg #[.int .i64 0, .int .i64 0, .int .i64 0]) 3 24 Try.underlying26 hi0 hz0 hz1 hz2 rfl (by decide) _ 0 [] rfl (World.ownsRow_nil _ _ _ _) ⟨w6.heap.size, 0, none⟩ 1 1 [.int .i64 ((k : Int)), .int .i64 (0), .int .i64 (x.t)] rfl rfl (new3 _ _ _ _ _ _ rfl) (by simp [Value.oneCell']) (by unfold maxLen; omega) (by omega) (by rw [World.size_alloc]; have := DW0.out.size; omega) ?_; intro v1 w7 hown hg _; have DW1 : Hid (Below w6.heap.size w6 w7) := Lib.hid ((nextB DW0.out (box1 w6 _)).grown hg (by rw [World.size_alloc]; have := DW0.out.size; omega) (fun r e => by cases e)); clear x2 zX; have x2 : w7.cell? ⟨w.heap.size + 1, 2, none⟩ = some (.int .i64 x.t) := (X.out.up DW1.out).c 2 _ rfl; have zX := (X.out.up DW1.out).lt; have OWN1 := Lib.hid hown; clear hown hg)
                  obtain ⟨g1, cap1, rfl⟩ : ∃ g cap, v1 = .slice (some ⟨g, 0, none⟩) 1 cap := by
                    obtain ⟨_, ⟨_, f⟩ | ⟨g, cap, cur, f1, _⟩⟩ := OWN1.out
                    · cases f
                    · exact ⟨g, cap, f1⟩
                  go_wp2_with (at_builtin; refine wpList_append_own _ rfl _ _ 26 rfl w6.heap.size 33 i0 (.agg #[.int .i64 0, .int .i64 0, .int .i64 0]) 3 24 Try.underlying26 hi0 hz0 hz1 hz2 rfl (by decide) _ (0 + 1) _ rfl (OWN1.out.alloc _) ⟨w7.heap.size, 0, none⟩ 1 1 [.int .i64 ((k : Int) + 1), .int .i64 (x.t + 1), .int .i64 (400)] rfl rfl (new3 _ _ _ _ _ _ rfl) (by simp [Value.oneCell']) (by unfold maxLen; omega) (by omega) (by rw [World.size_alloc]; have := DW1.out.size; omega) ?_; intro v2 w8 hown hg _; have DW2 : Hid (Below w6.heap.size w6 w8) := Lib.hid ((nextB DW1.out (box1 w7 _)).grown hg (by rw [World.size_alloc]; have := DW1.out.size; omega) (fun r e => (own_block (OWN1.out) e).1)); clear x2 zX; have x2 : w8.cell? ⟨w.heap.size + 1, 2, none⟩ = some (.int .i64 x.t) := (X.out.up DW2.out).c 2 _ rfl; have zX := (X.out.up DW2.out).lt; have OWN2 := Lib.hid hown; clear hown hg)
                  have hrow : w8.ownsRow w6.heap.size 33 3 v2 2 (rowT (pair3 ((k : Int), 0, x.t) ((k : Int) + 1, x.t + 1, 400)) 2) := OWN2.out
                  obtain ⟨g9, cap9, rfl, htr⟩ : ∃ g cap, v2 = .slice (some ⟨g, 0, none⟩) 2 cap ∧ TrsIn (some ⟨g, 0, none⟩) 2 (pair3 ((k : Int), 0, x.t) ((k : Int) + 1, x.t + 1, 400)) w8.heap.size w8 := by
                    obtain ⟨_, ⟨_, f⟩ | ⟨g, cap, cur, f1, _⟩⟩ := id hrow
                    · cases f
                    · subst f1; exact ⟨g, cap, rfl, row_trs hrow (by omega)⟩
                  have HTR := Lib.hid htr
                  clear hrow htr
                  have HD : Hid (Below w6.heap.size w6 w8) := DW2
                  obtain ⟨c0, c1, c2⟩ := (C.out.up HD.out)
                  obtain ⟨l0, l1, _, _⟩ := (L.out.up HD.out)
                  have zC := (C.out.up HD.out).lt
                  have zL := (L.out.up HD.out).lt
                  refine wp_region_M [] (fun w' => w'.cell? ⟨w.heap.size, 0, none⟩ = some (.slice c.d.RA c.d.n c.d.rc) ∧ w'.cell? ⟨w.heap.size, 1, none⟩ = some (.slice c.d.SA c.d.m c.d.sc) ∧ w'.cell? ⟨w.heap.size, 2, none⟩ = some (.slice c.MA c.m c.mc) ∧ w'.cell? ⟨w4.heap.size, 0, none⟩ = some (.int .i64 s1) ∧ w'.cell? ⟨w4.heap.size, 1, none⟩ = some (.int .i64 s2)) (by kernel_rfl) (by kernel_rfl) (by (try dsimp only); (repeat' apply And.intro); all_goals first | assumption | (go_simp; done)) (fun hT0 => ?_)
                  refine M_take (v := ?_) 0 rfl (by kernel_rfl) (by assumption) (fun _ _ _ h => h) (Or.inl ⟨by rfl, ?_⟩) ?_
                  rotate_left
                  · (intro w hSw; (try dsimp only at hSw); go_simp; (try with_reducible rfl))
                  (try simp only [Act.put, List.setIfInBounds_toArray, List.set_cons_zero, List.set_cons_succ])
                  refine M_take (v := ?_) 1 rfl (by kernel_rfl) (by assumption) (fun _ _ _ h => h) (Or.inl ⟨by rfl, ?_⟩) ?_
                  rotate_left
                  · (intro w hSw; (try dsimp only at hSw); go_simp; (try with_reducible rfl))
                  (try simp only [Act.put, List.setIfInBounds_toArray, List.set_cons_zero, List.set_cons_succ])
                  refine M_take (v := ?_) 2 rfl (by kernel_rfl) (by assumption) (fun _ _ _ h => h) (Or.inl ⟨by rfl, ?_⟩) ?_
                  rotate_left
                  · (intro w hSw; (try dsimp only at hSw); go_simp; (try with_reducible rfl))
                  (try simp only [Act.put, List.setIfInBounds_toArray, List.set_cons_zero, List.set_cons_succ])
                  refine M_take (v := ?_) 3 rfl (by kernel_rfl) (by assumption) (fun _ _ _ h => h) (Or.inl ⟨by rfl, ?_⟩) ?_
                  rotate_left
                  · (intro w hSw; (try dsimp only at hSw); go_simp; (try with_reducible rfl))
                  (try simp only [Act.put, List.setIfInBounds_toArray, List.set_cons_zero, List.set_cons_succ])
                  refine M_take (v := ?_) 6 rfl (by kernel_rfl) (by assumption) (fun _ _ _ h => h) (Or.inl ⟨by rfl, ?_⟩) ?_
                  rotate_left
                  · (intro w hSw; (try dsimp only at hSw); go_simp; (try with_reducible rfl))
                  (try simp only [Act.put, List.setIfInBounds_toArray, List.set_cons_zero, List.set_cons_succ])
                  refine M_take (v := ?_) 7 rfl (by kernel_rfl) (by assumption) (fun _ _ _ h => h) (Or.inl ⟨by rfl, ?_⟩) ?_
                  rotate_left
                  · (intro w hSw; (try dsimp only at hSw); go_simp; (try with_reducible rfl))
                  (try simp only [Act.put, List.setIfInBounds_toArray, List.set_cons_zero, List.set_cons_succ])
                  refine M_take (v := ?_) 8 rfl (by kernel_rfl) (by assumption) (fun _ _ _ h => h) (Or.inl ⟨by rfl, ?_⟩) ?_
                  rotate_left
                  · (intro w hSw; (try dsimp only at hSw); go_simp; (try with_reducible rfl))
                  (try simp only [Act.put, List.setIfInBounds_toArray, List.set_cons_zero, List.set_cons_succ])
                  refine M_take (v := ?_) 9 rfl (by kernel_rfl) (by assumption) (fun _ _ _ h => h) (Or.inl ⟨by rfl, ?_⟩) ?_
                  rotate_left
                  · (intro w hSw; (try dsimp only at hSw); go_simp; (try with_reducible rfl))
                  (try simp only [Act.put, List.setIfInBounds_toArray, List.set_cons_zero, List.set_cons_succ])
                  refine M_step 4 rfl (by kernel_rfl) (fun K hK => ?_)
                  go_simp
                  go_at_call 67
                  refine (KC.out 2 (pair3 ((k : Int), 0, x.t) ((k : Int) + 1, x.t + 1, 400)) false _ _ _ (nextB D.out (nextB HD.out (Below.refl _ _).drew)) ((HTR.out.up (Below.refl w8.heap.size w8).drew (Nat.le_refl _)).more (Below.refl w8.heap.size w8).drew.size) (by omega) HG18.out).mono ?_
                  rintro e wA ⟨rfl, hbA⟩
                  have HBA := Lib.hid (show Below w8.heap.size w8 wA from nextB (Below.refl _ _).drew hbA)
                  have hTA : (fun w' => w'.cell? ⟨w.heap.size, 0, none⟩ = some (.slice c.d.RA c.d.n c.d.rc) ∧ w'.cell? ⟨w.heap.size, 1, none⟩ = some (.slice c.d.SA c.d.m c.d.sc) ∧ w'.cell? ⟨w.heap.size, 2, none⟩ = some (.slice c.MA c.m c.mc) ∧ w'.cell? ⟨w4.heap.size, 0, none⟩ = some (.int .i64 s1) ∧ w'.cell? ⟨w4.heap.size, 1, none⟩ = some (.int .i64 s2)) wA := ⟨(HBA.out.cell (World.block_lt_of_cell? _ _ c0)).trans c0, (HBA.out.cell (World.block_lt_of_cell? _ _ c1)).trans c1, (HBA.out.cell (World.block_lt_of_cell? _ _ c2)).trans c2, (HBA.out.cell (World.block_lt_of_cell? _ _ l0)).trans l0, (HBA.out.cell (World.block_lt_of_cell? _ _ l1)).trans l1⟩
                  clear hbA
                  refine hK.out _ _ (fun _ => hTA) ?_
                  clear hK K
                  (try simp only [Act.put, List.setIfInBounds_toArray, List.set_cons_zero, List.set_cons_succ])
                  refine M_take (v := ?_) 5 rfl (by kernel_rfl) (by assumption) (fun _ _ _ h => h) (Or.inl ⟨by rfl, ?_⟩) ?_
                  rotate_left
                  · (intro w hSw; (try dsimp only at hSw); go_simp; (try with_reducible rfl))
                  (try simp only [Act.put, List.setIfInBounds_toArray, List.set_cons_zero, List.set_cons_succ])
                  refine M_take (v := ?_) 10 rfl (by kernel_rfl) (by assumption) (fun _ _ _ h => h) (Or.inl ⟨by rfl, ?_⟩) ?_
                  rotate_left
                  · (intro w hSw; (try dsimp only at hSw); go_simp; (try with_reducible rfl))
                  (try simp only [Act.put, List.setIfInBounds_toArray, List.set_cons_zero, List.set_cons_succ])
                  refine M_take 11 rfl (by kernel_rfl) (by assumption) (fun _ _ _ h => h) (Or.inr ⟨by rfl, rfl⟩) ?_
                  (try simp only [Act.put, List.setIfInBounds_toArray, List.set_cons_zero, List.set_cons_succ])
                  refine M_take 12 rfl (by kernel_rfl) (by assumption) (fun _ _ _ h => h) (Or.inr ⟨by rfl, rfl⟩) ?_
                  (try simp only [Act.put, List.setIfInBounds_toArray, List.set_cons_zero, List.set_cons_succ])
                  refine M_take 13 rfl (by kernel_rfl) (by assumption) (fun _ _ _ h => h) (Or.inr ⟨by rfl, rfl⟩) ?_
                  (try simp only [Act.put, List.setIfInBounds_toArray, List.set_cons_zero, List.set_cons_succ])
                  refine M_take 14 rfl (by kernel_rfl) (by assumption) (fun _ _ _ h => h) (Or.inr ⟨by rfl, rfl⟩) ?_
                  (try simp only [Act.put, List.setIfInBounds_toArray, List.set_cons_zero, List.set_cons_succ])
                  refine M_take (v := ?_) 15 rfl (by kernel_rfl) (by assumption) (fun _ _ _ h => h) (Or.inl ⟨by rfl, ?_⟩) ?_
                  rotate_left
                  · (intro w hSw; (try dsimp only at hSw); go_simp; (try with_reducible rfl))
                  (try simp only [Act.put, List.setIfInBounds_toArray, List.set_cons_zero, List.set_cons_succ])
                  refine M_take (v := ?_) 16 rfl (by kernel_rfl) (by assumption) (fun _ _ _ h => h) (Or.inl ⟨by rfl, ?_⟩) ?_
                  rotate_left
                  · (intro w hSw; (try dsimp only at hSw); go_simp; (try with_reducible rfl))
                  (try simp only [Act.put, List.setIfInBounds_toArray, List.set_cons_zero, List.set_cons_succ])
                  refine M_done (by kernel_rfl) ?_ _
                  have HF : Hid (Below w5.heap.size w5 wA) := Lib.hid (nextB HB6.out (nextB HD.out HBA.out))
                  clear hT0 hTA c0 c1 c2 l0 l1 zC zL
                  go_wp2_with fail
                  go_roundw
                  case rel => exact ⟨(k : Int) + 1, by omega, by omega, rfl, HF.out⟩
                  case measure => (simp [intOf] <;> omega)
              · have dt : decide (x.t < 400) = false := decide_eq_false hlt
                have dlo : decide (s1 ≤ (k : Int)) = false := decide_eq_false (by have := hcd (by omega); omega)
                clear hca hcb hcc hcd hb1 hb2 hb3 hb4
                clear c0 c1 c2 l0 l1 l2 l3 zC zL
                go_upto_region 15 with (at_builtin; refine wpList_append_own _ rfl _ _ 26 rfl w6.heap.size 33 i0 (.agg #[.int .i64 0, .int .i64 0, .int .i64 0]) 3 24 Try.underlying26 hi0 hz0 hz1 hz2 rfl (by decide) _ 0 [] rfl (World.ownsRow_nil _ _ _ _) ⟨w6.heap.size, 0, none⟩ 1 1 [.int .i64 ((k : Int)), .int .i64 (0), .int .i64 (x.t)] rfl rfl (new3 _ _ _ _ _ _ rfl) (by simp [Value.oneCell']) (by unfold maxLen; omega) (by omega) (by rw [World.size_alloc]; have := DW0.out.size; omega) ?_; intro v1 w7 hown hg _; have DW1 : Hid (Below w6.heap.size w6 w7) := Lib.hid ((nextB DW0.out (box1 w6 _)).grown hg (by rw [World.size_alloc]; have := DW0.out.size; omega) (fun r e => by cases e)); clear x2 zX; have x2 : w7.cell? ⟨w.heap.size + 1, 2, none⟩ = some (.int .i64 x.t) := (X.out.up DW1.out).c 2 _ rfl; have zX := (X.out.up DW1.out).lt; have OWN1 := Lib.hid hown; clear hown hg)
                obtain ⟨g1, cap1, rfl⟩ : ∃ g cap, v1 = .slice (some ⟨g, 0, none⟩) 1 cap := by
                  obtain ⟨_, ⟨_, f⟩ | ⟨g, cap, cur, f1, _⟩⟩ := OWN1.out
                  · cases f
                  · exact ⟨g, cap, f1⟩
                go_wp2_with (at_builtin; refine wpList_append_own _ rfl _ _ 26 rfl w6.heap.size 33 i0 (.agg #[.int .i64 0, .int .i64 0, .int .i64 0]) 3 24 Try.underlying26 hi0 hz0 hz1 hz2 rfl (by decide) _ (0 + 1) _ rfl (OWN1.out.alloc _) ⟨w7.heap.size, 0, none⟩ 1 1 [.int .i64 ((k : Int) + 1), .int .i64 (x.t + 1), .int .i64 (400)] rfl rfl (new3 _ _ _ _ _ _ rfl) (by simp [Value.oneCell']) (by unfold maxLen; omega) (by omega) (by rw [World.size_alloc]; have := DW1.out.size; omega) ?_; intro v2 w8 hown hg _; have DW2 : Hid (Below w6.heap.size w6 w8) := Lib.hid ((nextB DW1.out (box1 w7 _)).grown hg (by rw [World.size_alloc]; have := DW1.out.size; omega) (fun r e => (own_block (OWN1.out) e).1)); clear x2 zX; have x2 : w8.cell? ⟨w.heap.size + 1, 2, none⟩ = some (.int .i64 x.t) := (X.out.up DW2.out).c 2 _ rfl; have zX := (X.out.up DW2.out).lt; have OWN2 := Lib.hid hown; clear hown hg)
                have HD : Hid (Below w6.heap.size w6 w8) := DW2
                obtain ⟨c0, c1, c2⟩ := (C.out.up HD.out)
                obtain ⟨l0, l1, _, _⟩ := (L.out.up HD.out)
                have zC := (C.out.up HD.out).lt
                have zL := (L.out.up HD.out).lt
                refine wp_region_M [] (fun w' => w'.cell? ⟨w.heap.size, 0, none⟩ = some (.slice c.d.RA c.d.n c.d.rc) ∧ w'.cell? ⟨w.heap.size, 1, none⟩ = some (.slice c.d.SA c.d.m c.d.sc) ∧ w'.cell? ⟨w.heap.size, 2, none⟩ = some (.slice c.MA c.m c.mc) ∧ w'.cell? ⟨w4.heap.size, 0, none⟩ = some (.int .i64 s1) ∧ w'.cell? ⟨w4.heap.size, 1, none⟩ = some (.int .i64 s2)) (by kernel_rfl) (by kernel_rfl) (by (try dsimp only); (repeat' apply And.intro); all_goals first | assumption | (go_simp; done)) (fun hT0 => ?_)
                refine M_take (v := ?_) 0 rfl (by kernel_rfl) (by assumption) (fun _ _ _ h => h) (Or.inl ⟨by rfl, ?_⟩) ?_
                rotate_left
                · (intro w hSw; (try dsimp only at hSw); go_simp; (try with_reducible rfl))
                (try simp only [Act.put, List.setIfInBounds_toArray, List.set_cons_zero, List.set_cons_succ])
                refine M_take (v := ?_) 1 rfl (by kernel_rfl) (by assumption) (fun _ _ _ h => h) (Or.inl ⟨by rfl, ?_⟩) ?_
                rotate_left
                · (intro w hSw; (try dsimp only at hSw); go_simp; (try with_reducible rfl))
                (try simp only [Act.put, List.setIfInBounds_toArray, List.set_cons_zero, List.set_cons_succ])
                refine M_take 2 rfl (by kernel_rfl) (by assumption) (fun _ _ _ h => h) (Or.inr ⟨by rfl, rfl⟩) ?_
                (try simp only [Act.put, List.setIfInBounds_toArray, List.set_cons_zero, List.set_cons_succ])
                refine M_take 3 rfl (by kernel_rfl) (by assumption) (fun _ _ _ h => h) (Or.inr ⟨by rfl, rfl⟩) ?_
                (try simp only [Act.put, List.setIfInBounds_toArray, List.set_cons_zero, List.set_cons_succ])
                refine M_take 4 rfl (by kernel_rfl) (by assumption) (fun _ _ _ h => h) (Or.inr ⟨by rfl, rfl⟩) ?_
                (try simp only [Act.put, List.setIfInBounds_toArray, List.set_cons_zero, List.set_cons_succ])
                refine M_take (v := ?_) 5 rfl (by kernel_rfl) (by assumption) (fun _ _ _ h => h) (Or.inl ⟨by rfl, ?_⟩) ?_
                rotate_left
                · (intro w hSw; (try dsimp only at hSw); go_simp; (try with_reducible rfl))
                (try simp only [Act.put, List.setIfInBounds_toArray, List.set_cons_zero, List.set_cons_succ])
                refine M_take (v := ?_) 6 rfl (by kernel_rfl) (by assumption) (fun _ _ _ h => h) (Or.inl ⟨by rfl, ?_⟩) ?_
                rotate_left
                · (intro w hSw; (try dsimp only at hSw); go_simp; (try with_reducible rfl))
                (try simp only [Act.put, List.setIfInBounds_toArray, List.set_cons_zero, List.set_cons_succ])
                refine M_take (v := ?_) 7 rfl (by kernel_rfl) (by assumption) (fun _ _ _ h => h) (Or.inl ⟨by rfl, ?_⟩) ?_
                rotate_left
                · (intro w hSw; (try dsimp only at hSw); go_simp; (try with_reducible rfl))
                (try simp only [Act.put, List.setIfInBounds_toArray, List.set_cons_zero, List.set_cons_succ])
                refine M_take (v := ?_) 8 rfl (by kernel_rfl) (by assumption) (fun _ _ _ h => h) (Or.inl ⟨by rfl, ?_⟩) ?_
                rotate_left
                · (intro w hSw; (try dsimp only at hSw); go_simp; (try with_reducible rfl))
                (try simp only [Act.put, List.setIfInBounds_toArray, List.set_cons_zero, List.set_cons_succ])
                refine M_take (v := ?_) 9 rfl (by kernel_rfl) (by assumption) (fun _ _ _ h => h) (Or.inl ⟨by rfl, ?_⟩) ?_
                rotate_left
                · (intro w hSw; (try dsimp only at hSw); go_simp; (try with_reducible rfl))
                (try simp only [Act.put, List.setIfInBounds_toArray, List.set_cons_zero, List.set_cons_succ])
                refine M_take (v := ?_) 10 rfl (by kernel_rfl) (by assumption) (fun _ _ _ h => h) (Or.inl ⟨by rfl, ?_⟩) ?_
                rotate_left
                · (intro w hSw; (try dsimp only at hSw); go_simp; (try with_reducible rfl))
                (try simp only [Act.put, List.setIfInBounds_toArray, List.set_cons_zero, List.set_cons_succ])
                refine M_take 11 rfl (by kernel_rfl) (by assumption) (fun _ _ _ h => h) (Or.inr ⟨by rfl, rfl⟩) ?_
                (try simp only [Act.put, List.setIfInBounds_toArray, List.set_cons_zero, List.set_cons_succ])
                refine M_take 12 rfl (by kernel_rfl) (by assumption) (fun _ _ _ h => h) (Or.inr ⟨by rfl, rfl⟩) ?_
                (try simp only [Act.put, List.setIfInBounds_toArray, List.set_cons_zero, List.set_cons_succ])
                refine M_take 13 rfl (by kernel_rfl) (by assumption) (fun _ _ _ h => h) (Or.inr ⟨by rfl, rfl⟩) ?_
                (try simp only [Act.put, List.setIfInBounds_toArray, List.set_cons_zero, List.set_cons_succ])
                refine M_take 14 rfl (by kernel_rfl) (by assumption) (fun _ _ _ h => h) (Or.inr ⟨by rfl, rfl⟩) ?_
                (try simp only [Act.put, List.setIfInBounds_toArray, List.set_cons_zero, List.set_cons_succ])
                refine M_take (v := ?_) 15 rfl (by kernel_rfl) (by assumption) (fun _ _ _ h => h) (Or.inl ⟨by rfl, ?_⟩) ?_
                rotate_left
                · (intro w hSw; (try dsimp only at hSw); go_simp; (try with_reducible rfl))
                (try simp only [Act.put, List.setIfInBounds_toArray, List.set_cons_zero, List.set_cons_succ])
                refine M_take (v := ?_) 16 rfl (by kernel_rfl) (by assumption) (fun _ _ _ h => h) (Or.inl ⟨by rfl, ?_⟩) ?_
                rotate_left
                · (intro w hSw; (try dsimp only at hSw); go_simp; (try with_reducible rfl))
                (try simp only [Act.put, List.setIfInBounds_toArray, List.set_cons_zero, List.set_cons_succ])
                refine M_done (by kernel_rfl) ?_ _
                have HF : Hid (Below w5.heap.size w5 w8.drew) := Lib.hid (nextB HB6.out (nextB HD.out (Below.refl _ _).drew))
                clear hT0 c0 c1 c2 l0 l1 zC zL
                go_wp2_with fail
                go_roundw
                case rel => exact ⟨(k : Int) + 1, by omega, by omega, rfl, HF.out⟩
                case measure => (simp [intOf] <;> omega)
            · subst hj
              have hk0 : (0 : Int) ≤ (c.d.n : Int) := by omega
              have wj : IntKind.i64.wrap ((c.d.n : Int) + 1) = (c.d.n : Int) + 1 := IntWalk.i64_in _ (by omega)
              have ht3 := HT3.out
              have wt : IntKind.i64.wrap (x.t + 1) = x.t + 1 := by rw [HT2.out]; exact ht3
              clear ht3
              have dlo : decide (s1 ≤ (c.d.n : Int)) = true := decide_eq_true hb2
              obtain ⟨g, hg⟩ := bool_of ((c.d.n : Int) ≤ s2)
              have dhi : decide ((c.d.n : Int) ≤ s2) = g := Bool.eq_iff_iff.2 (by rw [decide_eq_true_eq, hg])
              have HG18 : Hid (g = true ↔ CanP c 1 (fun _ => ((c.d.n : Int), 0, x.t))) := Lib.hid (hg.trans ⟨fun h => (hcc).2 ⟨hb2, h⟩, fun h => ((hcc).1 h).2⟩)
              clear hg
              clear hca hcb hcc hcd hb1 hb2 hb3 hb4
              clear c0 c1 c2 l0 l1 l2 l3 zC zL
              go_wp2_with (at_builtin; refine wpList_append_own _ rfl _ _ 26 rfl w6.heap.size 33 i0 (.agg #[.int .i64 0, .int .i64 0, .int .i64 0]) 3 24 Try.underlying26 hi0 hz0 hz1 hz2 rfl (by decide) _ 0 [] rfl (World.ownsRow_nil _ _ _ _) ⟨w6.heap.size, 0, none⟩ 1 1 [.int .i64 ((c.d.n : Int)), .int .i64 (0), .int .i64 (x.t)] rfl rfl (new3 _ _ _ _ _ _ rfl) (by simp [Value.oneCell']) (by unfold maxLen; omega) (by omega) (by rw [World.size_alloc]; have := DW0.out.size; omega) ?_; intro v1 w7 hown hg _; have DW1 : Hid (Below w6.heap.size w6 w7) := Lib.hid ((nextB DW0.out (box1 w6 _)).grown hg (by rw [World.size_alloc]; have := DW0.out.size; omega) (fun r e => by cases e)); clear x2 zX; have x2 : w7.cell? ⟨w.heap.size + 1, 2, none⟩ = some (.int .i64 x.t) := (X.out.up DW1.out).c 2 _ rfl; have zX := (X.out.up DW1.out).lt; have OWN1 := Lib.hid hown; clear hown hg)
              have hrow : w7.ownsRow w6.heap.size 33 3 v1 1 (rowT (fun _ => ((c.d.n : Int), 0, x.t)) 1) := OWN1.out
              obtain ⟨g9, cap9, rfl, htr⟩ : ∃ g cap, v1 = .slice (some ⟨g, 0, none⟩) 1 cap ∧ TrsIn (some ⟨g, 0, none⟩) 1 (fun _ => ((c.d.n : Int), 0, x.t)) w7.heap.size w7 := by
                obtain ⟨_, ⟨_, f⟩ | ⟨g, cap, cur, f1, _⟩⟩ := id hrow
                · cases f
                · subst f1; exact ⟨g, cap, rfl, row_trs hrow (by omega)⟩
              have HTR := Lib.hid htr
              clear hrow htr
              have HD : Hid (Below w6.heap.size w6 w7) := DW1
              obtain ⟨c0, c1, c2⟩ := (C.out.up HD.out)
              obtain ⟨l0, l1, _, _⟩ := (L.out.up HD.out)
              have zC := (C.out.up HD.out).lt
              have zL := (L.out.up HD.out).lt
              refine wp_region_M [] (fun w' => w'.cell? ⟨w.heap.size, 0, none⟩ = some (.slice c.d.RA c.d.n c.d.rc) ∧ w'.cell? ⟨w.heap.size, 1, none⟩ = some (.slice c.d.SA c.d.m c.d.sc) ∧ w'.cell? ⟨w.heap.size, 2, none⟩ = some (.slice c.MA c.m c.mc) ∧ w'.cell? ⟨w4.heap.size, 0, none⟩ = some (.int .i64 s1) ∧ w'.cell? ⟨w4.heap.size, 1, none⟩ = some (.int .i64 s2)) (by kernel_rfl) (by kernel_rfl) (by (try dsimp only); (repeat' apply And.intro); all_goals first | assumption | (go_simp; done)) (fun hT0 => ?_)
              refine M_take (v := ?_) 0 rfl (by kernel_rfl) (by assumption) (fun _ _ _ h => h) (Or.inl ⟨by rfl, ?_⟩) ?_
              rotate_left
              · (intro w hSw; (try dsimp only at hSw); go_simp; (try with_reducible rfl))
              (try simp only [Act.put, List.setIfInBounds_toArray, List.set_cons_zero, List.set_cons_succ])
              refine M_take (v := ?_) 1 rfl (by kernel_rfl) (by assumption) (fun _ _ _ h => h) (Or.inl ⟨by rfl, ?_⟩) ?_
              rotate_left
              · (intro w hSw; (try dsimp only at hSw); go_simp; (try with_reducible rfl))
              (try simp only [Act.put, List.setIfInBounds_toArray, List.set_cons_zero, List.set_cons_succ])
              refine M_take (v := ?_) 2 rfl (by kernel_rfl) (by assumption) (fun _ _ _ h => h) (Or.inl ⟨by rfl, ?_⟩) ?_
              rotate_left
              · (intro w hSw; (try dsimp only at hSw); go_simp; (try with_reducible rfl))
              (try simp only [Act.put, List.setIfInBounds_toArray, List.set_cons_zero, List.set_cons_succ])
              refine M_take (v := ?_) 3 rfl (by kernel_rfl) (by assumption) (fun _ _ _ h => h) (Or.inl ⟨by rfl, ?_⟩) ?_
              rotate_left
              · (intro w hSw; (try dsimp only at hSw); go_simp; (try with_reducible rfl))
              (try simp only [Act.put, List.setIfInBounds_toArray, List.set_cons_zero, List.set_cons_succ])
              refine M_take (v := ?_) 6 rfl (by kernel_rfl) (by assumption) (fun _ _ _ h => h) (Or.inl ⟨by rfl, ?_⟩) ?_
              rotate_left
              · (intro w hSw; (try dsimp only at hSw); go_simp; (try with_reducible rfl))
              (try simp only [Act.put, List.setIfInBounds_toArray, List.set_cons_zero, List.set_cons_succ])
              refine M_take (v := ?_) 7 rfl (by kernel_rfl) (by assumption) (fun _ _ _ h => h) (Or.inl ⟨by rfl, ?_⟩) ?_
              rotate_left
              · (intro w hSw; (try dsimp only at hSw); go_simp; (try with_reducible rfl))
              (try simp only [Act.put, List.setIfInBounds_toArray, List.set_cons_zero, List.set_cons_succ])
              refine M_take (v := ?_) 8 rfl (by kernel_rfl) (by assumption) (fun _ _ _ h => h) (Or.inl ⟨by rfl, ?_⟩) ?_
              rotate_left
              · (intro w hSw; (try dsimp only at hSw); go_simp; (try with_reducible rfl))
              (try simp only [Act.put, List.setIfInBounds_toArray, List.set_cons_zero, List.set_cons_succ])
              refine M_take (v := ?_) 9 rfl (by kernel_rfl) (by assumption) (fun _ _ _ h => h) (Or.inl ⟨by rfl, ?_⟩) ?_
              rotate_left
              · (intro w hSw; (try dsimp only at hSw); go_simp; (try with_reducible rfl))
              (try simp only [Act.put, List.setIfInBounds_toArray, List.set_cons_zero, List.set_cons_succ])
              refine M_step 4 rfl (by kernel_rfl) (fun K hK => ?_)
              go_simp
              go_at_call 67
              refine (KC.out 1 (fun _ => ((c.d.n : Int), 0, x.t)) g _ _ _ (nextB D.out (nextB HD.out (Below.refl _ _).drew)) ((HTR.out.up (Below.refl w7.heap.size w7).drew (Nat.le_refl _)).more (Below.refl w7.heap.size w7).drew.size) (by omega) HG18.out).mono ?_
              rintro e wA ⟨rfl, hbA⟩
              have HBA := Lib.hid (show Below w7.heap.size w7 wA from nextB (Below.refl _ _).drew hbA)
              have hTA : (fun w' => w'.cell? ⟨w.heap.size, 0, none⟩ = some (.slice c.d.RA c.d.n c.d.rc) ∧ w'.cell? ⟨w.heap.size, 1, none⟩ = some (.slice c.d.SA c.d.m c.d.sc) ∧ w'.cell? ⟨w.heap.size, 2, none⟩ = some (.slice c.MA c.m c.mc) ∧ w'.cell? ⟨w4.heap.size, 0, none⟩ = some (.int .i64 s1) ∧ w'.cell? ⟨w4.heap.size, 1, none⟩ = some (.int .i64 s2)) wA := ⟨(HBA.out.cell (World.block_lt_of_cell? _ _ c0)).trans c0, (HBA.out.cell (World.block_lt_of_cell? _ _ c1)).trans c1, (HBA.out.cell (World.block_lt_of_cell? _ _ c2)).trans c2, (HBA.out.cell (World.block_lt_of_cell? _ _ l0)).trans l0, (HBA.out.cell (World.block_lt_of_cell? _ _ l1)).trans l1⟩
              clear hbA
              refine hK.out _ _ (fun _ => hTA) ?_
              clear hK K
              (try simp only [Act.put, List.setIfInBounds_toArray, List.set_cons_zero, List.set_cons_succ])
              refine M_take (v := ?_) 5 rfl (by kernel_rfl) (by assumption) (fun _ _ _ h => h) (Or.inl ⟨by rfl, ?_⟩) ?_
              rotate_left
              · (intro w hSw; (try dsimp only at hSw); go_simp; (try with_reducible rfl))
              (try simp only [Act.put, List.setIfInBounds_toArray, List.set_cons_zero, List.set_cons_succ])
              refine M_take (v := ?_) 10 rfl (by kernel_rfl) (by assumption) (fun _ _ _ h => h) (Or.inl ⟨by rfl, ?_⟩) ?_
              rotate_left
              · (intro w hSw; (try dsimp only at hSw); go_simp; (try with_reducible rfl))
              (try simp only [Act.put, List.setIfInBounds_toArray, List.set_cons_zero, List.set_cons_succ])
              refine M_take (v := ?_) 11 rfl (by kernel_rfl) (by assumption) (fun _ _ _ h => h) (Or.inl ⟨by rfl, ?_⟩) ?_
              rotate_left
              · (intro w hSw; (try dsimp only at hSw); go_simp; (try with_reducible rfl))
              (try simp only [Act.put, List.setIfInBounds_toArray, List.set_cons_zero, List.set_cons_succ])
              refine M_take (v := ?_) 12 rfl (by kernel_rfl) (by assumption) (fun _ _ _ h => h) (Or.inl ⟨by rfl, ?_⟩) ?_
              rotate_left
              · (intro w hSw; (try dsimp only at hSw); go_simp; (try with_reducible rfl))
              (try simp only [Act.put, List.setIfInBounds_toArray, List.set_cons_zero, List.set_cons_succ])
              refine M_take (v := ?_) 13 rfl (by kernel_rfl) (by assumption) (fun _ _ _ h => h) (Or.inl ⟨by rfl, ?_⟩) ?_
              rotate_left
              · (intro w hSw; (try dsimp only at hSw); go_simp; (try with_reducible rfl))
              (try simp only [Act.put, List.setIfInBounds_toArray, List.set_cons_zero, List.set_cons_succ])
              refine M_take (v := ?_) 14 rfl (by kernel_rfl) (by assumption) (fun _ _ _ h => h) (Or.inl ⟨by rfl, ?_⟩) ?_
              rotate_left
              · (intro w hSw; (try dsimp only at hSw); go_simp; (try with_reducible rfl))
              (try simp only [Act.put, List.setIfInBounds_toArray, List.set_cons_zero, List.set_cons_succ])
              refine M_take (v := ?_) 15 rfl (by kernel_rfl) (by assumption) (fun _ _ _ h => h) (Or.inl ⟨by rfl, ?_⟩) ?_
              rotate_left
              · (intro w hSw; (try dsimp only at hSw); go_simp; (try with_reducible rfl))
              (try simp only [Act.put, List.setIfInBounds_toArray, List.set_cons_zero, List.set_cons_succ])
              refine M_take (v := ?_) 16 rfl (by kernel_rfl) (by assumption) (fun _ _ _ h => h) (Or.inl ⟨by rfl, ?_⟩) ?_
              rotate_left
              · (intro w hSw; (try dsimp only at hSw); go_simp; (try with_reducible rfl))
              (try simp only [Act.put, List.setIfInBounds_toArray, List.set_cons_zero, List.set_cons_succ])
              refine M_done (by kernel_rfl) ?_ _
              have HF : Hid (Below w5.heap.size w5 wA) := Lib.hid (nextB HB6.out (nextB HD.out HBA.out))
              clear hT0 hTA c0 c1 c2 l0 l1 zC zL
              go_wp2_with fail
              go_roundw
              case rel => exact ⟨(c.d.n : Int) + 1, by omega, by omega, rfl, HF.out⟩
              case measure => (simp [intOf] <;> omega)
          · have hnl : ¬ (j ≤ (c.d.n : Int)) := hjl
            have dnl : decide (j ≤ (c.d.n : Int)) = false := decide_eq_false hjl
            have wt := HT2.out
            cases hvd : vd2 with
            | true =>
              have hm1 := HMO.out
              have d1 : decide (s1 ≤ r1) = true := decide_eq_true hm1.1
              have d2 : decide (s2 ≤ r2) = true := decide_eq_true hm1.2
              clear hm1 hnl
              go_wp2_with fail
              refine (K2.out _ D.out hvd).mono ?_
              rintro e w7 ⟨rfl, hb⟩
              have J := Lib.hid (hb)
              have D := Lib.hid (nextB D.out J.out)
              clear c0 c1 c2 zC x2 zX l0 l1 l2 l3 zL
              have C := Lib.hid (C.out.up J.out)
              have X := Lib.hid (X.out.up J.out)
              have L := Lib.hid (L.out.up J.out)
              clear hb
              obtain ⟨c0, c1, c2⟩ := C.out
              have zC := C.out.lt
              have x2 : w7.cell? ⟨w.heap.size + 1, 2, none⟩ = some (.int .i64 x.t) := X.out.c 2 _ rfl
              have zX := X.out.lt
              obtain ⟨l0, l1, l2, l3⟩ := L.out
              have zL := L.out.lt
              go_wp2_with fail
              go_ret
              exact ⟨rfl, (nextB D.out (box1 w7 _))⟩
            | false =>
              go_wp2_with fail
              refine (K3.out _ D.out hvd).mono ?_
              rintro e w7 ⟨rfl, hb⟩
              have J := Lib.hid (hb)
              have D := Lib.hid (nextB D.out J.out)
              clear c0 c1 c2 zC x2 zX l0 l1 l2 l3 zL
              have C := Lib.hid (C.out.up J.out)
              have X := Lib.hid (X.out.up J.out)
              have L := Lib.hid (L.out.up J.out)
              clear hb
              obtain ⟨c0, c1, c2⟩ := C.out
              have zC := C.out.lt
              have x2 : w7.cell? ⟨w.heap.size + 1, 2, none⟩ = some (.int .i64 x.t) := X.out.c 2 _ rfl
              have zX := X.out.lt
              obtain ⟨l0, l1, l2, l3⟩ := L.out
              have zL := L.out.lt
              go_wp2_with fail
              go_ret
              exact ⟨rfl, (nextB D.out (box1 w7 _))⟩
      · have hn1 : (E != 0) = true := by simpa using hz
        have hS := HS.out
        rw [if_neg hz] at hS
        injection hS with hs1 hs2
        subst hs1
        subst hs2
        clear hz
        go_wp2_with fail
        go_ret
        exact ⟨rfl, (nextB D.out (box1 w4 _))⟩
    · have dm1 : decide (20 < c.m) = true := decide_eq_true (by omega)
      have dm2 : decide ((20 : Int) < (c.m : Int)) = true := decide_eq_true (by omega)
      clear hm20
      go_wp2_with fail
      go_ret
      exact ⟨rfl, D.out⟩
end Go.Proofs.Ytpikaohodieeaaa
