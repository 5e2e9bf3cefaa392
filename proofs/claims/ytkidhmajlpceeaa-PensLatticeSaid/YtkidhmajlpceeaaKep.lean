import Derived.Test.YtkidhmajlpceeaaKee
namespace Go.Proofs.Ytkidhmajlpceeaa
open Go.RowKit
/-- the k-th moment can follow -/
def kAt (p : Pn) (M : Nat → Int × Int) : Nat → Prop
  | 0 => -p.b ≤ (M 0).2 - (M 0).1 ∧ (M 0).2 - (M 0).1 ≤ p.b
  | k + 1 => (-p.r ≤ (M (k + 1)).2 - (M k).2 ∧ (M (k + 1)).2 - (M k).2 ≤ p.r) ∧ (M (k + 1)).1 = lz p.b (M k).1 (M (k + 1)).2
theorem k_or (p : Pn) (M : Nat → Int × Int) (n : Nat) : ∃ j, j ≤ n ∧ (∀ i, i < j → kAt p M i) ∧ (j < n → ¬ kAt p M j) := by
  induction n with
  | zero => exact ⟨0, Nat.le_refl _, fun i hi => absurd hi (by omega), fun h => absurd h (by omega)⟩
  | succ n ih =>
    obtain ⟨j, h1, h2, h3⟩ := ih
    by_cases hj : j < n
    · exact ⟨j, by omega, h2, fun _ => h3 hj⟩
    · obtain rfl : j = n := by omega
      by_cases hx : kAt p M j
      · exact ⟨j + 1, Nat.le_refl _, fun i hi => by
          by_cases e : i = j
          · rw [e]; exact hx
          · exact h2 i (by omega), fun h => absurd h (by omega)⟩
      · exact ⟨j, by omega, h2, fun _ => hx⟩
theorem k_band {p : Pn} {M : Nat → Int × Int} (hb : 0 ≤ p.b) : ∀ k, kAt p M k → -p.b ≤ (M k).2 - (M k).1 ∧ (M k).2 - (M k).1 ≤ p.b
  | 0, h => h
  | k + 1, h => by
    have h' : (-p.r ≤ (M (k + 1)).2 - (M k).2 ∧ (M (k + 1)).2 - (M k).2 ≤ p.r) ∧ (M (k + 1)).1 = lz p.b (M k).1 (M (k + 1)).2 := h
    rw [h'.2]
    exact lz_near hb _ _
/-- what next is asked at the k-th moment, and what it answers where the moment follows -/
theorem k_yes {p : Pn} {M : Nat → Int × Int} (h : p.Ok) {k : Nat} (hp : ∀ i, i < k → kAt p M i) (hk : kAt p M k) :
    (-p.b ≤ (M (k - 1)).2 - (M (k - 1)).1 ∧ (M (k - 1)).2 - (M (k - 1)).1 ≤ p.b) ∧ (-p.r ≤ (M k).2 - (M (k - 1)).2 ∧ (M k).2 - (M (k - 1)).2 ≤ p.r) ∧ lz p.b (M (k - 1)).1 (M k).2 = (M k).1 := by
  obtain ⟨b1, b2⟩ := h.b
  obtain ⟨r1, r2⟩ := h.r
  match k with
  | 0 =>
    have h0 : -p.b ≤ (M 0).2 - (M 0).1 ∧ (M 0).2 - (M 0).1 ≤ p.b := hk
    exact ⟨h0, by simp only [Nat.zero_sub]; omega, by simp only [Nat.zero_sub]; unfold lz; omega⟩
  | k + 1 => exact ⟨k_band b1 k (hp k (by omega)), hk.1, hk.2.symm⟩
theorem k_not {p : Pn} {M : Nat → Int × Int} (h : p.Ok) {k : Nat} (hp : ∀ i, i < k → kAt p M i) (hk : ¬ kAt p M k) :
    ¬ (-p.b ≤ (M (k - 1)).2 - (M (k - 1)).1 ∧ (M (k - 1)).2 - (M (k - 1)).1 ≤ p.b) ∨ (-p.b ≤ (M (k - 1)).2 - (M (k - 1)).1 ∧ (M (k - 1)).2 - (M (k - 1)).1 ≤ p.b) ∧ (¬ (-p.r ≤ (M k).2 - (M (k - 1)).2 ∧ (M k).2 - (M (k - 1)).2 ≤ p.r) ∨ (-p.r ≤ (M k).2 - (M (k - 1)).2 ∧ (M k).2 - (M (k - 1)).2 ≤ p.r) ∧ lz p.b (M (k - 1)).1 (M k).2 ≠ (M k).1) := by
  obtain ⟨b1, b2⟩ := h.b
  match k with
  | 0 => exact .inl hk
  | k + 1 =>
    refine .inr ⟨k_band b1 k (hp k (by omega)), ?_⟩
    by_cases h2 : -p.r ≤ (M (k + 1)).2 - (M k).2 ∧ (M (k + 1)).2 - (M k).2 ≤ p.r
    · exact .inr ⟨h2, fun e => hk ⟨h2, e.symm⟩⟩
    · exact .inl h2
def keeR (p : Pn) (n : Nat) (M : Nat → Int × Int) (E : Int) : Prop :=
  (¬ p.Ok ∧ E = 30) ∨ p.Ok ∧ ((¬ MOk M n ∧ E = 1) ∨ MOk M n ∧ (((∀ k, k < n → kAt p M k) ∧ E = 0) ∨ (∃ j, j < n ∧ (∀ k, k < j → kAt p M k) ∧ ¬ kAt p M j) ∧ E = 31))
theorem keeR_ex (p : Pn) (n : Nat) (M : Nat → Int × Int) : ∃ E, keeR p n M E := by
  by_cases h : p.Ok
  · by_cases hl : MOk M n
    · obtain ⟨j, h1, h2, h3⟩ := k_or p M n
      by_cases hj : j < n
      · exact ⟨31, .inr ⟨h, .inr ⟨hl, .inr ⟨⟨j, hj, h2, h3 hj⟩, rfl⟩⟩⟩⟩
      · obtain rfl : j = n := by omega
        exact ⟨0, .inr ⟨h, .inr ⟨hl, .inl ⟨h2, rfl⟩⟩⟩⟩
    · exact ⟨1, .inr ⟨h, .inl ⟨hl, rfl⟩⟩⟩
  · exact ⟨30, .inl ⟨h, rfl⟩⟩
/-- the box of the moment before -/
structure KeI (w : World) (M : Nat → Int × Int) (bq k : Nat) (wr : World) : Prop where
  below : Below w.heap.size w wr
  c0 : wr.cell? ⟨bq, 0, none⟩ = some (.int .i64 (M (k - 1)).1)
  c1 : wr.cell? ⟨bq, 1, none⟩ = some (.int .i64 (M (k - 1)).2)
  f0 : wr.frozen? ⟨bq, 0, none⟩ = false
  f1 : wr.frozen? ⟨bq, 1, none⟩ = false
theorem KeI.lt {w wr : World} {M : Nat → Int × Int} {bq k : Nat} (h : KeI w M bq k wr) : bq < wr.heap.size := World.block_lt_of_cell? _ _ h.c0
theorem KeI.step {w wr w1 : World} {M : Nat → Int × Int} {bq k : Nat} {o : Obj} (h : KeI w M bq k wr) (hb : Below wr.heap.size wr w1) (hq : w.heap.size ≤ bq) :
    KeI w M bq (k + 1) (((w1.setCell ⟨bq, 0, none⟩ (.int .i64 (M k).1)).setCell ⟨bq, 1, none⟩ (.int .i64 (M k).2)).alloc o) := by
  have z := h.lt
  have s1 := hb.size
  have s0 := h.below.size
  have e0 := cell_up hb z h.c0
  have e1 := cell_up hb z h.c1
  have e2 := low_frozen hb z h.f0
  have e3 := low_frozen hb z h.f1
  have z1 : bq < w1.heap.size := by omega
  refine ⟨(set1 (set1 (h.below.trans (hb.mono s0)) hq _ _) hq _ _).alloc (by rw [World.size_setCell, World.size_setCell]; omega) _, ?_, ?_, ?_, ?_⟩
  · show _ = some (Value.int .i64 (M k).1)
    go_simp
  · show _ = some (Value.int .i64 (M k).2)
    go_simp
  · go_simp
  · go_simp
set_option maxRecDepth 100000 in
set_option maxHeartbeats 4000000 in
theorem Keeps_any (p : Pn) (A : Option Addr) (n c : Nat) (M : Nat → Int × Int) (E : Int) (w : World) (hin : MosIn A n M w.heap.size w) (hE : keeR p n M E) :
    Calls Try.prog 32 #[p.v, .slice A n c] w fun e w' => e = .returned (.int .i64 E) ∧ Below w.heap.size w w' := by
  have HIN := Lib.hid hin
  have hn := hin.1
  clear hin
  rcases hE with ⟨h, rfl⟩ | ⟨h, hE⟩
  · go_enter Try.func32, Try.ntmps32
    go_wp2_with fail
    refine (Check_f p _ h).mono ?_
    rintro e w1 ⟨rfl, hb⟩
    go_wp2_with fail
    go_ret
    exact ⟨rfl, nextB (box1 _ _) hb⟩
  · have HH := Lib.hid h
    have HE := Lib.hid hE
    clear h hE
    go_enter Try.func32, Try.ntmps32
    go_wp2_with fail
    refine (Check_t p _ HH.out).mono ?_
    rintro e w1 ⟨rfl, hb⟩
    have hp1 := (pn_new w p.b p.lo p.hi p.r).up hb (by simp)
    have C1 := Lib.hid (nextB (box1 w _) hb)
    have zp1 := hp1.lt
    have Hp1 := Lib.hid hp1
    clear hb hp1
    rcases HE.out with ⟨hm, rfl⟩ | ⟨hm, hE⟩
    · have K := Lib.hid (areMoments_any A n c M false w1 ((HIN.out.up C1.out (Nat.le_refl _)).more C1.out.size) ⟨(fun e => by cases e), fun e => absurd e hm⟩)
      clear hm HE
      go_wp2_with fail
      refine K.out.mono ?_
      rintro e w2 ⟨rfl, hb2⟩
      have D2 := Lib.hid hb2
      clear hb2
      go_wp2_with fail
      go_ret
      exact ⟨rfl, nextB C1.out D2.out⟩
    · have K := Lib.hid (areMoments_any A n c M true w1 ((HIN.out.up C1.out (Nat.le_refl _)).more C1.out.size) ⟨fun _ => hm, fun _ => rfl⟩)
      have HM := Lib.hid hm
      have HE2 := Lib.hid hE
      obtain ⟨n1, n2, n3⟩ := hm
      have HL := Lib.hid n3
      clear n3 HE hE
      go_wp2_with fail
      refine K.out.mono ?_
      rintro e w2 ⟨rfl, hb2⟩
      have D2 := Lib.hid hb2
      have C2 := Lib.hid (nextB C1.out D2.out)
      obtain ⟨x0, x1, x2, x3⟩ := Hp1.out.up hb2 zp1
      obtain ⟨a, rfl, ab, c0, c1⟩ := (HIN.out.up C2.out (Nat.le_refl _)).2 0 (by omega)
      have d0 : w2.cell? a = some (.int .i64 (M 0).1) := by simpa [Addr.add] using c0
      have d1 : w2.cell? ⟨a.block, a.off + 1, none⟩ = some (.int .i64 (M 0).2) := by simpa [Addr.add] using c1
      have nn : (0 : Int) < n := by omega
      clear hb2 c0 c1 K
      go_wp2_with fail
      have hj : ∃ j, j ≤ n ∧ (∀ i, i < j → kAt p M i) ∧ ((j = n ∧ E = 0) ∨ (j < n ∧ ¬ kAt p M j ∧ E = 31)) := by
        rcases HE2.out with ⟨h1, h2⟩ | ⟨⟨j, h1, h2, h3⟩, h4⟩
        · exact ⟨n, Nat.le_refl _, h1, .inl ⟨rfl, h2⟩⟩
        · exact ⟨j, by omega, h2, .inr ⟨h1, h3, h4⟩⟩
      obtain ⟨j, j1, j2, j3⟩ := hj
      have J2 := Lib.hid j2
      have J3 := Lib.hid j3
      have I0 : KeI w M w2.heap.size 0 (w2.alloc (.cells #[.int .i64 (M 0).1, .int .i64 (M 0).2] 27)) :=
        ⟨nextB C2.out (box1 _ _), by go_simp, by go_simp, by unfold World.frozen?; rw [World.alloc_heap_new]; simp, by unfold World.frozen?; rw [World.alloc_heap_new]; simp⟩
      have HI0 := Lib.hid I0
      have KN1 := Lib.hid fun s r x W h1 h2 h3 => next_no1 p s r x W h1 h2 HH.out.b h3
      have KN2 := Lib.hid fun s r x W h1 h2 h3 h4 h5 => next_no2 p s r x W h1 h2 h3 HH.out.b HH.out.r h4 h5
      have KY := Lib.hid fun s r x W h1 h2 h3 h4 h5 => next_t p s r x W h1 h2 h3 HH.out.b HH.out.r h4 h5
      have zq : w.heap.size ≤ w2.heap.size := C2.out.size
      clear j2 j3 I0 d0 d1 x0 x1 x2 x3 HE2
      go_loopw [9, 10, 11, 27] (fun _ _ _ i wr => ∃ k : Nat, k ≤ j ∧ i = .int .i64 k ∧ KeI w M w2.heap.size k wr) (fun _ _ _ i _ => n - (intOf i).toNat)
      case atStart => exact ⟨0, Nat.zero_le _, rfl, HI0.out⟩
      case round =>
        obtain ⟨k, hk, rfl, hI⟩ := hrel
        obtain ⟨wo, rfl⟩ : ∃ wo : World, wo = wr := ⟨_, rfl⟩
        have HI := Lib.hid hI
        have hk0 : (0 : Int) ≤ (k : Int) := by omega
        have zl := hI.lt
        obtain ⟨hb, y0, y1, g0, g1⟩ := hI
        clear HI0
        by_cases hlt : k < n
        · obtain ⟨a', e', _, c0, c1⟩ := (HIN.out.up hb (Nat.le_refl _)).2 k hlt
          cases e'
          have hki : (k : Int) < (n : Int) := by omega
          have l1 := HL.out (k - 1) (by omega)
          have l2 := HL.out k hlt
          obtain ⟨⟨u1, u2⟩, ⟨u3, u4⟩⟩ := l1
          obtain ⟨⟨u5, u6⟩, ⟨u7, u8⟩⟩ := l2
          have s1 : Sm (M (k - 1)).1 := ⟨by omega, by omega⟩
          have s2 : Sm (M (k - 1)).2 := ⟨by omega, by omega⟩
          have s3 : Sm (M k).2 := ⟨by omega, by omega⟩
          clear hb u1 u2 u3 u4 u5 u6 u7 u8
          by_cases hkj : k < j
          · obtain ⟨q1, q2, q3⟩ := k_yes HH.out (fun i hi => J2.out i (by omega)) (J2.out k hkj)
            have K := Lib.hid fun W => KY.out _ _ _ W s1 s2 s3 q1 q2
            rw [q3] at K
            clear q1 q2 q3 s1 s2 s3
            go_wp2_with fail
            refine (K.out _).mono ?_
            rintro e w3 ⟨rfl, hb3⟩
            have D3 := Lib.hid (nextB (box1 wo _) hb3)
            have z0 := cell_up D3.out zl y0
            have z1 := cell_up D3.out zl y1
            have z2 := low_frozen D3.out zl g0
            have z3 := low_frozen D3.out zl g1
            have t0 : w3.cell? ⟨wo.heap.size, 0, none⟩ = some (.int .i64 (M k).1) := low_cell hb3 (by simp) (by go_simp)
            have t1 : w3.cell? ⟨wo.heap.size, 1, none⟩ = some (.int .i64 (M k).2) := low_cell hb3 (by simp) (by go_simp)
            have zz : wo.heap.size < w3.heap.size := World.block_lt_of_cell? _ _ t0
            have zq3 : w2.heap.size < w3.heap.size := by omega
            clear hb3 K y0 y1 g0 g1 c0 c1
            go_wp2_with fail
            go_roundw
            case rel => exact ⟨k + 1, by omega, by go_num, HI.out.step D3.out zq⟩
            case measure => simp [intOf]; omega
          · obtain rfl : k = j := by omega
            rcases J3.out with ⟨h1, _⟩ | ⟨_, hbad, hE31⟩
            · omega
            · subst hE31
              rcases k_not HH.out J2.out hbad with q1 | ⟨q1, q2 | ⟨q2, q3⟩⟩
              · have K := Lib.hid fun W => KN1.out _ _ (M k).2 W s1 s2 q1
                clear q1 hbad s1 s2 s3
                go_wp2_with fail
                refine (K.out _).mono ?_
                rintro e w3 ⟨rfl, hb3⟩
                have D3 := Lib.hid (nextB (box1 wo _) hb3)
                clear hb3 K y0 y1 g0 g1 c0 c1
                go_wp2_with fail
                go_ret
                exact ⟨rfl, (HI.out.below.trans (D3.out.mono HI.out.below.size)).alloc (by have := D3.out.size; have := HI.out.below.size; omega) _⟩
              · have K := Lib.hid fun W => KN2.out _ _ _ W s1 s2 s3 q1 q2
                clear q1 q2 hbad s1 s2 s3
                go_wp2_with fail
                refine (K.out _).mono ?_
                rintro e w3 ⟨rfl, hb3⟩
                have D3 := Lib.hid (nextB (box1 wo _) hb3)
                clear hb3 K y0 y1 g0 g1 c0 c1
                go_wp2_with fail
                go_ret
                exact ⟨rfl, (HI.out.below.trans (D3.out.mono HI.out.below.size)).alloc (by have := D3.out.size; have := HI.out.below.size; omega) _⟩
              · have K := Lib.hid fun W => KY.out _ _ _ W s1 s2 s3 q1 q2
                have ne : (lz p.b (M (k - 1)).1 (M k).2 == (M k).1) = false := by simpa using q3
                clear q1 q2 hbad s1 s2 s3
                go_wp2_with fail
                refine (K.out _).mono ?_
                rintro e w3 ⟨rfl, hb3⟩
                have D3 := Lib.hid (nextB (box1 wo _) hb3)
                have t0 : w3.cell? ⟨wo.heap.size, 0, none⟩ = some (.int .i64 (M k).1) := low_cell hb3 (by simp) (by go_simp)
                have t1 : w3.cell? ⟨wo.heap.size, 1, none⟩ = some (.int .i64 (M k).2) := low_cell hb3 (by simp) (by go_simp)
                have zz : wo.heap.size < w3.heap.size := World.block_lt_of_cell? _ _ t0
                clear hb3 K y0 y1 g0 g1 c0 c1
                go_wp2_with fail
                go_ret
                exact ⟨rfl, (HI.out.below.trans (D3.out.mono HI.out.below.size)).alloc (by have := D3.out.size; have := HI.out.below.size; omega) _⟩
        · have hki : (n : Int) ≤ (k : Int) := by omega
          have hE0 : E = 0 := by
            rcases J3.out with ⟨_, h2⟩ | ⟨h1, _⟩
            · exact h2
            · omega
          subst hE0
          clear hb y0 y1 g0 g1
          go_wp2_with fail
          go_ret
          exact ⟨rfl, HI.out.below⟩
end Go.Proofs.Ytkidhmajlpceeaa
