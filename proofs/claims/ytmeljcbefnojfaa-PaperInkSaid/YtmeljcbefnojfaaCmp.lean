import Derived.Test.YtmeljcbefnojfaaJnd
import Derived.Laws.MakeOwn
namespace Go.Proofs.Ytmeljcbefnojfaa
open Go.RowKit
theorem Try.infoCol : (Try.prog.info? 109).map (fun i => (i.zero, i.size, i.bytes)) = some (some (.agg #[.slice none 0 0, .bool false]), 2, 32) := by kernel_rfl
theorem run_make_cols (n : Nat) (hn : n ≤ 1000) (w : World) :
    (Instr.makeSlice 107 (.int .i64 (n : Int)) (.int .i64 (n : Int))).run Try.prog w = .ok (.slice (some ⟨w.heap.size, 0, none⟩) n n) (w.alloc (.cells (madeCells #[.slice none 0 0, .bool false] (n * 2)) 109)) := by
  obtain ⟨i0, hi0, hz0, hz1, hz2⟩ := info_parts Try.infoCol
  have hr := run_make (P := Try.prog) (w := w) 107 109 i0 _ Try.underlying107 hi0 hz0 .i64 .i64 n n (by omega) (by omega) (by rw [hz2]; omega) (by omega)
  rw [hz1] at hr
  simp only [Int.toNat_natCast] at hr
  exact hr
/-- columns that are being made: the block that has them, those that are made -/
structure ColsB (w : World) (G n k : Nat) (Lc : Nat → List (Int × Int)) (wr : World) : Prop where
  below : Below G w wr
  blk : ∃ cur : Array Value, wr.heap[G]? = some (.cells cur 109 (0, 0)) ∧ cur.size = n * 2 ∧ ∀ c, c < k → ∃ v, cur[c * 2]? = some v ∧ wr.ownsRow G 23 2 v (Lc c).length (flatL (Lc c))
theorem ColsB.up {w wr w' : World} {G n k : Nat} {Lc : Nat → List (Int × Int)} (h : ColsB w G n k Lc wr) (hb : Below wr.heap.size wr w') : ColsB w G n k Lc w' := by
  obtain ⟨h1, cur, h2, h3, h4⟩ := h
  have hl : G < wr.heap.size := (Array.getElem?_eq_some_iff.1 h2).1
  refine ⟨h1.trans (hb.mono (by omega)), cur, (hb.block G hl).trans h2, h3, fun c hc => ?_⟩
  obtain ⟨v, e, ho⟩ := h4 c hc
  exact ⟨v, e, own_keep2 ho hb⟩
theorem own_other {w : World} {base n G : Nat} {v : Value} {xs : List Value} {cur : Array Value} {t : TypeId} (h : w.ownsRow base 23 2 v n xs) (hG : w.heap[G]? = some (.cells cur t (0, 0))) (ht : t ≠ 23) (o : Nat) (u : Value) : (w.setCell ⟨G, o, none⟩ u).ownsRow base 23 2 v n xs := by
  obtain ⟨h0, hx | ⟨g, cap, c2, e1, e2, e3, e4⟩⟩ := h
  · exact ⟨h0, .inl hx⟩
  · have hne : g ≠ G := by
      intro e
      subst e
      rw [hG] at e3
      simp at e3
      exact ht e3.2
    exact ⟨h0, .inr ⟨g, cap, c2, e1, e2, (Below.heap_setCell w ⟨G, o, none⟩ u g hne).trans e3, e4⟩⟩
theorem ColsB.put {w wr : World} {G n k : Nat} {Lc : Nat → List (Int × Int)} {v : Value} (h : ColsB w G n k Lc wr) (hk : k < n) (hv : wr.ownsRow G 23 2 v (Lc k).length (flatL (Lc k))) : ColsB w G n (k + 1) Lc ((wr.setCell ⟨G, k * 2, none⟩ v).setCell ⟨G, k * 2 + 1, none⟩ (.bool false)) := by
  obtain ⟨h1, cur, h2, h3, h4⟩ := h
  have e1 : (wr.setCell ⟨G, k * 2, none⟩ v).heap[G]? = some (.cells (cur.setIfInBounds (k * 2) v) 109 (0, 0)) := by simp [World.setCell, Array.getElem?_modify, h2]
  have e2 : ((wr.setCell ⟨G, k * 2, none⟩ v).setCell ⟨G, k * 2 + 1, none⟩ (.bool false)).heap[G]? = some (.cells ((cur.setIfInBounds (k * 2) v).setIfInBounds (k * 2 + 1) (.bool false)) 109 (0, 0)) := by simp [World.setCell, Array.getElem?_modify, h2]
  refine ⟨set1 (set1 h1 (Nat.le_refl _) _ _) (Nat.le_refl _) _ _, _, e2, by simp [h3], fun c hc => ?_⟩
  by_cases hck : c = k
  · subst hck
    refine ⟨v, ?_, own_other (own_other hv h2 (by decide) _ _) e1 (by decide) _ _⟩
    rw [Array.getElem?_setIfInBounds_ne (by omega), Array.getElem?_setIfInBounds_self_of_lt (by omega)]
  · obtain ⟨u, hu, ho⟩ := h4 c (by omega)
    refine ⟨u, ?_, own_other (own_other ho h2 (by decide) _ _) e1 (by decide) _ _⟩
    rw [Array.getElem?_setIfInBounds_ne (by omega), Array.getElem?_setIfInBounds_ne (by omega)]
    exact hu
theorem ColsB.keep {w wr : World} {G n k : Nat} {Lc : Nat → List (Int × Int)} (h : ColsB w G n k Lc wr) (v u : Value) : ColsB w G n k Lc ((wr.setCell ⟨G, k * 2, none⟩ v).setCell ⟨G, k * 2 + 1, none⟩ u) := by
  obtain ⟨h1, cur, h2, h3, h4⟩ := h
  have e1 : (wr.setCell ⟨G, k * 2, none⟩ v).heap[G]? = some (.cells (cur.setIfInBounds (k * 2) v) 109 (0, 0)) := by simp [World.setCell, Array.getElem?_modify, h2]
  have e2 : ((wr.setCell ⟨G, k * 2, none⟩ v).setCell ⟨G, k * 2 + 1, none⟩ u).heap[G]? = some (.cells ((cur.setIfInBounds (k * 2) v).setIfInBounds (k * 2 + 1) u) 109 (0, 0)) := by simp [World.setCell, Array.getElem?_modify, h2]
  refine ⟨set1 (set1 h1 (Nat.le_refl _) _ _) (Nat.le_refl _) _ _, _, e2, by simp [h3], fun c hc => ?_⟩
  obtain ⟨x, hx, ho⟩ := h4 c (by omega)
  refine ⟨x, ?_, own_other (own_other ho h2 (by decide) _ _) e1 (by decide) _ _⟩
  rw [Array.getElem?_setIfInBounds_ne (by omega), Array.getElem?_setIfInBounds_ne (by omega)]
  exact hx
theorem keepA {w : World} {p : Addr} {G o : Nat} {u v : Value} (h : w.cell? p = some v) (hp : p.block ≠ G) : (w.setCell ⟨G, o, none⟩ u).cell? p = some v := by
  rw [World.cell?_setCell_other _ _ _ _ (fun e => hp (by rw [← e]))]
  exact h
theorem ColsB.facts {w wr : World} {G n k : Nat} {Lc : Nat → List (Int × Int)} (h : ColsB w G n k Lc wr) (hk : k < n) : wr.cell? ⟨G, k * 2, none⟩ = some (cellAt wr G (k * 2)) ∧ wr.cell? ⟨G, k * 2 + 1, none⟩ = some (cellAt wr G (k * 2 + 1)) ∧ wr.frozen? ⟨G, k * 2, none⟩ = false ∧ wr.frozen? ⟨G, k * 2 + 1, none⟩ = false ∧ G < wr.heap.size := by
  obtain ⟨h1, cur, h2, h3, h4⟩ := h
  have e0 : wr.cell? ⟨G, k * 2, none⟩ = some (cur[k * 2]'(by omega)) := by simp [World.cell?, h2]
  have e1 : wr.cell? ⟨G, k * 2 + 1, none⟩ = some (cur[k * 2 + 1]'(by omega)) := by simp [World.cell?, h2]
  exact ⟨cellAt_ok e0, cellAt_ok e1, by simp [World.frozen?, h2], by simp [World.frozen?, h2], (Array.getElem?_eq_some_iff.1 h2).1⟩
/-- columns are returned, of the call's own -/
def ColsP (w : World) (n : Nat) (Lc : Nat → List (Int × Int)) (e : Ending) (w' : World) : Prop := ∃ G, e = .returned (.tuple #[.slice (some ⟨G, 0, none⟩) n n, .int .i64 0]) ∧ w.heap.size ≤ G ∧ ColsB w' G n n Lc w' ∧ Below w.heap.size w w'
set_option maxRecDepth 100000 in
set_option maxHeartbeats 4000000 in
theorem compare_col (F : Nat) (eg : ∀ args w, (callFunc F args).run Try.prog w = .ok (.enter F args) w) (A B : Option Addr) (n c d : Nat) (x y : Cls) (Lc : Nat → List (Int × Int)) (w : World) (ha : ClsIn A n x w.heap.size w) (hb : ClsIn B n y w.heap.size w) (hx : InkOk x n) (hy : InkOk y n)
    (hF : ∀ k, k < n → ∀ W, Below w.heap.size w W → Calls Try.prog F #[.slice (x.A k) (x.L k) (x.C k), .slice (y.A k) (y.L k) (y.C k)] W (ColP W (Lc k))) :
    Calls Try.prog 108 #[.agg #[.slice A n c], .agg #[.slice B n d], .agg #[.func (.func F) #[] #[]]] w (ColsP w n Lc) := by
  have hn1 := hx.1
  have hn2 := hx.2.1
  have hn' : (n : Int) ≤ 200 := by omega
  obtain ⟨w4, hw4⟩ : ∃ w4, w4 = (((w.alloc (.cells #[.slice A n c] 29)).alloc (.cells #[.slice B n d] 29)).alloc (.cells #[.func (.func F) #[] #[]] 118)).alloc (.cells #[.slice A n c, .slice B n d] 29) := ⟨_, rfl⟩
  have hW : Below w.heap.size w w4 := by rw [hw4]; exact box4 _ _ _ _ _
  have hsz : w4.heap.size = w.heap.size + 1 + 1 + 1 + 1 := by rw [hw4]; simp only [World.size_alloc]
  have k0 : w4.cell? ⟨w.heap.size, 0, none⟩ = some (.slice A n c) := by rw [hw4]; go_simp
  have k1 : w4.cell? ⟨w.heap.size + 1, 0, none⟩ = some (.slice B n d) := by rw [hw4]; go_simp
  have k2 : w4.cell? ⟨w.heap.size + 1 + 1, 0, none⟩ = some (.func (.func F) #[] #[]) := by rw [hw4]; go_simp
  have k3 : w4.cell? ⟨w.heap.size + 1 + 1 + 1, 0, none⟩ = some (.slice A n c) := by rw [hw4]; go_simp
  have k4 : w4.cell? ⟨w.heap.size + 1 + 1 + 1, 1, none⟩ = some (.slice B n d) := by rw [hw4]; go_simp
  have K0 := Lib.hid k0
  have K1 := Lib.hid k1
  have K2 := Lib.hid k2
  have K3 := Lib.hid k3
  have K4 := Lib.hid k4
  have HW := Lib.hid hW
  have H4 := Lib.hid hw4
  have HS := Lib.hid hsz
  have KA : Hid (∀ W, Below w4.heap.size w4 W → Calls Try.prog 29 #[.agg #[.slice A n c]] W fun e w' => e = .returned (.int .i64 0) ∧ Below W.heap.size W w') := Lib.hid fun W h => by
    have hh : Below w.heap.size w W := hW.trans (h.mono hW.size)
    exact CheckInked_any A n c x true W ((ha.up hh (Nat.le_refl _)).more hh.size) ⟨fun _ => hx, fun _ => rfl⟩
  have KB : Hid (∀ W, Below w4.heap.size w4 W → Calls Try.prog 29 #[.agg #[.slice B n d]] W fun e w' => e = .returned (.int .i64 0) ∧ Below W.heap.size W w') := Lib.hid fun W h => by
    have hh : Below w.heap.size w W := hW.trans (h.mono hW.size)
    exact CheckInked_any B n d y true W ((hb.up hh (Nat.le_refl _)).more hh.size) ⟨fun _ => hy, fun _ => rfl⟩
  have KF := Lib.hid hF
  have HA := Lib.hid ha
  have HB := Lib.hid hb
  clear ha hb hx hy hF k0 k1 k2 k3 k4 hW hw4 hsz
  go_enter Try.func108, Try.ntmps108
  go_wp2_with fail
  rw [← H4.out]
  go_loopw [17] (fun i wr => ∃ k : Nat, k ≤ 2 ∧ i = .int .i64 k ∧ Below w4.heap.size w4 wr) (fun i _ => 2 - (intOf i).toNat)
  case atStart => exact ⟨0, by omega, rfl, Below.refl _ _⟩
  case round =>
    obtain ⟨k, hk, rfl, hB⟩ := hrel
    obtain ⟨wo, rfl⟩ : ∃ wo : World, wo = wr := ⟨_, rfl⟩
    have hs4 := HS.out
    have hso := hB.size
    have k0 := cell_up hB (by omega) K0.out
    have k1 := cell_up hB (by omega) K1.out
    have k2 := cell_up hB (by omega) K2.out
    have k3 := cell_up hB (by omega) K3.out
    have k4 := cell_up hB (by omega) K4.out
    have z0 : w.heap.size < wo.heap.size := by omega
    have z1 : w.heap.size + 1 < wo.heap.size := by omega
    have z2 : w.heap.size + 1 + 1 < wo.heap.size := by omega
    have z3 : w.heap.size + 1 + 1 + 1 < wo.heap.size := by omega
    have hs5 : w.heap.size + 1 + 1 + 1 + 1 ≤ wo.heap.size := by omega
    clear hs4
    rcases (by omega : k = 0 ∨ k = 1 ∨ k = 2) with rfl | rfl | rfl
    · go_wp2_with fail
      refine (KA.out _ (hB.alloc hso _)).mono ?_
      rintro e w1 ⟨rfl, hb⟩
      have hB1 : Below w4.heap.size w4 w1 := (hB.alloc hso _).trans (hb.mono (by simp only [World.size_alloc]; omega))
      clear hb k0 k1 k2 k3 k4
      go_wp2_with fail
      go_roundw
      case rel => exact ⟨1, by omega, by go_num, hB1⟩
      case measure => simp [intOf]
    · go_wp2_with fail
      refine (KB.out _ (hB.alloc hso _)).mono ?_
      rintro e w1 ⟨rfl, hb⟩
      have hB1 : Below w4.heap.size w4 w1 := (hB.alloc hso _).trans (hb.mono (by simp only [World.size_alloc]; omega))
      clear hb k0 k1 k2 k3 k4
      go_wp2_with fail
      go_roundw
      case rel => exact ⟨2, by omega, by go_num, hB1⟩
      case measure => simp [intOf]
    · rw [show ((2 : Nat) : Int) = (2 : Int) from rfl]
      have hmk := run_make_cols n (by omega)
      go_wp2_with fail
      obtain ⟨G, hG⟩ : ∃ G, G = wo.heap.size := ⟨_, rfl⟩
      obtain ⟨w5, hw5⟩ : ∃ w5, w5 = wo.alloc (.cells (madeCells #[.slice none 0 0, .bool false] (n * 2)) 109) := ⟨_, rfl⟩
      have hB5 : Below wo.heap.size wo w5 := by rw [hw5]; exact box1 _ _
      have hC0 : ColsB w5 G n 0 Lc w5 := ⟨Below.refl _ _, _, by rw [hw5, hG]; exact heap_alloc_new _ _, by simp [size_madeCells], fun c hc => absurd hc (by omega)⟩
      have j0 := Lib.hid (cell_up hB5 z0 k0)
      have j1 := Lib.hid (cell_up hB5 z1 k1)
      have j2 := Lib.hid (cell_up hB5 z2 k2)
      have hWo : Below w.heap.size w wo := HW.out.trans (hB.mono HW.out.size)
      have hW5 : Below w.heap.size w w5 := hWo.trans (hB5.mono hWo.size)
      have HW5 := Lib.hid hW5
      have HA5 := Lib.hid (HA.out.up hW5 (Nat.le_refl _))
      have HB5 := Lib.hid (HB.out.up hW5 (Nat.le_refl _))
      have HC0 := Lib.hid hC0
      have H5 := Lib.hid hw5
      have hG1 : w.heap.size + 1 + 1 + 1 + 1 ≤ G := by omega
      have hGG := Lib.hid hG
      rw [← hG]
      rw [← hw5]
      clear hmk k0 k1 k2 k3 k4 hB hC0 hw5 hG hWo hW5 hB5
      go_loopw [12, 40] (fun _ i wr => ∃ k : Nat, k ≤ n ∧ i = .int .i64 k ∧ ColsB w5 G n k Lc wr) (fun _ i _ => n - (intOf i).toNat)
      case atStart => exact ⟨0, by omega, rfl, HC0.out⟩
      case round =>
        obtain ⟨k, hk, rfl, hC⟩ := hrel
        obtain ⟨wi, rfl⟩ : ∃ wi : World, wi = wr := ⟨_, rfl⟩
        have HC := Lib.hid hC
        obtain ⟨hBi, cur, hcur, hcs, _⟩ := hC
        have hGl : G < wi.heap.size := (Array.getElem?_eq_some_iff.1 hcur).1
        have hk0 : (0 : Int) ≤ (k : Int) := by omega
        have i0 := hBi.cell (p := ⟨w.heap.size, 0, none⟩) (show w.heap.size < G by omega) |>.trans j0.out
        have i1 := hBi.cell (p := ⟨w.heap.size + 1, 0, none⟩) (show w.heap.size + 1 < G by omega) |>.trans j1.out
        have i2 := hBi.cell (p := ⟨w.heap.size + 1 + 1, 0, none⟩) (show w.heap.size + 1 + 1 < G by omega) |>.trans j2.out
        by_cases hlt : k < n
        · obtain ⟨a, rfl, ab, c0, _⟩ := (HA5.out.up hBi (by omega)).2 k hlt
          obtain ⟨b, rfl, bb, d0, _⟩ := (HB5.out.up hBi (by omega)).2 k hlt
          have hki : (k : Int) < (n : Int) := by omega
          obtain ⟨u0, u1, f0, f1, _⟩ := HC.out.facts hlt
          have hw5 : w.heap.size + 1 + 1 + 1 + 1 ≤ w5.heap.size := by have := HC0.out.blk; obtain ⟨cur, h2, _⟩ := this; have := (Array.getElem?_eq_some_iff.1 h2).1; omega
          have KR : Hid (∀ W, Hid (ColsB w5 G n k Lc W) → Calls Try.prog F #[.slice (x.A k) (x.L k) (x.C k), .slice (y.A k) (y.L k) (y.C k)] W fun e w' => ∃ A' c', e = .returned (.agg #[.slice A' (Lc k).length c', .bool false]) ∧ Below W.heap.size W w' ∧ Hid (w'.ownsRow G 23 2 (.slice A' (Lc k).length c') (Lc k).length (flatL (Lc k)))) := Lib.hid fun W hWb => by
            have hww : Below w.heap.size w W := HW5.out.trans (hWb.out.below.mono (by omega))
            have hGW : G < W.heap.size := (hWb.out.facts hlt).2.2.2.2
            refine (KF.out k hlt W hww).mono fun e w' hR => ?_
            obtain ⟨v, rfl, hb1, hown⟩ := hR
            obtain ⟨A', c', rfl⟩ := own_form hown
            exact ⟨A', c', rfl, hb1, Lib.hid (own_mono hown (by omega))⟩
          have n0 : w.heap.size ≠ G := by omega
          have n1 : w.heap.size + 1 ≠ G := by omega
          have n2 : w.heap.size + 1 + 1 ≠ G := by omega
          have na : (a.add k).block ≠ G := by rw [add_block]; omega
          have nb : (b.add k).block ≠ G := by rw [add_block]; omega
          have ab2 : (a.add k).block < wi.heap.size := by rw [add_block]; omega
          have bb2 : (b.add k).block < wi.heap.size := by rw [add_block]; omega
          have z0 : w.heap.size < wi.heap.size := by omega
          have z1 : w.heap.size + 1 < wi.heap.size := by omega
          have z2 : w.heap.size + 1 + 1 < wi.heap.size := by omega
          have HD : Hid (ColsB w5 G n k Lc wi.drew) := Lib.hid (HC.out.up (Below.refl _ _).drew)
          clear hcur hcs hBi
          go_wp2_with fail
          go_region_held3 (fun w' => w'.cell? ⟨w.heap.size, 0, none⟩ = some (.slice (some a) n c) ∧ w'.cell? ⟨w.heap.size + 1, 0, none⟩ = some (.slice (some b) n d) ∧ w'.cell? ⟨w.heap.size + 1 + 1, 0, none⟩ = some (.func (.func F) #[] #[]) ∧ w'.cell? (a.add k) = some (.slice (x.A k) (x.L k) (x.C k)) ∧ w'.cell? (b.add k) = some (.slice (y.A k) (y.L k) (y.C k)) ∧ w'.cell? ⟨G, k * 2, none⟩ = some (cellAt w' G (k * 2)) ∧ w'.cell? ⟨G, k * 2 + 1, none⟩ = some (cellAt w' G (k * 2 + 1)) ∧ w'.frozen? ⟨G, k * 2, none⟩ = false ∧ w'.frozen? ⟨G, k * 2 + 1, none⟩ = false ∧ Hid (ColsB w5 G n k Lc w') ∧ wi.heap.size ≤ w'.heap.size)
            (first
              | (go_split_ands; (repeat' apply And.intro); all_goals first | assumption | (go_simp; done) | (unfold cellAt; go_simp; done) | ((try simp only [World.size_drew]); omega))
              | (go_split_ands; (repeat' apply And.intro); all_goals first | exact (hbA.cell (by first | omega | ((try simp only [World.size_drew]); omega))).trans (by assumption) | exact (hbA.frozen (by first | omega | ((try simp only [World.size_drew]); omega))).trans (by assumption) | exact cellAt_ok ((hbA.cell (by first | omega | ((try simp only [World.size_drew]); omega))).trans (by assumption)) | exact Lib.hid (ColsB.up (by assumption : Hid (ColsB w5 G n k Lc _)).out hbA) | (have := hbA.size; first | omega | ((try simp only [World.size_drew] at this); omega)))
              | (go_split_ands; (repeat' apply And.intro); all_goals first | assumption | exact keepA (keepA (by assumption) (by first | exact n0 | exact n1 | exact n2 | exact na | exact nb)) (by first | exact n0 | exact n1 | exact n2 | exact na | exact nb) | (go_simp; done) | (unfold cellAt; go_simp; done) | exact Lib.hid (ColsB.keep (by assumption : Hid (ColsB w5 G n k Lc _)).out _ _) | (simp only [World.size_setCell]; omega)))
            (first | (go_at_fn F; go_split_ands; ((with_reducible refine (KR.out _ (by assumption)).mono ?_); rintro e wA ⟨A', c', rfl, hbA, HO⟩)))
          all_goals
            have hP := Lib.hid ((HD.out.up hbA).put hlt HO.out)
            clear hbA HO
            go_wp2_with fail
            go_roundw
            case rel => exact ⟨k + 1, by omega, by go_num, hP.out⟩
            case measure => simp [intOf]; omega
        · have hki : (n : Int) ≤ (k : Int) := by omega
          obtain rfl : n = k := by omega
          have hs5 : w.heap.size ≤ w5.heap.size := HW5.out.size
          have hww : Below w.heap.size w wi := HW5.out.trans (hBi.mono (by omega))
          have HWW := Lib.hid hww
          clear hBi hcur hcs hww i0 i1 i2
          go_wp2_with fail
          go_ret2
          exact ⟨G, rfl, by omega, ⟨Below.refl _ _, HC.out.blk⟩, HWW.out⟩
end Go.Proofs.Ytmeljcbefnojfaa
namespace Go.Proofs.Ytmeljcbefnojfaa
open Go.RowKit
theorem Try.infoRow : (Try.prog.info? 52).map (fun i => (i.zero, i.size, i.bytes)) = some (some (.slice none 0 0), 1, 24) := by kernel_rfl
theorem run_make_rows (n : Nat) (hn : n ≤ 1000) (w : World) :
    (Instr.makeSlice 27 (.int .i64 (n : Int)) (.int .i64 (n : Int))).run Try.prog w = .ok (.slice (some ⟨w.heap.size, 0, none⟩) n n) (w.alloc (.cells (madeCells #[.slice none 0 0] n) 52)) := by
  obtain ⟨i0, hi0, hz0, hz1, hz2⟩ := info_parts Try.infoRow
  have hr := run_make (P := Try.prog) (w := w) 27 52 i0 _ Try.underlying27 hi0 hz0 .i64 .i64 n n (by omega) (by omega) (by rw [hz2]; omega) (by omega)
  rw [hz1] at hr
  simp only [Int.toNat_natCast, Nat.mul_one] at hr
  exact hr
theorem gb_step {a w : World} {g : Nat} (h : a.grownBy w (some g)) (o : Nat) (u : Value) : a.grownBy (w.drew.setCell ⟨g, o, none⟩ u) (some g) :=
  ⟨h.os, h.tape, h.output, by rw [World.size_setCell]; exact h.size, fun k hk hne => (Below.heap_setCell w.drew ⟨g, o, none⟩ u k (fun e => hne (by rw [e]))).trans (h.block k hk hne)⟩
/-- rows that are being put into a sheet -/
structure ShtB (w : World) (H n k : Nat) (X : Cls) (wr : World) : Prop where
  only : w.grownBy wr (some H)
  blk : ∃ cur : Array Value, wr.heap[H]? = some (.cells cur 52 (0, 0)) ∧ cur.size = n ∧ ∀ c, c < k → cur[c]? = some (.slice (X.A c) (X.L c) (X.C c))
theorem ShtB.put {w wr : World} {H n k : Nat} {X : Cls} (h : ShtB w H n k X wr) (hk : k < n) : ShtB w H n (k + 1) X (wr.drew.setCell ⟨H, k, none⟩ (.slice (X.A k) (X.L k) (X.C k))) := by
  obtain ⟨h1, cur, h2, h3, h4⟩ := h
  have h2' : wr.drew.heap[H]? = some (.cells cur 52 (0, 0)) := h2
  have e1 : (wr.drew.setCell ⟨H, k, none⟩ (.slice (X.A k) (X.L k) (X.C k))).heap[H]? = some (.cells (cur.setIfInBounds k (.slice (X.A k) (X.L k) (X.C k))) 52 (0, 0)) := by simp [World.setCell, Array.getElem?_modify, h2']
  refine ⟨gb_step h1 _ _, _, e1, by simp [h3], fun c hc => ?_⟩
  by_cases hck : c = k
  · subst hck
    rw [Array.getElem?_setIfInBounds_self_of_lt (by omega)]
  · rw [Array.getElem?_setIfInBounds_ne (by omega)]
    exact h4 c (by omega)
theorem gb_cell {a w : World} {g b o : Nat} {v : Value} (h : a.grownBy w (some g)) (hl : b < a.heap.size) (hne : b ≠ g) (hc : a.cell? ⟨b, o, none⟩ = some v) : w.cell? ⟨b, o, none⟩ = some v :=
  (World.cell?_of_block (a := ⟨b, o, none⟩) (h.block b hl (fun e => hne (by cases e; rfl)))).trans hc
theorem gb_frozen {a w : World} {g b o : Nat} {v : Bool} (h : a.grownBy w (some g)) (hl : b < a.heap.size) (hne : b ≠ g) (hc : a.frozen? ⟨b, o, none⟩ = v) : w.frozen? ⟨b, o, none⟩ = v :=
  (World.frozen?_of_block (a := ⟨b, o, none⟩) (h.block b hl (fun e => hne (by cases e; rfl)))).trans hc
theorem gb_below {a w w0 : World} {g : Nat} (h : a.grownBy w (some g)) (h0 : Below w0.heap.size w0 a) (hg : w0.heap.size ≤ g) : Below w0.heap.size w0 w :=
  ⟨h.os.trans h0.os, h.tape.trans h0.tape, h.output.trans h0.output, Nat.le_trans h0.size h.size, fun k hk => (h.block k (Nat.lt_of_lt_of_le hk h0.size) (fun e => by cases e; omega)).trans (h0.block k hk)⟩
def ShtP (n : Nat) (X : Cls) (w : World) (e : Ending) (w' : World) : Prop := ∃ H, e = .returned (.tuple #[.agg #[.slice (some ⟨H, 0, none⟩) n n], .int .i64 0]) ∧ Below w.heap.size w w' ∧ w.heap.size ≤ H ∧ H < w'.heap.size ∧ ∀ c, c < n → w'.cell? ⟨H, c, none⟩ = some (.slice (X.A c) (X.L c) (X.C c))
def ShtQ (E : Bool) (n : Nat) (X : Cls) (w : World) (e : Ending) (w' : World) : Prop := (E = true → ShtP n X w e w') ∧ (E = false → e = .returned (.tuple #[.agg #[.slice none 0 0], .int .i64 2]) ∧ Below w.heap.size w w')
set_option maxRecDepth 100000 in
set_option maxHeartbeats 4000000 in
theorem sheet_any (G n : Nat) (X : Cls) (w : World) (E : Bool) (hn : n ≤ 200) (hG : G < w.heap.size) (hX : ∀ c, c < n → w.cell? ⟨G, c * 2, none⟩ = some (.slice (X.A c) (X.L c) (X.C c)) ∧ X.L c ≤ 1000) (hE : E = true ↔ ∀ c, c < n → X.L c ≤ 8) :
    Calls Try.prog 106 #[.slice (some ⟨G, 0, none⟩) n n] w (ShtQ E n X w) := by
  have hn' : (n : Int) ≤ 200 := by omega
  have hmk := run_make_rows n (by omega)
  have HX := Lib.hid hX
  have HE := Lib.hid hE
  clear hX hE
  obtain ⟨w3, hw3⟩ : ∃ w3, w3 = ((w.alloc (.cells #[.slice none 0 0] 29)).alloc (.cells (madeCells #[.slice none 0 0] n) 52)).alloc (.cells #[.slice (some ⟨w.heap.size + 1, 0, none⟩) n n] 29) := ⟨_, rfl⟩
  have hW : Below w.heap.size w w3 := by rw [hw3]; exact box3 _ _ _ _
  have hsz : w3.heap.size = w.heap.size + 1 + 1 + 1 := by rw [hw3]; simp only [World.size_alloc]
  have k0 : w3.cell? ⟨w.heap.size, 0, none⟩ = some (.slice none 0 0) := by rw [hw3]; go_simp
  have k1 : w3.frozen? ⟨w.heap.size, 0, none⟩ = false := by rw [hw3]; go_simp
  have k2 : w3.cell? ⟨w.heap.size + 1 + 1, 0, none⟩ = some (.slice (some ⟨w.heap.size + 1, 0, none⟩) n n) := by rw [hw3]; go_simp
  have hC0 : ShtB w3 (w.heap.size + 1) n 0 X w3 := ⟨World.grownBy.refl _ _, _, by rw [hw3]; exact (Below.heap_alloc _ _ _ (by simp only [World.size_alloc]; omega)).trans (new_at _ _ _ (by simp only [World.size_alloc])), by simp [size_madeCells], fun c hc => absurd hc (by omega)⟩
  have HC0 := Lib.hid hC0
  have K0 := Lib.hid k0
  have K1 := Lib.hid k1
  have K2 := Lib.hid k2
  have HW := Lib.hid hW
  have H3 := Lib.hid hw3
  have HS := Lib.hid hsz
  clear k0 k1 k2 hC0 hW hsz hw3
  go_enter Try.func106, Try.ntmps106
  go_wp2_with fail
  rw [← H3.out]
  clear hmk
  go_loopw [5, 12] (fun _ i wr => ∃ k : Nat, k ≤ n ∧ i = .int .i64 k ∧ (∀ c, c < k → X.L c ≤ 8) ∧ ShtB w3 (w.heap.size + 1) n k X wr) (fun _ i _ => n - (intOf i).toNat)
  case atStart => exact ⟨0, Nat.zero_le _, rfl, fun c hc => absurd hc (by omega), HC0.out⟩
  case round =>
    obtain ⟨k, hk, rfl, hl8, hC⟩ := hrel
    obtain ⟨wi, rfl⟩ : ∃ wi : World, wi = wr := ⟨_, rfl⟩
    have HC := Lib.hid hC
    have HL := Lib.hid hl8
    obtain ⟨hO, cur, hcur, hcs, _⟩ := hC
    have hs3 := HS.out
    have hk0 : (0 : Int) ≤ (k : Int) := by omega
    have r0 := gb_cell hO (by omega) (by omega) K0.out
    have r1 := gb_frozen hO (by omega) (by omega) K1.out
    have r2 := gb_cell hO (by omega) (by omega) K2.out
    have HBW := Lib.hid (gb_below hO HW.out (by omega))
    clear hl8
    by_cases hlt : k < n
    · have hki : (k : Int) < (n : Int) := by omega
      obtain ⟨x0, x1⟩ := HX.out k hlt
      have x2 := (HBW.out.cell (p := ⟨G, k * 2, none⟩) hG).trans x0
      have u0 : wi.cell? ⟨w.heap.size + 1, k, none⟩ = some (cur[k]'(by omega)) := by simp [World.cell?, hcur]
      generalize cur[k]'(by omega) = uk at u0
      have f0 : wi.frozen? ⟨w.heap.size + 1, k, none⟩ = false := by simp [World.frozen?, hcur]
      clear hcur hcs x0 hs3
      by_cases t : 8 < X.L k
      · have d1 : decide (8 < X.L k) = true := by simpa using t
        obtain rfl : E = false := by
          cases E with
          | false => rfl
          | true => have := HE.out.1 rfl k hlt; omega
        clear hO
        go_wp2_with fail
        refine bodyPost_ret (v := .tuple #[.agg #[.slice none 0 0], .int .i64 2]) ?_ rfl ⟨(fun e => by cases e), fun _ => ⟨rfl, ?_⟩⟩
        · simp [results, Try.results106, go_sem, r0]
        · first | exact set1 HBW.out (Nat.le_refl _) _ _ | exact HBW.out
      · have d1 : decide (8 < X.L k) = false := by simpa using t
        have HP := Lib.hid (HC.out.put hlt)
        have hl9 : ∀ c, c < k + 1 → X.L c ≤ 8 := by
          intro c hc
          by_cases hck : c = k
          · subst hck; omega
          · exact HL.out c (by omega)
        have H9 := Lib.hid hl9
        clear hl9 hO
        go_wp2_with fail
        go_region
        go_wp2_with fail
        go_roundw
        case rel => exact ⟨k + 1, by omega, by go_num, H9.out, HP.out⟩
        case measure => simp [intOf]; omega
    · have hki : (n : Int) ≤ (k : Int) := by omega
      obtain rfl : n = k := by omega
      obtain rfl : E = true := HE.out.2 HL.out
      have hrow := HC.out.blk
      have HROW := Lib.hid hrow
      have hsw : w.heap.size + 1 < wi.heap.size := by obtain ⟨c, h2, _⟩ := hrow; exact (Array.getElem?_eq_some_iff.1 h2).1
      clear hO hcur hcs hs3 hrow
      go_wp2_with fail
      refine bodyPost_ret (v := .tuple #[.agg #[.slice (some ⟨w.heap.size + 1, 0, none⟩) n n], .int .i64 0]) ?_ rfl ⟨fun _ => ⟨w.heap.size + 1, rfl, set1 HBW.out (Nat.le_refl _) _ _, by omega, by rw [World.size_setCell]; exact hsw, fun c hc => ?_⟩, (fun e => by cases e)⟩
      · simp [results, Try.results106, go_sem, r0]
      · obtain ⟨cur, h2, h3, h4⟩ := HROW.out
        refine keepA ?_ (by show w.heap.size + 1 ≠ w.heap.size; omega)
        simp [World.cell?, h2, h4 c hc]
end Go.Proofs.Ytmeljcbefnojfaa
namespace Go.Proofs.Ytmeljcbefnojfaa
open Go.RowKit
set_option maxRecDepth 100000 in
set_option maxHeartbeats 4000000 in
theorem compare_cerr (F : Nat) (A B : Option Addr) (n m c d : Nat) (x y : Cls) (E : Int) (w : World) (ha : ClsIn A n x w.heap.size w) (hb : ClsIn B m y w.heap.size w)
    (hE : ¬ InkOk x n ∧ E = 12 ∨ InkOk x n ∧ ¬ InkOk y m ∧ E = 12 ∨ InkOk x n ∧ InkOk y m ∧ n ≠ m ∧ E = 1) :
    Calls Try.prog 108 #[.agg #[.slice A n c], .agg #[.slice B m d], .agg #[.func (.func F) #[] #[]]] w fun e w' => e = .returned (.tuple #[.slice none 0 0, .int .i64 E]) ∧ Below w.heap.size w w' := by
  have hn' := ha.1
  have hm' := hb.1
  obtain ⟨w4, hw4⟩ : ∃ w4, w4 = (((w.alloc (.cells #[.slice A n c] 29)).alloc (.cells #[.slice B m d] 29)).alloc (.cells #[.func (.func F) #[] #[]] 118)).alloc (.cells #[.slice A n c, .slice B m d] 29) := ⟨_, rfl⟩
  have hW : Below w.heap.size w w4 := by rw [hw4]; exact box4 _ _ _ _ _
  have hsz : w4.heap.size = w.heap.size + 1 + 1 + 1 + 1 := by rw [hw4]; simp only [World.size_alloc]
  have k0 : w4.cell? ⟨w.heap.size, 0, none⟩ = some (.slice A n c) := by rw [hw4]; go_simp
  have k1 : w4.cell? ⟨w.heap.size + 1, 0, none⟩ = some (.slice B m d) := by rw [hw4]; go_simp
  have k3 : w4.cell? ⟨w.heap.size + 1 + 1 + 1, 0, none⟩ = some (.slice A n c) := by rw [hw4]; go_simp
  have k4 : w4.cell? ⟨w.heap.size + 1 + 1 + 1, 1, none⟩ = some (.slice B m d) := by rw [hw4]; go_simp
  have K0 := Lib.hid k0
  have K1 := Lib.hid k1
  have K3 := Lib.hid k3
  have K4 := Lib.hid k4
  have HW := Lib.hid hW
  have H4 := Lib.hid hw4
  have HS := Lib.hid hsz
  have KA : ∀ G : Bool, (G = true ↔ InkOk x n) → Hid (∀ W, Below w4.heap.size w4 W → Calls Try.prog 29 #[.agg #[.slice A n c]] W fun e w' => e = .returned (.int .i64 (inkE G)) ∧ Below W.heap.size W w') := fun G hG => Lib.hid fun W h => by
    have hh : Below w.heap.size w W := hW.trans (h.mono hW.size)
    exact CheckInked_any A n c x G W ((ha.up hh (Nat.le_refl _)).more hh.size) hG
  have KB : ∀ G : Bool, (G = true ↔ InkOk y m) → Hid (∀ W, Below w4.heap.size w4 W → Calls Try.prog 29 #[.agg #[.slice B m d]] W fun e w' => e = .returned (.int .i64 (inkE G)) ∧ Below W.heap.size W w') := fun G hG => Lib.hid fun W h => by
    have hh : Below w.heap.size w W := hW.trans (h.mono hW.size)
    exact CheckInked_any B m d y G W ((hb.up hh (Nat.le_refl _)).more hh.size) hG
  obtain ⟨ga, gb, KA', KB', hgg⟩ : ∃ ga gb : Bool, Hid (∀ W, Below w4.heap.size w4 W → Calls Try.prog 29 #[.agg #[.slice A n c]] W fun e w' => e = .returned (.int .i64 (inkE ga)) ∧ Below W.heap.size W w') ∧ Hid (∀ W, Below w4.heap.size w4 W → Calls Try.prog 29 #[.agg #[.slice B m d]] W fun e w' => e = .returned (.int .i64 (inkE gb)) ∧ Below W.heap.size W w') ∧ (ga = false ∧ E = 12 ∨ ga = true ∧ gb = false ∧ E = 12 ∨ ga = true ∧ gb = true ∧ n ≠ m ∧ E = 1) := by
    by_cases h1 : InkOk x n
    · by_cases h2 : InkOk y m
      · exact ⟨true, true, KA true ⟨fun _ => h1, fun _ => rfl⟩, KB true ⟨fun _ => h2, fun _ => rfl⟩, .inr (.inr ⟨rfl, rfl, by rcases hE with h | h | h <;> first | exact absurd h1 h.1 | exact absurd h2 h.2.1 | exact h.2.2⟩)⟩
      · exact ⟨true, false, KA true ⟨fun _ => h1, fun _ => rfl⟩, KB false ⟨(fun h => by cases h), fun h => absurd h h2⟩, .inr (.inl ⟨rfl, rfl, by rcases hE with h | h | h <;> first | exact absurd h1 h.1 | exact h.2.2 | exact absurd h.2.1 h2⟩)⟩
    · by_cases h2 : InkOk y m
      · exact ⟨false, true, KA false ⟨(fun h => by cases h), fun h => absurd h h1⟩, KB true ⟨fun _ => h2, fun _ => rfl⟩, .inl ⟨rfl, by rcases hE with h | h | h <;> first | exact h.2 | exact absurd h.1 h1⟩⟩
      · exact ⟨false, false, KA false ⟨(fun h => by cases h), fun h => absurd h h1⟩, KB false ⟨(fun h => by cases h), fun h => absurd h h2⟩, .inl ⟨rfl, by rcases hE with h | h | h <;> first | exact h.2 | exact absurd h.1 h1⟩⟩
  clear ha hb hE KA KB k0 k1 k3 k4 hW hw4 hsz
  go_enter Try.func108, Try.ntmps108
  go_wp2_with fail
  rw [← H4.out]
  go_loopw [17] (fun i wr => ∃ k : Nat, k ≤ 2 ∧ i = .int .i64 k ∧ Below w4.heap.size w4 wr ∧ (0 < k → ga = true) ∧ (1 < k → gb = true)) (fun i _ => 2 - (intOf i).toNat)
  case atStart => exact ⟨0, by omega, rfl, Below.refl _ _, fun h => absurd h (by omega), fun h => absurd h (by omega)⟩
  case round =>
    obtain ⟨k, hk, rfl, hB, ga1, gb1⟩ := hrel
    obtain ⟨wo, rfl⟩ : ∃ wo : World, wo = wr := ⟨_, rfl⟩
    have hs4 := HS.out
    have hso := hB.size
    have k0 := cell_up hB (by omega) K0.out
    have k1 := cell_up hB (by omega) K1.out
    have k3 := cell_up hB (by omega) K3.out
    have k4 := cell_up hB (by omega) K4.out
    have z0 : w.heap.size < wo.heap.size := by omega
    have z1 : w.heap.size + 1 < wo.heap.size := by omega
    have z3 : w.heap.size + 1 + 1 + 1 < wo.heap.size := by omega
    clear hs4
    rcases (by omega : k = 0 ∨ k = 1 ∨ k = 2) with rfl | rfl | rfl
    · clear ga1 gb1
      go_wp2_with fail
      refine (KA'.out _ (hB.alloc hso _)).mono ?_
      rintro e w1 ⟨rfl, hb⟩
      have hB1 : Below w4.heap.size w4 w1 := (hB.alloc hso _).trans (hb.mono (by simp only [World.size_alloc]; omega))
      have hBW := Lib.hid (HW.out.trans (hB1.mono HW.out.size))
      clear hb k0 k1 k3 k4
      cases ga with
      | false =>
        obtain rfl : E = 12 := by rcases hgg with h | h | h <;> simp at h <;> exact h
        clear hgg
        unfold inkE
        go_wp2_with fail
        go_ret2
        exact ⟨rfl, hBW.out⟩
      | true =>
        have HGG := Lib.hid hgg
        clear hgg
        unfold inkE
        go_wp2_with fail
        go_roundw
        case rel => exact ⟨1, by omega, by go_num, hB1, (fun _ => by first | rfl | trivial), fun h => absurd h (by omega)⟩
        case measure => simp [intOf]
    · obtain rfl : ga = true := ga1 (by omega)
      clear ga1 gb1
      go_wp2_with fail
      refine (KB'.out _ (hB.alloc hso _)).mono ?_
      rintro e w1 ⟨rfl, hb⟩
      have hB1 : Below w4.heap.size w4 w1 := (hB.alloc hso _).trans (hb.mono (by simp only [World.size_alloc]; omega))
      have hBW := Lib.hid (HW.out.trans (hB1.mono HW.out.size))
      clear hb k0 k1 k3 k4
      cases gb with
      | false =>
        obtain rfl : E = 12 := by rcases hgg with h | h | h <;> simp at h <;> exact h
        clear hgg
        unfold inkE
        go_wp2_with fail
        go_ret2
        exact ⟨rfl, hBW.out⟩
      | true =>
        have HGG := Lib.hid hgg
        clear hgg
        unfold inkE
        go_wp2_with fail
        go_roundw
        case rel => exact ⟨2, by omega, by go_num, hB1, (fun _ => by first | rfl | trivial), (fun _ => by first | rfl | trivial)⟩
        case measure => simp [intOf]
    · obtain rfl : ga = true := ga1 (by omega)
      obtain rfl : gb = true := gb1 (by omega)
      have hne : n ≠ m ∧ E = 1 := by rcases hgg with h | h | h <;> simp at h; exact h
      obtain ⟨hne, rfl⟩ := hne
      have hne' : ¬ ((n : Int) = (m : Int)) := by omega
      have hBW := Lib.hid (HW.out.trans (hB.mono HW.out.size))
      clear hgg ga1 gb1 hne hB
      rw [show ((2 : Nat) : Int) = (2 : Int) from rfl]
      go_wp2_with fail
      go_ret2
      exact ⟨rfl, hBW.out⟩
set_option maxRecDepth 100000 in
set_option maxHeartbeats 4000000 in
theorem compare_berr (F : Nat) (A B : Option Addr) (n m c d : Nat) (x y : Cls) (E : Int) (w : World) (ha : ClsIn A n x w.heap.size w) (hb : ClsIn B m y w.heap.size w)
    (hE : ¬ InkOk x n ∧ E = 12 ∨ InkOk x n ∧ ¬ InkOk y m ∧ E = 12 ∨ InkOk x n ∧ InkOk y m ∧ n ≠ m ∧ E = 1) :
    Calls Try.prog 115 #[.agg #[.slice A n c], .agg #[.slice B m d], .agg #[.func (.func F) #[] #[]]] w fun e w' => e = .returned (.tuple #[.slice none 0 0, .int .i64 E]) ∧ Below w.heap.size w w' := by
  have hn' := ha.1
  have hm' := hb.1
  obtain ⟨w4, hw4⟩ : ∃ w4, w4 = (((w.alloc (.cells #[.slice A n c] 29)).alloc (.cells #[.slice B m d] 29)).alloc (.cells #[.func (.func F) #[] #[]] 125)).alloc (.cells #[.slice A n c, .slice B m d] 29) := ⟨_, rfl⟩
  have hW : Below w.heap.size w w4 := by rw [hw4]; exact box4 _ _ _ _ _
  have hsz : w4.heap.size = w.heap.size + 1 + 1 + 1 + 1 := by rw [hw4]; simp only [World.size_alloc]
  have k0 : w4.cell? ⟨w.heap.size, 0, none⟩ = some (.slice A n c) := by rw [hw4]; go_simp
  have k1 : w4.cell? ⟨w.heap.size + 1, 0, none⟩ = some (.slice B m d) := by rw [hw4]; go_simp
  have k3 : w4.cell? ⟨w.heap.size + 1 + 1 + 1, 0, none⟩ = some (.slice A n c) := by rw [hw4]; go_simp
  have k4 : w4.cell? ⟨w.heap.size + 1 + 1 + 1, 1, none⟩ = some (.slice B m d) := by rw [hw4]; go_simp
  have K0 := Lib.hid k0
  have K1 := Lib.hid k1
  have K3 := Lib.hid k3
  have K4 := Lib.hid k4
  have HW := Lib.hid hW
  have H4 := Lib.hid hw4
  have HS := Lib.hid hsz
  have KA : ∀ G : Bool, (G = true ↔ InkOk x n) → Hid (∀ W, Below w4.heap.size w4 W → Calls Try.prog 29 #[.agg #[.slice A n c]] W fun e w' => e = .returned (.int .i64 (inkE G)) ∧ Below W.heap.size W w') := fun G hG => Lib.hid fun W h => by
    have hh : Below w.heap.size w W := hW.trans (h.mono hW.size)
    exact CheckInked_any A n c x G W ((ha.up hh (Nat.le_refl _)).more hh.size) hG
  have KB : ∀ G : Bool, (G = true ↔ InkOk y m) → Hid (∀ W, Below w4.heap.size w4 W → Calls Try.prog 29 #[.agg #[.slice B m d]] W fun e w' => e = .returned (.int .i64 (inkE G)) ∧ Below W.heap.size W w') := fun G hG => Lib.hid fun W h => by
    have hh : Below w.heap.size w W := hW.trans (h.mono hW.size)
    exact CheckInked_any B m d y G W ((hb.up hh (Nat.le_refl _)).more hh.size) hG
  obtain ⟨ga, gb, KA', KB', hgg⟩ : ∃ ga gb : Bool, Hid (∀ W, Below w4.heap.size w4 W → Calls Try.prog 29 #[.agg #[.slice A n c]] W fun e w' => e = .returned (.int .i64 (inkE ga)) ∧ Below W.heap.size W w') ∧ Hid (∀ W, Below w4.heap.size w4 W → Calls Try.prog 29 #[.agg #[.slice B m d]] W fun e w' => e = .returned (.int .i64 (inkE gb)) ∧ Below W.heap.size W w') ∧ (ga = false ∧ E = 12 ∨ ga = true ∧ gb = false ∧ E = 12 ∨ ga = true ∧ gb = true ∧ n ≠ m ∧ E = 1) := by
    by_cases h1 : InkOk x n
    · by_cases h2 : InkOk y m
      · exact ⟨true, true, KA true ⟨fun _ => h1, fun _ => rfl⟩, KB true ⟨fun _ => h2, fun _ => rfl⟩, .inr (.inr ⟨rfl, rfl, by rcases hE with h | h | h <;> first | exact absurd h1 h.1 | exact absurd h2 h.2.1 | exact h.2.2⟩)⟩
      · exact ⟨true, false, KA true ⟨fun _ => h1, fun _ => rfl⟩, KB false ⟨(fun h => by cases h), fun h => absurd h h2⟩, .inr (.inl ⟨rfl, rfl, by rcases hE with h | h | h <;> first | exact absurd h1 h.1 | exact h.2.2 | exact absurd h.2.1 h2⟩)⟩
    · by_cases h2 : InkOk y m
      · exact ⟨false, true, KA false ⟨(fun h => by cases h), fun h => absurd h h1⟩, KB true ⟨fun _ => h2, fun _ => rfl⟩, .inl ⟨rfl, by rcases hE with h | h | h <;> first | exact h.2 | exact absurd h.1 h1⟩⟩
      · exact ⟨false, false, KA false ⟨(fun h => by cases h), fun h => absurd h h1⟩, KB false ⟨(fun h => by cases h), fun h => absurd h h2⟩, .inl ⟨rfl, by rcases hE with h | h | h <;> first | exact h.2 | exact absurd h.1 h1⟩⟩
  clear ha hb hE KA KB k0 k1 k3 k4 hW hw4 hsz
  go_enter Try.func115, Try.ntmps115
  go_wp2_with fail
  rw [← H4.out]
  go_loopw [17] (fun i wr => ∃ k : Nat, k ≤ 2 ∧ i = .int .i64 k ∧ Below w4.heap.size w4 wr ∧ (0 < k → ga = true) ∧ (1 < k → gb = true)) (fun i _ => 2 - (intOf i).toNat)
  case atStart => exact ⟨0, by omega, rfl, Below.refl _ _, fun h => absurd h (by omega), fun h => absurd h (by omega)⟩
  case round =>
    obtain ⟨k, hk, rfl, hB, ga1, gb1⟩ := hrel
    obtain ⟨wo, rfl⟩ : ∃ wo : World, wo = wr := ⟨_, rfl⟩
    have hs4 := HS.out
    have hso := hB.size
    have k0 := cell_up hB (by omega) K0.out
    have k1 := cell_up hB (by omega) K1.out
    have k3 := cell_up hB (by omega) K3.out
    have k4 := cell_up hB (by omega) K4.out
    have z0 : w.heap.size < wo.heap.size := by omega
    have z1 : w.heap.size + 1 < wo.heap.size := by omega
    have z3 : w.heap.size + 1 + 1 + 1 < wo.heap.size := by omega
    clear hs4
    rcases (by omega : k = 0 ∨ k = 1 ∨ k = 2) with rfl | rfl | rfl
    · clear ga1 gb1
      go_wp2_with fail
      refine (KA'.out _ (hB.alloc hso _)).mono ?_
      rintro e w1 ⟨rfl, hb⟩
      have hB1 : Below w4.heap.size w4 w1 := (hB.alloc hso _).trans (hb.mono (by simp only [World.size_alloc]; omega))
      have hBW := Lib.hid (HW.out.trans (hB1.mono HW.out.size))
      clear hb k0 k1 k3 k4
      cases ga with
      | false =>
        obtain rfl : E = 12 := by rcases hgg with h | h | h <;> simp at h <;> exact h
        clear hgg
        unfold inkE
        go_wp2_with fail
        go_ret2
        exact ⟨rfl, hBW.out⟩
      | true =>
        have HGG := Lib.hid hgg
        clear hgg
        unfold inkE
        go_wp2_with fail
        go_roundw
        case rel => exact ⟨1, by omega, by go_num, hB1, (fun _ => by first | rfl | trivial), fun h => absurd h (by omega)⟩
        case measure => simp [intOf]
    · obtain rfl : ga = true := ga1 (by omega)
      clear ga1 gb1
      go_wp2_with fail
      refine (KB'.out _ (hB.alloc hso _)).mono ?_
      rintro e w1 ⟨rfl, hb⟩
      have hB1 : Below w4.heap.size w4 w1 := (hB.alloc hso _).trans (hb.mono (by simp only [World.size_alloc]; omega))
      have hBW := Lib.hid (HW.out.trans (hB1.mono HW.out.size))
      clear hb k0 k1 k3 k4
      cases gb with
      | false =>
        obtain rfl : E = 12 := by rcases hgg with h | h | h <;> simp at h <;> exact h
        clear hgg
        unfold inkE
        go_wp2_with fail
        go_ret2
        exact ⟨rfl, hBW.out⟩
      | true =>
        have HGG := Lib.hid hgg
        clear hgg
        unfold inkE
        go_wp2_with fail
        go_roundw
        case rel => exact ⟨2, by omega, by go_num, hB1, (fun _ => by first | rfl | trivial), (fun _ => by first | rfl | trivial)⟩
        case measure => simp [intOf]
    · obtain rfl : ga = true := ga1 (by omega)
      obtain rfl : gb = true := gb1 (by omega)
      have hne : n ≠ m ∧ E = 1 := by rcases hgg with h | h | h <;> simp at h; exact h
      obtain ⟨hne, rfl⟩ := hne
      have hne' : ¬ ((n : Int) = (m : Int)) := by omega
      have hBW := Lib.hid (HW.out.trans (hB.mono HW.out.size))
      clear hgg ga1 gb1 hne hB
      rw [show ((2 : Nat) : Int) = (2 : Int) from rfl]
      go_wp2_with fail
      go_ret2
      exact ⟨rfl, hBW.out⟩
end Go.Proofs.Ytmeljcbefnojfaa
