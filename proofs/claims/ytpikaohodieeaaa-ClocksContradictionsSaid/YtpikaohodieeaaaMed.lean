/- Median of package clocks. -/
import Derived.Test.YtpikaohodieeaaaHas
namespace Go.Proofs.Ytpikaohodieeaaa
open Go.RowKit
set_option linter.unusedSimpArgs false
set_option linter.unusedVariables false
attribute [local go_sem] Oper.semAt_some
def RdL (d : Drm) (m : Nat) (F : Nat → Int × Int × Int) (n : Nat) (Z : Nat → Int) : Prop := n = d.n + 1 ∧ Rdg d.n (gapF d) m F Z
def MeR (d : Drm) (m : Nat) (F : Nat → Int × Int × Int) (n1 n2 n3 : Nat) (Z1 Z2 Z3 : Nat → Int) (E : Int) : Prop :=
  ((E = 20 ∨ E = 21) ∧ ChR d m F E) ∨ (DrOk d ∧ MksOk d m F ∧ ((E = 0 ∧ RdL d m F n1 Z1 ∧ RdL d m F n2 Z2 ∧ RdL d m F n3 Z3) ∨ (E = 22 ∧ ¬ (RdL d m F n1 Z1 ∧ RdL d m F n2 Z2 ∧ RdL d m F n3 Z3))))
theorem meR_ex (d : Drm) (m : Nat) (F : Nat → Int × Int × Int) (n1 n2 n3 : Nat) (Z1 Z2 Z3 : Nat → Int) : ∃ E, MeR d m F n1 n2 n3 Z1 Z2 Z3 E := by
  obtain ⟨E, h⟩ := chR_ex d m F
  have h' := h
  rcases h with ⟨rfl, _⟩ | ⟨rfl, _, _⟩ | ⟨rfl, h1, h2⟩
  · exact ⟨20, .inl ⟨.inl rfl, h'⟩⟩
  · exact ⟨21, .inl ⟨.inr rfl, h'⟩⟩
  · by_cases hr : RdL d m F n1 Z1 ∧ RdL d m F n2 Z2 ∧ RdL d m F n3 Z3
    · exact ⟨0, .inr ⟨h1, h2, .inl ⟨rfl, hr⟩⟩⟩
    · exact ⟨22, .inr ⟨h1, h2, .inr ⟨rfl, hr⟩⟩⟩
def MePost (w : World) (n : Nat) (Z : Nat → Int) (E : Int) (e : Ending) (w' : World) : Prop :=
  ∃ A q k, e = .returned (.tuple #[.slice A q k, .int .i64 E]) ∧ (E = 0 → q = n) ∧ (¬ E = 0 → q = 0) ∧ LiR A q Z w' ∧ Below w.heap.size w w'
theorem me_nil {w w' : World} {n : Nat} {Z : Nat → Int} {E : Int} (hn : ¬ E = 0) (hb : Below w.heap.size w w') : MePost w n Z E (.returned (.tuple #[.slice none 0 0, .int .i64 E])) w' :=
  ⟨none, 0, 0, rfl, fun h => absurd h hn, fun _ => rfl, ⟨by omega, fun i hi => absurd hi (by omega)⟩, hb⟩
set_option maxRecDepth 100000 in
set_option maxHeartbeats 4000000 in
theorem Median_any (d : Drm) (MA : Option Addr) (m mc : Nat) (F : Nat → Int × Int × Int) (A1 : Option Addr) (n1 c1 : Nat) (Z1 : Nat → Int) (A2 : Option Addr) (n2 c2 : Nat) (Z2 : Nat → Int) (A3 : Option Addr) (n3 c3 : Nat) (Z3 : Nat → Int) (E : Int) (w : World)
    (hin : DrIn d w.heap.size w) (hm : TrsIn MA m F w.heap.size w) (i1 : IntsIn A1 n1 Z1 w.heap.size w) (i2 : IntsIn A2 n2 Z2 w.heap.size w) (i3 : IntsIn A3 n3 Z3 w.heap.size w) (hE : MeR d m F n1 n2 n3 Z1 Z2 Z3 E) :
    Calls Try.prog 55 #[d.v, .slice MA m mc, .slice A1 n1 c1, .slice A2 n2 c2, .slice A3 n3 c3] w (MePost w n1 (fun i => med (Z1 i) (Z2 i) (Z3 i)) E) := by
  have DD : Hid (∀ W, Below w.heap.size w W → DrIn d W.heap.size W) := Lib.hid fun W h => (hin.up h (Nat.le_refl _)).more h.size
  have MM : Hid (∀ W, Below w.heap.size w W → TrsIn MA m F W.heap.size W) := Lib.hid fun W h => (hm.up h (Nat.le_refl _)).more h.size
  have I1 : Hid (∀ W, Below w.heap.size w W → IntsIn A1 n1 Z1 W.heap.size W) := Lib.hid fun W h => (i1.up h (Nat.le_refl _)).more h.size
  have I2 : Hid (∀ W, Below w.heap.size w W → IntsIn A2 n2 Z2 W.heap.size W) := Lib.hid fun W h => (i2.up h (Nat.le_refl _)).more h.size
  have I3 : Hid (∀ W, Below w.heap.size w W → IntsIn A3 n3 Z3 W.heap.size W) := Lib.hid fun W h => (i3.up h (Nat.le_refl _)).more h.size
  clear hin hm i1 i2 i3
  rcases hE with ⟨hE, h⟩ | ⟨hd, hk, hE⟩
  · have hne : ¬ E = 0 := by omega
    have hn1 : (E != 0) = true := by simpa using hne
    have K := Lib.hid fun W hW => check_any d MA m mc F E W (DD.out W hW) (MM.out W hW) h
    have HNE := Lib.hid hne
    clear hE h hne
    go_enter Try.func55, Try.ntmps55
    go_wp2_with fail
    refine (K.out _ (box1 w _)).mono ?_
    rintro e w2 ⟨rfl, hb⟩
    have D := Lib.hid (nextB (box1 w (drO d)) hb)
    clear hb
    go_wp2_with fail
    go_ret2
    exact me_nil HNE.out D.out
  · have K := Lib.hid fun W hW => check_any d MA m mc F 0 W (DD.out W hW) (MM.out W hW) (.inr (.inr ⟨rfl, hd, hk⟩))
    have KG := Lib.hid fun W hW => gapsOf_any d W (DD.out W hW) hd
    have hcol : ∀ i, i < m → 0 ≤ (F i).1 ∧ (F i).1 ≤ d.n := fun i hi => (hk.2 i hi).1
    have HN := Lib.hid hd.n2
    have KI := Lib.hid fun g cap A n k T R W (hW : Below w.heap.size w W) (hS : SpR g d.n (gapF d) W) hT hR => isReading_any (some ⟨g, 0, none⟩) d.n cap (gapF d) MA m mc F A n k T R W (hS.sps (by have := hd.n2; omega)) (MM.out W hW) hT hcol (by have := hd.n2; omega) hR
    have HE := Lib.hid hE
    clear hd hk hcol hE
    go_enter Try.func55, Try.ntmps55
    go_wp2_with fail
    refine (K.out _ (box1 w _)).mono ?_
    rintro e w2 ⟨rfl, hb⟩
    have D := Lib.hid (nextB (box1 w (drO d)) hb)
    have P2 := (dr_new w d).up hb
    obtain ⟨x0, x1⟩ := P2
    clear hb
    go_wp2_with fail
    refine (KG.out _ D.out).mono ?_
    rintro e w3 ⟨g, cap, rfl, hg3, hcap3, hS3, hb3⟩
    have D := Lib.hid (nextB D.out hb3)
    have GG := Lib.hid hS3
    clear hb3 hg3 hcap3 hS3 x0 x1
    go_wp2_with fail
    obtain ⟨w4, hw4⟩ : ∃ w4 : World, w4 = w3.alloc (.cells #[.slice A1 n1 c1, .slice A2 n2 c2, .slice A3 n3 c3] 29) := ⟨_, rfl⟩
    have hb4 : Below w3.heap.size w3 w4 := by rw [hw4]; exact box1 _ _
    have b0 : w4.cell? ⟨w3.heap.size, 0, none⟩ = some (.slice A1 n1 c1) := by rw [hw4]; go_simp
    have b1 : w4.cell? ⟨w3.heap.size, 1, none⟩ = some (.slice A2 n2 c2) := by rw [hw4]; go_simp
    have b2 : w4.cell? ⟨w3.heap.size, 2, none⟩ = some (.slice A3 n3 c3) := by rw [hw4]; go_simp
    have zb : w3.heap.size < w4.heap.size := World.block_lt_of_cell? _ _ b0
    rw [← hw4]
    have BB : Hid (∀ W, Below w4.heap.size w4 W → W.cell? ⟨w3.heap.size, 0, none⟩ = some (.slice A1 n1 c1) ∧ W.cell? ⟨w3.heap.size, 1, none⟩ = some (.slice A2 n2 c2) ∧ W.cell? ⟨w3.heap.size, 2, none⟩ = some (.slice A3 n3 c3) ∧ w3.heap.size < W.heap.size) := Lib.hid fun W h => ⟨cell_up h zb b0, cell_up h zb b1, cell_up h zb b2, Nat.lt_of_lt_of_le zb h.size⟩
    have D := Lib.hid (nextB D.out hb4)
    have GG := Lib.hid (GG.out.up hb4)
    clear hw4 hb4 b0 b1 b2 zb
    go_loopw [31, 15] (fun i t wr => ∃ k : Nat, k ≤ 3 ∧ i = .int .i64 (k : Int) ∧ Hid ((1 ≤ k → RdL d m F n1 Z1) ∧ (2 ≤ k → RdL d m F n2 Z2) ∧ (3 ≤ k → RdL d m F n3 Z3)) ∧ Below w4.heap.size w4 wr) (fun i _ _ => 3 - (intOf i).toNat)
    case atStart => exact ⟨0, Nat.zero_le _, rfl, Lib.hid ⟨fun h => absurd h (by omega), fun h => absurd h (by omega), fun h => absurd h (by omega)⟩, Below.refl _ _⟩
    case round =>
      obtain ⟨k, hk, rfl, HP, hb⟩ := hrel
      obtain ⟨w5, rfl⟩ : ∃ w5 : World, w5 = wr := ⟨_, rfl⟩
      have HB5 := Lib.hid hb
      have D := Lib.hid (nextB D.out hb)
      have GG := Lib.hid (GG.out.up hb)
      obtain ⟨b0, b1, b2, zb⟩ := BB.out w5 hb
      clear hb
      match k, hk with
      | 0, _ =>
        obtain ⟨R, hR⟩ := bool_of (n1 = d.n + 1 ∧ Rdg d.n (gapF d) m F Z1)
        have HR := Lib.hid hR
        clear hR
        go_wp2_with fail
        refine (KI.out g cap A1 n1 c1 Z1 R _ D.out GG.out (I1.out _ D.out) HR.out).mono ?_
        rintro e w6 ⟨rfl, hb⟩
        have J := Lib.hid hb
        clear hb b0 b1 b2 zb
        cases R with
        | true =>
          have HP2 : Hid ((1 ≤ 1 → RdL d m F n1 Z1) ∧ (2 ≤ 1 → RdL d m F n2 Z2) ∧ (3 ≤ 1 → RdL d m F n3 Z3)) := Lib.hid ⟨fun _ => HR.out.1 rfl, fun h => absurd h (by omega), fun h => absurd h (by omega)⟩
          go_wp2_with fail
          go_roundw
          case rel => exact ⟨1, by omega, by first | rfl | go_num, HP2, nextB HB5.out J.out⟩
          case measure => (simp [intOf] <;> omega)
        | false =>
          have hno : ¬ RdL d m F n1 Z1 := fun h => Bool.false_ne_true (HR.out.2 h)
          obtain rfl : E = 22 := by
            rcases HE.out with ⟨_, h⟩ | ⟨h, _⟩
            · exact absurd h.1 hno
            · exact h
          clear hno
          go_wp2_with fail
          go_ret2
          exact me_nil (by omega) (nextB D.out J.out)
      | 1, _ =>
        obtain ⟨R, hR⟩ := bool_of (n2 = d.n + 1 ∧ Rdg d.n (gapF d) m F Z2)
        have HR := Lib.hid hR
        clear hR
        go_wp2_with fail
        refine (KI.out g cap A2 n2 c2 Z2 R _ D.out GG.out (I2.out _ D.out) HR.out).mono ?_
        rintro e w6 ⟨rfl, hb⟩
        have J := Lib.hid hb
        clear hb b0 b1 b2 zb
        cases R with
        | true =>
          have HP2 : Hid ((1 ≤ 2 → RdL d m F n1 Z1) ∧ (2 ≤ 2 → RdL d m F n2 Z2) ∧ (3 ≤ 2 → RdL d m F n3 Z3)) := Lib.hid ⟨fun _ => HP.out.1 (by omega), fun _ => HR.out.1 rfl, fun h => absurd h (by omega)⟩
          go_wp2_with fail
          go_roundw
          case rel => exact ⟨2, by omega, by first | rfl | go_num, HP2, nextB HB5.out J.out⟩
          case measure => (simp [intOf] <;> omega)
        | false =>
          have hno : ¬ RdL d m F n2 Z2 := fun h => Bool.false_ne_true (HR.out.2 h)
          obtain rfl : E = 22 := by
            rcases HE.out with ⟨_, h⟩ | ⟨h, _⟩
            · exact absurd h.2.1 hno
            · exact h
          clear hno
          go_wp2_with fail
          go_ret2
          exact me_nil (by omega) (nextB D.out J.out)
      | 2, _ =>
        obtain ⟨R, hR⟩ := bool_of (n3 = d.n + 1 ∧ Rdg d.n (gapF d) m F Z3)
        have HR := Lib.hid hR
        clear hR
        go_wp2_with fail
        refine (KI.out g cap A3 n3 c3 Z3 R _ D.out GG.out (I3.out _ D.out) HR.out).mono ?_
        rintro e w6 ⟨rfl, hb⟩
        have J := Lib.hid hb
        clear hb b0 b1 b2 zb
        cases R with
        | true =>
          have HP2 : Hid ((1 ≤ 3 → RdL d m F n1 Z1) ∧ (2 ≤ 3 → RdL d m F n2 Z2) ∧ (3 ≤ 3 → RdL d m F n3 Z3)) := Lib.hid ⟨fun _ => HP.out.1 (by omega), fun _ => HP.out.2.1 (by omega), fun _ => HR.out.1 rfl⟩
          go_wp2_with fail
          go_roundw
          case rel => exact ⟨3, by omega, by first | rfl | go_num, HP2, nextB HB5.out J.out⟩
          case measure => (simp [intOf] <;> omega)
        | false =>
          have hno : ¬ RdL d m F n3 Z3 := fun h => Bool.false_ne_true (HR.out.2 h)
          obtain rfl : E = 22 := by
            rcases HE.out with ⟨_, h⟩ | ⟨h, _⟩
            · exact absurd h.2.2 hno
            · exact h
          clear hno
          go_wp2_with fail
          go_ret2
          exact me_nil (by omega) (nextB D.out J.out)
      | 3, _ =>
        have hp1 := HP.out.1 (by omega)
        have hp2 := HP.out.2.1 (by omega)
        have hp3 := HP.out.2.2 (by omega)
        obtain rfl : E = 0 := by
          rcases HE.out with ⟨h, _⟩ | ⟨_, h⟩
          · exact h
          · exact absurd ⟨hp1, hp2, hp3⟩ h
        have hn1 : n1 = d.n + 1 := hp1.1
        have hn2 : n2 = n1 := by rw [hp2.1, hn1]
        have hn3 : n3 = n1 := by rw [hp3.1, hn1]
        subst hn2
        subst hn3
        have hn200 : n3 ≤ 200 := by have := HN.out; omega
        have hmk := run_make_ints n3 (by omega) w5
        have hn0 : (0 : Int) ≤ (n3 : Int) := by omega
        clear hp1 hp2 hp3 hn1 b0 b1 b2 zb
        go_wp2_with fail
        clear hmk
        obtain ⟨w6, hw6⟩ : ∃ w6 : World, w6 = w5.alloc (.cells (madeCells #[.int .i64 0] n3) 3) := ⟨_, rfl⟩
        have hb6 : Below w5.heap.size w5 w6 := by rw [hw6]; exact box1 _ _
        have hr6 := InR.new w5 n3
        rw [← hw6] at hr6 ⊢
        have R6 : Hid (InR w5.heap.size n3 (fun i => if i < 0 then med (Z1 i) (Z2 i) (Z3 i) else 0) w6) := Lib.hid ⟨hr6.lt, fun i hi => by rw [if_neg (by omega)]; exact hr6.c i hi, hr6.f⟩
        have HB6 := Lib.hid hb6
        clear hw6 hb6 hr6
        go_loopw [46, 17] (fun i j wr => ∃ k : Nat, k ≤ n3 ∧ i = .int .i64 (k : Int) ∧ InR w5.heap.size n3 (fun i => if i < k then med (Z1 i) (Z2 i) (Z3 i) else 0) wr ∧ Below w5.heap.size w5 wr) (fun i _ _ => n3 - (intOf i).toNat)
        case atStart => exact ⟨0, Nat.zero_le _, rfl, R6.out, HB6.out⟩
        case round =>
          obtain ⟨k, hk, rfl, hR, hb⟩ := hrel
          obtain ⟨w7, rfl⟩ : ∃ w7 : World, w7 = wr := ⟨_, rfl⟩
          have HB7 := Lib.hid hb
          have D7 := Lib.hid (nextB D.out hb)
          have HR7 := Lib.hid hR
          have hk0 : (0 : Int) ≤ (k : Int) := by omega
          clear hb hR
          by_cases hlt : k < n3
          · have hki : (k : Int) < (n3 : Int) := by omega
            obtain ⟨a1, e1, _, y1⟩ := (I1.out w7 D7.out).2 k hlt
            obtain ⟨a2, e2, _, y2⟩ := (I2.out w7 D7.out).2 k hlt
            obtain ⟨a3, e3, _, y3⟩ := (I3.out w7 D7.out).2 k hlt
            subst e1
            subst e2
            subst e3
            have y0 : w7.cell? ⟨w5.heap.size, k, none⟩ = some (.int .i64 0) := by have h := HR7.out.c k hlt; rw [if_neg (by omega)] at h; exact h
            have yf := HR7.out.f k
            have zl := HR7.out.lt
            have em : med (Z1 k) (Z2 k) (Z3 k) = max (min (Z1 k) (Z2 k)) (min (max (Z1 k) (Z2 k)) (Z3 k)) := rfl
            have wk : IntKind.i64.wrap ((k : Int) + 1) = ((k + 1 : Nat) : Int) := by rw [show ((k : Int) + 1) = ((k + 1 : Nat) : Int) by omega]; exact IntWalk.i64_in _ (by omega)
            have WK := Lib.hid wk
            generalize hz1 : Z1 k = z1 at *
            generalize hz2 : Z2 k = z2 at *
            generalize hz3 : Z3 k = z3 at *
            have EM := Lib.hid em
            have EZ := Lib.hid (And.intro hz1 (And.intro hz2 hz3))
            clear em hz1 hz2 hz3 wk
            go_wp2_with fail
            refine wp_region_M [27] (fun w' => w'.cell? (a1.add k) = some (.int .i64 z1) ∧ w'.cell? (a2.add k) = some (.int .i64 z2) ∧ w'.cell? (a3.add k) = some (.int .i64 z3) ∧ w'.cell? ⟨w5.heap.size, k, none⟩ = some (.int .i64 0)) (by kernel_rfl) (by kernel_rfl) (by (try dsimp only); (repeat' apply And.intro); all_goals first | assumption | (go_simp; done)) (fun hT0 => ?_)
            refine M_take (v := ?_) 0 rfl (by kernel_rfl) (by assumption) (fun _ _ _ h => h) (Or.inl ⟨by rfl, ?_⟩) ?_
            rotate_left
            · (intro w hSw; (try dsimp only at hSw); go_simp; (try with_reducible rfl))
            (try simp only [Act.put, List.setIfInBounds_toArray, List.set_cons_zero, List.set_cons_succ])
            refine M_take (v := ?_) 1 rfl (by kernel_rfl) (by assumption) (fun _ _ _ h => h) (Or.inl ⟨by rfl, ?_⟩) ?_
            rotate_left
            · (intro w hSw; (try dsimp only at hSw); go_simp; (try with_reducible rfl))
            (try simp only [Act.put, List.setIfInBounds_toArray, List.set_cons_zero, List.set_cons_succ])
            refine M_take (v := ?_) 2 rfl (by kernel_rfl) (by assumption) (fun _ _ _ h => h) (Or.inl ⟨by rfl, ?_⟩) ?_
            rotate_left
            · (intro w hSw; (try dsimp only at hSw); go_simp; (try with_reducible rfl))
            (try simp only [Act.put, List.setIfInBounds_toArray, List.set_cons_zero, List.set_cons_succ])
            refine M_take (v := ?_) 3 rfl (by kernel_rfl) (by assumption) (fun _ _ _ h => h) (Or.inl ⟨by rfl, ?_⟩) ?_
            rotate_left
            · (intro w hSw; (try dsimp only at hSw); go_simp; (try with_reducible rfl))
            (try simp only [Act.put, List.setIfInBounds_toArray, List.set_cons_zero, List.set_cons_succ])
            refine M_take (v := ?_) 4 rfl (by kernel_rfl) (by assumption) (fun _ _ _ h => h) (Or.inl ⟨by rfl, ?_⟩) ?_
            rotate_left
            · (intro w hSw; (try dsimp only at hSw); go_simp; (try with_reducible rfl))
            (try simp only [Act.put, List.setIfInBounds_toArray, List.set_cons_zero, List.set_cons_succ])
            refine M_take (v := ?_) 5 rfl (by kernel_rfl) (by assumption) (fun _ _ _ h => h) (Or.inl ⟨by rfl, ?_⟩) ?_
            rotate_left
            · (intro w hSw; (try dsimp only at hSw); go_simp; (try with_reducible rfl))
            (try simp only [Act.put, List.setIfInBounds_toArray, List.set_cons_zero, List.set_cons_succ])
            refine M_take (v := ?_) 6 rfl (by kernel_rfl) (by assumption) (fun _ _ _ h => h) (Or.inl ⟨by rfl, ?_⟩) ?_
            rotate_left
            · (intro w hSw; (try dsimp only at hSw); go_simp; (try with_reducible rfl))
            (try simp only [Act.put, List.setIfInBounds_toArray, List.set_cons_zero, List.set_cons_succ])
            refine M_take (v := ?_) 7 rfl (by kernel_rfl) (by assumption) (fun _ _ _ h => h) (Or.inl ⟨by rfl, ?_⟩) ?_
            rotate_left
            · (intro w hSw; (try dsimp only at hSw); go_simp; (try with_reducible rfl))
            (try simp only [Act.put, List.setIfInBounds_toArray, List.set_cons_zero, List.set_cons_succ])
            refine M_take (v := ?_) 8 rfl (by kernel_rfl) (by assumption) (fun _ _ _ h => h) (Or.inl ⟨by rfl, ?_⟩) ?_
            rotate_left
            · (intro w hSw; (try dsimp only at hSw); go_simp; (try with_reducible rfl))
            (try simp only [Act.put, List.setIfInBounds_toArray, List.set_cons_zero, List.set_cons_succ])
            refine M_take (v := ?_) 9 rfl (by kernel_rfl) (by assumption) (fun _ _ _ h => h) (Or.inl ⟨by rfl, ?_⟩) ?_
            rotate_left
            · (intro w hSw; (try dsimp only at hSw); go_simp; (try with_reducible rfl))
            (try simp only [Act.put, List.setIfInBounds_toArray, List.set_cons_zero, List.set_cons_succ])
            refine M_take (v := ?_) 10 rfl (by kernel_rfl) (by assumption) (fun _ _ _ h => h) (Or.inl ⟨by rfl, ?_⟩) ?_
            rotate_left
            · (intro w hSw; (try dsimp only at hSw); go_simp; (try with_reducible rfl))
            (try simp only [Act.put, List.setIfInBounds_toArray, List.set_cons_zero, List.set_cons_succ])
            refine M_take (v := ?_) 11 rfl (by kernel_rfl) (by assumption) (fun _ _ _ h => h) (Or.inl ⟨by rfl, ?_⟩) ?_
            rotate_left
            · (intro w hSw; (try dsimp only at hSw); go_simp; (try with_reducible rfl))
            (try simp only [Act.put, List.setIfInBounds_toArray, List.set_cons_zero, List.set_cons_succ])
            refine M_take (v := ?_) 12 rfl (by kernel_rfl) (by assumption) (fun _ _ _ h => h) (Or.inl ⟨by rfl, ?_⟩) ?_
            rotate_left
            · (intro w hSw; (try dsimp only at hSw); go_simp; (try with_reducible rfl))
            (try simp only [Act.put, List.setIfInBounds_toArray, List.set_cons_zero, List.set_cons_succ])
            refine M_take (v := ?_) 13 rfl (by kernel_rfl) (by assumption) (fun _ _ _ h => h) (Or.inl ⟨by rfl, ?_⟩) ?_
            rotate_left
            · (intro w hSw; (try dsimp only at hSw); go_simp; (try with_reducible rfl))
            (try simp only [Act.put, List.setIfInBounds_toArray, List.set_cons_zero, List.set_cons_succ])
            refine M_take (v := ?_) 14 rfl (by kernel_rfl) (by assumption) (fun _ _ _ h => h) (Or.inl ⟨by rfl, ?_⟩) ?_
            rotate_left
            · (intro w hSw; (try dsimp only at hSw); go_simp; (try with_reducible rfl))
            (try simp only [Act.put, List.setIfInBounds_toArray, List.set_cons_zero, List.set_cons_succ])
            refine M_take (v := ?_) 15 rfl (by kernel_rfl) (by assumption) (fun _ _ _ h => h) (Or.inl ⟨by rfl, ?_⟩) ?_
            rotate_left
            · (intro w hSw; (try dsimp only at hSw); go_simp; (try with_reducible rfl))
            (try simp only [Act.put, List.setIfInBounds_toArray, List.set_cons_zero, List.set_cons_succ])
            refine M_take (v := ?_) 16 rfl (by kernel_rfl) (by assumption) (fun _ _ _ h => h) (Or.inl ⟨by rfl, ?_⟩) ?_
            rotate_left
            · (intro w hSw; (try dsimp only at hSw); go_simp; (try with_reducible rfl))
            (try simp only [Act.put, List.setIfInBounds_toArray, List.set_cons_zero, List.set_cons_succ])
            refine M_take (v := ?_) 17 rfl (by kernel_rfl) (by assumption) (fun _ _ _ h => h) (Or.inl ⟨by rfl, ?_⟩) ?_
            rotate_left
            · (intro w hSw; (try dsimp only at hSw); go_simp; (try with_reducible rfl))
            (try simp only [Act.put, List.setIfInBounds_toArray, List.set_cons_zero, List.set_cons_succ])
            refine M_take (v := ?_) 18 rfl (by kernel_rfl) (by assumption) (fun _ _ _ h => h) (Or.inl ⟨by rfl, ?_⟩) ?_
            rotate_left
            · (intro w hSw; (try dsimp only at hSw); go_simp; (try with_reducible rfl))
            (try simp only [Act.put, List.setIfInBounds_toArray, List.set_cons_zero, List.set_cons_succ])
            refine M_take (v := ?_) 19 rfl (by kernel_rfl) (by assumption) (fun _ _ _ h => h) (Or.inl ⟨by rfl, ?_⟩) ?_
            rotate_left
            · (intro w hSw; (try dsimp only at hSw); go_simp; (try with_reducible rfl))
            (try simp only [Act.put, List.setIfInBounds_toArray, List.set_cons_zero, List.set_cons_succ])
            refine M_take (v := ?_) 20 rfl (by kernel_rfl) (by assumption) (fun _ _ _ h => h) (Or.inl ⟨by rfl, ?_⟩) ?_
            rotate_left
            · (intro w hSw; (try dsimp only at hSw); go_simp; (try with_reducible rfl))
            (try simp only [Act.put, List.setIfInBounds_toArray, List.set_cons_zero, List.set_cons_succ])
            refine M_take (v := ?_) 21 rfl (by kernel_rfl) (by assumption) (fun _ _ _ h => h) (Or.inl ⟨by rfl, ?_⟩) ?_
            rotate_left
            · (intro w hSw; (try dsimp only at hSw); go_simp; (try with_reducible rfl))
            (try simp only [Act.put, List.setIfInBounds_toArray, List.set_cons_zero, List.set_cons_succ])
            refine M_take (v := ?_) 22 rfl (by kernel_rfl) (by assumption) (fun _ _ _ h => h) (Or.inl ⟨by rfl, ?_⟩) ?_
            rotate_left
            · (intro w hSw; (try dsimp only at hSw); go_simp; (try with_reducible rfl))
            (try simp only [Act.put, List.setIfInBounds_toArray, List.set_cons_zero, List.set_cons_succ])
            refine M_take (v := ?_) 23 rfl (by kernel_rfl) (by assumption) (fun _ _ _ h => h) (Or.inl ⟨by rfl, ?_⟩) ?_
            rotate_left
            · (intro w hSw; (try dsimp only at hSw); go_simp; (try with_reducible rfl))
            (try simp only [Act.put, List.setIfInBounds_toArray, List.set_cons_zero, List.set_cons_succ])
            refine M_take (v := ?_) 24 rfl (by kernel_rfl) (by assumption) (fun _ _ _ h => h) (Or.inl ⟨by rfl, ?_⟩) ?_
            rotate_left
            · (intro w hSw; (try dsimp only at hSw); go_simp; (try with_reducible rfl))
            (try simp only [Act.put, List.setIfInBounds_toArray, List.set_cons_zero, List.set_cons_succ])
            refine M_take (v := ?_) 25 rfl (by kernel_rfl) (by assumption) (fun _ _ _ h => h) (Or.inl ⟨by rfl, ?_⟩) ?_
            rotate_left
            · (intro w hSw; (try dsimp only at hSw); go_simp; (try with_reducible rfl))
            (try simp only [Act.put, List.setIfInBounds_toArray, List.set_cons_zero, List.set_cons_succ])
            refine M_take (v := ?_) 26 rfl (by kernel_rfl) (by assumption) (fun _ _ _ h => h) (Or.inl ⟨by rfl, ?_⟩) ?_
            rotate_left
            · (intro w hSw; (try dsimp only at hSw); go_simp; (try with_reducible rfl))
            (try simp only [Act.put, List.setIfInBounds_toArray, List.set_cons_zero, List.set_cons_succ])
            refine M_step 27 rfl (by kernel_rfl) (fun K hK => ?_)
            go_simp
            skip
            refine hK.out _ _ (fun e => by cases e) ?_
            clear hK K
            (try simp only [Act.put, List.setIfInBounds_toArray, List.set_cons_zero, List.set_cons_succ])
            refine M_done (by kernel_rfl) ?_ _
            have hst := (show InR w5.heap.size n3 _ w7.drew from HR7.out.up (Below.refl w7.heap.size w7).drew).set (x := max (min z1 z2) (min (max z1 z2) z3)) hlt
            have hfb : Below w5.heap.size w5 (w7.drew.setCell ⟨w5.heap.size, k, none⟩ (.int .i64 (max (min z1 z2) (min (max z1 z2) z3)))) := set1 HB7.out.drew (Nat.le_refl _) _ _
            have HST : Hid (InR w5.heap.size n3 (fun i => if i < k + 1 then med (Z1 i) (Z2 i) (Z3 i) else 0) (w7.drew.setCell ⟨w5.heap.size, k, none⟩ (.int .i64 (max (min z1 z2) (min (max z1 z2) z3))))) := Lib.hid ⟨hst.lt, fun i hi => by
              have h := hst.c i hi
              by_cases e : i = k
              · subst e
                rw [if_pos rfl] at h
                rw [if_pos (by omega), EZ.out.1, EZ.out.2.1, EZ.out.2.2]
                exact h
              · rw [if_neg e] at h
                rw [h]
                by_cases e2 : i < k
                · rw [if_pos e2, if_pos (by omega)]
                · rw [if_neg e2, if_neg (by omega)], hst.f⟩
            have HFB := Lib.hid hfb
            clear hst hfb hT0 y0 y1 y2 y3 yf
            have wk := WK.out
            go_wp2_with fail
            go_roundw
            case rel => exact ⟨k + 1, by omega, by go_num, HST.out, HFB.out⟩
            case measure => simp [intOf]; omega
          · obtain rfl : k = n3 := by omega
            have hki : ¬ ((k : Int) < (k : Int)) := by omega
            have hL : LiR (some ⟨w5.heap.size, 0, none⟩) k (fun i => med (Z1 i) (Z2 i) (Z3 i)) w7 := (InR.ints (Z := fun i => med (Z1 i) (Z2 i) (Z3 i)) ⟨HR7.out.lt, fun i hi => by have h := HR7.out.c i hi; rw [if_pos hi] at h; exact h, HR7.out.f⟩ (by omega))
            have HL := Lib.hid hL
            clear hL hki
            go_wp2_with fail
            go_ret2
            exact ⟨_, _, _, rfl, fun _ => rfl, fun h => absurd rfl h, HL.out, D7.out⟩
end Go.Proofs.Ytpikaohodieeaaa
