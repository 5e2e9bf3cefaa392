import Derived.Test.YtkidhmajlpceeaaStl
namespace Go.Proofs.Ytkidhmajlpceeaa
open Go.RowKit
attribute [local go_sem] Oper.semAt_some
section
variable {P : Program} {ops : Array Oper} {w : World}
theorem still_of_quiet {o : Oper} {a : Act} {K K' : Act → Prop} (h : ∀ a, K a → K' a) (hh : o.quiet P a (fun w' => w' = w) K) : o.still P a w K' := by
  obtain ⟨v, h1, h2⟩ := hh
  have h3 := h1 w rfl
  unfold Oper.quietAt at h3
  unfold Oper.still
  generalize (execOp a.eval o).run P w = r at *
  cases r with
  | ok x w' =>
    cases x <;> simp only [Oper.quietUpon] at h3 <;> simp only [Oper.stillUpon]
    · obtain ⟨h4, rfl⟩ := h3; exact ⟨h4, h _ h2⟩
    · obtain ⟨h4, rfl⟩ := h3; exact ⟨h4, h _ h2⟩
    · exact ⟨h3.1, v, h3.2, h _ h2⟩
  | halt x w' => simp only [Oper.quietUpon] at h3
theorem wpStill_of_quiet {Q : Act → Prop} : ∀ (l : List Oper) (a : Act), wpQuiet P ops (fun w' => w' = w) Q l a → wpStill P ops w Q l a
  | [], _, h => h
  | o :: l, a, h => by
    unfold wpQuiet at h
    unfold wpStill
    split
    · rename_i hw; rw [if_pos hw] at h; exact still_of_quiet (wpStill_of_quiet l) h
    · rename_i hw; rw [if_neg hw] at h; exact wpStill_of_quiet l _ h
theorem wpIn_quiet_tail {id m : Nat} {Q : Exit → Act → World → Prop} {a : Act} {l : List Oper} (n : Nat) (hm : P.follows .mixedOrders = true) (hB : Region.lexTailB .any l.toArray n = true)
    (h : wpQuiet P l.toArray (fun w' => w' = w.drew) (fun a' => wpListIn Fence.wide m P l.toArray Q (l.drop n) a' w.drew) (l.take n) a) : (Code.region id l.toArray true).wpIn Fence.wide m P Q a w :=
  wpIn_still_tail n hm hB (wpStill_of_quiet _ _ h)
end
theorem tout_step (Z : Nat → Int) (i : Nat) (b : Bool) (h : tyes Z i = b) : (tout Z (i + 1)).length = (tout Z i).length + (if b = true then 1 else 0) := by
  show (if tyes Z i = true then tout Z i ++ [(tlast Z i : Int)] else tout Z i).length = _
  rw [h]
  cases b <;> simp
set_option maxRecDepth 100000 in
set_option maxHeartbeats 400000 in
theorem turns_yields (A : Option Addr) (n c Bm B m : Nat) (Z : Nat → Int) (w : World) (hin : IntsIn A n Z B w) (hm : w.cell? ⟨Bm, 0, none⟩ = some (.slice A n c)) (hBm : Bm < B) (hB : B ≤ w.heap.size) (h0 : 0 < n) (hn1 : n ≤ 401) :
    Yields Fence.wide m Try.prog 107 #[.pointer (some ⟨Bm, 0, none⟩)] encI (Below B) (turnsL Z n) w := fun l J W hW hA hY hJ0 => by
  have HIN := Lib.hid (hin.up hW hB)
  have hm' : W.cell? ⟨Bm, 0, none⟩ = some (.slice A n c) := cell_up hW (by omega) hm
  have HM := Lib.hid hm'
  have HY := Lib.hid hY
  have H0 := Lib.hid hJ0
  have HA := Lib.hid hA
  have hWs := hW.size
  clear hin hm hY hJ0 hm' hA hW
  refine callsIn_of_wp Try.func107 rfl trivial ?_ rfl
  simp only [Try.ntmps107, List.size_toArray, List.length_cons, List.length_nil, Nat.reduceAdd, Nat.reduceSub, Array.replicate_succ, Array.replicate_zero, List.push_toArray, List.append_toArray, List.nil_append, List.cons_append]
  gi_wp2
  gi_loopw [3, 4] (fun s t wr => ∃ i : Nat, i + 1 ≤ n ∧ s = .int .i64 (tlast Z i : Nat) ∧ t = .int .i64 ((i : Int) + 1) ∧ Below B W wr ∧ Hid (J (tout Z i).length wr)) (fun _ t _ => n - (intOf t).toNat)
  case atStart => exact ⟨0, by omega, rfl, rfl, Below.refl _ _, Lib.hid H0.out⟩
  case round =>
    obtain ⟨i, hi, rfl, rfl, hb, hJ⟩ := hrel
    obtain ⟨wo, rfl⟩ : ∃ wo : World, wo = wr := ⟨_, rfl⟩
    have hi0 : (0 : Int) ≤ (i : Int) := by omega
    have hmw : wo.cell? ⟨Bm, 0, none⟩ = some (.slice A n c) := low_cell hb hBm HM.out
    have hBmw : Bm < wo.heap.size := World.block_lt_of_cell? _ _ hmw
    have HB := Lib.hid hb
    by_cases hlt : i + 1 < n
    · obtain ⟨a, rfl, ab, c0⟩ := (HIN.out.up hb (Nat.le_refl _)).2 i (by omega)
      obtain ⟨a', e', _, c1⟩ := (HIN.out.up hb (Nat.le_refl _)).2 (i + 1) hlt
      cases e'
      have c2 := c1
      rw [Addr.add, if_neg (by omega : ¬ i + 1 = 0)] at c2
      have hki : (i : Int) + 1 < (n : Int) := by omega
      have e1 : IntKind.i64.wrap (i : Int) = (i : Int) := IntWalk.i64_in _ (by omega)
      have e2 : ((i : Int) + 1).toNat = i + 1 := by omega
      have e3 : 0 ≤ (i : Int) + 1 := by omega
      have e4 : (i : Int) < n := by omega
      clear hb
      by_cases heq : Z (i + 1) = Z i
      · have d1 : (Z (i + 1) == Z i) = true := by simpa using heq
        have hy : tyes Z i = false := by unfold tyes; simp [heq]
        have hl : tlast Z (i + 1) = tlast Z i := by show (if Z (i + 1) = Z i then _ else _) = _; rw [if_pos heq]
        have HT := Lib.hid (tout_step Z i false hy)
        have HL := Lib.hid hl
        clear hy hl heq
        gi_wp2
        refine wpIn_still_tail 9 (by kernel_rfl) (by kernel_rfl) ?_
        simp only [List.take_succ_cons, List.take_zero, List.drop_succ_cons, List.drop_zero]
        repeat still_step
        refine wpStill_nil ?_
        clear e1 e2
        gi_wp2
        exact ⟨⟨i + 1, by omega, by rw [HL.out], by simp, HB.out.drew, Lib.hid (by rw [HT.out]; exact abides_below HA.out hJ.out (Below.refl _ _).drew)⟩, by simp [intOf]; omega⟩
      · have d1 : (Z (i + 1) == Z i) = false := by simpa using heq
        have hl : tlast Z (i + 1) = i + 1 := by show (if Z (i + 1) = Z i then _ else _) = _; rw [if_neg heq]
        have HL := Lib.hid hl
        have HQ := Lib.hid heq
        clear hl heq
        gi_wp2
        refine wpIn_still_tail 9 (by kernel_rfl) (by kernel_rfl) ?_
        simp only [List.take_succ_cons, List.take_zero, List.drop_succ_cons, List.drop_zero]
        repeat still_step
        refine wpStill_nil ?_
        obtain ⟨w1, hw1⟩ : ∃ w1, w1 = wo.drew := ⟨_, rfl⟩
        have hb1 : Below B W w1 := by rw [hw1]; exact HB.out.drew
        have hJ1 := Lib.hid (show J (tout Z i).length w1 by rw [hw1]; exact abides_below HA.out hJ.out (Below.refl _ _).drew)
        rw [← hw1]
        have hmw1 : w1.cell? ⟨Bm, 0, none⟩ = some (.slice (some a) n c) := low_cell hb1 hBm HM.out
        obtain ⟨a1, e', _, c3⟩ := (HIN.out.up hb1 (Nat.le_refl _)).2 i (by omega)
        cases e'
        obtain ⟨a1, e', _, c4⟩ := (HIN.out.up hb1 (Nat.le_refl _)).2 (i + 1) hlt
        cases e'
        rw [Addr.add, if_neg (by omega : ¬ i + 1 = 0)] at c4
        clear hmw c0 c1 c2 hw1
        have HB1 := Lib.hid hb1
        have hsz1 : Bm < w1.heap.size := World.block_lt_of_cell? _ _ hmw1
        clear hb1
        have hq0 : tlast Z i = 0 ∨ ∃ q, tlast Z i = q + 1 := by cases tlast Z i with
          | zero => exact .inl rfl
          | succ q => exact .inr ⟨q, rfl⟩
        rcases hq0 with hq | ⟨q, hq⟩
        · have hy : tyes Z i = false := by unfold tyes; simp [hq]
          have HT := Lib.hid (tout_step Z i false hy)
          clear hy
          have d2 : (0 : Int) = ((tlast Z i : Nat) : Int) := by rw [hq]; rfl
          rw [← d2]
          clear d2 hq
          gi_wp2
          refine wpIn_quiet_tail 28 (by kernel_rfl) (by kernel_rfl) ?_
          simp only [List.take_succ_cons, List.take_zero, List.drop_succ_cons, List.drop_zero]
          repeat (go_big_quiet_step (fail))
          refine wpQuiet_nil ?_
          clear e1 e2
          gi_wp2
          refine ⟨(fun _ h => by cases h), ?_⟩
          gi_wp2
          exact ⟨⟨i + 1, by omega, by rw [HL.out]; simp, by simp, HB1.out.drew, Lib.hid (by rw [HT.out]; exact abides_below HA.out hJ1.out (Below.refl _ _).drew)⟩, by simp [intOf]; omega⟩
        · have hqi := tlast_le Z i
          rw [hq] at hqi
          obtain ⟨a1, e', _, c5⟩ := (HIN.out.up HB1.out (Nat.le_refl _)).2 q (by omega)
          cases e'
          obtain ⟨a1, e', _, c6⟩ := (HIN.out.up HB1.out (Nat.le_refl _)).2 (q + 1) (by omega)
          cases e'
          rw [Addr.add, if_neg (by omega : ¬ q + 1 = 0)] at c6
          have e5 : IntKind.i64.wrap (q : Int) = (q : Int) := IntWalk.i64_in _ (by omega)
          have e6 : ((q : Int) + 1).toNat = q + 1 := by omega
          have e7 : 0 ≤ (q : Int) + 1 := by omega
          have e8 : (q : Int) + 1 < n := by omega
          have e9 : (q : Int) < n := by omega
          have e10 : (0 : Int) < (q : Int) + 1 := by omega
          have e11 : (0 : Int) ≤ (q : Int) := by omega
          have d2 : (q : Int) + 1 = ((tlast Z i : Nat) : Int) := by rw [hq]; simp
          have hx : tyes Z i = true → (turnsL Z n)[(tout Z i).length]? = some ((q : Int) + 1) := fun h => by rw [d2]; exact tout_at (by omega) h
          rw [← d2]
          clear d2
          have hyq : tyes Z i = (decide (Z q < Z (q + 1)) == decide (Z (i + 1) < Z i)) := by unfold tyes; rw [hq]; simp [HQ.out]
          cases D1 : decide (Z q < Z (q + 1)) <;> cases D2 : decide (Z (i + 1) < Z i) <;> rw [D1, D2] at hyq
          · have HT := Lib.hid (tout_step Z i true hyq)
            obtain ⟨fn, tmps, assign, body, hy, hR⟩ := HY.out _ _ w1.drew (hx hyq) (abides_below HA.out hJ1.out (Below.refl _ _).drew)
            clear hyq hq hx
            gi_wp2
            refine wpIn_quiet_tail 28 (by kernel_rfl) (by kernel_rfl) ?_
            simp only [List.take_succ_cons, List.take_zero, List.drop_succ_cons, List.drop_zero]
            repeat (go_big_quiet_step (fail))
            refine wpQuiet_nil ?_
            clear e1 e2 e5 e6
            gi_wp2
            refine ⟨(fun h => by cases h), ?_⟩
            refine hR.mono ?_
            rintro e W3 ⟨rfl, hJ3, hk3⟩
            have HJ3 := Lib.hid hJ3
            have HK3 := Lib.hid hk3
            clear hJ3 hk3 hR hy
            gi_wp2
            exact ⟨⟨i + 1, by omega, by rw [HL.out]; simp, by simp, HB1.out.drew.trans HK3.out, Lib.hid (by rw [HT.out]; exact HJ3.out)⟩, by simp [intOf]; omega⟩
          · have HT := Lib.hid (tout_step Z i false hyq)
            clear hyq hq hx
            gi_wp2
            refine wpIn_quiet_tail 28 (by kernel_rfl) (by kernel_rfl) ?_
            simp only [List.take_succ_cons, List.take_zero, List.drop_succ_cons, List.drop_zero]
            repeat (go_big_quiet_step (fail))
            refine wpQuiet_nil ?_
            clear e1 e2 e5 e6
            gi_wp2
            refine ⟨(fun _ h => by cases h), ?_⟩
            gi_wp2
            exact ⟨⟨i + 1, by omega, by rw [HL.out]; simp, by simp, HB1.out.drew, Lib.hid (by rw [HT.out]; exact abides_below HA.out hJ1.out (Below.refl _ _).drew)⟩, by simp [intOf]; omega⟩
          · have HT := Lib.hid (tout_step Z i false hyq)
            clear hyq hq hx
            gi_wp2
            refine wpIn_quiet_tail 28 (by kernel_rfl) (by kernel_rfl) ?_
            simp only [List.take_succ_cons, List.take_zero, List.drop_succ_cons, List.drop_zero]
            repeat (go_big_quiet_step (fail))
            refine wpQuiet_nil ?_
            clear e1 e2 e5 e6
            gi_wp2
            refine ⟨(fun _ h => by cases h), ?_⟩
            gi_wp2
            exact ⟨⟨i + 1, by omega, by rw [HL.out]; simp, by simp, HB1.out.drew, Lib.hid (by rw [HT.out]; exact abides_below HA.out hJ1.out (Below.refl _ _).drew)⟩, by simp [intOf]; omega⟩
          · have HT := Lib.hid (tout_step Z i true hyq)
            obtain ⟨fn, tmps, assign, body, hy, hR⟩ := HY.out _ _ w1.drew (hx hyq) (abides_below HA.out hJ1.out (Below.refl _ _).drew)
            clear hyq hq hx
            gi_wp2
            refine wpIn_quiet_tail 28 (by kernel_rfl) (by kernel_rfl) ?_
            simp only [List.take_succ_cons, List.take_zero, List.drop_succ_cons, List.drop_zero]
            repeat (go_big_quiet_step (fail))
            refine wpQuiet_nil ?_
            clear e1 e2 e5 e6
            gi_wp2
            refine ⟨(fun h => by cases h), ?_⟩
            refine hR.mono ?_
            rintro e W3 ⟨rfl, hJ3, hk3⟩
            have HJ3 := Lib.hid hJ3
            have HK3 := Lib.hid hk3
            clear hJ3 hk3 hR hy
            gi_wp2
            exact ⟨⟨i + 1, by omega, by rw [HL.out]; simp, by simp, HB1.out.drew.trans HK3.out, Lib.hid (by rw [HT.out]; exact HJ3.out)⟩, by simp [intOf]; omega⟩
    · obtain rfl : n = i + 1 := by omega
      gi_wp2
      go_end0
      exact ⟨⟨_, rfl⟩, hJ.out⟩
end Go.Proofs.Ytkidhmajlpceeaa
