/- ClocksTwo's law: two by two. -/
import Derived.Test.YtpikaohodieeaaaHas
namespace Go.Proofs.Ytpikaohodieeaaa
open Go.RowKit
set_option linter.unusedSimpArgs false
set_option linter.unusedVariables false
theorem ext2_mem {m i j : Nat} (hij : i < j) (hj : j < m) : [(i : Int), (j : Int)] ∈ ext m 2 0 := by
  simp only [ext, List.mem_flatMap, List.mem_map, List.mem_range]
  refine ⟨i, by omega, [(j : Int)], ⟨j - (0 + i + 1), by omega, [], by simp, ?_⟩, by simp⟩
  congr 1
  omega
theorem con_nil {d : Drm} {m : Nat} {F : Nat → Int × Int × Int} {L : List (List Int)} (h : ConR d m F L) : L = [] ↔ ∃ T, Rdg d.n (gapF d) m F T := by
  obtain ⟨R0, al, pr, rfl, h0, h1, h2⟩ := h
  constructor
  · intro h
    unfold conL at h
    cases R0 with
    | false => simp at h
    | true =>
      rw [if_pos rfl, List.append_eq_nil_iff] at h
      obtain ⟨ha, hb⟩ := h
      have hal : ∀ i, i < m → al i = true := fun i hi => by
        cases e : al i with
        | true => rfl
        | false =>
          exfalso
          have : [(i : Int)] ∈ sgL al m := by
            unfold sgL
            simp only [List.mem_map, List.mem_filter, List.mem_range]
            exact ⟨i, ⟨hi, by rw [e]; rfl⟩, rfl⟩
          rw [ha] at this
          cases this
      have hpr : ∀ i j, i < j → j < m → pr i j = true := fun i j hij hj => by
        cases e : pr i j with
        | true => rfl
        | false =>
          exfalso
          have : [(i : Int), (j : Int)] ∈ prL al pr m (ext m 2 0).length := by
            unfold prL
            rw [List.take_length, List.mem_filter]
            refine ⟨ext2_mem hij hj, ?_⟩
            unfold pass
            simp [hal i (by omega), hal j hj, e]
          rw [hb] at this
          cases this
      obtain ⟨T0, hT0⟩ := h0.1 rfl
      refine rdg_two ⟨T0, hT0⟩ fun i j hi hj => ?_
      rcases Nat.lt_trichotomy i j with hlt | heq | hgt
      · obtain ⟨T, hT⟩ := (h2 i j hi hj).1 (hpr i j hlt hj)
        exact ⟨T, ⟨hT.tick, hT.gap, fun i hi => by omega⟩, hT.mark 0 (by omega), hT.mark 1 (by omega)⟩
      · subst heq
        obtain ⟨T, hT⟩ := (h1 i hi).1 (hal i hi)
        exact ⟨T, ⟨hT.tick, hT.gap, fun i hi => by omega⟩, hT.mark 0 (by omega), hT.mark 0 (by omega)⟩
      · obtain ⟨T, hT⟩ := (h2 j i hj hi).1 (hpr j i hgt hi)
        exact ⟨T, ⟨hT.tick, hT.gap, fun i hi => by omega⟩, hT.mark 1 (by omega), hT.mark 0 (by omega)⟩
  · rintro ⟨T, hT⟩
    have hR : R0 = true := h0.2 ⟨T, hT.tick, hT.gap, fun i hi => by omega⟩
    have hal : ∀ i, i < m → al i = true := fun i hi => (h1 i hi).2 ⟨T, hT.tick, hT.gap, fun k _ => hT.mark i hi⟩
    have hpr : ∀ i j, i < m → j < m → pr i j = true := fun i j hi hj => (h2 i j hi hj).2 ⟨T, hT.tick, hT.gap, fun k _ => by
      unfold two3
      by_cases e : k = 0
      · rw [if_pos e]; exact hT.mark i hi
      · rw [if_neg e]; exact hT.mark j hj⟩
    subst hR
    unfold conL
    rw [if_pos rfl, List.append_eq_nil_iff]
    constructor
    · unfold sgL
      rw [List.map_eq_nil_iff, List.filter_eq_nil_iff]
      intro i hi
      rw [List.mem_range] at hi
      simp [hal i hi]
    · unfold prL
      rw [List.filter_eq_nil_iff]
      intro s hs
      obtain ⟨i, j, rfl, k1, k2⟩ := ext_two (List.mem_of_mem_take hs)
      unfold pass
      simp [hpr i j (by omega) (by omega)]
theorem pair_ok {d : Drm} {m : Nat} {F : Nat → Int × Int × Int} (hk : MksOk d m F) {i j : Nat} (hi : i < m) (hj : j < m) : MksOk d 2 (pair3 (F i) (F j)) := ⟨by omega, fun k _ => by
  unfold pair3 mkOk
  by_cases e : k = 0
  · simp only [if_pos e]; exact hk.2 i hi
  · simp only [if_neg e]; exact hk.2 j hj⟩
set_option maxRecDepth 100000 in
set_option maxHeartbeats 4000000 in
theorem pairs_any (c : Clo) (R0 : Bool) (pr : Nat → Nat → Bool) (G : Bool) (w : World) (hin : ClIn c w.heap.size w) (hd : DrOk c.d) (hk : MksOk c.d c.m c.F) (h0 : R0 = true ↔ ∃ T, Rdg c.d.n (gapF c.d) 0 c.F T)
    (hp : ∀ i k, i < c.m → k < c.m → (pr i k = true ↔ ∃ T, Rdg c.d.n (gapF c.d) 2 (pair3 (c.F i) (c.F k)) T)) (hG : G = true ↔ R0 = true ∧ ∀ i k, i < c.m → k ≤ i → pr i k = true) :
    Calls Try.prog 66 #[c.v] w fun e w' => e = .returned (.bool G) ∧ Below w.heap.size w w' := by
  have CC : Hid (∀ W, Below w.heap.size w W → ClIn c W.heap.size W) := Lib.hid fun W h => (hin.up h (Nat.le_refl _)).more h.size
  have KF := Lib.hid fun W h => Feasible_any c.d none 0 0 c.F R0 0 W (CC.out W h).1 ⟨by omega, fun i hi => absurd hi (by omega)⟩ (.inr ⟨rfl, hd, ⟨by omega, fun i hi => by omega⟩, h0⟩)
  have KA : Hid (∀ i k, i < c.m → k < c.m → ∀ W, Below w.heap.size w W → Calls Try.prog 27 #[c.d.v, Mk (c.F i), Mk (c.F k)] W fun e w' => e = .returned (.tuple #[.bool (pr i k), .int .i64 0]) ∧ Below W.heap.size W w') := Lib.hid fun i k hi hk' W h =>
    Agree_any c.d (c.F i) (c.F k) (pr i k) 0 W (CC.out W h).1 (.inr ⟨rfl, hd, pair_ok hk hi hk', hp i k hi hk'⟩)
  have HG := Lib.hid hG
  have hm64 : c.m ≤ 64 := hk.1
  clear hin hd hk h0 hp hG
  go_enter Try.func66, Try.ntmps66
  go_wp2_with fail
  refine (KF.out _ (box1 w (cloO c))).mono ?_
  rintro e w2 ⟨rfl, hb⟩
  have D := Lib.hid (nextB (box1 w (cloO c)) hb)
  have C : Hid (HasCl c w.heap.size w2) := Lib.hid ((cl_new w c).up hb)
  clear hb
  obtain ⟨c0, c1, c2⟩ := C.out
  have zC := C.out.lt
  cases R0 with
  | false =>
    obtain rfl : G = false := by
      cases G with
      | false => rfl
      | true => exact absurd (HG.out.1 rfl).1 (by decide)
    go_wp2_with fail
    go_ret
    exact ⟨rfl, D.out⟩
  | true =>
    have HG3 : Hid (G = true ↔ ∀ i k, i < c.m → k ≤ i → pr i k = true) := Lib.hid (HG.out.trans ⟨fun h => h.2, fun h => ⟨rfl, h⟩⟩)
    go_wp2_with fail
    clear c0 c1 c2 zC
    go_loopw [3, 4, 5, 6] (fun ok e i k wr => ∃ a : Nat, a ≤ c.m ∧ ok = .bool true ∧ e = .int .i64 0 ∧ i = .int .i64 (a : Int) ∧ Hid (∀ i k, i < a → k ≤ i → pr i k = true) ∧ Below w2.heap.size w2 wr) (fun _ _ i _ _ => c.m - (intOf i).toNat)
    case atStart => exact ⟨0, Nat.zero_le _, rfl, rfl, rfl, Lib.hid fun i k h => absurd h (by omega), Below.refl _ _⟩
    case round =>
      obtain ⟨a, ha, rfl, rfl, rfl, hP, hb⟩ := hrel
      obtain ⟨w3, rfl⟩ : ∃ w3 : World, w3 = wr := ⟨_, rfl⟩
      have D0 := D
      have HB3 := Lib.hid hb
      have D := Lib.hid (nextB D.out hb)
      have C := Lib.hid (C.out.up hb)
      have ha0 : (0 : Int) ≤ (a : Int) := by omega
      clear hb
      obtain ⟨c0, c1, c2⟩ := C.out
      have zC := C.out.lt
      by_cases hlt : a < c.m
      · have hai : (a : Int) < (c.m : Int) := by omega
        go_wp2_with fail
        clear c0 c1 c2 zC
        go_loopw [3, 4, 6] (fun ok e k wr => ∃ b : Nat, b ≤ a + 1 ∧ ok = .bool true ∧ e = .int .i64 0 ∧ k = .int .i64 (b : Int) ∧ Hid (∀ k, k < b → pr a k = true) ∧ Below w3.heap.size w3 wr) (fun _ _ k _ => a + 1 - (intOf k).toNat)
        case atStart => exact ⟨0, Nat.zero_le _, rfl, rfl, rfl, Lib.hid fun k h => absurd h (by omega), Below.refl _ _⟩
        case round =>
          obtain ⟨b, hb1, rfl, rfl, rfl, hQ, hb⟩ := hrel
          obtain ⟨w4, rfl⟩ : ∃ w4 : World, w4 = wr := ⟨_, rfl⟩
          have D3 := D
          have HB4 := Lib.hid hb
          have D := Lib.hid (nextB D.out hb)
          have C3 := C
          have C := Lib.hid (C.out.up hb)
          have hb0 : (0 : Int) ≤ (b : Int) := by omega
          clear hb
          obtain ⟨c0, c1, c2⟩ := C.out
          have zC := C.out.lt
          by_cases hle : b ≤ a
          · have hbi : (b : Int) ≤ (a : Int) := by omega
            have hbm : (b : Int) < (c.m : Int) := by omega
            have hbm' : b < c.m := by omega
            obtain ⟨am, eam, lam, p0, p1, p2⟩ := (CC.out w4 D.out).2.2 a hlt
            obtain ⟨am', eam', lam', q0, q1, q2⟩ := (CC.out w4 D.out).2.2 b hbm'
            rw [eam] at eam'
            cases eam'
            have KA := Lib.hid (KA.out a b hlt hbm')
            rw [eam] at c2
            have CT : Hid (∀ W, Below w4.heap.size w4 W → W.cell? ⟨w.heap.size, 0, none⟩ = some (.slice c.d.RA c.d.n c.d.rc) ∧ W.cell? ⟨w.heap.size, 1, none⟩ = some (.slice c.d.SA c.d.m c.d.sc) ∧ W.cell? ⟨w.heap.size, 2, none⟩ = some (.slice (some am) c.m c.mc)) := Lib.hid fun W h => ⟨cell_up h zC c0, cell_up h zC c1, cell_up h zC c2⟩
            obtain ⟨⟨f0, f1, f2⟩, hf⟩ : ∃ f, f = c.F a := ⟨_, rfl⟩
            obtain ⟨⟨g0, g1, g2⟩, hg⟩ : ∃ f, f = c.F b := ⟨_, rfl⟩
            rw [← hf] at p0 p1 p2 KA
            rw [← hg] at q0 q1 q2 KA
            simp only at p0 p1 p2 q0 q1 q2
            have wb : IntKind.i64.wrap ((b : Int) + 1) = ((b + 1 : Nat) : Int) := by rw [show ((b : Int) + 1) = ((b + 1 : Nat) : Int) by omega]; exact IntWalk.i64_in _ (by omega)
            have WB := Lib.hid wb
            clear hf hg eam wb lam lam'
            cases hpr : pr a b with
            | true =>
              rw [hpr] at KA
              go_wp2_with fail
              refine wp_region_M [] (fun w' => w'.cell? ⟨w.heap.size, 0, none⟩ = some (.slice c.d.RA c.d.n c.d.rc) ∧ w'.cell? ⟨w.heap.size, 1, none⟩ = some (.slice c.d.SA c.d.m c.d.sc) ∧ w'.cell? ⟨w.heap.size, 2, none⟩ = some (.slice (some am) c.m c.mc) ∧ w'.cell? (am.add (a * 3)) = some (.int .i64 f0) ∧ w'.cell? ⟨(am.add (a * 3)).block, (am.add (a * 3)).off + 1, none⟩ = some (.int .i64 f1) ∧ w'.cell? ⟨(am.add (a * 3)).block, (am.add (a * 3)).off + 2, none⟩ = some (.int .i64 f2) ∧ w'.cell? (am.add (b * 3)) = some (.int .i64 g0) ∧ w'.cell? ⟨(am.add (b * 3)).block, (am.add (b * 3)).off + 1, none⟩ = some (.int .i64 g1) ∧ w'.cell? ⟨(am.add (b * 3)).block, (am.add (b * 3)).off + 2, none⟩ = some (.int .i64 g2)) (by kernel_rfl) (by kernel_rfl) (by (try dsimp only); (repeat' apply And.intro); all_goals first | assumption | (go_simp; done)) (fun hT0 => ?_)
              refine M_take (v := ?_) 0 rfl (by kernel_rfl) (by assumption) (fun _ _ _ h => h) (Or.inl ⟨by rfl, ?_⟩) ?_
              rotate_left
              · (intro w hSw; (try dsimp only at hSw); go_simp; (try with_reducible rfl))
              (try simp only [Act.put, List.setIfInBounds_toArray, List.set_cons_zero, List.set_cons_succ])
              refine M_take (v := ?_) 1 rfl (by kernel_rfl) (by assumption) (fun _ _ _ h => h) (Or.inl ⟨by rfl, ?_⟩) ?_
              rotate_left
              · (intro w hSw; (try dsimp only at hSw); go_simp; (try with_reducible rfl))
              (try simp only [Act.put, List.setIfInBounds_toArray, List.set_cons_zero, List.set_cons_succ])
              refine M_take (v := ?_) 2 rfl (by kernel_rfl) (by assumption) (fun _ _ _ h => h) (Or.inl ⟨by rfl, ?_⟩) ?_
              rotate_left
              · (intro w hSw; (try dsimp only at hSw); go_simp; (try with_reducible rfl))
              (try simp only [Act.put, List.setIfInBounds_toArray, List.set_cons_zero, List.set_cons_succ])
              refine M_take (v := ?_) 3 rfl (by kernel_rfl) (by assumption) (fun _ _ _ h => h) (Or.inl ⟨by rfl, ?_⟩) ?_
              rotate_left
              · (intro w hSw; (try dsimp only at hSw); go_simp; (try with_reducible rfl))
              (try simp only [Act.put, List.setIfInBounds_toArray, List.set_cons_zero, List.set_cons_succ])
              refine M_take (v := ?_) 4 rfl (by kernel_rfl) (by assumption) (fun _ _ _ h => h) (Or.inl ⟨by rfl, ?_⟩) ?_
              rotate_left
              · (intro w hSw; (try dsimp only at hSw); go_simp; (try with_reducible rfl))
              (try simp only [Act.put, List.setIfInBounds_toArray, List.set_cons_zero, List.set_cons_succ])
              refine M_take (v := ?_) 5 rfl (by kernel_rfl) (by assumption) (fun _ _ _ h => h) (Or.inl ⟨by rfl, ?_⟩) ?_
              rotate_left
              · (intro w hSw; (try dsimp only at hSw); go_simp; (try with_reducible rfl))
              (try simp only [Act.put, List.setIfInBounds_toArray, List.set_cons_zero, List.set_cons_succ])
              refine M_take (v := ?_) 6 rfl (by kernel_rfl) (by assumption) (fun _ _ _ h => h) (Or.inl ⟨by rfl, ?_⟩) ?_
              rotate_left
              · (intro w hSw; (try dsimp only at hSw); go_simp; (try with_reducible rfl))
              (try simp only [Act.put, List.setIfInBounds_toArray, List.set_cons_zero, List.set_cons_succ])
              refine M_take (v := ?_) 7 rfl (by kernel_rfl) (by assumption) (fun _ _ _ h => h) (Or.inl ⟨by rfl, ?_⟩) ?_
              rotate_left
              · (intro w hSw; (try dsimp only at hSw); go_simp; (try with_reducible rfl))
              (try simp only [Act.put, List.setIfInBounds_toArray, List.set_cons_zero, List.set_cons_succ])
              refine M_take (v := ?_) 8 rfl (by kernel_rfl) (by assumption) (fun _ _ _ h => h) (Or.inl ⟨by rfl, ?_⟩) ?_
              rotate_left
              · (intro w hSw; (try dsimp only at hSw); go_simp; (try with_reducible rfl))
              (try simp only [Act.put, List.setIfInBounds_toArray, List.set_cons_zero, List.set_cons_succ])
              refine M_take (v := ?_) 9 rfl (by kernel_rfl) (by assumption) (fun _ _ _ h => h) (Or.inl ⟨by rfl, ?_⟩) ?_
              rotate_left
              · (intro w hSw; (try dsimp only at hSw); go_simp; (try with_reducible rfl))
              (try simp only [Act.put, List.setIfInBounds_toArray, List.set_cons_zero, List.set_cons_succ])
              refine M_take (v := ?_) 10 rfl (by kernel_rfl) (by assumption) (fun _ _ _ h => h) (Or.inl ⟨by rfl, ?_⟩) ?_
              rotate_left
              · (intro w hSw; (try dsimp only at hSw); go_simp; (try with_reducible rfl))
              (try simp only [Act.put, List.setIfInBounds_toArray, List.set_cons_zero, List.set_cons_succ])
              refine M_take (v := ?_) 11 rfl (by kernel_rfl) (by assumption) (fun _ _ _ h => h) (Or.inl ⟨by rfl, ?_⟩) ?_
              rotate_left
              · (intro w hSw; (try dsimp only at hSw); go_simp; (try with_reducible rfl))
              (try simp only [Act.put, List.setIfInBounds_toArray, List.set_cons_zero, List.set_cons_succ])
              refine M_step 12 rfl (by kernel_rfl) (fun K hK => ?_)
              go_simp
              go_at_call 27
              refine (KA.out _ (nextB D.out (Below.refl _ _).drew)).mono ?_
              rintro e w5 ⟨rfl, hb5⟩
              have HB5 := Lib.hid (show Below w4.heap.size w4 w5 from nextB (Below.refl _ _).drew hb5)
              have hT5 : (fun w' => w'.cell? ⟨w.heap.size, 0, none⟩ = some (.slice c.d.RA c.d.n c.d.rc) ∧ w'.cell? ⟨w.heap.size, 1, none⟩ = some (.slice c.d.SA c.d.m c.d.sc) ∧ w'.cell? ⟨w.heap.size, 2, none⟩ = some (.slice (some am) c.m c.mc) ∧ w'.cell? (am.add (a * 3)) = some (.int .i64 f0) ∧ w'.cell? ⟨(am.add (a * 3)).block, (am.add (a * 3)).off + 1, none⟩ = some (.int .i64 f1) ∧ w'.cell? ⟨(am.add (a * 3)).block, (am.add (a * 3)).off + 2, none⟩ = some (.int .i64 f2) ∧ w'.cell? (am.add (b * 3)) = some (.int .i64 g0) ∧ w'.cell? ⟨(am.add (b * 3)).block, (am.add (b * 3)).off + 1, none⟩ = some (.int .i64 g1) ∧ w'.cell? ⟨(am.add (b * 3)).block, (am.add (b * 3)).off + 2, none⟩ = some (.int .i64 g2)) w5 := ⟨(CT.out w5 HB5.out).1, (CT.out w5 HB5.out).2.1, (CT.out w5 HB5.out).2.2, (HB5.out.cell (World.block_lt_of_cell? _ _ p0)).trans p0, (HB5.out.cell (World.block_lt_of_cell? _ _ p1)).trans p1, (HB5.out.cell (World.block_lt_of_cell? _ _ p2)).trans p2, (HB5.out.cell (World.block_lt_of_cell? _ _ q0)).trans q0, (HB5.out.cell (World.block_lt_of_cell? _ _ q1)).trans q1, (HB5.out.cell (World.block_lt_of_cell? _ _ q2)).trans q2⟩
              clear hb5
              refine hK.out _ _ (fun _ => hT5) ?_
              clear hK K
              (try simp only [Act.put, List.setIfInBounds_toArray, List.set_cons_zero, List.set_cons_succ])
              refine M_take (v := ?_) 13 rfl (by kernel_rfl) (by assumption) (fun _ _ _ h => h) (Or.inl ⟨by rfl, ?_⟩) ?_
              rotate_left
              · (intro w hSw; (try dsimp only at hSw); go_simp; (try with_reducible rfl))
              (try simp only [Act.put, List.setIfInBounds_toArray, List.set_cons_zero, List.set_cons_succ])
              refine M_take (v := ?_) 14 rfl (by kernel_rfl) (by assumption) (fun _ _ _ h => h) (Or.inl ⟨by rfl, ?_⟩) ?_
              rotate_left
              · (intro w hSw; (try dsimp only at hSw); go_simp; (try with_reducible rfl))
              (try simp only [Act.put, List.setIfInBounds_toArray, List.set_cons_zero, List.set_cons_succ])
              refine M_take (v := ?_) 15 rfl (by kernel_rfl) (by assumption) (fun _ _ _ h => h) (Or.inl ⟨by rfl, ?_⟩) ?_
              rotate_left
              · (intro w hSw; (try dsimp only at hSw); go_simp; (try with_reducible rfl))
              (try simp only [Act.put, List.setIfInBounds_toArray, List.set_cons_zero, List.set_cons_succ])
              refine M_step 16 rfl (by kernel_rfl) (fun K hK => ?_)
              go_simp
              refine hK.out _ _ (fun _ => by assumption) ?_
              clear hK K
              (try simp only [Act.put, List.setIfInBounds_toArray, List.set_cons_zero, List.set_cons_succ])
              refine M_step 17 rfl (by kernel_rfl) (fun K hK => ?_)
              go_simp
              refine hK.out _ _ (fun _ => by assumption) ?_
              clear hK K
              (try simp only [Act.put, List.setIfInBounds_toArray, List.set_cons_zero, List.set_cons_succ])
              refine M_done (by kernel_rfl) ?_ _
              have wb := WB.out
              have HQ2 := Lib.hid fun k (hk : k < b + 1) => (Nat.lt_succ_iff_lt_or_eq.1 hk).elim (hQ.out k) (fun e => e ▸ hpr)
              clear hT5 hT0 c0 c1 c2 zC p0 p1 p2 q0 q1 q2
              go_wp2_with fail
              go_roundw
              case rel => exact ⟨b + 1, by omega, rfl, rfl, by go_num, HQ2, (nextB HB4.out HB5.out)⟩
              case measure => simp [intOf]; omega
            | false =>
              rw [hpr] at KA
              obtain rfl : G = false := by
                cases G with
                | false => rfl
                | true => exact absurd ((HG3.out.1 rfl) a b hlt hle) (by rw [hpr]; decide)
              go_wp2_with fail
              refine wp_region_M [] (fun w' => w'.cell? ⟨w.heap.size, 0, none⟩ = some (.slice c.d.RA c.d.n c.d.rc) ∧ w'.cell? ⟨w.heap.size, 1, none⟩ = some (.slice c.d.SA c.d.m c.d.sc) ∧ w'.cell? ⟨w.heap.size, 2, none⟩ = some (.slice (some am) c.m c.mc) ∧ w'.cell? (am.add (a * 3)) = some (.int .i64 f0) ∧ w'.cell? ⟨(am.add (a * 3)).block, (am.add (a * 3)).off + 1, none⟩ = some (.int .i64 f1) ∧ w'.cell? ⟨(am.add (a * 3)).block, (am.add (a * 3)).off + 2, none⟩ = some (.int .i64 f2) ∧ w'.cell? (am.add (b * 3)) = some (.int .i64 g0) ∧ w'.cell? ⟨(am.add (b * 3)).block, (am.add (b * 3)).off + 1, none⟩ = some (.int .i64 g1) ∧ w'.cell? ⟨(am.add (b * 3)).block, (am.add (b * 3)).off + 2, none⟩ = some (.int .i64 g2)) (by kernel_rfl) (by kernel_rfl) (by (try dsimp only); (repeat' apply And.intro); all_goals first | assumption | (go_simp; done)) (fun hT0 => ?_)
              refine M_take (v := ?_) 0 rfl (by kernel_rfl) (by assumption) (fun _ _ _ h => h) (Or.inl ⟨by rfl, ?_⟩) ?_
              rotate_left
              · (intro w hSw; (try dsimp only at hSw); go_simp; (try with_reducible rfl))
              (try simp only [Act.put, List.setIfInBounds_toArray, List.set_cons_zero, List.set_cons_succ])
              refine M_take (v := ?_) 1 rfl (by kernel_rfl) (by assumption) (fun _ _ _ h => h) (Or.inl ⟨by rfl, ?_⟩) ?_
              rotate_left
              · (intro w hSw; (try dsimp only at hSw); go_simp; (try with_reducible rfl))
              (try simp only [Act.put, List.setIfInBounds_toArray, List.set_cons_zero, List.set_cons_succ])
              refine M_take (v := ?_) 2 rfl (by kernel_rfl) (by assumption) (fun _ _ _ h => h) (Or.inl ⟨by rfl, ?_⟩) ?_
              rotate_left
              · (intro w hSw; (try dsimp only at hSw); go_simp; (try with_reducible rfl))
              (try simp only [Act.put, List.setIfInBounds_toArray, List.set_cons_zero, List.set_cons_succ])
              refine M_take (v := ?_) 3 rfl (by kernel_rfl) (by assumption) (fun _ _ _ h => h) (Or.inl ⟨by rfl, ?_⟩) ?_
              rotate_left
              · (intro w hSw; (try dsimp only at hSw); go_simp; (try with_reducible rfl))
              (try simp only [Act.put, List.setIfInBounds_toArray, List.set_cons_zero, List.set_cons_succ])
              refine M_take (v := ?_) 4 rfl (by kernel_rfl) (by assumption) (fun _ _ _ h => h) (Or.inl ⟨by rfl, ?_⟩) ?_
              rotate_left
              · (intro w hSw; (try dsimp only at hSw); go_simp; (try with_reducible rfl))
              (try simp only [Act.put, List.setIfInBounds_toArray, List.set_cons_zero, List.set_cons_succ])
              refine M_take (v := ?_) 5 rfl (by kernel_rfl) (by assumption) (fun _ _ _ h => h) (Or.inl ⟨by rfl, ?_⟩) ?_
              rotate_left
              · (intro w hSw; (try dsimp only at hSw); go_simp; (try with_reducible rfl))
              (try simp only [Act.put, List.setIfInBounds_toArray, List.set_cons_zero, List.set_cons_succ])
              refine M_take (v := ?_) 6 rfl (by kernel_rfl) (by assumption) (fun _ _ _ h => h) (Or.inl ⟨by rfl, ?_⟩) ?_
              rotate_left
              · (intro w hSw; (try dsimp only at hSw); go_simp; (try with_reducible rfl))
              (try simp only [Act.put, List.setIfInBounds_toArray, List.set_cons_zero, List.set_cons_succ])
              refine M_take (v := ?_) 7 rfl (by kernel_rfl) (by assumption) (fun _ _ _ h => h) (Or.inl ⟨by rfl, ?_⟩) ?_
              rotate_left
              · (intro w hSw; (try dsimp only at hSw); go_simp; (try with_reducible rfl))
              (try simp only [Act.put, List.setIfInBounds_toArray, List.set_cons_zero, List.set_cons_succ])
              refine M_take (v := ?_) 8 rfl (by kernel_rfl) (by assumption) (fun _ _ _ h => h) (Or.inl ⟨by rfl, ?_⟩) ?_
              rotate_left
              · (intro w hSw; (try dsimp only at hSw); go_simp; (try with_reducible rfl))
              (try simp only [Act.put, List.setIfInBounds_toArray, List.set_cons_zero, List.set_cons_succ])
              refine M_take (v := ?_) 9 rfl (by kernel_rfl) (by assumption) (fun _ _ _ h => h) (Or.inl ⟨by rfl, ?_⟩) ?_
              rotate_left
              · (intro w hSw; (try dsimp only at hSw); go_simp; (try with_reducible rfl))
              (try simp only [Act.put, List.setIfInBounds_toArray, List.set_cons_zero, List.set_cons_succ])
              refine M_take (v := ?_) 10 rfl (by kernel_rfl) (by assumption) (fun _ _ _ h => h) (Or.inl ⟨by rfl, ?_⟩) ?_
              rotate_left
              · (intro w hSw; (try dsimp only at hSw); go_simp; (try with_reducible rfl))
              (try simp only [Act.put, List.setIfInBounds_toArray, List.set_cons_zero, List.set_cons_succ])
              refine M_take (v := ?_) 11 rfl (by kernel_rfl) (by assumption) (fun _ _ _ h => h) (Or.inl ⟨by rfl, ?_⟩) ?_
              rotate_left
              · (intro w hSw; (try dsimp only at hSw); go_simp; (try with_reducible rfl))
              (try simp only [Act.put, List.setIfInBounds_toArray, List.set_cons_zero, List.set_cons_succ])
              refine M_step 12 rfl (by kernel_rfl) (fun K hK => ?_)
              go_simp
              go_at_call 27
              refine (KA.out _ (nextB D.out (Below.refl _ _).drew)).mono ?_
              rintro e w5 ⟨rfl, hb5⟩
              have HB5 := Lib.hid (show Below w4.heap.size w4 w5 from nextB (Below.refl _ _).drew hb5)
              have hT5 : (fun w' => w'.cell? ⟨w.heap.size, 0, none⟩ = some (.slice c.d.RA c.d.n c.d.rc) ∧ w'.cell? ⟨w.heap.size, 1, none⟩ = some (.slice c.d.SA c.d.m c.d.sc) ∧ w'.cell? ⟨w.heap.size, 2, none⟩ = some (.slice (some am) c.m c.mc) ∧ w'.cell? (am.add (a * 3)) = some (.int .i64 f0) ∧ w'.cell? ⟨(am.add (a * 3)).block, (am.add (a * 3)).off + 1, none⟩ = some (.int .i64 f1) ∧ w'.cell? ⟨(am.add (a * 3)).block, (am.add (a * 3)).off + 2, none⟩ = some (.int .i64 f2) ∧ w'.cell? (am.add (b * 3)) = some (.int .i64 g0) ∧ w'.cell? ⟨(am.add (b * 3)).block, (am.add (b * 3)).off + 1, none⟩ = some (.int .i64 g1) ∧ w'.cell? ⟨(am.add (b * 3)).block, (am.add (b * 3)).off + 2, none⟩ = some (.int .i64 g2)) w5 := ⟨(CT.out w5 HB5.out).1, (CT.out w5 HB5.out).2.1, (CT.out w5 HB5.out).2.2, (HB5.out.cell (World.block_lt_of_cell? _ _ p0)).trans p0, (HB5.out.cell (World.block_lt_of_cell? _ _ p1)).trans p1, (HB5.out.cell (World.block_lt_of_cell? _ _ p2)).trans p2, (HB5.out.cell (World.block_lt_of_cell? _ _ q0)).trans q0, (HB5.out.cell (World.block_lt_of_cell? _ _ q1)).trans q1, (HB5.out.cell (World.block_lt_of_cell? _ _ q2)).trans q2⟩
              clear hb5
              refine hK.out _ _ (fun _ => hT5) ?_
              clear hK K
              (try simp only [Act.put, List.setIfInBounds_toArray, List.set_cons_zero, List.set_cons_succ])
              refine M_take (v := ?_) 13 rfl (by kernel_rfl) (by assumption) (fun _ _ _ h => h) (Or.inl ⟨by rfl, ?_⟩) ?_
              rotate_left
              · (intro w hSw; (try dsimp only at hSw); go_simp; (try with_reducible rfl))
              (try simp only [Act.put, List.setIfInBounds_toArray, List.set_cons_zero, List.set_cons_succ])
              refine M_take (v := ?_) 14 rfl (by kernel_rfl) (by assumption) (fun _ _ _ h => h) (Or.inl ⟨by rfl, ?_⟩) ?_
              rotate_left
              · (intro w hSw; (try dsimp only at hSw); go_simp; (try with_reducible rfl))
              (try simp only [Act.put, List.setIfInBounds_toArray, List.set_cons_zero, List.set_cons_succ])
              refine M_take (v := ?_) 15 rfl (by kernel_rfl) (by assumption) (fun _ _ _ h => h) (Or.inl ⟨by rfl, ?_⟩) ?_
              rotate_left
              · (intro w hSw; (try dsimp only at hSw); go_simp; (try with_reducible rfl))
              (try simp only [Act.put, List.setIfInBounds_toArray, List.set_cons_zero, List.set_cons_succ])
              refine M_step 16 rfl (by kernel_rfl) (fun K hK => ?_)
              go_simp
              refine hK.out _ _ (fun _ => by assumption) ?_
              clear hK K
              (try simp only [Act.put, List.setIfInBounds_toArray, List.set_cons_zero, List.set_cons_succ])
              refine M_step 17 rfl (by kernel_rfl) (fun K hK => ?_)
              go_simp
              refine hK.out _ _ (fun _ => by assumption) ?_
              clear hK K
              (try simp only [Act.put, List.setIfInBounds_toArray, List.set_cons_zero, List.set_cons_succ])
              refine M_done (by kernel_rfl) ?_ _
              clear hT5 hT0 c0 c1 c2 zC p0 p1 p2 q0 q1 q2
              go_wp2_with fail
              go_ret
              exact ⟨rfl, nextB D.out HB5.out⟩
          · obtain rfl : b = a + 1 := by omega
            have hbi : ¬ ((a : Int) + 1 ≤ (a : Int)) := by omega
            have wa : IntKind.i64.wrap ((a : Int) + 1) = ((a + 1 : Nat) : Int) := by rw [show ((a : Int) + 1) = ((a + 1 : Nat) : Int) by omega]; exact IntWalk.i64_in _ (by omega)
            have HP2 := Lib.hid fun i k (hi : i < a + 1) (hk : k ≤ i) => (Nat.lt_succ_iff_lt_or_eq.1 hi).elim (fun h => hP.out i k h hk) (fun e => by subst e; exact hQ.out k (by omega))
            go_wp2_with fail
            go_roundw
            case rel => exact ⟨a + 1, by omega, rfl, rfl, by go_num, HP2, (nextB HB3.out HB4.out)⟩
            case measure => simp [intOf]; omega
      · obtain rfl : a = c.m := by omega
        have hai : ¬ ((c.m : Int) < (c.m : Int)) := by omega
        obtain rfl : G = true := HG3.out.2 hP.out
        go_wp2_with fail
        go_ret
        exact ⟨rfl, D.out⟩
theorem pair3_rdg {d : Drm} {F : Nat → Int × Int × Int} {i k : Nat} {T : Nat → Int} (h : Rdg d.n (gapF d) 2 (pair3 (F i) (F k)) T) : Rdg d.n (gapF d) 0 F T ∧ hasP (F i).2 (T (F i).1.toNat) ∧ hasP (F k).2 (T (F k).1.toNat) :=
  ⟨⟨h.tick, h.gap, fun i hi => by omega⟩, h.mark 0 (by omega), h.mark 1 (by omega)⟩
/-- with all marks, or two by two -/
theorem two_by_two {d : Drm} {m : Nat} {F : Nat → Int × Int × Int} : (∃ T, Rdg d.n (gapF d) m F T) ↔ (∃ T, Rdg d.n (gapF d) 0 F T) ∧ ∀ i k, i < m → k ≤ i → ∃ T, Rdg d.n (gapF d) 2 (pair3 (F i) (F k)) T := by
  constructor
  · rintro ⟨T, hT⟩
    refine ⟨⟨T, hT.tick, hT.gap, fun i hi => by omega⟩, fun i k hi hk => ⟨T, hT.tick, hT.gap, fun j _ => ?_⟩⟩
    unfold pair3
    by_cases e : j = 0
    · simp only [if_pos e]; exact hT.mark i hi
    · simp only [if_neg e]; exact hT.mark k (by omega)
  · rintro ⟨h0, h⟩
    refine rdg_two h0 fun i j hi hj => ?_
    by_cases e : j ≤ i
    · obtain ⟨T, hT⟩ := h i j hi e
      exact ⟨T, pair3_rdg hT⟩
    · obtain ⟨T, hT⟩ := h j i hj (by omega)
      obtain ⟨k1, k2, k3⟩ := pair3_rdg hT
      exact ⟨T, k1, k3, k2⟩
theorem rls_len {x : List Int} {v : Value} {W : World} (h : RlS 0 x #[v] (fun _ => False) W) : ∃ A k, v = .slice A x.length k := by
  obtain ⟨A, c, e, _⟩ := h
  exact ⟨A, c, by injection e with e; injection e⟩
set_option maxRecDepth 100000 in
set_option maxHeartbeats 4000000 in
theorem two_law (c : Clo) (w : World) (hc : ClIn c w.heap.size w) :
    Calls Try.prog 9 #[c.v] w fun e w' => e = .returned (.bool true) ∧ Below w.heap.size w w' := by
  have CC : Hid (∀ W, Below w.heap.size w W → ClIn c W.heap.size W) := Lib.hid fun W h => (hc.up h (Nat.le_refl _)).more h.size
  obtain ⟨G, hG⟩ := few_ex c
  have HG := Lib.hid hG
  clear hc hG
  go_enter Try.func9, Try.ntmps9
  go_wp2_with fail
  refine (awake_any _).mono ?_
  rintro e w2 ⟨rfl, hb⟩
  have D := Lib.hid (nextB (box1 w (cloO c)) hb)
  have C : Hid (HasCl c w.heap.size w2) := Lib.hid ((cl_new w c).up hb)
  clear hb
  obtain ⟨c0, c1, c2⟩ := C.out
  have zC := C.out.lt
  go_wp2_with fail
  refine (few_any c G _ HG.out).mono ?_
  rintro e w3 ⟨rfl, hb⟩
  have J := Lib.hid (hb)
  have D := Lib.hid (nextB D.out J.out)
  clear c0 c1 c2 zC
  have C := Lib.hid (C.out.up J.out)
  clear hb
  obtain ⟨c0, c1, c2⟩ := C.out
  have zC := C.out.lt
  cases G with
  | false =>
    go_wp2_with fail
    go_ret
    exact ⟨rfl, D.out⟩
  | true =>
    clear HG
    obtain ⟨E0, hE0⟩ := chR_ex c.d c.m c.F
    by_cases hz : E0 = 0
    · clear c0 c1 c2 zC
      subst hz
      obtain ⟨hd, hk⟩ : DrOk c.d ∧ MksOk c.d c.m c.F := by
        rcases hE0 with ⟨h, _⟩ | ⟨h, _⟩ | ⟨_, h⟩
        · omega
        · omega
        · exact h
      obtain ⟨R, hR⟩ := bool_of (∃ T, Rdg c.d.n (gapF c.d) c.m c.F T)
      obtain ⟨R0, h0⟩ := bool_of (∃ T, Rdg c.d.n (gapF c.d) 0 c.F T)
      obtain ⟨pr, hp⟩ : ∃ pr : Nat → Nat → Bool, ∀ i k, pr i k = true ↔ ∃ T, Rdg c.d.n (gapF c.d) 2 (pair3 (c.F i) (c.F k)) T := ⟨fun i k => Classical.choose (bool_of _), fun i k => Classical.choose_spec (bool_of (∃ T, Rdg c.d.n (gapF c.d) 2 (pair3 (c.F i) (c.F k)) T))⟩
      have hRG : R = true ↔ R0 = true ∧ ∀ i k, i < c.m → k ≤ i → pr i k = true := by
        rw [hR, two_by_two, h0]
        exact ⟨fun h => ⟨h.1, fun i k hi hk => (hp i k).2 (h.2 i k hi hk)⟩, fun h => ⟨h.1, fun i k hi hk => (hp i k).1 (h.2 i k hi hk)⟩⟩
      have K1 := Lib.hid fun W h => Feasible_any c.d c.MA c.m c.mc c.F R 0 W (CC.out W h).1 (CC.out W h).2 (.inr ⟨rfl, hd, hk, hR⟩)
      have K3 := Lib.hid fun W h => pairs_any c R0 pr R W (CC.out W h) hd hk h0 (fun i k _ _ => hp i k) hRG
      obtain ⟨L, hL⟩ := conR_ex c.d c.m c.F
      have hnil := con_nil hL
      cases R with
      | true =>
        have hL0 : L = [] := hnil.2 (hR.1 rfl)
        have K2 := Lib.hid fun W h => Contradiction_any c.d c.MA c.m c.mc c.F [] 3 W (CC.out W h).1 (CC.out W h).2 (.inr ⟨hd, hk, L, hL, .inl ⟨hL0, rfl, rfl⟩⟩)
        clear hE0 hd hk hR h0 hp hRG hL hnil hL0
        obtain ⟨c0, c1, c2⟩ := C.out
        have zC := C.out.lt
        go_wp2_with fail
        refine (K1.out _ D.out).mono ?_
        rintro e w4 ⟨rfl, hb⟩
        have J := Lib.hid (hb)
        have D := Lib.hid (nextB D.out J.out)
        clear c0 c1 c2 zC
        have C := Lib.hid (C.out.up J.out)
        clear hb
        obtain ⟨c0, c1, c2⟩ := C.out
        have zC := C.out.lt
        go_wp2_with fail
        refine (K2.out _ D.out).mono ?_
        rintro e w5 ⟨v, rfl, hv, hb⟩
        have J := Lib.hid (hb)
        have D := Lib.hid (nextB D.out J.out)
        clear c0 c1 c2 zC
        have C := Lib.hid (C.out.up J.out)
        clear hv
        clear hb
        obtain ⟨c0, c1, c2⟩ := C.out
        have zC := C.out.lt
        go_wp2_with fail
        refine (K3.out _ D.out).mono ?_
        rintro e w6 ⟨rfl, hb⟩
        have J := Lib.hid (hb)
        have D := Lib.hid (nextB D.out J.out)
        clear c0 c1 c2 zC
        have C := Lib.hid (C.out.up J.out)
        clear hb
        obtain ⟨c0, c1, c2⟩ := C.out
        have zC := C.out.lt
        go_wp2_with fail
        go_ret
        exact ⟨rfl, D.out⟩
      | false =>
        obtain ⟨y, L', rfl⟩ : ∃ y L', L = y :: L' := by
          cases L with
          | nil => exact absurd (hR.2 (hnil.1 rfl)) (by decide)
          | cons y L' => exact ⟨y, L', rfl⟩
        have hlen : y.length ≤ 2 := by
          obtain ⟨r0, al, pr2, e, _⟩ := hL
          exact con_two r0 al pr2 c.m y (by rw [← e]; simp)
        have K2 := Lib.hid fun W h => Contradiction_any c.d c.MA c.m c.mc c.F y 0 W (CC.out W h).1 (CC.out W h).2 (.inr ⟨hd, hk, _, hL, .inr ⟨rfl, rfl⟩⟩)
        have d1 : decide ((y.length : Int) ≤ 2) = true := by simp only [decide_eq_true_eq]; omega
        have d2 : decide (y.length ≤ 2) = true := decide_eq_true hlen
        clear hE0 hd hk hR h0 hp hRG hL hnil hlen
        obtain ⟨c0, c1, c2⟩ := C.out
        have zC := C.out.lt
        go_wp2_with fail
        refine (K1.out _ D.out).mono ?_
        rintro e w4 ⟨rfl, hb⟩
        have J := Lib.hid (hb)
        have D := Lib.hid (nextB D.out J.out)
        clear c0 c1 c2 zC
        have C := Lib.hid (C.out.up J.out)
        clear hb
        obtain ⟨c0, c1, c2⟩ := C.out
        have zC := C.out.lt
        go_wp2_with fail
        refine (K2.out _ D.out).mono ?_
        rintro e w5 ⟨v, rfl, hv, hb⟩
        have J := Lib.hid (hb)
        have D := Lib.hid (nextB D.out J.out)
        clear c0 c1 c2 zC
        have C := Lib.hid (C.out.up J.out)
        obtain ⟨Av, kv, rfl⟩ := rls_len hv
        clear hv
        clear hb
        obtain ⟨c0, c1, c2⟩ := C.out
        have zC := C.out.lt
        generalize y.length = ly at *
        go_wp2_with fail
        refine (K3.out _ D.out).mono ?_
        rintro e w6 ⟨rfl, hb⟩
        have J := Lib.hid (hb)
        have D := Lib.hid (nextB D.out J.out)
        clear c0 c1 c2 zC
        have C := Lib.hid (C.out.up J.out)
        clear hb
        obtain ⟨c0, c1, c2⟩ := C.out
        have zC := C.out.lt
        go_wp2_with fail
        go_ret
        exact ⟨rfl, D.out⟩
    · clear c0 c1 c2 zC
      have hE2 : E0 = 20 ∨ E0 = 21 := by rcases hE0 with ⟨h, _⟩ | ⟨h, _⟩ | ⟨h, _⟩ <;> omega
      have hn1 : (E0 != 0) = true := by simpa using hz
      have K1 := Lib.hid fun W h => Feasible_any c.d c.MA c.m c.mc c.F false E0 W (CC.out W h).1 (CC.out W h).2 (.inl ⟨hE2, rfl, hE0⟩)
      have K2 := Lib.hid fun W h => Contradiction_any c.d c.MA c.m c.mc c.F [] E0 W (CC.out W h).1 (CC.out W h).2 (.inl ⟨hE2, rfl, hE0⟩)
      clear hE0 hE2 hz
      obtain ⟨c0, c1, c2⟩ := C.out
      have zC := C.out.lt
      go_wp2_with fail
      refine (K1.out _ D.out).mono ?_
      rintro e w4 ⟨rfl, hb⟩
      have J := Lib.hid (hb)
      have D := Lib.hid (nextB D.out J.out)
      clear c0 c1 c2 zC
      have C := Lib.hid (C.out.up J.out)
      clear hb
      obtain ⟨c0, c1, c2⟩ := C.out
      have zC := C.out.lt
      go_wp2_with fail
      refine (K2.out _ D.out).mono ?_
      rintro e w5 ⟨v, rfl, hv, hb⟩
      have J := Lib.hid (hb)
      have D := Lib.hid (nextB D.out J.out)
      clear c0 c1 c2 zC
      have C := Lib.hid (C.out.up J.out)
      clear hv
      clear hb
      obtain ⟨c0, c1, c2⟩ := C.out
      have zC := C.out.lt
      go_wp2_with fail
      go_ret
      exact ⟨rfl, D.out⟩
end Go.Proofs.Ytpikaohodieeaaa
