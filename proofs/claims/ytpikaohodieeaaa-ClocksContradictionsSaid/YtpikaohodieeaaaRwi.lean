/- The specification's with, With and Run. -/
import Derived.Test.YtpikaohodieeaaaRrd
import Derived.Maps.AppendAt
namespace Go.Proofs.Ytpikaohodieeaaa
open Go.RowKit
set_option linter.unusedSimpArgs false
set_option linter.unusedVariables false
theorem step_app_run {ops : Array Oper} {o : Oper} {a : Act} {w : World} {K : Act → World → Prop} {Q : Exit → Act → World → Prop} {E : Prop} (hgd : o.guard = none) (s x : Operand) (t : TypeId)
    (ho : o.op = .call { callee := .builtin .append, args := #[s, x], argTypes := #[t, t] }) (vs vx : Value) (hs : a.eval s = vs) (hx : a.eval x = vx) (v' : Value) (w' : World)
    (hr : (Builtin.append_ #[t, t] o.type #[vs, vx]).run Try.prog w = .ok v' w') (hK : K (a.put o.dst v') w') :
    if Region.wanted o (yielded ops a.tmps) = true then Oper.wp Try.prog o a w K Q else E := by
  have hw : Region.wanted o (yielded ops a.tmps) = true := by simp [Region.wanted, hgd]
  rw [if_pos hw]
  unfold Oper.wp
  simp [execOp, ho, resolve, invoke, builtin, hs, hx, hr, Result.andThen]
  exact hK
theorem grown_refl (w : World) (r : Option Nat) : w.grownBy w r := ⟨rfl, rfl, rfl, Nat.le_refl _, fun _ _ _ => rfl⟩
theorem TrsIn.row {b n B : Nat} {F : Nat → Int × Int × Int} {w w' : World} {r : Option Nat} (h : TrsIn (some ⟨b, 0, none⟩) n F B w) (hg : w.grownBy w' r) (hb : b < w.heap.size) (hne : some b ≠ r) : TrsIn (some ⟨b, 0, none⟩) n F w'.heap.size w' :=
  ⟨h.1, fun i hi => by
    obtain ⟨a, e, hl, h1, h2, h3⟩ := h.2 i hi
    cases e
    have hs := hg.size
    refine ⟨_, rfl, by show b < _; omega, ?_, cell_row hg (by simp only [add_block]; exact hb) (by simp only [add_block]; exact hne) h2, cell_row hg (by simp only [add_block]; exact hb) (by simp only [add_block]; exact hne) h3⟩
    rw [Addr.add_lit] at h1 ⊢
    exact cell_row hg hb hne h1⟩
theorem own_some {w : World} {B n s : Nat} {e : TypeId} {v : Value} {xs : List Value} (h : w.ownsRow B e s v n xs) (hne : v ≠ .slice none 0 0) : ∃ g cap, v = .slice (some ⟨g, 0, none⟩) n cap := by
  obtain ⟨_, ⟨f, _⟩ | ⟨g, cap, cur, f1, _⟩⟩ := h
  · exact absurd f hne
  · exact ⟨g, cap, f1⟩
theorem run_none_mark (w : World) (ty : TypeId) (g l cap c : Nat) (h : l ≤ cap) : (Builtin.append_ #[26, 26] ty #[.slice (some ⟨g, 0, none⟩) l cap, .slice none 0 c]).run Try.prog w = .ok (.slice (some ⟨g, 0, none⟩) l cap) w := by
  obtain ⟨i0, hi0, hz0, hz1, hz2⟩ := info_parts Try.infoMark
  simp [Builtin.append_, run_underlying Try.underlying26, Builtin.lenOf, Builtin.firstCells, sizeOf, typeInfo, hi0, hz1, h, storeCells]
theorem app_mark {V : World} {B : Nat} {v : Value} {n m c : Nat} {xs : List Value} {A : Option Addr} {F : Nat → Int × Int × Int} (hown : V.ownsRow B 33 3 v n xs) (hne : v ≠ .slice none 0 0) (hA : TrsIn A m F V.heap.size V) (hn : n + m ≤ 1000) (hB : B ≤ V.heap.size) (ty : TypeId) :
    ∃ v' V', (Builtin.append_ #[26, 26] ty #[v, .slice A m c]).run Try.prog V = .ok v' V' ∧ V'.ownsRow B 33 3 v' (n + m) (xs ++ rowT F m) ∧ V.grownBy V' v.ownBlock ∧ v' ≠ .slice none 0 0 ∧ (v'.ownBlock = v.ownBlock ∨ v'.ownBlock = some V.heap.size) := by
  obtain ⟨i0, hi0, hz0, hz1, hz2⟩ := info_parts Try.infoMark
  cases A with
  | none =>
    have hm : m = 0 := by
      by_cases e : m = 0
      · exact e
      · obtain ⟨a, ea, _⟩ := hA.2 0 (by omega)
        cases ea
    subst hm
    obtain ⟨h0, ⟨f, _⟩ | ⟨g, cap, cur, f1, f2, f3, f4⟩⟩ := id hown
    · exact absurd f hne
    · subst f1
      refine ⟨_, V, run_none_mark V ty g n cap c f4.1, ?_, grown_refl _ _, hne, .inl rfl⟩
      rw [Nat.add_zero, show rowT F 0 = [] from rfl, List.append_nil]
      exact hown
  | some ad =>
    obtain ⟨v', V', h1, h2, h3, h4, h5⟩ := run_append_own_at (P := Try.prog) (w := V) B 26 ty 33 i0 (.agg #[.int .i64 0, .int .i64 0, .int .i64 0]) 3 24 Try.underlying26 hi0 hz0 hz1 hz2 rfl (by decide) v n xs hown ad m c (rowT F m) (rowT_len _ _) (rowT_at hA rfl) (rowT_one _ _) (by unfold maxLen; omega) (by omega) hB
    exact ⟨v', V', h1, h2, h3, fun e => hne (h4.1 e).1, h5⟩
set_option maxRecDepth 100000 in
set_option maxHeartbeats 4000000 in
theorem Rwith_any (A : Option Addr) (m c : Nat) (F : Nat → Int × Int × Int) (x0 x1 x2 : Int) (w : World) (hA : TrsIn A m F w.heap.size w) (hm5 : m ≤ 500) :
    Calls Try.prog 96 #[.slice A m c, .agg #[.int .i64 x0, .int .i64 x1, .int .i64 x2]] w fun e w' => ∃ B kc, e = .returned (.slice B (m + 1) kc) ∧ TrsIn B (m + 1) (catF m F fun _ => (x0, x1, x2)) w'.heap.size w' ∧ Below w.heap.size w w' := by
  have MM : Hid (∀ W, Below w.heap.size w W → TrsIn A m F W.heap.size W) := Lib.hid fun W h => (hA.up h (Nat.le_refl _)).more h.size
  obtain ⟨w1, hw1⟩ : ∃ w1 : World, w1 = w.alloc (.cells #[.int .i64 x0, .int .i64 x1, .int .i64 x2] 33) := ⟨_, rfl⟩
  have HB1 : Hid (Below w.heap.size w w1) := Lib.hid (by rw [hw1]; exact box1 _ _)
  have t1 : Tr3 (x0, x1, x2) w.heap.size w1 := by rw [hw1]; exact tr3_new _ (x0, x1, x2) _
  have TC : Hid (∀ W, Below w1.heap.size w1 W → W.cell? ⟨w.heap.size, 0, none⟩ = some (.int .i64 x0) ∧ W.cell? ⟨w.heap.size, 1, none⟩ = some (.int .i64 x1) ∧ W.cell? ⟨w.heap.size, 2, none⟩ = some (.int .i64 x2)) := Lib.hid fun W h => t1.up h
  obtain ⟨c0, c1, c2⟩ := t1
  have HW := Lib.hid hw1
  clear hA hw1
  go_enter Try.func96, Try.ntmps96
  go_wp2_with fail
  rw [← HW.out]
  refine wp_region_M [] (fun w' => w'.cell? ⟨w.heap.size, 0, none⟩ = some (.int .i64 x0) ∧ w'.cell? ⟨w.heap.size, 1, none⟩ = some (.int .i64 x1) ∧ w'.cell? ⟨w.heap.size, 2, none⟩ = some (.int .i64 x2)) (by kernel_rfl) (by kernel_rfl) (by (try dsimp only); (repeat' apply And.intro); all_goals first | assumption | (go_simp; done)) (fun hT0 => ?_)
  refine M_take (v := ?_) 1 rfl (by kernel_rfl) (by assumption) (fun _ _ _ h => h) (Or.inl ⟨by rfl, ?_⟩) ?_
  rotate_left
  · (intro w hSw; (try dsimp only at hSw); go_simp; (try with_reducible rfl))
  (try simp only [Act.put, List.setIfInBounds_toArray, List.set_cons_zero, List.set_cons_succ])
  refine M_take (v := ?_) 3 rfl (by kernel_rfl) (by assumption) (fun _ _ _ h => h) (Or.inl ⟨by rfl, ?_⟩) ?_
  rotate_left
  · (intro w hSw; (try dsimp only at hSw); go_simp; (try with_reducible rfl))
  (try simp only [Act.put, List.setIfInBounds_toArray, List.set_cons_zero, List.set_cons_succ])
  refine M_fork 0 4 rfl rfl (by kernel_rfl) (fun K hK => ?_) (fun K hK => ?_)
  · go_simp
    have D1 := Lib.hid (show Below w1.heap.size w1 (w1.drew.alloc (.cells #[] 33)) from nextB (show Below w1.heap.size w1 w1.drew from (Below.refl _ _).drew) (box1 _ _))
    have hown1 : (w1.drew.alloc (.cells #[] 33)).ownsRow w1.heap.size 33 3 (.slice (some ⟨w1.drew.heap.size, 0, none⟩) 0 0) 0 [] := own_mono (own_empty w1.drew _ _) (show Below w1.heap.size w1 w1.drew from (Below.refl _ _).drew).size
    have hT1 : (fun w' => w'.cell? ⟨w.heap.size, 0, none⟩ = some (.int .i64 x0) ∧ w'.cell? ⟨w.heap.size, 1, none⟩ = some (.int .i64 x1) ∧ w'.cell? ⟨w.heap.size, 2, none⟩ = some (.int .i64 x2)) (w1.drew.alloc (.cells #[] 33)) := TC.out _ D1.out
    refine hK.out _ _ (fun _ => hT1) ?_
    clear hK K
    (try simp only [Act.put, List.setIfInBounds_toArray, List.set_cons_zero, List.set_cons_succ])
    refine M_fork 2 4 rfl rfl (by kernel_rfl) (fun K hK => ?_) (fun K hK => ?_)
    · obtain ⟨v7, W2, hrun, hown2, hg2, hne2, _⟩ := app_mark (c := c) hown1 (by intro e; cases e) (MM.out _ (nextB HB1.out (D1.out))) (by omega) (D1.out).size 26
      refine step_app_run rfl (.tmp 5) (.tmp 6) 26 rfl _ _ (by simp [Act.eval]; first | done | rfl) (by simp [Act.eval]; first | done | rfl) v7 W2 hrun ?_
      have D2 := Lib.hid (Below.grown (D1.out) hg2 (D1.out).size (fun r e => (own_block hown1 e).1))
      have hT2 : (fun w' => w'.cell? ⟨w.heap.size, 0, none⟩ = some (.int .i64 x0) ∧ w'.cell? ⟨w.heap.size, 1, none⟩ = some (.int .i64 x1) ∧ w'.cell? ⟨w.heap.size, 2, none⟩ = some (.int .i64 x2)) W2 := TC.out _ D2.out
      refine hK.out _ _ (fun _ => hT2) ?_
      clear hK K
      (try simp only [Act.put, List.setIfInBounds_toArray, List.set_cons_zero, List.set_cons_succ])
      refine M_step 4 rfl (by kernel_rfl) (fun K hK => ?_)
      go_simp
      have D3 := Lib.hid (show Below w1.heap.size w1 (W2.alloc (.cells #[.int .i64 x0, .int .i64 x1, .int .i64 x2] 33)) from nextB (D2.out) (box1 _ _))
      have hown3 := (hown2).alloc (.cells #[.int .i64 x0, .int .i64 x1, .int .i64 x2] 33)
      have hx3 : TrsIn (some ⟨W2.heap.size, 0, none⟩) 1 (fun _ => (x0, x1, x2)) (W2.alloc (.cells #[.int .i64 x0, .int .i64 x1, .int .i64 x2] 33)).heap.size (W2.alloc (.cells #[.int .i64 x0, .int .i64 x1, .int .i64 x2] 33)) := trs_one (tr3_new W2 (x0, x1, x2) _)
      have hT3 : (fun w' => w'.cell? ⟨w.heap.size, 0, none⟩ = some (.int .i64 x0) ∧ w'.cell? ⟨w.heap.size, 1, none⟩ = some (.int .i64 x1) ∧ w'.cell? ⟨w.heap.size, 2, none⟩ = some (.int .i64 x2)) (W2.alloc (.cells #[.int .i64 x0, .int .i64 x1, .int .i64 x2] 33)) := TC.out _ D3.out
      refine hK.out _ _ (fun _ => hT3) ?_
      clear hK K
      (try simp only [Act.put, List.setIfInBounds_toArray, List.set_cons_zero, List.set_cons_succ])
      refine M_step 5 rfl (by kernel_rfl) (fun K hK => ?_)
      obtain ⟨v8, W4, hrun8, hown4, hg4, hne4, _⟩ := app_mark (c := 1) hown3 hne2 hx3 (by omega) (D3.out).size 26
      refine step_app_run rfl (.tmp 7) (.tmp 9) 26 rfl _ _ (by simp [Act.eval]; first | done | rfl) (by simp [Act.eval]; first | done | rfl) v8 W4 hrun8 ?_
      have D4 := Lib.hid (Below.grown (D3.out) hg4 (D3.out).size (fun r e => (own_block hown3 e).1))
      rw [Nat.zero_add, List.nil_append] at hown4
      obtain ⟨g, cap, rfl, hm3⟩ : ∃ g cap, v8 = .slice (some ⟨g, 0, none⟩) (m + 1) cap ∧ TrsIn (some ⟨g, 0, none⟩) (m + 1) (catF m F fun _ => (x0, x1, x2)) W4.heap.size W4 := by
        obtain ⟨g, cap, e⟩ := own_some hown4 hne4
        subst e
        refine ⟨g, cap, rfl, row_trs (B := w1.heap.size) (t := 33) (cap := cap) ?_ (by omega)⟩
        rw [rowT_cat]
        exact hown4
      have HM3 := Lib.hid hm3
      have hT4 : (fun w' => w'.cell? ⟨w.heap.size, 0, none⟩ = some (.int .i64 x0) ∧ w'.cell? ⟨w.heap.size, 1, none⟩ = some (.int .i64 x1) ∧ w'.cell? ⟨w.heap.size, 2, none⟩ = some (.int .i64 x2)) W4 := TC.out _ D4.out
      refine hK.out _ _ (fun _ => hT4) ?_
      clear hK K hm3
      (try simp only [Act.put, List.setIfInBounds_toArray, List.set_cons_zero, List.set_cons_succ])
      refine M_step 6 rfl (by kernel_rfl) (fun K hK => ?_)
      go_simp
      refine hK.out _ _ (fun _ => by assumption) ?_
      clear hK K
      (try simp only [Act.put, List.setIfInBounds_toArray, List.set_cons_zero, List.set_cons_succ])
      refine M_done (by kernel_rfl) ?_ _
      clear hT0
      go_wp2_with fail
      go_ret
      have HDD := Lib.hid (nextB HB1.out (D4.out))
      first | exact ⟨_, _, rfl, HM3.out, HDD.out⟩ | exact ⟨_, _, HM3.out, HDD.out⟩ | exact ⟨_, HM3.out, HDD.out⟩ | exact ⟨_, ⟨_, rfl⟩, HM3.out, HDD.out⟩
    · go_simp
      have D2 := Lib.hid (show Below w1.heap.size w1 ((w1.drew.alloc (.cells #[] 33)).alloc (.cells #[.int .i64 x0, .int .i64 x1, .int .i64 x2] 33)) from nextB (D1.out) (box1 _ _))
      have hown2 := (hown1).alloc (.cells #[.int .i64 x0, .int .i64 x1, .int .i64 x2] 33)
      have hx2 : TrsIn (some ⟨(w1.drew.alloc (.cells #[] 33)).heap.size, 0, none⟩) 1 (fun _ => (x0, x1, x2)) ((w1.drew.alloc (.cells #[] 33)).alloc (.cells #[.int .i64 x0, .int .i64 x1, .int .i64 x2] 33)).heap.size ((w1.drew.alloc (.cells #[] 33)).alloc (.cells #[.int .i64 x0, .int .i64 x1, .int .i64 x2] 33)) := trs_one (tr3_new (w1.drew.alloc (.cells #[] 33)) (x0, x1, x2) _)
      have hT2 : (fun w' => w'.cell? ⟨w.heap.size, 0, none⟩ = some (.int .i64 x0) ∧ w'.cell? ⟨w.heap.size, 1, none⟩ = some (.int .i64 x1) ∧ w'.cell? ⟨w.heap.size, 2, none⟩ = some (.int .i64 x2)) ((w1.drew.alloc (.cells #[] 33)).alloc (.cells #[.int .i64 x0, .int .i64 x1, .int .i64 x2] 33)) := TC.out _ D2.out
      refine hK.out _ _ (fun _ => hT2) ?_
      clear hK K
      (try simp only [Act.put, List.setIfInBounds_toArray, List.set_cons_zero, List.set_cons_succ])
      refine M_step 2 rfl (by kernel_rfl) (fun K hK => ?_)
      obtain ⟨v7, W3, hrun, hown3, hg3, hne3, _⟩ := app_mark (c := c) hown2 (by intro e; cases e) (MM.out _ (nextB HB1.out (D2.out))) (by omega) (D2.out).size 26
      refine step_app_run rfl (.tmp 5) (.tmp 6) 26 rfl _ _ (by simp [Act.eval]; first | done | rfl) (by simp [Act.eval]; first | done | rfl) v7 W3 hrun ?_
      have D3 := Lib.hid (Below.grown (D2.out) hg3 (D2.out).size (fun r e => (own_block hown2 e).1))
      have hx3 := TrsIn.row hx2 hg3 (by simp only [World.size_alloc, World.size_drew]; omega) (by intro e; simp [Value.ownBlock] at e)
      have hT3 : (fun w' => w'.cell? ⟨w.heap.size, 0, none⟩ = some (.int .i64 x0) ∧ w'.cell? ⟨w.heap.size, 1, none⟩ = some (.int .i64 x1) ∧ w'.cell? ⟨w.heap.size, 2, none⟩ = some (.int .i64 x2)) W3 := TC.out _ D3.out
      refine hK.out _ _ (fun _ => hT3) ?_
      clear hK K
      (try simp only [Act.put, List.setIfInBounds_toArray, List.set_cons_zero, List.set_cons_succ])
      refine M_step 5 rfl (by kernel_rfl) (fun K hK => ?_)
      obtain ⟨v8, W4, hrun8, hown4, hg4, hne4, _⟩ := app_mark (c := 1) hown3 hne3 hx3 (by omega) (D3.out).size 26
      refine step_app_run rfl (.tmp 7) (.tmp 9) 26 rfl _ _ (by simp [Act.eval]; first | done | rfl) (by simp [Act.eval]; first | done | rfl) v8 W4 hrun8 ?_
      have D4 := Lib.hid (Below.grown (D3.out) hg4 (D3.out).size (fun r e => (own_block hown3 e).1))
      rw [Nat.zero_add, List.nil_append] at hown4
      obtain ⟨g, cap, rfl, hm3⟩ : ∃ g cap, v8 = .slice (some ⟨g, 0, none⟩) (m + 1) cap ∧ TrsIn (some ⟨g, 0, none⟩) (m + 1) (catF m F fun _ => (x0, x1, x2)) W4.heap.size W4 := by
        obtain ⟨g, cap, e⟩ := own_some hown4 hne4
        subst e
        refine ⟨g, cap, rfl, row_trs (B := w1.heap.size) (t := 33) (cap := cap) ?_ (by omega)⟩
        rw [rowT_cat]
        exact hown4
      have HM3 := Lib.hid hm3
      have hT4 : (fun w' => w'.cell? ⟨w.heap.size, 0, none⟩ = some (.int .i64 x0) ∧ w'.cell? ⟨w.heap.size, 1, none⟩ = some (.int .i64 x1) ∧ w'.cell? ⟨w.heap.size, 2, none⟩ = some (.int .i64 x2)) W4 := TC.out _ D4.out
      refine hK.out _ _ (fun _ => hT4) ?_
      clear hK K hm3
      (try simp only [Act.put, List.setIfInBounds_toArray, List.set_cons_zero, List.set_cons_succ])
      refine M_step 6 rfl (by kernel_rfl) (fun K hK => ?_)
      go_simp
      refine hK.out _ _ (fun _ => by assumption) ?_
      clear hK K
      (try simp only [Act.put, List.setIfInBounds_toArray, List.set_cons_zero, List.set_cons_succ])
      refine M_done (by kernel_rfl) ?_ _
      clear hT0
      go_wp2_with fail
      go_ret
      have HDD := Lib.hid (nextB HB1.out (D4.out))
      first | exact ⟨_, _, rfl, HM3.out, HDD.out⟩ | exact ⟨_, _, HM3.out, HDD.out⟩ | exact ⟨_, HM3.out, HDD.out⟩ | exact ⟨_, ⟨_, rfl⟩, HM3.out, HDD.out⟩
  · go_simp
    have D1 := Lib.hid (show Below w1.heap.size w1 (w1.drew.alloc (.cells #[.int .i64 x0, .int .i64 x1, .int .i64 x2] 33)) from nextB (show Below w1.heap.size w1 w1.drew from (Below.refl _ _).drew) (box1 _ _))
    have hx1 : TrsIn (some ⟨w1.drew.heap.size, 0, none⟩) 1 (fun _ => (x0, x1, x2)) (w1.drew.alloc (.cells #[.int .i64 x0, .int .i64 x1, .int .i64 x2] 33)).heap.size (w1.drew.alloc (.cells #[.int .i64 x0, .int .i64 x1, .int .i64 x2] 33)) := trs_one (tr3_new w1.drew (x0, x1, x2) _)
    have hT1 : (fun w' => w'.cell? ⟨w.heap.size, 0, none⟩ = some (.int .i64 x0) ∧ w'.cell? ⟨w.heap.size, 1, none⟩ = some (.int .i64 x1) ∧ w'.cell? ⟨w.heap.size, 2, none⟩ = some (.int .i64 x2)) (w1.drew.alloc (.cells #[.int .i64 x0, .int .i64 x1, .int .i64 x2] 33)) := TC.out _ D1.out
    refine hK.out _ _ (fun _ => hT1) ?_
    clear hK K
    (try simp only [Act.put, List.setIfInBounds_toArray, List.set_cons_zero, List.set_cons_succ])
    refine M_step 0 rfl (by kernel_rfl) (fun K hK => ?_)
    go_simp
    have D2 := Lib.hid (show Below w1.heap.size w1 ((w1.drew.alloc (.cells #[.int .i64 x0, .int .i64 x1, .int .i64 x2] 33)).alloc (.cells #[] 33)) from nextB (D1.out) (box1 _ _))
    have hx2 : TrsIn (some ⟨w1.drew.heap.size, 0, none⟩) 1 (fun _ => (x0, x1, x2)) ((w1.drew.alloc (.cells #[.int .i64 x0, .int .i64 x1, .int .i64 x2] 33)).alloc (.cells #[] 33)).heap.size ((w1.drew.alloc (.cells #[.int .i64 x0, .int .i64 x1, .int .i64 x2] 33)).alloc (.cells #[] 33)) := (TrsIn.up hx1 (box1 _ _) (Nat.le_refl _)).more (box1 _ _).size
    have hown2 : ((w1.drew.alloc (.cells #[.int .i64 x0, .int .i64 x1, .int .i64 x2] 33)).alloc (.cells #[] 33)).ownsRow w1.heap.size 33 3 (.slice (some ⟨(w1.drew.alloc (.cells #[.int .i64 x0, .int .i64 x1, .int .i64 x2] 33)).heap.size, 0, none⟩) 0 0) 0 [] := own_mono (own_empty (w1.drew.alloc (.cells #[.int .i64 x0, .int .i64 x1, .int .i64 x2] 33)) _ _) (D1.out).size
    have hT2 : (fun w' => w'.cell? ⟨w.heap.size, 0, none⟩ = some (.int .i64 x0) ∧ w'.cell? ⟨w.heap.size, 1, none⟩ = some (.int .i64 x1) ∧ w'.cell? ⟨w.heap.size, 2, none⟩ = some (.int .i64 x2)) ((w1.drew.alloc (.cells #[.int .i64 x0, .int .i64 x1, .int .i64 x2] 33)).alloc (.cells #[] 33)) := TC.out _ D2.out
    refine hK.out _ _ (fun _ => hT2) ?_
    clear hK K
    (try simp only [Act.put, List.setIfInBounds_toArray, List.set_cons_zero, List.set_cons_succ])
    refine M_step 2 rfl (by kernel_rfl) (fun K hK => ?_)
    obtain ⟨v7, W3, hrun, hown3, hg3, hne3, _⟩ := app_mark (c := c) hown2 (by intro e; cases e) (MM.out _ (nextB HB1.out (D2.out))) (by omega) (D2.out).size 26
    refine step_app_run rfl (.tmp 5) (.tmp 6) 26 rfl _ _ (by simp [Act.eval]; first | done | rfl) (by simp [Act.eval]; first | done | rfl) v7 W3 hrun ?_
    have D3 := Lib.hid (Below.grown (D2.out) hg3 (D2.out).size (fun r e => (own_block hown2 e).1))
    have hx3 := TrsIn.row hx2 hg3 (by simp only [World.size_alloc, World.size_drew]; omega) (by intro e; simp [Value.ownBlock] at e)
    have hT3 : (fun w' => w'.cell? ⟨w.heap.size, 0, none⟩ = some (.int .i64 x0) ∧ w'.cell? ⟨w.heap.size, 1, none⟩ = some (.int .i64 x1) ∧ w'.cell? ⟨w.heap.size, 2, none⟩ = some (.int .i64 x2)) W3 := TC.out _ D3.out
    refine hK.out _ _ (fun _ => hT3) ?_
    clear hK K
    (try simp only [Act.put, List.setIfInBounds_toArray, List.set_cons_zero, List.set_cons_succ])
    refine M_step 5 rfl (by kernel_rfl) (fun K hK => ?_)
    obtain ⟨v8, W4, hrun8, hown4, hg4, hne4, _⟩ := app_mark (c := 1) hown3 hne3 hx3 (by omega) (D3.out).size 26
    refine step_app_run rfl (.tmp 7) (.tmp 9) 26 rfl _ _ (by simp [Act.eval]; first | done | rfl) (by simp [Act.eval]; first | done | rfl) v8 W4 hrun8 ?_
    have D4 := Lib.hid (Below.grown (D3.out) hg4 (D3.out).size (fun r e => (own_block hown3 e).1))
    rw [Nat.zero_add, List.nil_append] at hown4
    obtain ⟨g, cap, rfl, hm3⟩ : ∃ g cap, v8 = .slice (some ⟨g, 0, none⟩) (m + 1) cap ∧ TrsIn (some ⟨g, 0, none⟩) (m + 1) (catF m F fun _ => (x0, x1, x2)) W4.heap.size W4 := by
      obtain ⟨g, cap, e⟩ := own_some hown4 hne4
      subst e
      refine ⟨g, cap, rfl, row_trs (B := w1.heap.size) (t := 33) (cap := cap) ?_ (by omega)⟩
      rw [rowT_cat]
      exact hown4
    have HM3 := Lib.hid hm3
    have hT4 : (fun w' => w'.cell? ⟨w.heap.size, 0, none⟩ = some (.int .i64 x0) ∧ w'.cell? ⟨w.heap.size, 1, none⟩ = some (.int .i64 x1) ∧ w'.cell? ⟨w.heap.size, 2, none⟩ = some (.int .i64 x2)) W4 := TC.out _ D4.out
    refine hK.out _ _ (fun _ => hT4) ?_
    clear hK K hm3
    (try simp only [Act.put, List.setIfInBounds_toArray, List.set_cons_zero, List.set_cons_succ])
    refine M_step 6 rfl (by kernel_rfl) (fun K hK => ?_)
    go_simp
    refine hK.out _ _ (fun _ => by assumption) ?_
    clear hK K
    (try simp only [Act.put, List.setIfInBounds_toArray, List.set_cons_zero, List.set_cons_succ])
    refine M_done (by kernel_rfl) ?_ _
    clear hT0
    go_wp2_with fail
    go_ret
    have HDD := Lib.hid (nextB HB1.out (D4.out))
    first | exact ⟨_, _, rfl, HM3.out, HDD.out⟩ | exact ⟨_, _, HM3.out, HDD.out⟩ | exact ⟨_, HM3.out, HDD.out⟩ | exact ⟨_, ⟨_, rfl⟩, HM3.out, HDD.out⟩
/-- marks and one more -/
theorem mkOk_cat1 {d : Drm} {m : Nat} {F : Nat → Int × Int × Int} {c t : Int} (h : MksOk d m F) (hc : 0 ≤ c ∧ c ≤ d.n) (ht : 0 ≤ t ∧ t ≤ 400) : m + 1 ≤ 100 ∧ ∀ i, i < m + 1 → mkOk d (catF m F fun _ => (c, t, t)) i :=
  ⟨by have := h.1; omega, fun i hi => by
    unfold mkOk catF
    split
    · exact h.2 i (by assumption)
    · exact ⟨hc, ht.1, Int.le_refl _, ht.2⟩⟩
/-- the ways through With -/
theorem rw_cases {d : Drm} {m : Nat} {F : Nat → Int × Int × Int} {c t E : Int} {S : Nat → Int × Int} {vc : Bool} (hvc : vc = true ↔ 0 ≤ c ∧ c ≤ d.n) (hE : RwR d m F c t E S) :
    (¬ E = 0 ∧ CoR d m F vc E) ∨ (E = 1 ∧ CoR d m F vc 0 ∧ ¬ (0 ≤ t ∧ t ≤ 400)) ∨ (CoR d m F vc 0 ∧ (0 ≤ t ∧ t ≤ 400) ∧ ∃ E2 S1, RdR d m F true E2 S1 ∧ ((E2 = 22 ∧ E = 22) ∨
      (E2 = 0 ∧ DrOk d ∧ (m + 1 ≤ 100 ∧ ∀ i, i < m + 1 → mkOk d (catF m F fun _ => (c, t, t)) i) ∧ ∃ R : Bool, ((R = true ∧ Ends d.n (Rdg d.n (gapF d) (m + 1) (catF m F fun _ => (c, t, t))) S) ∨ (R = false ∧ ∀ T, ¬ Rdg d.n (gapF d) (m + 1) (catF m F fun _ => (c, t, t)) T)) ∧ ((R = true ∧ E = 0) ∨ (R = false ∧ E = 3))))) := by
  rcases hE with ⟨hne, vd, S1, hvd, hR⟩ | ⟨hd, hk, hct, ⟨S1, hS1⟩, hE⟩
  · rcases hR with ⟨h1, hC⟩ | ⟨hd, hk, ⟨hv, rfl⟩ | ⟨hv, rfl, hno⟩ | ⟨_, h0, _⟩⟩
    · exact .inl ⟨hne, .inl ⟨h1, hC⟩⟩
    · by_cases qc : 0 ≤ c ∧ c ≤ d.n
      · refine .inr (.inl ⟨rfl, .inr ⟨hd, hk, .inr ⟨hvc.2 qc, rfl⟩⟩, fun ht => ?_⟩)
        rw [hvd.2 ⟨qc, ht⟩] at hv
        cases hv
      · refine .inl ⟨hne, .inr ⟨hd, hk, .inl ⟨?_, rfl⟩⟩⟩
        cases hc : vc with
        | false => rfl
        | true => exact absurd (hvc.1 hc) qc
    · have h := hvd.1 hv
      exact .inr (.inr ⟨.inr ⟨hd, hk, .inr ⟨hvc.2 h.1, rfl⟩⟩, h.2, 22, S1, .inr ⟨hd, hk, .inr (.inl ⟨rfl, rfl, hno⟩)⟩, .inl ⟨rfl, rfl⟩⟩)
    · exact absurd h0 hne
  · refine .inr (.inr ⟨.inr ⟨hd, hk, .inr ⟨hvc.2 hct.1, rfl⟩⟩, hct.2, 0, S1, .inr ⟨hd, hk, .inr (.inr ⟨rfl, rfl, hS1⟩)⟩, .inr ⟨rfl, hd, mkOk_cat1 hk hct.1 hct.2, ?_⟩⟩)
    rcases hE with ⟨h1, h2⟩ | ⟨h1, h2⟩
    · exact ⟨false, .inr ⟨rfl, h2⟩, .inr ⟨rfl, h1⟩⟩
    · exact ⟨true, .inl ⟨rfl, h2⟩, .inl ⟨rfl, h1⟩⟩
theorem ints_nil (Z : Nat → Int) (B : Nat) (w : World) : IntsIn none 0 Z B w := ⟨by omega, fun i hi => absurd hi (by omega)⟩
set_option maxRecDepth 100000 in
set_option maxHeartbeats 4000000 in
theorem RWith_any (d : Drm) (MA : Option Addr) (m mc : Nat) (F : Nat → Int × Int × Int) (c t : Int) (E : Int) (S : Nat → Int × Int) (w : World) (hin : DrIn d w.heap.size w) (hm : TrsIn MA m F w.heap.size w) (hm5 : m ≤ 200) (hE : RwR d m F c t E S) :
    Calls Try.prog 45 #[d.v, .slice MA m mc, .int .i64 c, .int .i64 t] w fun e w' => IvP w d.n E (fun i => (S i).1) e w' := by
  have DD : Hid (∀ W, Below w.heap.size w W → DrIn d W.heap.size W) := Lib.hid fun W h => (hin.up h (Nat.le_refl _)).more h.size
  have MM : Hid (∀ W, Below w.heap.size w W → TrsIn MA m F W.heap.size W) := Lib.hid fun W h => (hm.up h (Nat.le_refl _)).more h.size
  obtain ⟨w1, hw1⟩ : ∃ w1 : World, w1 = w.alloc (drO d) := ⟨_, rfl⟩
  have B1 : Below w.heap.size w w1 := by rw [hw1]; exact box1 _ _
  have P1 : HasDr d w.heap.size w1 := by rw [hw1]; exact dr_new w d
  have D := Lib.hid B1
  have P := Lib.hid P1
  have HW := Lib.hid hw1
  obtain ⟨vc, hvc⟩ := bool_of (0 ≤ c ∧ c ≤ d.n)
  have K1 := Lib.hid fun E (h : CoR d m F vc E) => Rcolumns_any d MA m mc F c c vc E w1 (DD.out w1 B1) (MM.out w1 B1) (hvc.trans ⟨fun h => ⟨h, h⟩, fun h => h.1⟩) h
  have hcase := rw_cases hvc hE
  have hrn := rwR_n hE
  have HRN := Lib.hid hrn
  clear hin hm B1 P1 hw1 hE hvc hrn
  obtain ⟨x0, x1⟩ := P.out
  rcases hcase with ⟨hne, hc⟩ | ⟨rfl, hc, ht⟩ | ⟨hc, ht, E2, S1, hR, hE⟩
  · have K2 := Lib.hid (K1.out E hc)
    have hn1 : (E == 0) = false := by simpa using hne
    have hn2 : (E != 0) = true := by simpa using hne
    have HNE := Lib.hid hne
    clear hne hc
    go_enter Try.func45, Try.ntmps45
    go_wp2_with fail
    rw [← HW.out]
    refine K2.out.mono ?_
    rintro e w2 ⟨rfl, hb2⟩
    have D := Lib.hid (nextB D.out hb2)
    have P := Lib.hid (P.out.up hb2)
    clear hb2 x0 x1
    obtain ⟨x0, x1⟩ := P.out
    go_wp2_with fail
    go_ret2
    exact ⟨none, 0, 0, by simp, by rw [if_neg HNE.out], ints_nil _ _ _, D.out⟩
  · have K2 := Lib.hid (K1.out 0 hc)
    have HT := Lib.hid ht
    clear hc ht
    go_enter Try.func45, Try.ntmps45
    go_wp2_with fail
    rw [← HW.out]
    refine K2.out.mono ?_
    rintro e w2 ⟨rfl, hb2⟩
    have D := Lib.hid (nextB D.out hb2)
    have P := Lib.hid (P.out.up hb2)
    clear hb2 x0 x1
    obtain ⟨x0, x1⟩ := P.out
    go_wp2_with fail
    refine (Rwithin_any t 0 400 false w2 (rw_no HT.out)).mono ?_
    rintro e w9 ⟨rfl, hw9⟩
    rw [hw9]
    clear hw9 w9
    go_wp2_with fail
    go_ret2
    exact ⟨none, 0, 0, by simp, by simp, ints_nil _ _ _, D.out⟩
  · have K2 := Lib.hid (K1.out 0 hc)
    have HT := Lib.hid ht
    have KT := Lib.hid fun W h => Rtold_any d MA m mc F E2 S1 W (DD.out W h) (MM.out W h) hR
    clear hc ht hR
    rcases hE with ⟨rfl, rfl⟩ | ⟨rfl, hd, hk, R, hR, hRE⟩
    · go_enter Try.func45, Try.ntmps45
      go_wp2_with fail
      rw [← HW.out]
      refine K2.out.mono ?_
      rintro e w2 ⟨rfl, hb2⟩
      have D := Lib.hid (nextB D.out hb2)
      have P := Lib.hid (P.out.up hb2)
      clear hb2 x0 x1
      obtain ⟨x0, x1⟩ := P.out
      go_wp2_with fail
      refine (Rwithin_any t 0 400 true w2 (rw_yes HT.out)).mono ?_
      rintro e w9 ⟨rfl, hw9⟩
      rw [hw9]
      clear hw9 w9
      go_wp2_with fail
      refine (KT.out _ D.out).mono ?_
      rintro e w3 ⟨v, rfl, hb3, hv⟩
      have D := Lib.hid (nextB D.out hb3)
      obtain ⟨Av, qv, cv, rfl⟩ : ∃ A q c, v = .slice A q c := by
        rcases hv with ⟨_, h⟩ | ⟨_, t, h, _⟩
        · exact ⟨_, _, _, h⟩
        · exact ⟨_, _, _, h⟩
      clear hb3 x0 x1 hv
      go_wp2_with fail
      go_ret2
      exact ⟨none, 0, 0, by simp, by simp, ints_nil _ _ _, D.out⟩
    · have KS : Hid (∀ A' c' W, Below w.heap.size w W → TrsIn A' (m + 1) (catF m F fun _ => (c, t, t)) W.heap.size W → Calls Try.prog 86 #[d.v, .slice A' (m + 1) c'] W fun e w' => ∃ v, e = .returned (.tuple #[v, .bool R]) ∧ RdV d.n (if R = true then 0 else 22) S v W w') := Lib.hid fun A' c' W h h2 => Rspans_any d A' (m + 1) c' _ R S W (DD.out W h) h2 hd hk hR
      clear hd hk hR
      go_enter Try.func45, Try.ntmps45
      go_wp2_with fail
      rw [← HW.out]
      refine K2.out.mono ?_
      rintro e w2 ⟨rfl, hb2⟩
      have D := Lib.hid (nextB D.out hb2)
      have P := Lib.hid (P.out.up hb2)
      clear hb2 x0 x1
      obtain ⟨x0, x1⟩ := P.out
      go_wp2_with fail
      refine (Rwithin_any t 0 400 true w2 (rw_yes HT.out)).mono ?_
      rintro e w9 ⟨rfl, hw9⟩
      rw [hw9]
      clear hw9 w9
      go_wp2_with fail
      refine (KT.out _ D.out).mono ?_
      rintro e w3 ⟨v, rfl, hb3, hv⟩
      have D := Lib.hid (nextB D.out hb3)
      have P := Lib.hid (P.out.up hb3)
      obtain ⟨Av, qv, cv, rfl⟩ : ∃ A q c, v = .slice A q c := by
        rcases hv with ⟨_, h⟩ | ⟨_, t, h, _⟩
        · exact ⟨_, _, _, h⟩
        · exact ⟨_, _, _, h⟩
      clear hb3 x0 x1 hv
      obtain ⟨x0, x1⟩ := P.out
      go_wp2_with fail
      refine wp_region_M [] (fun w' => w'.cell? ⟨w.heap.size, 0, none⟩ = some (.slice d.RA d.n d.rc) ∧ w'.cell? ⟨w.heap.size, 1, none⟩ = some (.slice d.SA d.m d.sc)) (by kernel_rfl) (by kernel_rfl) (by (try dsimp only); (repeat' apply And.intro); all_goals first | assumption | (go_simp; done)) (fun hT0 => ?_)
      refine M_take (v := ?_) 0 rfl (by kernel_rfl) (by assumption) (fun _ _ _ h => h) (Or.inl ⟨by rfl, ?_⟩) ?_
      rotate_left
      · (intro w hSw; (try dsimp only at hSw); go_simp; (try with_reducible rfl))
      (try simp only [Act.put, List.setIfInBounds_toArray, List.set_cons_zero, List.set_cons_succ])
      refine M_take (v := ?_) 1 rfl (by kernel_rfl) (by assumption) (fun _ _ _ h => h) (Or.inl ⟨by rfl, ?_⟩) ?_
      rotate_left
      · (intro w hSw; (try dsimp only at hSw); go_simp; (try with_reducible rfl))
      (try simp only [Act.put, List.setIfInBounds_toArray, List.set_cons_zero, List.set_cons_succ])
      refine M_take (v := ?_) 2 rfl (by kernel_rfl) (by assumption) (fun _ _ _ h => h) (Or.inl ⟨by rfl, ?_⟩) ?_
      rotate_left
      · (intro w hSw; (try dsimp only at hSw); go_simp; (try with_reducible rfl))
      (try simp only [Act.put, List.setIfInBounds_toArray, List.set_cons_zero, List.set_cons_succ])
      refine M_take (v := ?_) 3 rfl (by kernel_rfl) (by assumption) (fun _ _ _ h => h) (Or.inl ⟨by rfl, ?_⟩) ?_
      rotate_left
      · (intro w hSw; (try dsimp only at hSw); go_simp; (try with_reducible rfl))
      (try simp only [Act.put, List.setIfInBounds_toArray, List.set_cons_zero, List.set_cons_succ])
      refine M_take (v := ?_) 4 rfl (by kernel_rfl) (by assumption) (fun _ _ _ h => h) (Or.inl ⟨by rfl, ?_⟩) ?_
      rotate_left
      · (intro w hSw; (try dsimp only at hSw); go_simp; (try with_reducible rfl))
      (try simp only [Act.put, List.setIfInBounds_toArray, List.set_cons_zero, List.set_cons_succ])
      refine M_take (v := ?_) 5 rfl (by kernel_rfl) (by assumption) (fun _ _ _ h => h) (Or.inl ⟨by rfl, ?_⟩) ?_
      rotate_left
      · (intro w hSw; (try dsimp only at hSw); go_simp; (try with_reducible rfl))
      (try simp only [Act.put, List.setIfInBounds_toArray, List.set_cons_zero, List.set_cons_succ])
      refine M_take (v := ?_) 6 rfl (by kernel_rfl) (by assumption) (fun _ _ _ h => h) (Or.inl ⟨by rfl, ?_⟩) ?_
      rotate_left
      · (intro w hSw; (try dsimp only at hSw); go_simp; (try with_reducible rfl))
      (try simp only [Act.put, List.setIfInBounds_toArray, List.set_cons_zero, List.set_cons_succ])
      refine M_step 7 rfl (by kernel_rfl) (fun K hK => ?_)
      go_simp
      go_at_call 96
      refine (Rwith_any MA m mc F c t t _ (MM.out _ (nextB D.out (Below.refl _ _).drew)) (by omega)).mono ?_
      rintro e w7 ⟨B7, k7, rfl, hm7, hb7⟩
      have B7' := Lib.hid (show Below w3.heap.size w3 w7 from nextB (Below.refl _ _).drew hb7)
      have M7 := Lib.hid hm7
      have hT7 : (fun w' => w'.cell? ⟨w.heap.size, 0, none⟩ = some (.slice d.RA d.n d.rc) ∧ w'.cell? ⟨w.heap.size, 1, none⟩ = some (.slice d.SA d.m d.sc)) w7 := P.out.up B7'.out
      clear hb7 hm7
      refine hK.out _ _ (fun _ => hT7) ?_
      clear hK K
      (try simp only [Act.put, List.setIfInBounds_toArray, List.set_cons_zero, List.set_cons_succ])
      refine M_step 8 rfl (by kernel_rfl) (fun K hK => ?_)
      go_simp
      go_at_call 86
      refine (KS.out B7 k7 w7 (nextB D.out B7'.out) M7.out).mono ?_
      rintro e w8 ⟨v, rfl, hb8, hv⟩
      have D8 := Lib.hid (nextB D.out (nextB B7'.out hb8))
      have SZ := Lib.hid (nextB D.out B7'.out).size
      have HB8 := Lib.hid (nextB B7'.out hb8)
      have hT8 : (fun w' => w'.cell? ⟨w.heap.size, 0, none⟩ = some (.slice d.RA d.n d.rc) ∧ w'.cell? ⟨w.heap.size, 1, none⟩ = some (.slice d.SA d.m d.sc)) w8 := P.out.up HB8.out
      clear hb8
      have HV := Lib.hid hv
      obtain ⟨Av, qv, cv, rfl⟩ : ∃ A q c, v = .slice A q c := by
        rcases hv with ⟨_, h⟩ | ⟨_, t, h, _⟩
        · exact ⟨_, _, _, h⟩
        · exact ⟨_, _, _, h⟩
      clear hv
      refine hK.out _ _ (fun _ => hT8) ?_
      clear hK K
      (try simp only [Act.put, List.setIfInBounds_toArray, List.set_cons_zero, List.set_cons_succ])
      refine M_take (v := ?_) 9 rfl (by kernel_rfl) (by assumption) (fun _ _ _ h => h) (Or.inl ⟨by rfl, ?_⟩) ?_
      rotate_left
      · (intro w hSw; (try dsimp only at hSw); go_simp; (try with_reducible rfl))
      (try simp only [Act.put, List.setIfInBounds_toArray, List.set_cons_zero, List.set_cons_succ])
      refine M_take (v := ?_) 10 rfl (by kernel_rfl) (by assumption) (fun _ _ _ h => h) (Or.inl ⟨by rfl, ?_⟩) ?_
      rotate_left
      · (intro w hSw; (try dsimp only at hSw); go_simp; (try with_reducible rfl))
      (try simp only [Act.put, List.setIfInBounds_toArray, List.set_cons_zero, List.set_cons_succ])
      refine M_take (v := ?_) 11 rfl (by kernel_rfl) (by assumption) (fun _ _ _ h => h) (Or.inl ⟨by rfl, ?_⟩) ?_
      rotate_left
      · (intro w hSw; (try dsimp only at hSw); go_simp; (try with_reducible rfl))
      (try simp only [Act.put, List.setIfInBounds_toArray, List.set_cons_zero, List.set_cons_succ])
      refine M_step 12 rfl (by kernel_rfl) (fun K hK => ?_)
      go_simp
      refine hK.out _ _ (fun _ => by assumption) ?_
      clear hK K
      (try simp only [Act.put, List.setIfInBounds_toArray, List.set_cons_zero, List.set_cons_succ])
      refine M_step 13 rfl (by kernel_rfl) (fun K hK => ?_)
      go_simp
      refine hK.out _ _ (fun _ => by assumption) ?_
      clear hK K
      (try simp only [Act.put, List.setIfInBounds_toArray, List.set_cons_zero, List.set_cons_succ])
      refine M_done (by kernel_rfl) ?_ _
      clear hT0 hT7 hT8 x0 x1
      rcases hRE with ⟨rfl, rfl⟩ | ⟨rfl, rfl⟩
      · obtain ⟨t', rfl, rfl, rfl, hS⟩ : ∃ t', Av = some ⟨t', 0, none⟩ ∧ qv = d.n + 1 ∧ cv = d.n + 1 ∧ SpR t' (d.n + 1) S w8 := by
          rcases HV.out with ⟨h, _⟩ | ⟨_, t', h, _, hS⟩
          · exact absurd rfl h
          · injection h with h1 h2 h3
            exact ⟨t', h1, h2, h3, hS⟩
        have HS := Lib.hid hS
        have hn5 := HRN.out rfl
        clear hS
        go_wp2_with fail
        refine (Rends_any (some ⟨t', 0, none⟩) (d.n + 1) (d.n + 1) S false w8 (HS.out.sps (by omega)) (by omega)).mono ?_
        rintro e w9 ⟨A, c', rfl, hi, hb9⟩
        have D9 := Lib.hid (nextB D8.out hb9)
        have HI := Lib.hid hi
        clear hi hb9
        go_wp2_with fail
        go_ret2
        exact ⟨A, d.n + 1, c', by simp, by simp, HI.out, D9.out⟩
      · go_wp2_with fail
        go_ret2
        exact ⟨none, 0, 0, by simp, by simp, ints_nil _ _ _, D8.out⟩
set_option maxRecDepth 100000 in
set_option maxHeartbeats 4000000 in
theorem RRun_any (d : Drm) (MA : Option Addr) (m mc : Nat) (F : Nat → Int × Int × Int) (t : Int) (E : Int) (S : Nat → Int × Int) (w : World) (hin : DrIn d w.heap.size w) (hm : TrsIn MA m F w.heap.size w) (hm5 : m ≤ 200) (hE : RwR d m F 0 t E S) :
    Calls Try.prog 51 #[d.v, .slice MA m mc, .int .i64 t] w fun e w' => ∃ v, e = .returned (.tuple #[v, .int .i64 E]) ∧ RdV d.n E S v w w' := by
  have DD : Hid (∀ W, Below w.heap.size w W → DrIn d W.heap.size W) := Lib.hid fun W h => (hin.up h (Nat.le_refl _)).more h.size
  have MM : Hid (∀ W, Below w.heap.size w W → TrsIn MA m F W.heap.size W) := Lib.hid fun W h => (hm.up h (Nat.le_refl _)).more h.size
  obtain ⟨w1, hw1⟩ : ∃ w1 : World, w1 = w.alloc (drO d) := ⟨_, rfl⟩
  have B1 : Below w.heap.size w w1 := by rw [hw1]; exact box1 _ _
  have P1 : HasDr d w.heap.size w1 := by rw [hw1]; exact dr_new w d
  have D := Lib.hid B1
  have P := Lib.hid P1
  have HW := Lib.hid hw1
  have K1 := Lib.hid (RWith_any d MA m mc F 0 t E S w1 (DD.out w1 B1) (MM.out w1 B1) hm5 hE)
  obtain ⟨vc, hvc⟩ := bool_of (0 ≤ (0 : Int) ∧ (0 : Int) ≤ d.n)
  have hcase := rw_cases hvc hE
  clear hin hm B1 P1 hw1 hE hvc
  obtain ⟨x0, x1⟩ := P.out
  by_cases hE0 : E = 0
  · subst hE0
    obtain ⟨hd, hk, hS⟩ : DrOk d ∧ (m + 1 ≤ 100 ∧ ∀ i, i < m + 1 → mkOk d (catF m F fun _ => (0, t, t)) i) ∧ Ends d.n (Rdg d.n (gapF d) (m + 1) (catF m F fun _ => (0, t, t))) S := by
      rcases hcase with ⟨h, _⟩ | ⟨h, _⟩ | ⟨_, _, E2, S1, _, ⟨_, h⟩ | ⟨_, h1, h2, R, h3, h4⟩⟩
      · exact absurd rfl h
      · omega
      · omega
      · rcases h4 with ⟨rfl, _⟩ | ⟨_, h⟩
        · rcases h3 with ⟨_, h3⟩ | ⟨h, _⟩
          · exact ⟨h1, h2, h3⟩
          · cases h
        · omega
    have KS : Hid (∀ A' c' W, Below w.heap.size w W → TrsIn A' (m + 1) (catF m F fun _ => (0, t, t)) W.heap.size W → Calls Try.prog 86 #[d.v, .slice A' (m + 1) c'] W fun e w' => ∃ v, e = .returned (.tuple #[v, .bool true]) ∧ RdV d.n (if true = true then 0 else 22) S v W w') := Lib.hid fun A' c' W h h2 => Rspans_any d A' (m + 1) c' _ true S W (DD.out W h) h2 hd hk (.inl ⟨rfl, hS⟩)
    have hn5 : d.n ≤ 200 := by have := hd.n2; omega
    clear hd hk hS hcase
    go_enter Try.func51, Try.ntmps51
    go_wp2_with fail
    rw [← HW.out]
    refine K1.out.mono ?_
    rintro e w2 ⟨A2, q2, c2, rfl, hq2, hi2, hb2⟩
    clear hq2 hi2
    have D := Lib.hid (nextB D.out hb2)
    have P := Lib.hid (P.out.up hb2)
    clear hb2 x0 x1
    obtain ⟨x0, x1⟩ := P.out
    go_wp2_with fail
    refine wp_region_M [] (fun w' => w'.cell? ⟨w.heap.size, 0, none⟩ = some (.slice d.RA d.n d.rc) ∧ w'.cell? ⟨w.heap.size, 1, none⟩ = some (.slice d.SA d.m d.sc)) (by kernel_rfl) (by kernel_rfl) (by (try dsimp only); (repeat' apply And.intro); all_goals first | assumption | (go_simp; done)) (fun hT0 => ?_)
    refine M_take (v := ?_) 0 rfl (by kernel_rfl) (by assumption) (fun _ _ _ h => h) (Or.inl ⟨by rfl, ?_⟩) ?_
    rotate_left
    · (intro w hSw; (try dsimp only at hSw); go_simp; (try with_reducible rfl))
    (try simp only [Act.put, List.setIfInBounds_toArray, List.set_cons_zero, List.set_cons_succ])
    refine M_take (v := ?_) 1 rfl (by kernel_rfl) (by assumption) (fun _ _ _ h => h) (Or.inl ⟨by rfl, ?_⟩) ?_
    rotate_left
    · (intro w hSw; (try dsimp only at hSw); go_simp; (try with_reducible rfl))
    (try simp only [Act.put, List.setIfInBounds_toArray, List.set_cons_zero, List.set_cons_succ])
    refine M_take (v := ?_) 2 rfl (by kernel_rfl) (by assumption) (fun _ _ _ h => h) (Or.inl ⟨by rfl, ?_⟩) ?_
    rotate_left
    · (intro w hSw; (try dsimp only at hSw); go_simp; (try with_reducible rfl))
    (try simp only [Act.put, List.setIfInBounds_toArray, List.set_cons_zero, List.set_cons_succ])
    refine M_take (v := ?_) 3 rfl (by kernel_rfl) (by assumption) (fun _ _ _ h => h) (Or.inl ⟨by rfl, ?_⟩) ?_
    rotate_left
    · (intro w hSw; (try dsimp only at hSw); go_simp; (try with_reducible rfl))
    (try simp only [Act.put, List.setIfInBounds_toArray, List.set_cons_zero, List.set_cons_succ])
    refine M_take (v := ?_) 4 rfl (by kernel_rfl) (by assumption) (fun _ _ _ h => h) (Or.inl ⟨by rfl, ?_⟩) ?_
    rotate_left
    · (intro w hSw; (try dsimp only at hSw); go_simp; (try with_reducible rfl))
    (try simp only [Act.put, List.setIfInBounds_toArray, List.set_cons_zero, List.set_cons_succ])
    refine M_take (v := ?_) 5 rfl (by kernel_rfl) (by assumption) (fun _ _ _ h => h) (Or.inl ⟨by rfl, ?_⟩) ?_
    rotate_left
    · (intro w hSw; (try dsimp only at hSw); go_simp; (try with_reducible rfl))
    (try simp only [Act.put, List.setIfInBounds_toArray, List.set_cons_zero, List.set_cons_succ])
    refine M_step 6 rfl (by kernel_rfl) (fun K hK => ?_)
    go_simp
    go_at_call 96
    refine (Rwith_any MA m mc F 0 t t _ (MM.out _ (nextB D.out (Below.refl _ _).drew)) (by omega)).mono ?_
    rintro e w7 ⟨B7, k7, rfl, hm7, hb7⟩
    have B7' := Lib.hid (show Below w2.heap.size w2 w7 from nextB (Below.refl _ _).drew hb7)
    have M7 := Lib.hid hm7
    have hT7 : (fun w' => w'.cell? ⟨w.heap.size, 0, none⟩ = some (.slice d.RA d.n d.rc) ∧ w'.cell? ⟨w.heap.size, 1, none⟩ = some (.slice d.SA d.m d.sc)) w7 := P.out.up B7'.out
    clear hb7 hm7
    refine hK.out _ _ (fun _ => hT7) ?_
    clear hK K
    (try simp only [Act.put, List.setIfInBounds_toArray, List.set_cons_zero, List.set_cons_succ])
    refine M_step 7 rfl (by kernel_rfl) (fun K hK => ?_)
    go_simp
    go_at_call 86
    refine (KS.out B7 k7 w7 (nextB D.out B7'.out) M7.out).mono ?_
    rintro e w8 ⟨v, rfl, hb8, hv⟩
    have D8 := Lib.hid (nextB D.out (nextB B7'.out hb8))
    have SZ := Lib.hid (nextB D.out B7'.out).size
    have HB8 := Lib.hid (nextB B7'.out hb8)
    have hT8 : (fun w' => w'.cell? ⟨w.heap.size, 0, none⟩ = some (.slice d.RA d.n d.rc) ∧ w'.cell? ⟨w.heap.size, 1, none⟩ = some (.slice d.SA d.m d.sc)) w8 := P.out.up HB8.out
    clear hb8
    have HV := Lib.hid hv
    obtain ⟨Av, qv, cv, rfl⟩ : ∃ A q c, v = .slice A q c := by
      rcases hv with ⟨_, h⟩ | ⟨_, t, h, _⟩
      · exact ⟨_, _, _, h⟩
      · exact ⟨_, _, _, h⟩
    clear hv
    refine hK.out _ _ (fun _ => hT8) ?_
    clear hK K
    (try simp only [Act.put, List.setIfInBounds_toArray, List.set_cons_zero, List.set_cons_succ])
    refine M_take (v := ?_) 8 rfl (by kernel_rfl) (by assumption) (fun _ _ _ h => h) (Or.inl ⟨by rfl, ?_⟩) ?_
    rotate_left
    · (intro w hSw; (try dsimp only at hSw); go_simp; (try with_reducible rfl))
    (try simp only [Act.put, List.setIfInBounds_toArray, List.set_cons_zero, List.set_cons_succ])
    refine M_take (v := ?_) 9 rfl (by kernel_rfl) (by assumption) (fun _ _ _ h => h) (Or.inl ⟨by rfl, ?_⟩) ?_
    rotate_left
    · (intro w hSw; (try dsimp only at hSw); go_simp; (try with_reducible rfl))
    (try simp only [Act.put, List.setIfInBounds_toArray, List.set_cons_zero, List.set_cons_succ])
    refine M_take (v := ?_) 10 rfl (by kernel_rfl) (by assumption) (fun _ _ _ h => h) (Or.inl ⟨by rfl, ?_⟩) ?_
    rotate_left
    · (intro w hSw; (try dsimp only at hSw); go_simp; (try with_reducible rfl))
    (try simp only [Act.put, List.setIfInBounds_toArray, List.set_cons_zero, List.set_cons_succ])
    refine M_step 11 rfl (by kernel_rfl) (fun K hK => ?_)
    go_simp
    refine hK.out _ _ (fun _ => by assumption) ?_
    clear hK K
    (try simp only [Act.put, List.setIfInBounds_toArray, List.set_cons_zero, List.set_cons_succ])
    refine M_step 12 rfl (by kernel_rfl) (fun K hK => ?_)
    go_simp
    refine hK.out _ _ (fun _ => by assumption) ?_
    clear hK K
    (try simp only [Act.put, List.setIfInBounds_toArray, List.set_cons_zero, List.set_cons_succ])
    refine M_done (by kernel_rfl) ?_ _
    clear hT0 hT7 hT8 x0 x1
    obtain ⟨t', rfl, rfl, rfl, ht, hS⟩ : ∃ t', Av = some ⟨t', 0, none⟩ ∧ qv = d.n + 1 ∧ cv = d.n + 1 ∧ w7.heap.size ≤ t' ∧ SpR t' (d.n + 1) S w8 := by
      rcases HV.out with ⟨h, _⟩ | ⟨_, t', h, ht, hS⟩
      · exact absurd rfl h
      · injection h with h1 h2 h3
        exact ⟨t', h1, h2, h3, ht, hS⟩
    have HS := Lib.hid hS
    have HT := Lib.hid (Nat.le_trans SZ.out ht)
    clear hS ht
    go_wp2_with fail
    go_ret2
    exact ⟨_, by simp, D8.out, .inr ⟨rfl, t', rfl, HT.out, HS.out⟩⟩
  · have hn2 : (E != 0) = true := by simpa using hE0
    have HNE := Lib.hid hE0
    clear hE0 hcase
    go_enter Try.func51, Try.ntmps51
    go_wp2_with fail
    rw [← HW.out]
    refine K1.out.mono ?_
    rintro e w2 ⟨A2, q2, c2, rfl, hq2, hi2, hb2⟩
    clear hq2 hi2
    have D := Lib.hid (nextB D.out hb2)
    have P := Lib.hid (P.out.up hb2)
    clear hb2 x0 x1
    obtain ⟨x0, x1⟩ := P.out
    go_wp2_with fail
    go_ret2
    exact ⟨_, by simp, D.out, .inl ⟨HNE.out, rfl⟩⟩
end Go.Proofs.Ytpikaohodieeaaa
