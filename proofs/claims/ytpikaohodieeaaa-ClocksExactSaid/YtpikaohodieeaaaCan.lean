/- can: whether a clock has a reading with some further marks; one. -/
import Derived.Test.YtpikaohodieeaaaHas
namespace Go.Proofs.Ytpikaohodieeaaa
open Go.RowKit
set_option linter.unusedSimpArgs false
set_option linter.unusedVariables false
theorem step_append_run {ops : Array Oper} {o : Oper} {a : Act} {w : World} {K : Act → World → Prop} {Q : Exit → Act → World → Prop} {E : Prop} (hgd : o.guard = none) (s x : Operand) (t : TypeId)
    (ho : o.op = .call { callee := .builtin .append, args := #[s, x], argTypes := #[t, t] }) (vs vx : Value) (hs : a.eval s = vs) (hx : a.eval x = vx) (v' : Value) (w' : World)
    (hr : (Builtin.append_ #[t, t] o.type #[vs, vx]).run Try.prog w = .ok v' w') (hK : K (a.put o.dst v') w') :
    if Region.wanted o (yielded ops a.tmps) = true then Oper.wp Try.prog o a w K Q else E := by
  have hw : Region.wanted o (yielded ops a.tmps) = true := by simp [Region.wanted, hgd]
  rw [if_pos hw]
  unfold Oper.wp
  simp [execOp, ho, resolve, invoke, builtin, hs, hx, hr, Result.andThen]
  exact hK
def CanP (c : Clo) (q : Nat) (H : Nat → Int × Int × Int) : Prop := DrOk c.d ∧ MksOk c.d (c.m + q) (catF c.m c.F H) ∧ ∃ T, Rdg c.d.n (gapF c.d) (c.m + q) (catF c.m c.F H) T
theorem one_any (a b : Int) (w : World) : Calls Try.prog 68 #[.int .i64 a, .int .i64 b] w fun e w' => e = .returned (Mk (a, b, b)) ∧ Below w.heap.size w w' := by
  go_enter Try.func68, Try.ntmps68
  go_wp2_with fail
  exact bodyPost_ret (v := Mk (a, b, b)) (by simp [results, Try.results68, go_sem]) rfl ⟨rfl, box1 _ _⟩
theorem trs_none {n : Nat} {F : Nat → Int × Int × Int} {B : Nat} {w : World} (h : TrsIn none n F B w) : n = 0 := by
  by_cases e : n = 0
  · exact e
  · obtain ⟨a, ea, _⟩ := h.2 0 (by omega)
    cases ea
set_option maxRecDepth 100000 in
set_option maxHeartbeats 4000000 in
theorem can_none (c : Clo) (ad : Addr) (q qc : Nat) (H : Nat → Int × Int × Int) (G : Bool) (w : World) (hin : ClIn c w.heap.size w) (hq : TrsIn (some ad) q H w.heap.size w) (h100 : c.m ≤ 100) (hq100 : q ≤ 100) (hq1 : 1 ≤ q) (hMA : c.MA = none) (hG : G = true ↔ CanP c q H) :
    Calls Try.prog 67 #[c.v, .slice (some ad) q qc] w fun e w' => e = .returned (.bool G) ∧ Below w.heap.size w w' := by
  obtain ⟨R, E, hE⟩ := feR_ex c.d (c.m + q) (catF c.m c.F H)
  have hGE : G = ((E == 0) && R) := by
    apply Bool.eq_iff_iff.2
    rw [hG, Bool.and_eq_true, beq_iff_eq]
    rcases hE with ⟨h, rfl, h2⟩ | ⟨h, h1, h2, h3⟩
    · refine ⟨fun k => ?_, fun k => absurd k.2 (by decide)⟩
      rcases h2 with ⟨_, h2⟩ | ⟨_, _, h2⟩ | ⟨h2, _⟩
      · exact absurd k.1 h2
      · exact absurd k.2.1 h2
      · omega
    · exact ⟨fun k => ⟨h, h3.2 k.2.2⟩, fun k => ⟨h1, h2, h3.1 k.2⟩⟩
  have CC : Hid (∀ W, Below w.heap.size w W → ClIn c W.heap.size W) := Lib.hid fun W h => (hin.up h (Nat.le_refl _)).more h.size
  have QQ : Hid (∀ W, Below w.heap.size w W → ∀ j u, (rowT H q)[j]? = some u → W.cell? (ad.add j) = some u) := Lib.hid fun W h => rowT_at (hq.up h (Nat.le_refl _)) rfl
  have HGE := Lib.hid hGE
  have HE := Lib.hid hE
  obtain ⟨i0, hi0, hz0, hz1, hz2⟩ := info_parts Try.infoMark
  have hl1 : (c.m : Int) ≤ 100 := by omega
  have hl2 : (q : Int) ≤ 100 := by omega
  have hm0 : c.m = 0 := trs_none (by have h := hin.2; rw [hMA] at h; exact h)
  clear hin hq hG hGE hE
  obtain ⟨w1, hw1⟩ : ∃ w1 : World, w1 = w.alloc (.cells #[.slice c.d.RA c.d.n c.d.rc, .slice c.d.SA c.d.m c.d.sc, .slice c.MA c.m c.mc] 28) := ⟨_, rfl⟩
  have hb1 : Below w.heap.size w w1 := by rw [hw1]; exact box1 _ _
  have C : Hid (HasCl c w.heap.size w1) := Lib.hid (by rw [hw1]; exact cl_new w c)
  have HB1 := Lib.hid hb1
  obtain ⟨c0, c1, c2⟩ := C.out
  have zC := C.out.lt
  rw [hMA] at c2
  rw [hm0] at c2
  have HM0 := Lib.hid hm0
  clear hm0
  have CT : Hid (∀ W, Below w1.heap.size w1 W → W.cell? ⟨w.heap.size, 0, none⟩ = some (.slice c.d.RA c.d.n c.d.rc) ∧ W.cell? ⟨w.heap.size, 1, none⟩ = some (.slice c.d.SA c.d.m c.d.sc) ∧ W.cell? ⟨w.heap.size, 2, none⟩ = some (.slice none 0 c.mc)) := Lib.hid fun W h => ⟨cell_up h zC c0, cell_up h zC c1, cell_up h zC c2⟩
  have hT1 : (fun w' => w'.cell? ⟨w.heap.size, 0, none⟩ = some (.slice c.d.RA c.d.n c.d.rc) ∧ w'.cell? ⟨w.heap.size, 1, none⟩ = some (.slice c.d.SA c.d.m c.d.sc) ∧ w'.cell? ⟨w.heap.size, 2, none⟩ = some (.slice none 0 c.mc)) w1.drew := CT.out _ (Below.refl _ _).drew
  have HMA := Lib.hid hMA
  have HW1 := Lib.hid hw1
  clear hw1 hb1 hMA
  go_enter Try.func67, Try.ntmps67
  go_wp2_with fail
  rw [← HW1.out]
  have hT0' := hT1
  refine wp_region_M [] (fun w' => w'.cell? ⟨w.heap.size, 0, none⟩ = some (.slice c.d.RA c.d.n c.d.rc) ∧ w'.cell? ⟨w.heap.size, 1, none⟩ = some (.slice c.d.SA c.d.m c.d.sc) ∧ w'.cell? ⟨w.heap.size, 2, none⟩ = some (.slice none 0 c.mc)) (by kernel_rfl) (by kernel_rfl) (by (try dsimp only); (repeat' apply And.intro); all_goals first | assumption | (go_simp; done)) (fun hT0 => ?_)
  refine M_take (v := ?_) 0 rfl (by kernel_rfl) (by assumption) (fun _ _ _ h => h) (Or.inl ⟨by rfl, ?_⟩) ?_
  rotate_left
  · (intro w hSw; (try dsimp only at hSw); go_simp; (try with_reducible rfl))
  (try simp only [Act.put, List.setIfInBounds_toArray, List.set_cons_zero, List.set_cons_succ])
  refine M_take (v := ?_) 1 rfl (by kernel_rfl) (by assumption) (fun _ _ _ h => h) (Or.inl ⟨by rfl, ?_⟩) ?_
  rotate_left
  · (intro w hSw; (try dsimp only at hSw); go_simp; (try with_reducible rfl))
  (try simp only [Act.put, List.setIfInBounds_toArray, List.set_cons_zero, List.set_cons_succ])
  refine M_take (v := ?_) 3 rfl (by kernel_rfl) (by assumption) (fun _ _ _ h => h) (Or.inl ⟨by rfl, ?_⟩) ?_
  rotate_left
  · (intro w hSw; (try dsimp only at hSw); go_simp; (try with_reducible rfl))
  (try simp only [Act.put, List.setIfInBounds_toArray, List.set_cons_zero, List.set_cons_succ])
  refine M_take (v := ?_) 4 rfl (by kernel_rfl) (by assumption) (fun _ _ _ h => h) (Or.inl ⟨by rfl, ?_⟩) ?_
  rotate_left
  · (intro w hSw; (try dsimp only at hSw); go_simp; (try with_reducible rfl))
  (try simp only [Act.put, List.setIfInBounds_toArray, List.set_cons_zero, List.set_cons_succ])
  refine M_take (v := ?_) 6 rfl (by kernel_rfl) (by assumption) (fun _ _ _ h => h) (Or.inl ⟨by rfl, ?_⟩) ?_
  rotate_left
  · (intro w hSw; (try dsimp only at hSw); go_simp; (try with_reducible rfl))
  (try simp only [Act.put, List.setIfInBounds_toArray, List.set_cons_zero, List.set_cons_succ])
  refine M_step 2 rfl (by kernel_rfl) (fun K hK => ?_)
  go_simp
  have D2 := Lib.hid (show Below w1.heap.size w1 (w1.drew.alloc (.cells #[] 33)) from nextB (Below.refl _ _).drew (box1 w1.drew _))
  have hT2 : (fun w' => w'.cell? ⟨w.heap.size, 0, none⟩ = some (.slice c.d.RA c.d.n c.d.rc) ∧ w'.cell? ⟨w.heap.size, 1, none⟩ = some (.slice c.d.SA c.d.m c.d.sc) ∧ w'.cell? ⟨w.heap.size, 2, none⟩ = some (.slice none 0 c.mc)) (w1.drew.alloc (.cells #[] 33)) := CT.out _ D2.out
  have ho2 : (w1.drew.alloc (.cells #[] 33)).ownsRow w1.heap.size 33 3 (.slice (some ⟨w1.heap.size, 0, none⟩) 0 0) 0 [] := own_empty w1.drew _ _
  refine hK.out _ _ (fun _ => hT2) ?_
  clear hK K
  (try simp only [Act.put, List.setIfInBounds_toArray, List.set_cons_zero, List.set_cons_succ])
  refine M_step 5 rfl (by kernel_rfl) (fun K hK => ?_)
  refine step_append_run rfl (.tmp 10) (.tmp 12) 26 rfl _ _ (by simp [Act.eval]; first | done | rfl) (by simp [Act.eval]; first | done | rfl) _ _ (run_noneMark _ _ w1.heap.size 0 0 c.mc (Nat.le_refl _)) ?_
  refine hK.out _ _ (fun _ => hT2) ?_
  clear hK K
  (try simp only [Act.put, List.setIfInBounds_toArray, List.set_cons_zero, List.set_cons_succ])
  refine M_step 7 rfl (by kernel_rfl) (fun K hK => ?_)
  refine step_append_own rfl (.tmp 13) (.tmp 14) 26 rfl w1.heap.size 33 i0 (.agg #[.int .i64 0, .int .i64 0, .int .i64 0]) 3 24 Try.underlying26 hi0 hz0 hz1 hz2 rfl (by decide) _ _ _ (by simp [Act.eval]; first | done | rfl) ho2 ad q qc (rowT H q) (by simp [Act.eval]) (rowT_len _ _) (QQ.out _ (nextB HB1.out D2.out)) (rowT_one _ _) (by unfold maxLen; omega) (by omega) D2.out.size ?_
  intro v2 w3 hown2 hg2
  have D4 := Lib.hid (D2.out.grown hg2 D2.out.size (fun r e => (own_block ho2 e).1))
  have hT4 : (fun w' => w'.cell? ⟨w.heap.size, 0, none⟩ = some (.slice c.d.RA c.d.n c.d.rc) ∧ w'.cell? ⟨w.heap.size, 1, none⟩ = some (.slice c.d.SA c.d.m c.d.sc) ∧ w'.cell? ⟨w.heap.size, 2, none⟩ = some (.slice none 0 c.mc)) w3 := CT.out _ D4.out
  have hown3 : w3.ownsRow w1.heap.size 33 3 v2 (c.m + q) (rowT (catF c.m c.F H) (c.m + q)) := by rw [rowT_cat, HM0.out]; exact hown2
  obtain ⟨g, cap, rfl, hm3⟩ : ∃ g cap, v2 = .slice (some ⟨g, 0, none⟩) (c.m + q) cap ∧ TrsIn (some ⟨g, 0, none⟩) (c.m + q) (catF c.m c.F H) w3.heap.size w3 := by
    obtain ⟨_, ⟨_, f⟩ | ⟨g, cap, cur, f1, _⟩⟩ := id hown3
    · omega
    · subst f1; exact ⟨g, cap, rfl, row_trs hown3 (by omega)⟩
  have HM3 := Lib.hid hm3
  refine hK.out _ _ (fun _ => hT4) ?_
  clear hK K hg2 hown2 hown3 hm3 ho2
  (try simp only [Act.put, List.setIfInBounds_toArray, List.set_cons_zero, List.set_cons_succ])
  refine M_step 8 rfl (by kernel_rfl) (fun K hK => ?_)
  go_simp
  go_at_call 33
  refine (Feasible_any c.d _ (c.m + q) cap (catF c.m c.F H) R E w3 (CC.out _ (nextB HB1.out D4.out)).1 HM3.out HE.out).mono ?_
  rintro e w4 ⟨rfl, hb4⟩
  have D5 := Lib.hid (nextB D4.out hb4)
  have hT5 : (fun w' => w'.cell? ⟨w.heap.size, 0, none⟩ = some (.slice c.d.RA c.d.n c.d.rc) ∧ w'.cell? ⟨w.heap.size, 1, none⟩ = some (.slice c.d.SA c.d.m c.d.sc) ∧ w'.cell? ⟨w.heap.size, 2, none⟩ = some (.slice none 0 c.mc)) w4 := CT.out _ D5.out
  clear hb4
  refine hK.out _ _ (fun _ => hT5) ?_
  clear hK K
  (try simp only [Act.put, List.setIfInBounds_toArray, List.set_cons_zero, List.set_cons_succ])
  refine M_take (v := ?_) 9 rfl (by kernel_rfl) (by assumption) (fun _ _ _ h => h) (Or.inl ⟨by rfl, ?_⟩) ?_
  rotate_left
  · (intro w hSw; (try dsimp only at hSw); go_simp; (try with_reducible rfl))
  (try simp only [Act.put, List.setIfInBounds_toArray, List.set_cons_zero, List.set_cons_succ])
  refine M_take (v := ?_) 10 rfl (by kernel_rfl) (by assumption) (fun _ _ _ h => h) (Or.inl ⟨by rfl, ?_⟩) ?_
  rotate_left
  · (intro w hSw; (try dsimp only at hSw); go_simp; (try with_reducible rfl))
  (try simp only [Act.put, List.setIfInBounds_toArray, List.set_cons_zero, List.set_cons_succ])
  refine M_take (v := ?_) 11 rfl (by kernel_rfl) (by assumption) (fun _ _ _ h => h) (Or.inl ⟨by rfl, ?_⟩) ?_
  rotate_left
  · (intro w hSw; (try dsimp only at hSw); go_simp; (try with_reducible rfl))
  (try simp only [Act.put, List.setIfInBounds_toArray, List.set_cons_zero, List.set_cons_succ])
  refine M_step 12 rfl (by kernel_rfl) (fun K hK => ?_)
  go_simp
  refine hK.out _ _ (fun _ => by assumption) ?_
  clear hK K
  (try simp only [Act.put, List.setIfInBounds_toArray, List.set_cons_zero, List.set_cons_succ])
  refine M_step 13 rfl (by kernel_rfl) (fun K hK => ?_)
  go_simp
  refine hK.out _ _ (fun _ => by assumption) ?_
  clear hK K
  (try simp only [Act.put, List.setIfInBounds_toArray, List.set_cons_zero, List.set_cons_succ])
  refine M_done (by kernel_rfl) ?_ _
  by_cases hz : E = 0
  · subst hz
    go_wp2_with fail
    go_ret
    exact ⟨by rw [HGE.out]; rfl, nextB HB1.out D5.out⟩
  · have hn1 : (E == 0) = false := by simpa using hz
    have hg : G = false := by rw [HGE.out, hn1]; rfl
    have HG := Lib.hid hg
    clear hg hz
    go_wp2_with fail
    go_ret
    exact ⟨by rw [HG.out]; rfl, nextB HB1.out D5.out⟩
set_option maxRecDepth 100000 in
set_option maxHeartbeats 4000000 in
theorem can_some (c : Clo) (am ad : Addr) (q qc : Nat) (H : Nat → Int × Int × Int) (G : Bool) (w : World) (hin : ClIn c w.heap.size w) (hq : TrsIn (some ad) q H w.heap.size w) (h100 : c.m ≤ 100) (hq100 : q ≤ 100) (hq1 : 1 ≤ q) (hMA : c.MA = some am) (hG : G = true ↔ CanP c q H) :
    Calls Try.prog 67 #[c.v, .slice (some ad) q qc] w fun e w' => e = .returned (.bool G) ∧ Below w.heap.size w w' := by
  obtain ⟨R, E, hE⟩ := feR_ex c.d (c.m + q) (catF c.m c.F H)
  have hGE : G = ((E == 0) && R) := by
    apply Bool.eq_iff_iff.2
    rw [hG, Bool.and_eq_true, beq_iff_eq]
    rcases hE with ⟨h, rfl, h2⟩ | ⟨h, h1, h2, h3⟩
    · refine ⟨fun k => ?_, fun k => absurd k.2 (by decide)⟩
      rcases h2 with ⟨_, h2⟩ | ⟨_, _, h2⟩ | ⟨h2, _⟩
      · exact absurd k.1 h2
      · exact absurd k.2.1 h2
      · omega
    · exact ⟨fun k => ⟨h, h3.2 k.2.2⟩, fun k => ⟨h1, h2, h3.1 k.2⟩⟩
  have CC : Hid (∀ W, Below w.heap.size w W → ClIn c W.heap.size W) := Lib.hid fun W h => (hin.up h (Nat.le_refl _)).more h.size
  have QQ : Hid (∀ W, Below w.heap.size w W → ∀ j u, (rowT H q)[j]? = some u → W.cell? (ad.add j) = some u) := Lib.hid fun W h => rowT_at (hq.up h (Nat.le_refl _)) rfl
  have HGE := Lib.hid hGE
  have HE := Lib.hid hE
  obtain ⟨i0, hi0, hz0, hz1, hz2⟩ := info_parts Try.infoMark
  have hl1 : (c.m : Int) ≤ 100 := by omega
  have hl2 : (q : Int) ≤ 100 := by omega
  have CM : Hid (∀ W, Below w.heap.size w W → ∀ j u, (rowT c.F c.m)[j]? = some u → W.cell? (am.add j) = some u) := Lib.hid fun W h => rowT_at (CC.out W h).2 hMA
  clear hin hq hG hGE hE
  obtain ⟨w1, hw1⟩ : ∃ w1 : World, w1 = w.alloc (.cells #[.slice c.d.RA c.d.n c.d.rc, .slice c.d.SA c.d.m c.d.sc, .slice c.MA c.m c.mc] 28) := ⟨_, rfl⟩
  have hb1 : Below w.heap.size w w1 := by rw [hw1]; exact box1 _ _
  have C : Hid (HasCl c w.heap.size w1) := Lib.hid (by rw [hw1]; exact cl_new w c)
  have HB1 := Lib.hid hb1
  obtain ⟨c0, c1, c2⟩ := C.out
  have zC := C.out.lt
  rw [hMA] at c2
  skip
  have CT : Hid (∀ W, Below w1.heap.size w1 W → W.cell? ⟨w.heap.size, 0, none⟩ = some (.slice c.d.RA c.d.n c.d.rc) ∧ W.cell? ⟨w.heap.size, 1, none⟩ = some (.slice c.d.SA c.d.m c.d.sc) ∧ W.cell? ⟨w.heap.size, 2, none⟩ = some (.slice (some am) c.m c.mc)) := Lib.hid fun W h => ⟨cell_up h zC c0, cell_up h zC c1, cell_up h zC c2⟩
  have hT1 : (fun w' => w'.cell? ⟨w.heap.size, 0, none⟩ = some (.slice c.d.RA c.d.n c.d.rc) ∧ w'.cell? ⟨w.heap.size, 1, none⟩ = some (.slice c.d.SA c.d.m c.d.sc) ∧ w'.cell? ⟨w.heap.size, 2, none⟩ = some (.slice (some am) c.m c.mc)) w1.drew := CT.out _ (Below.refl _ _).drew
  have HMA := Lib.hid hMA
  have HW1 := Lib.hid hw1
  clear hw1 hb1 hMA
  go_enter Try.func67, Try.ntmps67
  go_wp2_with fail
  rw [← HW1.out]
  have hT0' := hT1
  refine wp_region_M [] (fun w' => w'.cell? ⟨w.heap.size, 0, none⟩ = some (.slice c.d.RA c.d.n c.d.rc) ∧ w'.cell? ⟨w.heap.size, 1, none⟩ = some (.slice c.d.SA c.d.m c.d.sc) ∧ w'.cell? ⟨w.heap.size, 2, none⟩ = some (.slice (some am) c.m c.mc)) (by kernel_rfl) (by kernel_rfl) (by (try dsimp only); (repeat' apply And.intro); all_goals first | assumption | (go_simp; done)) (fun hT0 => ?_)
  refine M_take (v := ?_) 0 rfl (by kernel_rfl) (by assumption) (fun _ _ _ h => h) (Or.inl ⟨by rfl, ?_⟩) ?_
  rotate_left
  · (intro w hSw; (try dsimp only at hSw); go_simp; (try with_reducible rfl))
  (try simp only [Act.put, List.setIfInBounds_toArray, List.set_cons_zero, List.set_cons_succ])
  refine M_take (v := ?_) 1 rfl (by kernel_rfl) (by assumption) (fun _ _ _ h => h) (Or.inl ⟨by rfl, ?_⟩) ?_
  rotate_left
  · (intro w hSw; (try dsimp only at hSw); go_simp; (try with_reducible rfl))
  (try simp only [Act.put, List.setIfInBounds_toArray, List.set_cons_zero, List.set_cons_succ])
  refine M_take (v := ?_) 3 rfl (by kernel_rfl) (by assumption) (fun _ _ _ h => h) (Or.inl ⟨by rfl, ?_⟩) ?_
  rotate_left
  · (intro w hSw; (try dsimp only at hSw); go_simp; (try with_reducible rfl))
  (try simp only [Act.put, List.setIfInBounds_toArray, List.set_cons_zero, List.set_cons_succ])
  refine M_take (v := ?_) 4 rfl (by kernel_rfl) (by assumption) (fun _ _ _ h => h) (Or.inl ⟨by rfl, ?_⟩) ?_
  rotate_left
  · (intro w hSw; (try dsimp only at hSw); go_simp; (try with_reducible rfl))
  (try simp only [Act.put, List.setIfInBounds_toArray, List.set_cons_zero, List.set_cons_succ])
  refine M_take (v := ?_) 6 rfl (by kernel_rfl) (by assumption) (fun _ _ _ h => h) (Or.inl ⟨by rfl, ?_⟩) ?_
  rotate_left
  · (intro w hSw; (try dsimp only at hSw); go_simp; (try with_reducible rfl))
  (try simp only [Act.put, List.setIfInBounds_toArray, List.set_cons_zero, List.set_cons_succ])
  refine M_step 2 rfl (by kernel_rfl) (fun K hK => ?_)
  go_simp
  have D2 := Lib.hid (show Below w1.heap.size w1 (w1.drew.alloc (.cells #[] 33)) from nextB (Below.refl _ _).drew (box1 w1.drew _))
  have hT2 : (fun w' => w'.cell? ⟨w.heap.size, 0, none⟩ = some (.slice c.d.RA c.d.n c.d.rc) ∧ w'.cell? ⟨w.heap.size, 1, none⟩ = some (.slice c.d.SA c.d.m c.d.sc) ∧ w'.cell? ⟨w.heap.size, 2, none⟩ = some (.slice (some am) c.m c.mc)) (w1.drew.alloc (.cells #[] 33)) := CT.out _ D2.out
  have ho2 : (w1.drew.alloc (.cells #[] 33)).ownsRow w1.heap.size 33 3 (.slice (some ⟨w1.heap.size, 0, none⟩) 0 0) 0 [] := own_empty w1.drew _ _
  refine hK.out _ _ (fun _ => hT2) ?_
  clear hK K
  (try simp only [Act.put, List.setIfInBounds_toArray, List.set_cons_zero, List.set_cons_succ])
  refine M_step 5 rfl (by kernel_rfl) (fun K hK => ?_)
  refine step_append_own rfl (.tmp 10) (.tmp 12) 26 rfl w1.heap.size 33 i0 (.agg #[.int .i64 0, .int .i64 0, .int .i64 0]) 3 24 Try.underlying26 hi0 hz0 hz1 hz2 rfl (by decide) _ 0 [] (by simp [Act.eval]) ho2 am c.m c.mc (rowT c.F c.m) (by simp [Act.eval]) (rowT_len _ _) (CM.out _ (nextB HB1.out D2.out)) (rowT_one _ _) (by unfold maxLen; omega) (by omega) (by simp only [World.size_alloc, World.size_drew]; omega) ?_
  intro v1 w2 hown1 hg1
  have D3 := Lib.hid (D2.out.grown hg1 D2.out.size (fun r e => by cases e; exact Nat.le_refl _))
  have hT3 : (fun w' => w'.cell? ⟨w.heap.size, 0, none⟩ = some (.slice c.d.RA c.d.n c.d.rc) ∧ w'.cell? ⟨w.heap.size, 1, none⟩ = some (.slice c.d.SA c.d.m c.d.sc) ∧ w'.cell? ⟨w.heap.size, 2, none⟩ = some (.slice (some am) c.m c.mc)) w2 := CT.out _ D3.out
  refine hK.out _ _ (fun _ => hT3) ?_
  clear hK K hg1 ho2
  (try simp only [Act.put, List.setIfInBounds_toArray, List.set_cons_zero, List.set_cons_succ])
  refine M_step 7 rfl (by kernel_rfl) (fun K hK => ?_)
  refine step_append_own rfl (.tmp 13) (.tmp 14) 26 rfl w1.heap.size 33 i0 (.agg #[.int .i64 0, .int .i64 0, .int .i64 0]) 3 24 Try.underlying26 hi0 hz0 hz1 hz2 rfl (by decide) _ _ _ (by simp [Act.eval]; first | done | rfl) hown1 ad q qc (rowT H q) (by simp [Act.eval]) (rowT_len _ _) (QQ.out _ (nextB HB1.out D3.out)) (rowT_one _ _) (by unfold maxLen; omega) (by omega) D3.out.size ?_
  intro v2 w3 hown2 hg2
  have D4 := Lib.hid (D3.out.grown hg2 D3.out.size (fun r e => (own_block hown1 e).1))
  have hT4 : (fun w' => w'.cell? ⟨w.heap.size, 0, none⟩ = some (.slice c.d.RA c.d.n c.d.rc) ∧ w'.cell? ⟨w.heap.size, 1, none⟩ = some (.slice c.d.SA c.d.m c.d.sc) ∧ w'.cell? ⟨w.heap.size, 2, none⟩ = some (.slice (some am) c.m c.mc)) w3 := CT.out _ D4.out
  have hown3 : w3.ownsRow w1.heap.size 33 3 v2 (c.m + q) (rowT (catF c.m c.F H) (c.m + q)) := by rw [rowT_cat]; rw [Nat.zero_add, List.nil_append] at hown2; exact hown2
  obtain ⟨g, cap, rfl, hm3⟩ : ∃ g cap, v2 = .slice (some ⟨g, 0, none⟩) (c.m + q) cap ∧ TrsIn (some ⟨g, 0, none⟩) (c.m + q) (catF c.m c.F H) w3.heap.size w3 := by
    obtain ⟨_, ⟨_, f⟩ | ⟨g, cap, cur, f1, _⟩⟩ := id hown3
    · omega
    · subst f1; exact ⟨g, cap, rfl, row_trs hown3 (by omega)⟩
  have HM3 := Lib.hid hm3
  refine hK.out _ _ (fun _ => hT4) ?_
  clear hK K hg2 hown2 hown3 hm3 hown1
  (try simp only [Act.put, List.setIfInBounds_toArray, List.set_cons_zero, List.set_cons_succ])
  refine M_step 8 rfl (by kernel_rfl) (fun K hK => ?_)
  go_simp
  go_at_call 33
  refine (Feasible_any c.d _ (c.m + q) cap (catF c.m c.F H) R E w3 (CC.out _ (nextB HB1.out D4.out)).1 HM3.out HE.out).mono ?_
  rintro e w4 ⟨rfl, hb4⟩
  have D5 := Lib.hid (nextB D4.out hb4)
  have hT5 : (fun w' => w'.cell? ⟨w.heap.size, 0, none⟩ = some (.slice c.d.RA c.d.n c.d.rc) ∧ w'.cell? ⟨w.heap.size, 1, none⟩ = some (.slice c.d.SA c.d.m c.d.sc) ∧ w'.cell? ⟨w.heap.size, 2, none⟩ = some (.slice (some am) c.m c.mc)) w4 := CT.out _ D5.out
  clear hb4
  refine hK.out _ _ (fun _ => hT5) ?_
  clear hK K
  (try simp only [Act.put, List.setIfInBounds_toArray, List.set_cons_zero, List.set_cons_succ])
  refine M_take (v := ?_) 9 rfl (by kernel_rfl) (by assumption) (fun _ _ _ h => h) (Or.inl ⟨by rfl, ?_⟩) ?_
  rotate_left
  · (intro w hSw; (try dsimp only at hSw); go_simp; (try with_reducible rfl))
  (try simp only [Act.put, List.setIfInBounds_toArray, List.set_cons_zero, List.set_cons_succ])
  refine M_take (v := ?_) 10 rfl (by kernel_rfl) (by assumption) (fun _ _ _ h => h) (Or.inl ⟨by rfl, ?_⟩) ?_
  rotate_left
  · (intro w hSw; (try dsimp only at hSw); go_simp; (try with_reducible rfl))
  (try simp only [Act.put, List.setIfInBounds_toArray, List.set_cons_zero, List.set_cons_succ])
  refine M_take (v := ?_) 11 rfl (by kernel_rfl) (by assumption) (fun _ _ _ h => h) (Or.inl ⟨by rfl, ?_⟩) ?_
  rotate_left
  · (intro w hSw; (try dsimp only at hSw); go_simp; (try with_reducible rfl))
  (try simp only [Act.put, List.setIfInBounds_toArray, List.set_cons_zero, List.set_cons_succ])
  refine M_step 12 rfl (by kernel_rfl) (fun K hK => ?_)
  go_simp
  refine hK.out _ _ (fun _ => by assumption) ?_
  clear hK K
  (try simp only [Act.put, List.setIfInBounds_toArray, List.set_cons_zero, List.set_cons_succ])
  refine M_step 13 rfl (by kernel_rfl) (fun K hK => ?_)
  go_simp
  refine hK.out _ _ (fun _ => by assumption) ?_
  clear hK K
  (try simp only [Act.put, List.setIfInBounds_toArray, List.set_cons_zero, List.set_cons_succ])
  refine M_done (by kernel_rfl) ?_ _
  by_cases hz : E = 0
  · subst hz
    go_wp2_with fail
    go_ret
    exact ⟨by rw [HGE.out]; rfl, nextB HB1.out D5.out⟩
  · have hn1 : (E == 0) = false := by simpa using hz
    have hg : G = false := by rw [HGE.out, hn1]; rfl
    have HG := Lib.hid hg
    clear hg hz
    go_wp2_with fail
    go_ret
    exact ⟨by rw [HG.out]; rfl, nextB HB1.out D5.out⟩
theorem can_any (c : Clo) (ad : Addr) (q qc : Nat) (H : Nat → Int × Int × Int) (G : Bool) (w : World) (hin : ClIn c w.heap.size w) (hq : TrsIn (some ad) q H w.heap.size w) (h100 : c.m ≤ 100) (hq100 : q ≤ 100) (hq1 : 1 ≤ q) (hG : G = true ↔ CanP c q H) :
    Calls Try.prog 67 #[c.v, .slice (some ad) q qc] w fun e w' => e = .returned (.bool G) ∧ Below w.heap.size w w' := by
  cases h : c.MA with
  | none => exact can_none c ad q qc H G w hin hq h100 hq100 hq1 h hG
  | some am => exact can_some c am ad q qc H G w hin hq h100 hq100 hq1 h hG
end Go.Proofs.Ytpikaohodieeaaa
