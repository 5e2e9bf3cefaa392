import Derived.Test.YtpikaohodieeaaaEar
namespace Go.Proofs.Ytpikaohodieeaaa
open Go.RowKit
set_option linter.unusedSimpArgs false
set_option linter.unusedVariables false
/-- a condition as a Bool -/
theorem bool_of (p : Prop) : ∃ b : Bool, b = true ↔ p := by
  by_cases h : p
  · exact ⟨true, fun _ => h, fun _ => rfl⟩
  · exact ⟨false, fun e => (by cases e), fun h' => absurd h' h⟩
set_option maxRecDepth 100000 in
set_option maxHeartbeats 2000000 in
theorem Span_any (d : Drm) (MA : Option Addr) (m mc : Nat) (F : Nat → Int × Int × Int) (x : Int) (vd : Bool) (E : Int) (S : Nat → Int × Int) (w : World) (hin : DrIn d w.heap.size w) (hm : TrsIn MA m F w.heap.size w) (hvd : vd = true ↔ 0 ≤ x ∧ x ≤ d.n) (hE : RdR d m F vd E S) :
    Calls Try.prog 42 #[d.v, .slice MA m mc, .int .i64 x] w fun e w' => e = .returned (.tuple #[Sp (if E = 0 then S x.toNat else (0, 0)), .int .i64 E]) ∧ Below w.heap.size w w' := by
  obtain ⟨w1, hw1⟩ : ∃ w1 : World, w1 = (w.alloc (drO d)).alloc (.cells #[.int .i64 0, .int .i64 0] 31) := ⟨_, rfl⟩
  have B1 : Below w.heap.size w w1 := by rw [hw1]; exact box2 _ _ _
  have P1 : HasDr d w.heap.size w1 := by rw [hw1]; exact (dr_new w d).up (box1 _ _)
  have R1 : Bt (w.heap.size + 1) 0 0 w1 := by
    rw [hw1]
    have := Bt.new (w.alloc (drO d)) 31 0 0
    rw [World.size_alloc] at this
    exact this
  have HB := Lib.hid B1
  have HP := Lib.hid P1
  have HR := Lib.hid R1
  have KR := Lib.hid fun W (hW : Below w.heap.size w W) => read_any d MA m mc F vd E S W ((hin.up hW (Nat.le_refl _)).more hW.size) ((hm.up hW (Nat.le_refl _)).more hW.size) hE
  have hk : E = 0 → vd = true ∧ d.n ≤ 200 := fun h => by
    rcases hE with ⟨h1, _⟩ | ⟨h1, _, h2⟩
    · omega
    · have := h1.n2
      rcases h2 with ⟨h2, h3⟩ | ⟨h2, h3, _⟩ | ⟨h2, h3, _⟩
      · omega
      · omega
      · exact ⟨h2, by omega⟩
  obtain ⟨x0, x1⟩ := P1
  have HV1 := Lib.hid hvd
  clear hin hm B1 R1 hE hvd
  go_enter Try.func42, Try.ntmps42
  go_wp2_with fail
  rw [← hw1]
  clear hw1
  refine wp_region_M [] (fun w' => w'.cell? ⟨w.heap.size, 0, none⟩ = some (.slice d.RA d.n d.rc) ∧ w'.cell? ⟨w.heap.size, 1, none⟩ = some (.slice d.SA d.m d.sc)) (by kernel_rfl) (by kernel_rfl) (by (try dsimp only); (repeat' apply And.intro); all_goals first | assumption | (go_simp; done)) (fun hT0 => ?_)
  refine M_take (v := ?_) 0 rfl (by kernel_rfl) (by assumption) (fun _ _ _ h => h) (Or.inl ⟨by rfl, ?_⟩) ?_
  rotate_left
  · (intro w hSw; (try dsimp only at hSw); go_simp; (try with_reducible rfl))
  (try simp only [Act.put, List.setIfInBounds_toArray, List.set_cons_zero, List.set_cons_succ])
  refine M_take (v := ?_) 1 rfl (by kernel_rfl) (by assumption) (fun _ _ _ h => h) (Or.inl ⟨by rfl, ?_⟩) ?_
  rotate_left
  · (intro w hSw; (try dsimp only at hSw); go_simp; (try with_reducible rfl))
  (try simp only [Act.put, List.setIfInBounds_toArray, List.set_cons_zero, List.set_cons_succ])
  refine M_take (v := ?_) 2 rfl (by kernel_rfl) (by assumption) (fun _ _ _ h => h) (Or.inl ⟨by rfl, ?_⟩) ?_
  rotate_left
  · (intro w hSw; (try dsimp only at hSw); go_simp; (try with_reducible rfl))
  (try simp only [Act.put, List.setIfInBounds_toArray, List.set_cons_zero, List.set_cons_succ])
  refine M_take (v := ?_) 3 rfl (by kernel_rfl) (by assumption) (fun _ _ _ h => h) (Or.inl ⟨by rfl, ?_⟩) ?_
  rotate_left
  · (intro w hSw; (try dsimp only at hSw); go_simp; (try with_reducible rfl))
  (try simp only [Act.put, List.setIfInBounds_toArray, List.set_cons_zero, List.set_cons_succ])
  refine M_step 4 rfl (by kernel_rfl) (fun K hK => ?_)
  go_simp
  go_at_call 75
  refine (isColumn_is d x vd _ HV1.out).mono ?_
  rintro e w4 ⟨rfl, hb4'⟩
  have hb4 : Below w1.heap.size w1 w4 := nextB (Below.refl _ _).drew hb4'
  have hs4 := hb4.size
  have hbr : Below w.heap.size w w4 := nextB HB.out hb4
  have hT4 : (fun w' => w'.cell? ⟨w.heap.size, 0, none⟩ = some (.slice d.RA d.n d.rc) ∧ w'.cell? ⟨w.heap.size, 1, none⟩ = some (.slice d.SA d.m d.sc)) w4 := HP.out.up hb4
  clear hb4'
  refine hK.out _ _ (fun _ => hT4) ?_
  clear hK K
  (try simp only [Act.put, List.setIfInBounds_toArray, List.set_cons_zero, List.set_cons_succ])
  refine M_step 5 rfl (by kernel_rfl) (fun K hK => ?_)
  go_simp
  go_at_call 89
  refine (KR.out _ (hbr)).mono ?_
  rintro e w2 ⟨v, rfl, hb2, hv⟩
  have D2 := Lib.hid (nextB hbr hb2)
  have R2 := HR.out.up ((Below.trans (by first | exact (Below.refl _ _).drew | exact hb4) (hb2.mono (by first | exact hs4))))
  have P2 := HP.out.up ((Below.trans (by first | exact (Below.refl _ _).drew | exact hb4) (hb2.mono (by first | exact hs4))))
  have hT5 : (fun w' => w'.cell? ⟨w.heap.size, 0, none⟩ = some (.slice d.RA d.n d.rc) ∧ w'.cell? ⟨w.heap.size, 1, none⟩ = some (.slice d.SA d.m d.sc)) w2 := P2
  have HV := Lib.hid hv
  clear hb2 hv
  refine hK.out _ _ (fun _ => hT5) ?_
  clear hK K
  (try simp only [Act.put, List.setIfInBounds_toArray, List.set_cons_zero, List.set_cons_succ])
  refine M_take (v := ?_) 6 rfl (by kernel_rfl) (by assumption) (fun _ _ _ h => h) (Or.inl ⟨by rfl, ?_⟩) ?_
  rotate_left
  · (intro w hSw; (try dsimp only at hSw); go_simp; (try with_reducible rfl))
  (try simp only [Act.put, List.setIfInBounds_toArray, List.set_cons_zero, List.set_cons_succ])
  refine M_take (v := ?_) 7 rfl (by kernel_rfl) (by assumption) (fun _ _ _ h => h) (Or.inl ⟨by rfl, ?_⟩) ?_
  rotate_left
  · (intro w hSw; (try dsimp only at hSw); go_simp; (try with_reducible rfl))
  (try simp only [Act.put, List.setIfInBounds_toArray, List.set_cons_zero, List.set_cons_succ])
  refine M_take (v := ?_) 8 rfl (by kernel_rfl) (by assumption) (fun _ _ _ h => h) (Or.inl ⟨by rfl, ?_⟩) ?_
  rotate_left
  · (intro w hSw; (try dsimp only at hSw); go_simp; (try with_reducible rfl))
  (try simp only [Act.put, List.setIfInBounds_toArray, List.set_cons_zero, List.set_cons_succ])
  refine M_step 9 rfl (by kernel_rfl) (fun K hK => ?_)
  go_simp
  refine hK.out _ _ (fun _ => by assumption) ?_
  clear hK K
  (try simp only [Act.put, List.setIfInBounds_toArray, List.set_cons_zero, List.set_cons_succ])
  refine M_step 10 rfl (by kernel_rfl) (fun K hK => ?_)
  go_simp
  refine hK.out _ _ (fun _ => by assumption) ?_
  clear hK K
  (try simp only [Act.put, List.setIfInBounds_toArray, List.set_cons_zero, List.set_cons_succ])
  refine M_done (by kernel_rfl) ?_ _
  rcases HV.out with ⟨hne, rfl⟩ | ⟨rfl, t, rfl, ht, hS⟩
  · have hn1 : (E != 0) = true := by simpa using hne
    have hset : Below (w.heap.size + 1) w2 ((w2.setCell ⟨w.heap.size + 1, 0, none⟩ (.int .i64 (0))).setCell ⟨w.heap.size + 1, 1, none⟩ (.int .i64 (0))) := set1 (set1 (Below.refl _ _) (Nat.le_refl _) _ _) (Nat.le_refl _) _ _
    have HF := Lib.hid (D2.out.trans (hset.mono (by omega)))
    have hq := R2.store (0) (0)
    clear hset
    have z2 := R2.lt
    obtain ⟨r0, r1, r2, r3⟩ := R2
    go_wp2_with fail
    obtain ⟨wf, hwf⟩ : ∃ wf : World, wf = (w2.setCell ⟨w.heap.size + 1, 0, none⟩ (.int .i64 (0))).setCell ⟨w.heap.size + 1, 1, none⟩ (.int .i64 (0)) := ⟨_, rfl⟩
    have HF2 := HF.out
    rw [← hwf] at hq HF2 ⊢
    obtain ⟨q0, q1, _, _⟩ := hq
    exact bodyPost_ret (v := .tuple #[Sp (0, 0), .int .i64 E]) (by simp [results, Try.results42, go_sem, q0, q1]) rfl ⟨by first | rfl | rw [if_neg hne], HF2⟩
  · obtain ⟨hk1, hk2⟩ := hk rfl
    have hx := HV1.out.1 hk1
    obtain ⟨q, rfl⟩ : ∃ q : Nat, x = (q : Int) := ⟨x.toNat, by omega⟩
    have hq1 : q < d.n + 1 := by omega
    have hq0 : (0 : Int) ≤ (q : Int) := by omega
    have hq2 : (q : Int) < (d.n : Int) + 1 := by omega
    have g0 := hS.c0 q hq1
    have g1 := hS.c1 q hq1
    have gl := hS.lt
    clear hS hk
    obtain ⟨sx, sy, hs9⟩ : ∃ a b, S q = (a, b) := ⟨_, _, rfl⟩
    rw [hs9] at g0 g1
    have H9 := Lib.hid hs9
    clear hs9 hx
    simp only at g0 g1
    have hset : Below (w.heap.size + 1) w2 ((w2.setCell ⟨w.heap.size + 1, 0, none⟩ (.int .i64 (sx))).setCell ⟨w.heap.size + 1, 1, none⟩ (.int .i64 (sy))) := set1 (set1 (Below.refl _ _) (Nat.le_refl _) _ _) (Nat.le_refl _) _ _
    have HF := Lib.hid (D2.out.trans (hset.mono (by omega)))
    have hq := R2.store (sx) (sy)
    clear hset
    have z2 := R2.lt
    obtain ⟨r0, r1, r2, r3⟩ := R2
    go_wp2_with fail
    obtain ⟨wf, hwf⟩ : ∃ wf : World, wf = (w2.setCell ⟨w.heap.size + 1, 0, none⟩ (.int .i64 (sx))).setCell ⟨w.heap.size + 1, 1, none⟩ (.int .i64 (sy)) := ⟨_, rfl⟩
    have HF2 := HF.out
    rw [← hwf] at hq HF2 ⊢
    obtain ⟨q0, q1, _, _⟩ := hq
    exact bodyPost_ret (v := .tuple #[Sp (sx, sy), .int .i64 0]) (by simp [results, Try.results42, go_sem, q0, q1]) rfl ⟨by first | rw [H9.out] | rw [if_pos rfl, Int.toNat_natCast, H9.out], HF2⟩

set_option maxRecDepth 100000 in
set_option maxHeartbeats 2000000 in
theorem At_any (d : Drm) (MA : Option Addr) (m mc : Nat) (F : Nat → Int × Int × Int) (x : Int) (vd : Bool) (E : Int) (S : Nat → Int × Int) (w : World) (hin : DrIn d w.heap.size w) (hm : TrsIn MA m F w.heap.size w) (hvd : vd = true ↔ 0 ≤ x ∧ x ≤ 400) (hE : RdR d m F vd E S) :
    Calls Try.prog 48 #[d.v, .slice MA m mc, .int .i64 x] w fun e w' => e = .returned (.tuple #[Sp (if E = 0 then (lastP (fun i => (S i).2) x (d.n + 1), lastP (fun i => (S i).1) x (d.n + 1)) else (0, 0)), .int .i64 E]) ∧ Below w.heap.size w w' := by
  obtain ⟨w1, hw1⟩ : ∃ w1 : World, w1 = (w.alloc (drO d)).alloc (.cells #[.int .i64 0, .int .i64 0] 31) := ⟨_, rfl⟩
  have B1 : Below w.heap.size w w1 := by rw [hw1]; exact box2 _ _ _
  have P1 : HasDr d w.heap.size w1 := by rw [hw1]; exact (dr_new w d).up (box1 _ _)
  have R1 : Bt (w.heap.size + 1) 0 0 w1 := by
    rw [hw1]
    have := Bt.new (w.alloc (drO d)) 31 0 0
    rw [World.size_alloc] at this
    exact this
  have HB := Lib.hid B1
  have HP := Lib.hid P1
  have HR := Lib.hid R1
  have KR := Lib.hid fun W (hW : Below w.heap.size w W) => read_any d MA m mc F vd E S W ((hin.up hW (Nat.le_refl _)).more hW.size) ((hm.up hW (Nat.le_refl _)).more hW.size) hE
  have hk : E = 0 → vd = true ∧ d.n ≤ 200 := fun h => by
    rcases hE with ⟨h1, _⟩ | ⟨h1, _, h2⟩
    · omega
    · have := h1.n2
      rcases h2 with ⟨h2, h3⟩ | ⟨h2, h3, _⟩ | ⟨h2, h3, _⟩
      · omega
      · omega
      · exact ⟨h2, by omega⟩
  obtain ⟨x0, x1⟩ := P1
  have HV1 := Lib.hid hvd
  clear hin hm B1 R1 hE hvd
  go_enter Try.func48, Try.ntmps48
  go_wp2_with fail
  rw [← hw1]
  clear hw1
  refine wp_region_M [] (fun w' => w'.cell? ⟨w.heap.size, 0, none⟩ = some (.slice d.RA d.n d.rc) ∧ w'.cell? ⟨w.heap.size, 1, none⟩ = some (.slice d.SA d.m d.sc)) (by kernel_rfl) (by kernel_rfl) (by (try dsimp only); (repeat' apply And.intro); all_goals first | assumption | (go_simp; done)) (fun hT0 => ?_)
  refine M_take (v := ?_) 0 rfl (by kernel_rfl) (by assumption) (fun _ _ _ h => h) (Or.inl ⟨by rfl, ?_⟩) ?_
  rotate_left
  · (intro w hSw; (try dsimp only at hSw); go_simp; (try with_reducible rfl))
  (try simp only [Act.put, List.setIfInBounds_toArray, List.set_cons_zero, List.set_cons_succ])
  refine M_take (v := ?_) 1 rfl (by kernel_rfl) (by assumption) (fun _ _ _ h => h) (Or.inl ⟨by rfl, ?_⟩) ?_
  rotate_left
  · (intro w hSw; (try dsimp only at hSw); go_simp; (try with_reducible rfl))
  (try simp only [Act.put, List.setIfInBounds_toArray, List.set_cons_zero, List.set_cons_succ])
  refine M_take (v := ?_) 2 rfl (by kernel_rfl) (by assumption) (fun _ _ _ h => h) (Or.inl ⟨by rfl, ?_⟩) ?_
  rotate_left
  · (intro w hSw; (try dsimp only at hSw); go_simp; (try with_reducible rfl))
  (try simp only [Act.put, List.setIfInBounds_toArray, List.set_cons_zero, List.set_cons_succ])
  refine M_step 3 rfl (by kernel_rfl) (fun K hK => ?_)
  go_simp
  go_at_call 99
  refine (isTick_is x vd _ HV1.out).mono ?_
  rintro e w4 ⟨rfl, rfl⟩
  have hb4 : Below w1.heap.size w1 w1.drew := (Below.refl _ _).drew
  have hs4 := hb4.size
  have hbr : Below w.heap.size w w1.drew := nextB HB.out hb4
  have hT4 : (fun w' => w'.cell? ⟨w.heap.size, 0, none⟩ = some (.slice d.RA d.n d.rc) ∧ w'.cell? ⟨w.heap.size, 1, none⟩ = some (.slice d.SA d.m d.sc)) w1.drew := HP.out.up hb4
  refine hK.out _ _ (fun _ => hT4) ?_
  clear hK K
  (try simp only [Act.put, List.setIfInBounds_toArray, List.set_cons_zero, List.set_cons_succ])
  refine M_step 4 rfl (by kernel_rfl) (fun K hK => ?_)
  go_simp
  go_at_call 89
  refine (KR.out _ (hbr)).mono ?_
  rintro e w2 ⟨v, rfl, hb2, hv⟩
  have D2 := Lib.hid (nextB hbr hb2)
  have R2 := HR.out.up ((Below.trans (by first | exact (Below.refl _ _).drew | exact hb4) (hb2.mono (by first | exact hs4))))
  have P2 := HP.out.up ((Below.trans (by first | exact (Below.refl _ _).drew | exact hb4) (hb2.mono (by first | exact hs4))))
  have hT5 : (fun w' => w'.cell? ⟨w.heap.size, 0, none⟩ = some (.slice d.RA d.n d.rc) ∧ w'.cell? ⟨w.heap.size, 1, none⟩ = some (.slice d.SA d.m d.sc)) w2 := P2
  have HV := Lib.hid hv
  clear hb2 hv
  refine hK.out _ _ (fun _ => hT5) ?_
  clear hK K
  (try simp only [Act.put, List.setIfInBounds_toArray, List.set_cons_zero, List.set_cons_succ])
  refine M_take (v := ?_) 5 rfl (by kernel_rfl) (by assumption) (fun _ _ _ h => h) (Or.inl ⟨by rfl, ?_⟩) ?_
  rotate_left
  · (intro w hSw; (try dsimp only at hSw); go_simp; (try with_reducible rfl))
  (try simp only [Act.put, List.setIfInBounds_toArray, List.set_cons_zero, List.set_cons_succ])
  refine M_take (v := ?_) 6 rfl (by kernel_rfl) (by assumption) (fun _ _ _ h => h) (Or.inl ⟨by rfl, ?_⟩) ?_
  rotate_left
  · (intro w hSw; (try dsimp only at hSw); go_simp; (try with_reducible rfl))
  (try simp only [Act.put, List.setIfInBounds_toArray, List.set_cons_zero, List.set_cons_succ])
  refine M_take (v := ?_) 7 rfl (by kernel_rfl) (by assumption) (fun _ _ _ h => h) (Or.inl ⟨by rfl, ?_⟩) ?_
  rotate_left
  · (intro w hSw; (try dsimp only at hSw); go_simp; (try with_reducible rfl))
  (try simp only [Act.put, List.setIfInBounds_toArray, List.set_cons_zero, List.set_cons_succ])
  refine M_step 8 rfl (by kernel_rfl) (fun K hK => ?_)
  go_simp
  refine hK.out _ _ (fun _ => by assumption) ?_
  clear hK K
  (try simp only [Act.put, List.setIfInBounds_toArray, List.set_cons_zero, List.set_cons_succ])
  refine M_step 9 rfl (by kernel_rfl) (fun K hK => ?_)
  go_simp
  refine hK.out _ _ (fun _ => by assumption) ?_
  clear hK K
  (try simp only [Act.put, List.setIfInBounds_toArray, List.set_cons_zero, List.set_cons_succ])
  refine M_done (by kernel_rfl) ?_ _
  rcases HV.out with ⟨hne, rfl⟩ | ⟨rfl, t, rfl, ht, hS⟩
  · have hn1 : (E != 0) = true := by simpa using hne
    have hset : Below (w.heap.size + 1) w2 ((w2.setCell ⟨w.heap.size + 1, 0, none⟩ (.int .i64 (0))).setCell ⟨w.heap.size + 1, 1, none⟩ (.int .i64 (0))) := set1 (set1 (Below.refl _ _) (Nat.le_refl _) _ _) (Nat.le_refl _) _ _
    have HF := Lib.hid (D2.out.trans (hset.mono (by omega)))
    have hq := R2.store (0) (0)
    clear hset
    have z2 := R2.lt
    obtain ⟨r0, r1, r2, r3⟩ := R2
    go_wp2_with fail
    obtain ⟨wf, hwf⟩ : ∃ wf : World, wf = (w2.setCell ⟨w.heap.size + 1, 0, none⟩ (.int .i64 (0))).setCell ⟨w.heap.size + 1, 1, none⟩ (.int .i64 (0)) := ⟨_, rfl⟩
    have HF2 := HF.out
    rw [← hwf] at hq HF2 ⊢
    obtain ⟨q0, q1, _, _⟩ := hq
    exact bodyPost_ret (v := .tuple #[Sp (0, 0), .int .i64 E]) (by simp [results, Try.results48, go_sem, q0, q1]) rfl ⟨by first | rfl | rw [if_neg hne], HF2⟩
  · obtain ⟨hk1, hk2⟩ := hk rfl
    have hx := HV1.out.1 hk1
    have HS := Lib.hid hS
    clear hS hk x0 x1
    go_wp2_with fail
    refine (lasts_any (some ⟨t, 0, none⟩) (d.n + 1) (d.n + 1) S w2 (HS.out.sps (by omega)) (by omega)).mono ?_
    rintro e w3 ⟨A, c, rfl, hi, hb3⟩
    have D3 := Lib.hid (nextB D2.out hb3)
    have HS3 := Lib.hid (HS.out.up hb3)
    have R3 := R2.up hb3
    have HI := Lib.hid hi
    clear hi hb3 R2
    go_wp2_with fail
    refine (lastPassed_any A (d.n + 1) c _ x w3 HI.out).mono ?_
    rintro e w9 ⟨rfl, rfl⟩
    go_wp2_with fail
    refine (firsts_any (some ⟨t, 0, none⟩) (d.n + 1) (d.n + 1) S w3 (HS3.out.sps (by omega)) (by omega)).mono ?_
    rintro e w4 ⟨A2, c2, rfl, hi, hb4⟩
    have D4 := Lib.hid (nextB D3.out hb4)
    have R4 := R3.up hb4
    have HI2 := Lib.hid hi
    clear hi hb4 R3
    go_wp2_with fail
    refine (lastPassed_any A2 (d.n + 1) c2 _ x w4 HI2.out).mono ?_
    rintro e w9 ⟨rfl, rfl⟩
    generalize hsx : lastP (fun i => (S i).2) x (d.n + 1) = sx at *
    generalize hsy : lastP (fun i => (S i).1) x (d.n + 1) = sy at *
    have HX := Lib.hid hsx
    have HY := Lib.hid hsy
    clear hsx hsy
    have hset : Below (w.heap.size + 1) w4 ((w4.setCell ⟨w.heap.size + 1, 0, none⟩ (.int .i64 (sx))).setCell ⟨w.heap.size + 1, 1, none⟩ (.int .i64 (sy))) := set1 (set1 (Below.refl _ _) (Nat.le_refl _) _ _) (Nat.le_refl _) _ _
    have HF := Lib.hid (D4.out.trans (hset.mono (by omega)))
    have hq := R4.store (sx) (sy)
    clear hset
    have z4 := R4.lt
    obtain ⟨r0, r1, r2, r3⟩ := R4
    go_wp2_with fail
    obtain ⟨wf, hwf⟩ : ∃ wf : World, wf = (w4.setCell ⟨w.heap.size + 1, 0, none⟩ (.int .i64 (sx))).setCell ⟨w.heap.size + 1, 1, none⟩ (.int .i64 (sy)) := ⟨_, rfl⟩
    have HF2 := HF.out
    rw [← hwf] at hq HF2 ⊢
    obtain ⟨q0, q1, _, _⟩ := hq
    exact bodyPost_ret (v := .tuple #[Sp (sx, sy), .int .i64 0]) (by simp [results, Try.results48, go_sem, q0, q1]) rfl ⟨by first | rw [HX.out, HY.out] | rw [if_pos rfl, HX.out, HY.out], HF2⟩

end Go.Proofs.Ytpikaohodieeaaa
namespace Go.Proofs.Ytpikaohodieeaaa
open Go.RowKit
set_option linter.unusedSimpArgs false
set_option linter.unusedVariables false
/-- the entry that a round writes, and what it writes -/
def fwI (q : Nat) : Nat := (q / 3) % 3 * 3 + q % 3
def fwV (q : Nat) (D : Nat → Int) : Int := min (D (fwI q)) (D ((q / 3) % 3 * 3 + q / 9) + D (q / 9 * 3 + q % 3))
def fw (D : Nat → Int) : Nat → Nat → Int
  | 0, k => D k
  | q + 1, k => if k = fwI q then fwV q (fw D q) else fw D q k
theorem fw_at (D : Nat → Int) (q : Nat) : fw D (q + 1) (fwI q) = fwV q (fw D q) := by show (if _ then _ else _) = _; rw [if_pos rfl]
theorem fw_ne (D : Nat → Int) (q k : Nat) (h : k ≠ fwI q) : fw D (q + 1) k = fw D q k := by show (if _ then _ else _) = _; rw [if_neg h]
theorem fw_bd {D : Nat → Int} {M : Int} (hM : 0 ≤ M) (h : ∀ k, k < 9 → -M ≤ D k ∧ D k ≤ M) : ∀ q, q ≤ 27 → ∀ k, k < 9 → -(M * 2 ^ q) ≤ fw D q k ∧ fw D q k ≤ M * 2 ^ q := by
  intro q
  induction q with
  | zero => intro _ k hk; have := h k hk; unfold fw; simp only [Int.pow_zero, Int.mul_one]; exact this
  | succ q ih =>
    intro hq k hk
    have ih := ih (by omega)
    have e : M * 2 ^ (q + 1) = M * 2 ^ q * 2 := by rw [Int.pow_succ, Int.mul_assoc]
    have h0 : 0 ≤ M * 2 ^ q := Int.mul_nonneg hM (Int.pow_nonneg (by omega))
    rw [e]
    by_cases hx : k = fwI q
    · subst hx
      rw [fw_at]
      unfold fwV
      have a1 := ih (fwI q) hk
      have a2 := ih ((q / 3) % 3 * 3 + q / 9) (by omega)
      have a3 := ih (q / 9 * 3 + q % 3) (by omega)
      omega
    · rw [fw_ne _ _ _ hx]
      have := ih k hk
      omega
/-- nine numbers in a block -/
structure NineR (b : Nat) (D : Nat → Int) (w : World) : Prop where
  lt : b < w.heap.size
  c : ∀ i, i < 9 → w.cell? ⟨b, i, none⟩ = some (.int .i64 (D i))
  f : ∀ o, w.frozen? ⟨b, o, none⟩ = false
theorem NineR.up {b : Nat} {D : Nat → Int} {w w' : World} (h : NineR b D w) (hb : Below w.heap.size w w') : NineR b D w' :=
  ⟨Nat.lt_of_lt_of_le h.lt hb.size, fun i hi => cell_up hb h.lt (h.c i hi), fun o => low_frozen hb h.lt (h.f o)⟩
theorem NineR.set {b k : Nat} {D : Nat → Int} {w : World} {x : Int} (h : NineR b D w) (hk : k < 9) : NineR b (fun i => if i = k then x else D i) (w.setCell ⟨b, k, none⟩ (.int .i64 x)) := by
  refine ⟨by have := h.lt; go_simp, fun i hi => ?_, fun o => by rw [World.frozen?_setCell]; exact h.f o⟩
  have e := h.c i hi
  by_cases hik : i = k
  · subst hik
    rw [World.cell?_setCell_same' _ _ _ (by rw [e]; rfl), if_pos rfl]
  · rw [World.cell?_setCell_other _ _ _ _ (by intro e; have e2 := congrArg Addr.off e; simp only at e2; omega), e, if_neg hik]
set_option maxRecDepth 100000 in
set_option maxHeartbeats 2000000 in
theorem dsettle_any (b : Nat) (D : Nat → Int) (w : World) (hD : NineR b D w) (hb : ∀ k, k < 9 → -10000000 ≤ D k ∧ D k ≤ 10000000) :
    Calls Try.prog 116 #[.pointer (some ⟨b, 0, none⟩)] w fun e w' => (∃ v, e = .returned v) ∧ NineR b (fw D 27) w' ∧ w.grownBy w' (some b) := by
  have HD := Lib.hid hD
  have hlt := hD.lt
  have HB : Hid (∀ q, q ≤ 27 → ∀ k, k < 9 → -1342177280000000 ≤ fw D q k ∧ fw D q k ≤ 1342177280000000) := Lib.hid fun q hq k hk => by
    have h := fw_bd (D := D) (M := 10000000) (by omega) hb q hq k hk
    have e : (10000000 : Int) * 2 ^ q ≤ 1342177280000000 := by
      have e0 : (2 : Nat) ^ q ≤ 2 ^ 27 := Nat.pow_le_pow_right (by omega) hq
      have e1 : (2 : Int) ^ q ≤ 2 ^ 27 := by
        have := Int.ofNat_le.2 e0
        rwa [Int.natCast_pow, Int.natCast_pow] at this
      have e2 : (2 : Int) ^ 27 = 134217728 := by decide
      omega
    omega
  clear hD hb
  go_enter Try.func116, Try.ntmps116
  go_wp2_with fail
  go_loopw [5] (fun v wr => ∃ p : Nat, p ≤ 3 ∧ v = .int .i64 p ∧ Hid (NineR b (fw D (p * 9)) wr) ∧ Hid (w.grownBy wr (some b))) (fun v _ => 3 - (intOf v).toNat)
  case atStart => exact ⟨0, by omega, rfl, HD, Lib.hid (World.grownBy.refl _ _)⟩
  case round =>
    obtain ⟨p, hp, rfl, hN, hG⟩ := hrel
    have hp0 : (0 : Int) ≤ (p : Int) := by omega
    by_cases hp3 : p < 3
    · have hpi : (p : Int) < 3 := by omega
      have hwp : IntKind.i64.wrap ((p : Int) + 1) = (p : Int) + 1 := IntWalk.i64_in _ (by omega)
      go_wp2_with fail
      go_loopw [8] (fun v wr => ∃ f : Nat, f ≤ 3 ∧ v = .int .i64 f ∧ Hid (NineR b (fw D (p * 9 + f * 3)) wr) ∧ Hid (w.grownBy wr (some b))) (fun v _ => 3 - (intOf v).toNat)
      case atStart => exact ⟨0, by omega, rfl, hN, hG⟩
      case round =>
        obtain ⟨f, hf, rfl, hN, hG⟩ := hrel
        have hf0 : (0 : Int) ≤ (f : Int) := by omega
        by_cases hf3 : f < 3
        · have hfi : (f : Int) < 3 := by omega
          have hwf : IntKind.i64.wrap ((f : Int) + 1) = (f : Int) + 1 := IntWalk.i64_in _ (by omega)
          go_wp2_with fail
          go_loopw [11] (fun v wr => ∃ o : Nat, o ≤ 3 ∧ v = .int .i64 o ∧ Hid (NineR b (fw D (p * 9 + f * 3 + o)) wr) ∧ Hid (w.grownBy wr (some b))) (fun v _ => 3 - (intOf v).toNat)
          case atStart => exact ⟨0, by omega, rfl, hN, hG⟩
          case round =>
            obtain ⟨o, ho, rfl, hN, hG⟩ := hrel
            obtain ⟨wo, rfl⟩ : ∃ wo : World, wo = wr := ⟨_, rfl⟩
            have ho0 : (0 : Int) ≤ (o : Int) := by omega
            by_cases ho3 : o < 3
            · have hoi : (o : Int) < 3 := by omega
              have hwo : IntKind.i64.wrap ((o : Int) + 1) = (o : Int) + 1 := IntWalk.i64_in _ (by omega)
              obtain ⟨q, hq⟩ : ∃ q, q = p * 9 + f * 3 + o := ⟨_, rfl⟩
              have q1 : q / 9 = p := by omega
              have q2 : q / 3 % 3 = f := by omega
              have q3 : q % 3 = o := by omega
              have q4 : q < 27 := by omega
              rw [← hq] at hN
              obtain ⟨x1, hx1⟩ : ∃ x, x = fw D q (f * 3 + o) := ⟨_, rfl⟩
              obtain ⟨x2, hx2⟩ : ∃ x, x = fw D q (f * 3 + p) := ⟨_, rfl⟩
              obtain ⟨x3, hx3⟩ : ∃ x, x = fw D q (p * 3 + o) := ⟨_, rfl⟩
              have c1 := hN.out.c (f * 3 + o) (by omega)
              have c2 := hN.out.c (f * 3 + p) (by omega)
              have c3 := hN.out.c (p * 3 + o) (by omega)
              have fz := hN.out.f (f * 3 + o)
              have nl := hN.out.lt
              have b2 := HB.out q (by omega) (f * 3 + p) (by omega)
              have b3 := HB.out q (by omega) (p * 3 + o) (by omega)
              have hws : IntKind.i64.wrap (x2 + x3) = x2 + x3 := IntWalk.i64_in _ (by omega)
              have NX : Hid (NineR b (fw D (p * 9 + f * 3 + (o + 1))) (wo.drew.setCell ⟨b, f * 3 + o, none⟩ (.int .i64 (min x1 (x2 + x3))))) := Lib.hid (by
                have h := (hN.out.up (Below.refl _ _).drew).set (k := f * 3 + o) (x := min x1 (x2 + x3)) (by omega)
                have e : (fun i => if i = f * 3 + o then min x1 (x2 + x3) else fw D q i) = fw D (p * 9 + f * 3 + (o + 1)) := by
                  rw [show p * 9 + f * 3 + (o + 1) = q + 1 by omega]
                  funext i
                  show _ = (if i = fwI q then fwV q (fw D q) else fw D q i)
                  unfold fwI fwV fwI
                  rw [q1, q2, q3, ← hx1, ← hx2, ← hx3]
                rw [e] at h
                exact h)
              have NG : Hid (w.grownBy (wo.drew.setCell ⟨b, f * 3 + o, none⟩ (.int .i64 (min x1 (x2 + x3)))) (some b)) := Lib.hid (hG.out.trans ((grown_of_below' (Below.refl _ _).drew).trans (grown_set1 _ _ _ _)))
              rw [← hx1] at c1
              rw [← hx2] at c2
              rw [← hx3] at c3
              clear hx1 hx2 hx3 q1 q2 q3 b2 b3 hN hG hq
              go_wp2_with fail
              refine wp_region_M [29] (fun w' => w'.cell? ⟨b, f * 3 + o, none⟩ = some (.int .i64 x1) ∧ w'.cell? ⟨b, f * 3 + p, none⟩ = some (.int .i64 x2) ∧ w'.cell? ⟨b, p * 3 + o, none⟩ = some (.int .i64 x3)) (by kernel_rfl) (by kernel_rfl) (by (try dsimp only); (repeat' apply And.intro); all_goals first | assumption | (go_simp; done)) (fun hT0 => ?_)
              refine M_take (v := ?_) 0 rfl (by kernel_rfl) (by assumption) (fun _ _ _ h => h) (Or.inl ⟨by rfl, ?_⟩) ?_
              rotate_left
              · (intro w hSw; (try dsimp only at hSw); go_simp; (try with_reducible rfl))
              (try simp only [Act.put, List.setIfInBounds_toArray, List.set_cons_zero, List.set_cons_succ])
              refine M_take (v := ?_) 1 rfl (by kernel_rfl) (by assumption) (fun _ _ _ h => h) (Or.inl ⟨by rfl, ?_⟩) ?_
              rotate_left
              · (intro w hSw; (try dsimp only at hSw); go_simp; (try with_reducible rfl))
              (try simp only [Act.put, List.setIfInBounds_toArray, List.set_cons_zero, List.set_cons_succ])
              refine M_take (v := ?_) 2 rfl (by kernel_rfl) (by assumption) (fun _ _ _ h => h) (Or.inl ⟨by rfl, ?_⟩) ?_
              rotate_left
              · (intro w hSw; (try dsimp only at hSw); go_simp; (try with_reducible rfl))
              (try simp only [Act.put, List.setIfInBounds_toArray, List.set_cons_zero, List.set_cons_succ])
              refine M_take (v := ?_) 3 rfl (by kernel_rfl) (by assumption) (fun _ _ _ h => h) (Or.inl ⟨by rfl, ?_⟩) ?_
              rotate_left
              · (intro w hSw; (try dsimp only at hSw); go_simp; (try with_reducible rfl))
              (try simp only [Act.put, List.setIfInBounds_toArray, List.set_cons_zero, List.set_cons_succ])
              refine M_take (v := ?_) 4 rfl (by kernel_rfl) (by assumption) (fun _ _ _ h => h) (Or.inl ⟨by rfl, ?_⟩) ?_
              rotate_left
              · (intro w hSw; (try dsimp only at hSw); go_simp; (try with_reducible rfl))
              (try simp only [Act.put, List.setIfInBounds_toArray, List.set_cons_zero, List.set_cons_succ])
              refine M_take (v := ?_) 5 rfl (by kernel_rfl) (by assumption) (fun _ _ _ h => h) (Or.inl ⟨by rfl, ?_⟩) ?_
              rotate_left
              · (intro w hSw; (try dsimp only at hSw); go_simp; (try with_reducible rfl))
              (try simp only [Act.put, List.setIfInBounds_toArray, List.set_cons_zero, List.set_cons_succ])
              refine M_take (v := ?_) 6 rfl (by kernel_rfl) (by assumption) (fun _ _ _ h => h) (Or.inl ⟨by rfl, ?_⟩) ?_
              rotate_left
              · (intro w hSw; (try dsimp only at hSw); go_simp; (try with_reducible rfl))
              (try simp only [Act.put, List.setIfInBounds_toArray, List.set_cons_zero, List.set_cons_succ])
              refine M_take (v := ?_) 7 rfl (by kernel_rfl) (by assumption) (fun _ _ _ h => h) (Or.inl ⟨by rfl, ?_⟩) ?_
              rotate_left
              · (intro w hSw; (try dsimp only at hSw); go_simp; (try with_reducible rfl))
              (try simp only [Act.put, List.setIfInBounds_toArray, List.set_cons_zero, List.set_cons_succ])
              refine M_take (v := ?_) 8 rfl (by kernel_rfl) (by assumption) (fun _ _ _ h => h) (Or.inl ⟨by rfl, ?_⟩) ?_
              rotate_left
              · (intro w hSw; (try dsimp only at hSw); go_simp; (try with_reducible rfl))
              (try simp only [Act.put, List.setIfInBounds_toArray, List.set_cons_zero, List.set_cons_succ])
              refine M_take (v := ?_) 9 rfl (by kernel_rfl) (by assumption) (fun _ _ _ h => h) (Or.inl ⟨by rfl, ?_⟩) ?_
              rotate_left
              · (intro w hSw; (try dsimp only at hSw); go_simp; (try with_reducible rfl))
              (try simp only [Act.put, List.setIfInBounds_toArray, List.set_cons_zero, List.set_cons_succ])
              refine M_take (v := ?_) 10 rfl (by kernel_rfl) (by assumption) (fun _ _ _ h => h) (Or.inl ⟨by rfl, ?_⟩) ?_
              rotate_left
              · (intro w hSw; (try dsimp only at hSw); go_simp; (try with_reducible rfl))
              (try simp only [Act.put, List.setIfInBounds_toArray, List.set_cons_zero, List.set_cons_succ])
              refine M_take (v := ?_) 11 rfl (by kernel_rfl) (by assumption) (fun _ _ _ h => h) (Or.inl ⟨by rfl, ?_⟩) ?_
              rotate_left
              · (intro w hSw; (try dsimp only at hSw); go_simp; (try with_reducible rfl))
              (try simp only [Act.put, List.setIfInBounds_toArray, List.set_cons_zero, List.set_cons_succ])
              refine M_take (v := ?_) 12 rfl (by kernel_rfl) (by assumption) (fun _ _ _ h => h) (Or.inl ⟨by rfl, ?_⟩) ?_
              rotate_left
              · (intro w hSw; (try dsimp only at hSw); go_simp; (try with_reducible rfl))
              (try simp only [Act.put, List.setIfInBounds_toArray, List.set_cons_zero, List.set_cons_succ])
              refine M_take (v := ?_) 13 rfl (by kernel_rfl) (by assumption) (fun _ _ _ h => h) (Or.inl ⟨by rfl, ?_⟩) ?_
              rotate_left
              · (intro w hSw; (try dsimp only at hSw); go_simp; (try with_reducible rfl))
              (try simp only [Act.put, List.setIfInBounds_toArray, List.set_cons_zero, List.set_cons_succ])
              refine M_take (v := ?_) 14 rfl (by kernel_rfl) (by assumption) (fun _ _ _ h => h) (Or.inl ⟨by rfl, ?_⟩) ?_
              rotate_left
              · (intro w hSw; (try dsimp only at hSw); go_simp; (try with_reducible rfl))
              (try simp only [Act.put, List.setIfInBounds_toArray, List.set_cons_zero, List.set_cons_succ])
              refine M_take (v := ?_) 15 rfl (by kernel_rfl) (by assumption) (fun _ _ _ h => h) (Or.inl ⟨by rfl, ?_⟩) ?_
              rotate_left
              · (intro w hSw; (try dsimp only at hSw); go_simp; (try with_reducible rfl))
              (try simp only [Act.put, List.setIfInBounds_toArray, List.set_cons_zero, List.set_cons_succ])
              refine M_take (v := ?_) 16 rfl (by kernel_rfl) (by assumption) (fun _ _ _ h => h) (Or.inl ⟨by rfl, ?_⟩) ?_
              rotate_left
              · (intro w hSw; (try dsimp only at hSw); go_simp; (try with_reducible rfl))
              (try simp only [Act.put, List.setIfInBounds_toArray, List.set_cons_zero, List.set_cons_succ])
              refine M_take (v := ?_) 17 rfl (by kernel_rfl) (by assumption) (fun _ _ _ h => h) (Or.inl ⟨by rfl, ?_⟩) ?_
              rotate_left
              · (intro w hSw; (try dsimp only at hSw); go_simp; (try with_reducible rfl))
              (try simp only [Act.put, List.setIfInBounds_toArray, List.set_cons_zero, List.set_cons_succ])
              refine M_take (v := ?_) 18 rfl (by kernel_rfl) (by assumption) (fun _ _ _ h => h) (Or.inl ⟨by rfl, ?_⟩) ?_
              rotate_left
              · (intro w hSw; (try dsimp only at hSw); go_simp; (try with_reducible rfl))
              (try simp only [Act.put, List.setIfInBounds_toArray, List.set_cons_zero, List.set_cons_succ])
              refine M_take (v := ?_) 19 rfl (by kernel_rfl) (by assumption) (fun _ _ _ h => h) (Or.inl ⟨by rfl, ?_⟩) ?_
              rotate_left
              · (intro w hSw; (try dsimp only at hSw); go_simp; (try with_reducible rfl))
              (try simp only [Act.put, List.setIfInBounds_toArray, List.set_cons_zero, List.set_cons_succ])
              refine M_take (v := ?_) 20 rfl (by kernel_rfl) (by assumption) (fun _ _ _ h => h) (Or.inl ⟨by rfl, ?_⟩) ?_
              rotate_left
              · (intro w hSw; (try dsimp only at hSw); go_simp; (try with_reducible rfl))
              (try simp only [Act.put, List.setIfInBounds_toArray, List.set_cons_zero, List.set_cons_succ])
              refine M_take (v := ?_) 21 rfl (by kernel_rfl) (by assumption) (fun _ _ _ h => h) (Or.inl ⟨by rfl, ?_⟩) ?_
              rotate_left
              · (intro w hSw; (try dsimp only at hSw); go_simp; (try with_reducible rfl))
              (try simp only [Act.put, List.setIfInBounds_toArray, List.set_cons_zero, List.set_cons_succ])
              refine M_take (v := ?_) 22 rfl (by kernel_rfl) (by assumption) (fun _ _ _ h => h) (Or.inl ⟨by rfl, ?_⟩) ?_
              rotate_left
              · (intro w hSw; (try dsimp only at hSw); go_simp; (try with_reducible rfl))
              (try simp only [Act.put, List.setIfInBounds_toArray, List.set_cons_zero, List.set_cons_succ])
              refine M_take (v := ?_) 23 rfl (by kernel_rfl) (by assumption) (fun _ _ _ h => h) (Or.inl ⟨by rfl, ?_⟩) ?_
              rotate_left
              · (intro w hSw; (try dsimp only at hSw); go_simp; (try with_reducible rfl))
              (try simp only [Act.put, List.setIfInBounds_toArray, List.set_cons_zero, List.set_cons_succ])
              refine M_take (v := ?_) 24 rfl (by kernel_rfl) (by assumption) (fun _ _ _ h => h) (Or.inl ⟨by rfl, ?_⟩) ?_
              rotate_left
              · (intro w hSw; (try dsimp only at hSw); go_simp; (try with_reducible rfl))
              (try simp only [Act.put, List.setIfInBounds_toArray, List.set_cons_zero, List.set_cons_succ])
              refine M_take (v := ?_) 25 rfl (by kernel_rfl) (by assumption) (fun _ _ _ h => h) (Or.inl ⟨by rfl, ?_⟩) ?_
              rotate_left
              · (intro w hSw; (try dsimp only at hSw); go_simp; (try with_reducible rfl))
              (try simp only [Act.put, List.setIfInBounds_toArray, List.set_cons_zero, List.set_cons_succ])
              refine M_take (v := ?_) 26 rfl (by kernel_rfl) (by assumption) (fun _ _ _ h => h) (Or.inl ⟨by rfl, ?_⟩) ?_
              rotate_left
              · (intro w hSw; (try dsimp only at hSw); go_simp; (try with_reducible rfl))
              (try simp only [Act.put, List.setIfInBounds_toArray, List.set_cons_zero, List.set_cons_succ])
              refine M_take (v := ?_) 27 rfl (by kernel_rfl) (by assumption) (fun _ _ _ h => h) (Or.inl ⟨by rfl, ?_⟩) ?_
              rotate_left
              · (intro w hSw; (try dsimp only at hSw); go_simp; (try with_reducible rfl))
              (try simp only [Act.put, List.setIfInBounds_toArray, List.set_cons_zero, List.set_cons_succ])
              refine M_take (v := ?_) 28 rfl (by kernel_rfl) (by assumption) (fun _ _ _ h => h) (Or.inl ⟨by rfl, ?_⟩) ?_
              rotate_left
              · (intro w hSw; (try dsimp only at hSw); go_simp; (try with_reducible rfl))
              (try simp only [Act.put, List.setIfInBounds_toArray, List.set_cons_zero, List.set_cons_succ])
              refine M_step 29 rfl (by kernel_rfl) (fun K hK => ?_)
              go_simp
              skip
              refine hK.out _ _ (fun e => by cases e) ?_
              clear hK K
              (try simp only [Act.put, List.setIfInBounds_toArray, List.set_cons_zero, List.set_cons_succ])
              refine M_done (by kernel_rfl) ?_ _
              go_wp2_with fail
              go_roundw
              case rel => exact ⟨o + 1, by omega, by go_num, NX, NG⟩
              case measure => simp [intOf]; omega
            · obtain rfl : o = 3 := by omega
              have hN2 : Hid (NineR b (fw D (p * 9 + (f + 1) * 3)) wo) := Lib.hid (by rw [show p * 9 + (f + 1) * 3 = p * 9 + f * 3 + 3 by omega]; exact hN.out)
              rw [show ((3 : Nat) : Int) = 3 from rfl]
              clear hN
              go_wp2_with fail
              go_roundw
              case rel => exact ⟨f + 1, by omega, by go_num, hN2, hG⟩
              case measure => simp [intOf]; omega
        · obtain rfl : f = 3 := by omega
          have hN2 : Hid (NineR b (fw D ((p + 1) * 9)) wr) := Lib.hid (by rw [show (p + 1) * 9 = p * 9 + 3 * 3 by omega]; exact hN.out)
          rw [show ((3 : Nat) : Int) = 3 from rfl]
          clear hN
          go_wp2_with fail
          go_roundw
          case rel => exact ⟨p + 1, by omega, by go_num, hN2, hG⟩
          case measure => simp [intOf]; omega
    · obtain rfl : p = 3 := by omega
      rw [show ((3 : Nat) : Int) = 3 from rfl]
      go_wp2_with fail
      go_end0
      exact ⟨⟨_, rfl⟩, hN.out, hG.out⟩
end Go.Proofs.Ytpikaohodieeaaa
namespace Go.Proofs.Ytpikaohodieeaaa
open Go.RowKit
set_option linter.unusedSimpArgs false
set_option linter.unusedVariables false
theorem fw_three (D : Nat → Int) (h0 : D 0 = 0) (h4 : D 4 = 0) (h8 : D 8 = 0) (c1 : 0 ≤ D 1 + D 3) (c2 : 0 ≤ D 2 + D 6) (c3 : 0 ≤ min (D 5) (D 3 + D 2) + (min (D 7) (D 6 + D 1))) : fw D 27 5 = min (D 5) (D 3 + D 2) ∧ fw D 27 7 = min (D 7) (D 6 + D 1) := by
  have m0 : (min (0) (0 + (0)) : Int) = 0 := by omega
  have m1 : (min (D 1) (0 + (D 1)) : Int) = D 1 := by omega
  have m2 : (min (D 2) (0 + (D 2)) : Int) = D 2 := by omega
  have m3 : (min (D 3) (D 3 + (0)) : Int) = D 3 := by omega
  have m4 : (min (0) (D 3 + (D 1)) : Int) = 0 := by omega
  have m5 : (min (D 5) (D 3 + (D 2)) : Int) = min (D 5) (D 3 + D 2) := by omega
  have m6 : (min (D 6) (D 6 + (0)) : Int) = D 6 := by omega
  have m7 : (min (D 7) (D 6 + (D 1)) : Int) = min (D 7) (D 6 + D 1) := by omega
  have m8 : (min (0) (D 6 + (D 2)) : Int) = 0 := by omega
  have m9 : (min (0) (D 1 + (D 3)) : Int) = 0 := by omega
  have m10 : (min (D 1) (D 1 + (0)) : Int) = D 1 := by omega
  have m11 : (min (D 2) (D 1 + (min (D 5) (D 3 + D 2))) : Int) = min (D 2) (D 1 + min (D 5) (D 3 + D 2)) := by omega
  have m12 : (min (D 3) (0 + (D 3)) : Int) = D 3 := by omega
  have m13 : (min (min (D 5) (D 3 + D 2)) (0 + (min (D 5) (D 3 + D 2))) : Int) = min (D 5) (D 3 + D 2) := by omega
  have m14 : (min (D 6) (min (D 7) (D 6 + D 1) + (D 3)) : Int) = min (D 6) (min (D 7) (D 6 + D 1) + D 3) := by omega
  have m15 : (min (min (D 7) (D 6 + D 1)) (min (D 7) (D 6 + D 1) + (0)) : Int) = min (D 7) (D 6 + D 1) := by omega
  have m16 : (min (0) (min (D 7) (D 6 + D 1) + (min (D 5) (D 3 + D 2))) : Int) = 0 := by omega
  have m17 : (min (min (D 5) (D 3 + D 2)) (min (D 5) (D 3 + D 2) + (0)) : Int) = min (D 5) (D 3 + D 2) := by omega
  have m18 : (min (min (D 7) (D 6 + D 1)) (0 + (min (D 7) (D 6 + D 1))) : Int) = min (D 7) (D 6 + D 1) := by omega
  have e0_0 : fw D 0 0 = 0 := h0
  have e0_1 : fw D 0 1 = D 1 := rfl
  have e0_2 : fw D 0 2 = D 2 := rfl
  have e0_3 : fw D 0 3 = D 3 := rfl
  have e0_4 : fw D 0 4 = 0 := h4
  have e0_5 : fw D 0 5 = D 5 := rfl
  have e0_6 : fw D 0 6 = D 6 := rfl
  have e0_7 : fw D 0 7 = D 7 := rfl
  have e0_8 : fw D 0 8 = 0 := h8
  have e1_0 : fw D 1 0 = 0 := by
    have h : fw D 1 0 = min (fw D 0 0) (fw D 0 0 + fw D 0 0) := fw_at D 0
    rw [e0_0] at h
    rw [h]
    first | done | exact m0
  have e1_1 : fw D 1 1 = D 1 := (fw_ne D 0 1 (by decide)).trans e0_1
  have e1_2 : fw D 1 2 = D 2 := (fw_ne D 0 2 (by decide)).trans e0_2
  have e1_3 : fw D 1 3 = D 3 := (fw_ne D 0 3 (by decide)).trans e0_3
  have e1_4 : fw D 1 4 = 0 := (fw_ne D 0 4 (by decide)).trans e0_4
  have e1_5 : fw D 1 5 = D 5 := (fw_ne D 0 5 (by decide)).trans e0_5
  have e1_6 : fw D 1 6 = D 6 := (fw_ne D 0 6 (by decide)).trans e0_6
  have e1_7 : fw D 1 7 = D 7 := (fw_ne D 0 7 (by decide)).trans e0_7
  have e1_8 : fw D 1 8 = 0 := (fw_ne D 0 8 (by decide)).trans e0_8
  have e2_0 : fw D 2 0 = 0 := (fw_ne D 1 0 (by decide)).trans e1_0
  have e2_1 : fw D 2 1 = D 1 := by
    have h : fw D 2 1 = min (fw D 1 1) (fw D 1 0 + fw D 1 1) := fw_at D 1
    rw [e1_1, e1_0] at h
    rw [h]
    first | done | exact m1
  have e2_2 : fw D 2 2 = D 2 := (fw_ne D 1 2 (by decide)).trans e1_2
  have e2_3 : fw D 2 3 = D 3 := (fw_ne D 1 3 (by decide)).trans e1_3
  have e2_4 : fw D 2 4 = 0 := (fw_ne D 1 4 (by decide)).trans e1_4
  have e2_5 : fw D 2 5 = D 5 := (fw_ne D 1 5 (by decide)).trans e1_5
  have e2_6 : fw D 2 6 = D 6 := (fw_ne D 1 6 (by decide)).trans e1_6
  have e2_7 : fw D 2 7 = D 7 := (fw_ne D 1 7 (by decide)).trans e1_7
  have e2_8 : fw D 2 8 = 0 := (fw_ne D 1 8 (by decide)).trans e1_8
  have e3_0 : fw D 3 0 = 0 := (fw_ne D 2 0 (by decide)).trans e2_0
  have e3_1 : fw D 3 1 = D 1 := (fw_ne D 2 1 (by decide)).trans e2_1
  have e3_2 : fw D 3 2 = D 2 := by
    have h : fw D 3 2 = min (fw D 2 2) (fw D 2 0 + fw D 2 2) := fw_at D 2
    rw [e2_2, e2_0] at h
    rw [h]
    first | done | exact m2
  have e3_3 : fw D 3 3 = D 3 := (fw_ne D 2 3 (by decide)).trans e2_3
  have e3_4 : fw D 3 4 = 0 := (fw_ne D 2 4 (by decide)).trans e2_4
  have e3_5 : fw D 3 5 = D 5 := (fw_ne D 2 5 (by decide)).trans e2_5
  have e3_6 : fw D 3 6 = D 6 := (fw_ne D 2 6 (by decide)).trans e2_6
  have e3_7 : fw D 3 7 = D 7 := (fw_ne D 2 7 (by decide)).trans e2_7
  have e3_8 : fw D 3 8 = 0 := (fw_ne D 2 8 (by decide)).trans e2_8
  have e4_0 : fw D 4 0 = 0 := (fw_ne D 3 0 (by decide)).trans e3_0
  have e4_1 : fw D 4 1 = D 1 := (fw_ne D 3 1 (by decide)).trans e3_1
  have e4_2 : fw D 4 2 = D 2 := (fw_ne D 3 2 (by decide)).trans e3_2
  have e4_3 : fw D 4 3 = D 3 := by
    have h : fw D 4 3 = min (fw D 3 3) (fw D 3 3 + fw D 3 0) := fw_at D 3
    rw [e3_3, e3_0] at h
    rw [h]
    first | done | exact m3
  have e4_4 : fw D 4 4 = 0 := (fw_ne D 3 4 (by decide)).trans e3_4
  have e4_5 : fw D 4 5 = D 5 := (fw_ne D 3 5 (by decide)).trans e3_5
  have e4_6 : fw D 4 6 = D 6 := (fw_ne D 3 6 (by decide)).trans e3_6
  have e4_7 : fw D 4 7 = D 7 := (fw_ne D 3 7 (by decide)).trans e3_7
  have e4_8 : fw D 4 8 = 0 := (fw_ne D 3 8 (by decide)).trans e3_8
  have e5_0 : fw D 5 0 = 0 := (fw_ne D 4 0 (by decide)).trans e4_0
  have e5_1 : fw D 5 1 = D 1 := (fw_ne D 4 1 (by decide)).trans e4_1
  have e5_2 : fw D 5 2 = D 2 := (fw_ne D 4 2 (by decide)).trans e4_2
  have e5_3 : fw D 5 3 = D 3 := (fw_ne D 4 3 (by decide)).trans e4_3
  have e5_4 : fw D 5 4 = 0 := by
    have h : fw D 5 4 = min (fw D 4 4) (fw D 4 3 + fw D 4 1) := fw_at D 4
    rw [e4_4, e4_3, e4_1] at h
    rw [h]
    first | done | exact m4
  have e5_5 : fw D 5 5 = D 5 := (fw_ne D 4 5 (by decide)).trans e4_5
  have e5_6 : fw D 5 6 = D 6 := (fw_ne D 4 6 (by decide)).trans e4_6
  have e5_7 : fw D 5 7 = D 7 := (fw_ne D 4 7 (by decide)).trans e4_7
  have e5_8 : fw D 5 8 = 0 := (fw_ne D 4 8 (by decide)).trans e4_8
  have e6_0 : fw D 6 0 = 0 := (fw_ne D 5 0 (by decide)).trans e5_0
  have e6_1 : fw D 6 1 = D 1 := (fw_ne D 5 1 (by decide)).trans e5_1
  have e6_2 : fw D 6 2 = D 2 := (fw_ne D 5 2 (by decide)).trans e5_2
  have e6_3 : fw D 6 3 = D 3 := (fw_ne D 5 3 (by decide)).trans e5_3
  have e6_4 : fw D 6 4 = 0 := (fw_ne D 5 4 (by decide)).trans e5_4
  have e6_5 : fw D 6 5 = min (D 5) (D 3 + D 2) := by
    have h : fw D 6 5 = min (fw D 5 5) (fw D 5 3 + fw D 5 2) := fw_at D 5
    rw [e5_5, e5_3, e5_2] at h
    rw [h]
    first | done | exact m5
  have e6_6 : fw D 6 6 = D 6 := (fw_ne D 5 6 (by decide)).trans e5_6
  have e6_7 : fw D 6 7 = D 7 := (fw_ne D 5 7 (by decide)).trans e5_7
  have e6_8 : fw D 6 8 = 0 := (fw_ne D 5 8 (by decide)).trans e5_8
  have e7_0 : fw D 7 0 = 0 := (fw_ne D 6 0 (by decide)).trans e6_0
  have e7_1 : fw D 7 1 = D 1 := (fw_ne D 6 1 (by decide)).trans e6_1
  have e7_2 : fw D 7 2 = D 2 := (fw_ne D 6 2 (by decide)).trans e6_2
  have e7_3 : fw D 7 3 = D 3 := (fw_ne D 6 3 (by decide)).trans e6_3
  have e7_4 : fw D 7 4 = 0 := (fw_ne D 6 4 (by decide)).trans e6_4
  have e7_5 : fw D 7 5 = min (D 5) (D 3 + D 2) := (fw_ne D 6 5 (by decide)).trans e6_5
  have e7_6 : fw D 7 6 = D 6 := by
    have h : fw D 7 6 = min (fw D 6 6) (fw D 6 6 + fw D 6 0) := fw_at D 6
    rw [e6_6, e6_0] at h
    rw [h]
    first | done | exact m6
  have e7_7 : fw D 7 7 = D 7 := (fw_ne D 6 7 (by decide)).trans e6_7
  have e7_8 : fw D 7 8 = 0 := (fw_ne D 6 8 (by decide)).trans e6_8
  have e8_0 : fw D 8 0 = 0 := (fw_ne D 7 0 (by decide)).trans e7_0
  have e8_1 : fw D 8 1 = D 1 := (fw_ne D 7 1 (by decide)).trans e7_1
  have e8_2 : fw D 8 2 = D 2 := (fw_ne D 7 2 (by decide)).trans e7_2
  have e8_3 : fw D 8 3 = D 3 := (fw_ne D 7 3 (by decide)).trans e7_3
  have e8_4 : fw D 8 4 = 0 := (fw_ne D 7 4 (by decide)).trans e7_4
  have e8_5 : fw D 8 5 = min (D 5) (D 3 + D 2) := (fw_ne D 7 5 (by decide)).trans e7_5
  have e8_6 : fw D 8 6 = D 6 := (fw_ne D 7 6 (by decide)).trans e7_6
  have e8_7 : fw D 8 7 = min (D 7) (D 6 + D 1) := by
    have h : fw D 8 7 = min (fw D 7 7) (fw D 7 6 + fw D 7 1) := fw_at D 7
    rw [e7_7, e7_6, e7_1] at h
    rw [h]
    first | done | exact m7
  have e8_8 : fw D 8 8 = 0 := (fw_ne D 7 8 (by decide)).trans e7_8
  have e9_0 : fw D 9 0 = 0 := (fw_ne D 8 0 (by decide)).trans e8_0
  have e9_1 : fw D 9 1 = D 1 := (fw_ne D 8 1 (by decide)).trans e8_1
  have e9_2 : fw D 9 2 = D 2 := (fw_ne D 8 2 (by decide)).trans e8_2
  have e9_3 : fw D 9 3 = D 3 := (fw_ne D 8 3 (by decide)).trans e8_3
  have e9_4 : fw D 9 4 = 0 := (fw_ne D 8 4 (by decide)).trans e8_4
  have e9_5 : fw D 9 5 = min (D 5) (D 3 + D 2) := (fw_ne D 8 5 (by decide)).trans e8_5
  have e9_6 : fw D 9 6 = D 6 := (fw_ne D 8 6 (by decide)).trans e8_6
  have e9_7 : fw D 9 7 = min (D 7) (D 6 + D 1) := (fw_ne D 8 7 (by decide)).trans e8_7
  have e9_8 : fw D 9 8 = 0 := by
    have h : fw D 9 8 = min (fw D 8 8) (fw D 8 6 + fw D 8 2) := fw_at D 8
    rw [e8_8, e8_6, e8_2] at h
    rw [h]
    first | done | exact m8
  have e10_0 : fw D 10 0 = 0 := by
    have h : fw D 10 0 = min (fw D 9 0) (fw D 9 1 + fw D 9 3) := fw_at D 9
    rw [e9_0, e9_1, e9_3] at h
    rw [h]
    first | done | exact m9
  have e10_1 : fw D 10 1 = D 1 := (fw_ne D 9 1 (by decide)).trans e9_1
  have e10_2 : fw D 10 2 = D 2 := (fw_ne D 9 2 (by decide)).trans e9_2
  have e10_3 : fw D 10 3 = D 3 := (fw_ne D 9 3 (by decide)).trans e9_3
  have e10_4 : fw D 10 4 = 0 := (fw_ne D 9 4 (by decide)).trans e9_4
  have e10_5 : fw D 10 5 = min (D 5) (D 3 + D 2) := (fw_ne D 9 5 (by decide)).trans e9_5
  have e10_6 : fw D 10 6 = D 6 := (fw_ne D 9 6 (by decide)).trans e9_6
  have e10_7 : fw D 10 7 = min (D 7) (D 6 + D 1) := (fw_ne D 9 7 (by decide)).trans e9_7
  have e10_8 : fw D 10 8 = 0 := (fw_ne D 9 8 (by decide)).trans e9_8
  have e11_0 : fw D 11 0 = 0 := (fw_ne D 10 0 (by decide)).trans e10_0
  have e11_1 : fw D 11 1 = D 1 := by
    have h : fw D 11 1 = min (fw D 10 1) (fw D 10 1 + fw D 10 4) := fw_at D 10
    rw [e10_1, e10_4] at h
    rw [h]
    first | done | exact m10
  have e11_2 : fw D 11 2 = D 2 := (fw_ne D 10 2 (by decide)).trans e10_2
  have e11_3 : fw D 11 3 = D 3 := (fw_ne D 10 3 (by decide)).trans e10_3
  have e11_4 : fw D 11 4 = 0 := (fw_ne D 10 4 (by decide)).trans e10_4
  have e11_5 : fw D 11 5 = min (D 5) (D 3 + D 2) := (fw_ne D 10 5 (by decide)).trans e10_5
  have e11_6 : fw D 11 6 = D 6 := (fw_ne D 10 6 (by decide)).trans e10_6
  have e11_7 : fw D 11 7 = min (D 7) (D 6 + D 1) := (fw_ne D 10 7 (by decide)).trans e10_7
  have e11_8 : fw D 11 8 = 0 := (fw_ne D 10 8 (by decide)).trans e10_8
  have e12_0 : fw D 12 0 = 0 := (fw_ne D 11 0 (by decide)).trans e11_0
  have e12_1 : fw D 12 1 = D 1 := (fw_ne D 11 1 (by decide)).trans e11_1
  have e12_2 : fw D 12 2 = min (D 2) (D 1 + min (D 5) (D 3 + D 2)) := by
    have h : fw D 12 2 = min (fw D 11 2) (fw D 11 1 + fw D 11 5) := fw_at D 11
    rw [e11_2, e11_1, e11_5] at h
    rw [h]
    first | done | exact m11
  have e12_3 : fw D 12 3 = D 3 := (fw_ne D 11 3 (by decide)).trans e11_3
  have e12_4 : fw D 12 4 = 0 := (fw_ne D 11 4 (by decide)).trans e11_4
  have e12_5 : fw D 12 5 = min (D 5) (D 3 + D 2) := (fw_ne D 11 5 (by decide)).trans e11_5
  have e12_6 : fw D 12 6 = D 6 := (fw_ne D 11 6 (by decide)).trans e11_6
  have e12_7 : fw D 12 7 = min (D 7) (D 6 + D 1) := (fw_ne D 11 7 (by decide)).trans e11_7
  have e12_8 : fw D 12 8 = 0 := (fw_ne D 11 8 (by decide)).trans e11_8
  have e13_0 : fw D 13 0 = 0 := (fw_ne D 12 0 (by decide)).trans e12_0
  have e13_1 : fw D 13 1 = D 1 := (fw_ne D 12 1 (by decide)).trans e12_1
  have e13_2 : fw D 13 2 = min (D 2) (D 1 + min (D 5) (D 3 + D 2)) := (fw_ne D 12 2 (by decide)).trans e12_2
  have e13_3 : fw D 13 3 = D 3 := by
    have h : fw D 13 3 = min (fw D 12 3) (fw D 12 4 + fw D 12 3) := fw_at D 12
    rw [e12_3, e12_4] at h
    rw [h]
    first | done | exact m12
  have e13_4 : fw D 13 4 = 0 := (fw_ne D 12 4 (by decide)).trans e12_4
  have e13_5 : fw D 13 5 = min (D 5) (D 3 + D 2) := (fw_ne D 12 5 (by decide)).trans e12_5
  have e13_6 : fw D 13 6 = D 6 := (fw_ne D 12 6 (by decide)).trans e12_6
  have e13_7 : fw D 13 7 = min (D 7) (D 6 + D 1) := (fw_ne D 12 7 (by decide)).trans e12_7
  have e13_8 : fw D 13 8 = 0 := (fw_ne D 12 8 (by decide)).trans e12_8
  have e14_0 : fw D 14 0 = 0 := (fw_ne D 13 0 (by decide)).trans e13_0
  have e14_1 : fw D 14 1 = D 1 := (fw_ne D 13 1 (by decide)).trans e13_1
  have e14_2 : fw D 14 2 = min (D 2) (D 1 + min (D 5) (D 3 + D 2)) := (fw_ne D 13 2 (by decide)).trans e13_2
  have e14_3 : fw D 14 3 = D 3 := (fw_ne D 13 3 (by decide)).trans e13_3
  have e14_4 : fw D 14 4 = 0 := by
    have h : fw D 14 4 = min (fw D 13 4) (fw D 13 4 + fw D 13 4) := fw_at D 13
    rw [e13_4] at h
    rw [h]
    first | done | exact m0
  have e14_5 : fw D 14 5 = min (D 5) (D 3 + D 2) := (fw_ne D 13 5 (by decide)).trans e13_5
  have e14_6 : fw D 14 6 = D 6 := (fw_ne D 13 6 (by decide)).trans e13_6
  have e14_7 : fw D 14 7 = min (D 7) (D 6 + D 1) := (fw_ne D 13 7 (by decide)).trans e13_7
  have e14_8 : fw D 14 8 = 0 := (fw_ne D 13 8 (by decide)).trans e13_8
  have e15_0 : fw D 15 0 = 0 := (fw_ne D 14 0 (by decide)).trans e14_0
  have e15_1 : fw D 15 1 = D 1 := (fw_ne D 14 1 (by decide)).trans e14_1
  have e15_2 : fw D 15 2 = min (D 2) (D 1 + min (D 5) (D 3 + D 2)) := (fw_ne D 14 2 (by decide)).trans e14_2
  have e15_3 : fw D 15 3 = D 3 := (fw_ne D 14 3 (by decide)).trans e14_3
  have e15_4 : fw D 15 4 = 0 := (fw_ne D 14 4 (by decide)).trans e14_4
  have e15_5 : fw D 15 5 = min (D 5) (D 3 + D 2) := by
    have h : fw D 15 5 = min (fw D 14 5) (fw D 14 4 + fw D 14 5) := fw_at D 14
    rw [e14_5, e14_4] at h
    rw [h]
    first | done | exact m13
  have e15_6 : fw D 15 6 = D 6 := (fw_ne D 14 6 (by decide)).trans e14_6
  have e15_7 : fw D 15 7 = min (D 7) (D 6 + D 1) := (fw_ne D 14 7 (by decide)).trans e14_7
  have e15_8 : fw D 15 8 = 0 := (fw_ne D 14 8 (by decide)).trans e14_8
  have e16_0 : fw D 16 0 = 0 := (fw_ne D 15 0 (by decide)).trans e15_0
  have e16_1 : fw D 16 1 = D 1 := (fw_ne D 15 1 (by decide)).trans e15_1
  have e16_2 : fw D 16 2 = min (D 2) (D 1 + min (D 5) (D 3 + D 2)) := (fw_ne D 15 2 (by decide)).trans e15_2
  have e16_3 : fw D 16 3 = D 3 := (fw_ne D 15 3 (by decide)).trans e15_3
  have e16_4 : fw D 16 4 = 0 := (fw_ne D 15 4 (by decide)).trans e15_4
  have e16_5 : fw D 16 5 = min (D 5) (D 3 + D 2) := (fw_ne D 15 5 (by decide)).trans e15_5
  have e16_6 : fw D 16 6 = min (D 6) (min (D 7) (D 6 + D 1) + D 3) := by
    have h : fw D 16 6 = min (fw D 15 6) (fw D 15 7 + fw D 15 3) := fw_at D 15
    rw [e15_6, e15_7, e15_3] at h
    rw [h]
    first | done | exact m14
  have e16_7 : fw D 16 7 = min (D 7) (D 6 + D 1) := (fw_ne D 15 7 (by decide)).trans e15_7
  have e16_8 : fw D 16 8 = 0 := (fw_ne D 15 8 (by decide)).trans e15_8
  have e17_0 : fw D 17 0 = 0 := (fw_ne D 16 0 (by decide)).trans e16_0
  have e17_1 : fw D 17 1 = D 1 := (fw_ne D 16 1 (by decide)).trans e16_1
  have e17_2 : fw D 17 2 = min (D 2) (D 1 + min (D 5) (D 3 + D 2)) := (fw_ne D 16 2 (by decide)).trans e16_2
  have e17_3 : fw D 17 3 = D 3 := (fw_ne D 16 3 (by decide)).trans e16_3
  have e17_4 : fw D 17 4 = 0 := (fw_ne D 16 4 (by decide)).trans e16_4
  have e17_5 : fw D 17 5 = min (D 5) (D 3 + D 2) := (fw_ne D 16 5 (by decide)).trans e16_5
  have e17_6 : fw D 17 6 = min (D 6) (min (D 7) (D 6 + D 1) + D 3) := (fw_ne D 16 6 (by decide)).trans e16_6
  have e17_7 : fw D 17 7 = min (D 7) (D 6 + D 1) := by
    have h : fw D 17 7 = min (fw D 16 7) (fw D 16 7 + fw D 16 4) := fw_at D 16
    rw [e16_7, e16_4] at h
    rw [h]
    first | done | exact m15
  have e17_8 : fw D 17 8 = 0 := (fw_ne D 16 8 (by decide)).trans e16_8
  have e18_0 : fw D 18 0 = 0 := (fw_ne D 17 0 (by decide)).trans e17_0
  have e18_1 : fw D 18 1 = D 1 := (fw_ne D 17 1 (by decide)).trans e17_1
  have e18_2 : fw D 18 2 = min (D 2) (D 1 + min (D 5) (D 3 + D 2)) := (fw_ne D 17 2 (by decide)).trans e17_2
  have e18_3 : fw D 18 3 = D 3 := (fw_ne D 17 3 (by decide)).trans e17_3
  have e18_4 : fw D 18 4 = 0 := (fw_ne D 17 4 (by decide)).trans e17_4
  have e18_5 : fw D 18 5 = min (D 5) (D 3 + D 2) := (fw_ne D 17 5 (by decide)).trans e17_5
  have e18_6 : fw D 18 6 = min (D 6) (min (D 7) (D 6 + D 1) + D 3) := (fw_ne D 17 6 (by decide)).trans e17_6
  have e18_7 : fw D 18 7 = min (D 7) (D 6 + D 1) := (fw_ne D 17 7 (by decide)).trans e17_7
  have e18_8 : fw D 18 8 = 0 := by
    have h : fw D 18 8 = min (fw D 17 8) (fw D 17 7 + fw D 17 5) := fw_at D 17
    rw [e17_8, e17_7, e17_5] at h
    rw [h]
    first | done | exact m16
  have e19_5 : fw D 19 5 = min (D 5) (D 3 + D 2) := (fw_ne D 18 5 (by decide)).trans e18_5
  have e19_7 : fw D 19 7 = min (D 7) (D 6 + D 1) := (fw_ne D 18 7 (by decide)).trans e18_7
  have e19_8 : fw D 19 8 = 0 := (fw_ne D 18 8 (by decide)).trans e18_8
  have e20_5 : fw D 20 5 = min (D 5) (D 3 + D 2) := (fw_ne D 19 5 (by decide)).trans e19_5
  have e20_7 : fw D 20 7 = min (D 7) (D 6 + D 1) := (fw_ne D 19 7 (by decide)).trans e19_7
  have e20_8 : fw D 20 8 = 0 := (fw_ne D 19 8 (by decide)).trans e19_8
  have e21_5 : fw D 21 5 = min (D 5) (D 3 + D 2) := (fw_ne D 20 5 (by decide)).trans e20_5
  have e21_7 : fw D 21 7 = min (D 7) (D 6 + D 1) := (fw_ne D 20 7 (by decide)).trans e20_7
  have e21_8 : fw D 21 8 = 0 := (fw_ne D 20 8 (by decide)).trans e20_8
  have e22_5 : fw D 22 5 = min (D 5) (D 3 + D 2) := (fw_ne D 21 5 (by decide)).trans e21_5
  have e22_7 : fw D 22 7 = min (D 7) (D 6 + D 1) := (fw_ne D 21 7 (by decide)).trans e21_7
  have e22_8 : fw D 22 8 = 0 := (fw_ne D 21 8 (by decide)).trans e21_8
  have e23_5 : fw D 23 5 = min (D 5) (D 3 + D 2) := (fw_ne D 22 5 (by decide)).trans e22_5
  have e23_7 : fw D 23 7 = min (D 7) (D 6 + D 1) := (fw_ne D 22 7 (by decide)).trans e22_7
  have e23_8 : fw D 23 8 = 0 := (fw_ne D 22 8 (by decide)).trans e22_8
  have e24_5 : fw D 24 5 = min (D 5) (D 3 + D 2) := by
    have h : fw D 24 5 = min (fw D 23 5) (fw D 23 5 + fw D 23 8) := fw_at D 23
    rw [e23_5, e23_8] at h
    rw [h]
    first | done | exact m17
  have e24_7 : fw D 24 7 = min (D 7) (D 6 + D 1) := (fw_ne D 23 7 (by decide)).trans e23_7
  have e24_8 : fw D 24 8 = 0 := (fw_ne D 23 8 (by decide)).trans e23_8
  have e25_5 : fw D 25 5 = min (D 5) (D 3 + D 2) := (fw_ne D 24 5 (by decide)).trans e24_5
  have e25_7 : fw D 25 7 = min (D 7) (D 6 + D 1) := (fw_ne D 24 7 (by decide)).trans e24_7
  have e25_8 : fw D 25 8 = 0 := (fw_ne D 24 8 (by decide)).trans e24_8
  have e26_5 : fw D 26 5 = min (D 5) (D 3 + D 2) := (fw_ne D 25 5 (by decide)).trans e25_5
  have e26_7 : fw D 26 7 = min (D 7) (D 6 + D 1) := by
    have h : fw D 26 7 = min (fw D 25 7) (fw D 25 8 + fw D 25 7) := fw_at D 25
    rw [e25_7, e25_8] at h
    rw [h]
    first | done | exact m18
  have e26_8 : fw D 26 8 = 0 := (fw_ne D 25 8 (by decide)).trans e25_8
  exact ⟨(fw_ne D 26 5 (by decide)).trans e26_5, (fw_ne D 26 7 (by decide)).trans e26_7⟩

theorem NineR.same {b : Nat} {D D' : Nat → Int} {w : World} (h : NineR b D w) (e : ∀ i, i < 9 → D i = D' i) : NineR b D' w := ⟨h.lt, fun i hi => by rw [← e i hi]; exact h.c i hi, h.f⟩
theorem Bt.other {b G o : Nat} {x y : Int} {u : Value} {w : World} (h : Bt b x y w) (hne : b ≠ G) : Bt b x y (w.setCell ⟨G, o, none⟩ u) :=
  ⟨cell_ne h.c0 hne, cell_ne h.c1 hne, by rw [World.frozen?_setCell]; exact h.f0, by rw [World.frozen?_setCell]; exact h.f1⟩
/-- by how much a column may be later than another one -/
def apS (G S : Nat → Int × Int) (a b : Nat) : Int × Int := (max (addedF G a b).1 ((S b).1 - (S a).2), min (addedF G a b).2 ((S b).2 - (S a).1))
/-- the matrix of apart -/
def apD (G S : Nat → Int × Int) (a b : Nat) : Nat → Int
  | 1 => (S a).2
  | 2 => (S b).2
  | 3 => -(S a).1
  | 5 => (addedF G a b).2
  | 6 => -(S b).1
  | 7 => -(addedF G a b).1
  | _ => 0
theorem nine_new (w : World) (t : TypeId) : NineR w.heap.size (fun _ => 0) ((w.alloc (.cells #[.int .i64 0, .int .i64 0, .int .i64 0, .int .i64 0, .int .i64 0, .int .i64 0, .int .i64 0, .int .i64 0, .int .i64 0] t)).drew) := by
  refine ⟨by simp [World.size_drew], fun i hi => ?_, fun o => by show World.frozen? (w.alloc _) _ = false; unfold World.frozen?; rw [World.alloc_heap_new]; simp⟩
  show World.cell? (w.alloc _) _ = _
  have h := World.alloc_heap_new w (.cells #[.int .i64 0, .int .i64 0, .int .i64 0, .int .i64 0, .int .i64 0, .int .i64 0, .int .i64 0, .int .i64 0, .int .i64 0] t)
  simp only [World.cell?, Option.isSome_none, Bool.false_eq_true, if_false]
  rw [h]
  match i, hi with
  | 0, _ => rfl
  | 1, _ => rfl
  | 2, _ => rfl
  | 3, _ => rfl
  | 4, _ => rfl
  | 5, _ => rfl
  | 6, _ => rfl
  | 7, _ => rfl
  | 8, _ => rfl
theorem addedF_bd {G : Nat → Int × Int} {n a b : Nat} (hn : n ≤ 200) (ha : a ≤ n) (hb : b ≤ n) (h : ∀ i, i < n → 0 ≤ (G i).1 ∧ (G i).1 ≤ (G i).2 ∧ (G i).2 ≤ 10000) : Bd 2000000 (addedF G a b) := by
  have key : ∀ x k, x + k ≤ n → Bd (10000 * k) (sumK G x k) := by
    intro x k
    induction k with
    | zero => intro _; unfold Bd sumK; simp
    | succ k ih =>
      intro hk
      have h1 := ih (by omega)
      have h2 := h (x + k) (by omega)
      unfold Bd at h1 ⊢
      simp only [sumK, addS]
      omega
  unfold addedF
  split
  · exact (key a (b - a) (by omega)).more (by omega)
  · have h1 := (key b (a - b) (by omega)).more (N := 2000000) (by omega)
    unfold Bd at h1 ⊢
    simp only [oppS]
    omega
set_option maxRecDepth 100000 in
set_option maxHeartbeats 2000000 in
theorem apart_any (g n gc t tc : Nat) (G S : Nat → Int × Int) (a b : Nat) (w : World) (hG : SpR g n G w) (hS : SpR t (n + 1) S w) (hgc : n ≤ gc) (hn : n ≤ 200) (ha : a ≤ n) (hb : b ≤ n) (hbd : ∀ i, i < n → 0 ≤ (G i).1 ∧ (G i).1 ≤ (G i).2 ∧ (G i).2 ≤ 10000)
    (hT : ∀ i, i ≤ n → 0 ≤ (S i).1 ∧ (S i).1 ≤ (S i).2 ∧ (S i).2 ≤ 400) (hx : ∃ x y : Int, ((S a).1 ≤ x ∧ x ≤ (S a).2) ∧ ((S b).1 ≤ y ∧ y ≤ (S b).2) ∧ (addedF G a b).1 ≤ y - x ∧ y - x ≤ (addedF G a b).2) :
    Calls Try.prog 97 #[.slice (some ⟨g, 0, none⟩) n gc, .slice (some ⟨t, 0, none⟩) (n + 1) tc, .int .i64 a, .int .i64 b] w fun e w' => e = .returned (Sp (apS G S a b)) ∧ Below w.heap.size w w' := by
  have had := addedF_bd hn ha hb hbd
  have hTa := hT a ha
  have hTb := hT b hb
  obtain ⟨x, y, hx1, hx2, hx3, hx4⟩ := hx
  have hgl := hG.lt
  have htl := hS.lt
  have HS := Lib.hid hS
  obtain ⟨w1, hw1⟩ : ∃ w1 : World, w1 = w.alloc (.cells #[.int .i64 0, .int .i64 0] 31) := ⟨_, rfl⟩
  have B1 : Below w.heap.size w w1 := by rw [hw1]; exact box1 _ _
  have R1 : Bt w.heap.size 0 0 w1 := by rw [hw1]; exact Bt.new _ _ _ _
  have KA := Lib.hid (added_any g n gc G a b w1 (hG.up B1) hgc hn ha hb (fun i hi => by have := hbd i hi; unfold Bd; omega))
  have HB := Lib.hid B1
  have HR := Lib.hid R1
  have hF := fw_three (apD G S a b) rfl rfl rfl (by simp only [apD]; omega) (by simp only [apD]; omega) (by simp only [apD]; omega)
  simp only [apD] at hF
  have HF := Lib.hid hF
  have HBV : Hid ((-2000000 ≤ (addedF G a b).1 ∧ (addedF G a b).1 ≤ 2000000) ∧ (0 ≤ (S a).1 ∧ (S a).2 ≤ 400 ∧ 0 ≤ (S b).1 ∧ (S b).2 ≤ 400 ∧ (S a).1 ≤ (S a).2 ∧ (S b).1 ≤ (S b).2)) := Lib.hid (by unfold Bd at had; omega)
  have HDB : Hid (∀ k, k < 9 → -10000000 ≤ apD G S a b k ∧ apD G S a b k ≤ 10000000) := Lib.hid fun k hk => by
    unfold Bd at had
    match k, hk with
    | 0, _ => simp only [apD]; omega
    | 1, _ => simp only [apD]; omega
    | 2, _ => simp only [apD]; omega
    | 3, _ => simp only [apD]; omega
    | 4, _ => simp only [apD]; omega
    | 5, _ => simp only [apD]; omega
    | 6, _ => simp only [apD]; omega
    | 7, _ => simp only [apD]; omega
    | 8, _ => simp only [apD]; omega
  unfold Bd at had
  have n1 : IntKind.i64.wrap (-(S a).1) = -(S a).1 := IntWalk.i64_in _ (by omega)
  have n2 : IntKind.i64.wrap (-(S b).1) = -(S b).1 := IntWalk.i64_in _ (by omega)
  have n3 : IntKind.i64.wrap (-(addedF G a b).1) = -(addedF G a b).1 := IntWalk.i64_in _ (by omega)
  have a0 : (0 : Int) ≤ (a : Int) := by omega
  have a1 : (a : Int) < (n : Int) + 1 := by omega
  have a2 : a < n + 1 := by omega
  have b0 : (0 : Int) ≤ (b : Int) := by omega
  have b1 : (b : Int) < (n : Int) + 1 := by omega
  have b2 : b < n + 1 := by omega
  clear hG hS B1 R1 hbd hT hF hx1 hx2 hx3 hx4 hTa hTb had
  go_enter Try.func97, Try.ntmps97
  go_wp2_with fail
  rw [← hw1]
  refine KA.out.mono ?_
  rintro e w2 ⟨rfl, hb2⟩
  have D2 := Lib.hid (nextB HB.out hb2)
  have R2 := Lib.hid (HR.out.up hb2)
  clear hb2 hw1
  go_wp2_with fail
  obtain ⟨w3, hw3⟩ : ∃ w3 : World, w3 = w2.alloc (.cells #[.int .i64 (addedF G a b).1, .int .i64 (addedF G a b).2] 31) := ⟨_, rfl⟩
  rw [← hw3]
  have hb3 : Below w2.heap.size w2 w3 := by rw [hw3]; exact box1 _ _
  have bt3 : Bt w2.heap.size (addedF G a b).1 (addedF G a b).2 w3 := by rw [hw3]; exact Bt.new _ _ _ _
  have hs3 : w3.heap.size = w2.heap.size + 1 := by rw [hw3]; simp
  have D3 := Lib.hid (nextB D2.out hb3)
  have R3 := Lib.hid (R2.out.up hb3)
  have HS3 := HS.out.up (D3.out.mono (Nat.le_refl _))
  have c1 := HS3.c0 a a2
  have c2 := HS3.c1 a a2
  have c3 := HS3.c0 b b2
  have c4 := HS3.c1 b b2
  obtain ⟨c5, c6, _, _⟩ := bt3
  have ht3 := HS3.lt
  clear hw3 hb3 HS3
  refine wp_region_M [32] (fun w' => w'.cell? ⟨t, a * 2, none⟩ = some (.int .i64 (S a).1) ∧ w'.cell? ⟨t, a * 2 + 1, none⟩ = some (.int .i64 (S a).2) ∧ w'.cell? ⟨t, b * 2, none⟩ = some (.int .i64 (S b).1) ∧ w'.cell? ⟨t, b * 2 + 1, none⟩ = some (.int .i64 (S b).2) ∧ w'.cell? ⟨w2.heap.size, 0, none⟩ = some (.int .i64 (addedF G a b).1) ∧ w'.cell? ⟨w2.heap.size, 1, none⟩ = some (.int .i64 (addedF G a b).2)) (by kernel_rfl) (by kernel_rfl) (by (try dsimp only); (repeat' apply And.intro); all_goals first | assumption | (go_simp; done)) (fun hT0 => ?_)
  refine M_take (v := ?_) 0 rfl (by kernel_rfl) (by assumption) (fun _ _ _ h => h) (Or.inl ⟨by rfl, ?_⟩) ?_
  rotate_left
  · (intro w hSw; (try dsimp only at hSw); go_simp; (try with_reducible rfl))
  (try simp only [Act.put, List.setIfInBounds_toArray, List.set_cons_zero, List.set_cons_succ])
  refine M_take (v := ?_) 1 rfl (by kernel_rfl) (by assumption) (fun _ _ _ h => h) (Or.inl ⟨by rfl, ?_⟩) ?_
  rotate_left
  · (intro w hSw; (try dsimp only at hSw); go_simp; (try with_reducible rfl))
  (try simp only [Act.put, List.setIfInBounds_toArray, List.set_cons_zero, List.set_cons_succ])
  refine M_take (v := ?_) 2 rfl (by kernel_rfl) (by assumption) (fun _ _ _ h => h) (Or.inl ⟨by rfl, ?_⟩) ?_
  rotate_left
  · (intro w hSw; (try dsimp only at hSw); go_simp; (try with_reducible rfl))
  (try simp only [Act.put, List.setIfInBounds_toArray, List.set_cons_zero, List.set_cons_succ])
  refine M_take (v := ?_) 3 rfl (by kernel_rfl) (by assumption) (fun _ _ _ h => h) (Or.inl ⟨by rfl, ?_⟩) ?_
  rotate_left
  · (intro w hSw; (try dsimp only at hSw); go_simp; (try with_reducible rfl))
  (try simp only [Act.put, List.setIfInBounds_toArray, List.set_cons_zero, List.set_cons_succ])
  refine M_take (v := ?_) 4 rfl (by kernel_rfl) (by assumption) (fun _ _ _ h => h) (Or.inl ⟨by rfl, ?_⟩) ?_
  rotate_left
  · (intro w hSw; (try dsimp only at hSw); go_simp; (try with_reducible rfl))
  (try simp only [Act.put, List.setIfInBounds_toArray, List.set_cons_zero, List.set_cons_succ])
  refine M_take (v := ?_) 5 rfl (by kernel_rfl) (by assumption) (fun _ _ _ h => h) (Or.inl ⟨by rfl, ?_⟩) ?_
  rotate_left
  · (intro w hSw; (try dsimp only at hSw); go_simp; (try with_reducible rfl))
  (try simp only [Act.put, List.setIfInBounds_toArray, List.set_cons_zero, List.set_cons_succ])
  refine M_take (v := ?_) 6 rfl (by kernel_rfl) (by assumption) (fun _ _ _ h => h) (Or.inl ⟨by rfl, ?_⟩) ?_
  rotate_left
  · (intro w hSw; (try dsimp only at hSw); go_simp; (try with_reducible rfl))
  (try simp only [Act.put, List.setIfInBounds_toArray, List.set_cons_zero, List.set_cons_succ])
  refine M_take (v := ?_) 7 rfl (by kernel_rfl) (by assumption) (fun _ _ _ h => h) (Or.inl ⟨by rfl, ?_⟩) ?_
  rotate_left
  · (intro w hSw; (try dsimp only at hSw); go_simp; (try with_reducible rfl))
  (try simp only [Act.put, List.setIfInBounds_toArray, List.set_cons_zero, List.set_cons_succ])
  refine M_take (v := ?_) 8 rfl (by kernel_rfl) (by assumption) (fun _ _ _ h => h) (Or.inl ⟨by rfl, ?_⟩) ?_
  rotate_left
  · (intro w hSw; (try dsimp only at hSw); go_simp; (try with_reducible rfl))
  (try simp only [Act.put, List.setIfInBounds_toArray, List.set_cons_zero, List.set_cons_succ])
  refine M_take (v := ?_) 9 rfl (by kernel_rfl) (by assumption) (fun _ _ _ h => h) (Or.inl ⟨by rfl, ?_⟩) ?_
  rotate_left
  · (intro w hSw; (try dsimp only at hSw); go_simp; (try with_reducible rfl))
  (try simp only [Act.put, List.setIfInBounds_toArray, List.set_cons_zero, List.set_cons_succ])
  refine M_take (v := ?_) 10 rfl (by kernel_rfl) (by assumption) (fun _ _ _ h => h) (Or.inl ⟨by rfl, ?_⟩) ?_
  rotate_left
  · (intro w hSw; (try dsimp only at hSw); go_simp; (try with_reducible rfl))
  (try simp only [Act.put, List.setIfInBounds_toArray, List.set_cons_zero, List.set_cons_succ])
  refine M_take (v := ?_) 11 rfl (by kernel_rfl) (by assumption) (fun _ _ _ h => h) (Or.inl ⟨by rfl, ?_⟩) ?_
  rotate_left
  · (intro w hSw; (try dsimp only at hSw); go_simp; (try with_reducible rfl))
  (try simp only [Act.put, List.setIfInBounds_toArray, List.set_cons_zero, List.set_cons_succ])
  refine M_take (v := ?_) 12 rfl (by kernel_rfl) (by assumption) (fun _ _ _ h => h) (Or.inl ⟨by rfl, ?_⟩) ?_
  rotate_left
  · (intro w hSw; (try dsimp only at hSw); go_simp; (try with_reducible rfl))
  (try simp only [Act.put, List.setIfInBounds_toArray, List.set_cons_zero, List.set_cons_succ])
  refine M_take (v := ?_) 13 rfl (by kernel_rfl) (by assumption) (fun _ _ _ h => h) (Or.inl ⟨by rfl, ?_⟩) ?_
  rotate_left
  · (intro w hSw; (try dsimp only at hSw); go_simp; (try with_reducible rfl))
  (try simp only [Act.put, List.setIfInBounds_toArray, List.set_cons_zero, List.set_cons_succ])
  refine M_take (v := ?_) 14 rfl (by kernel_rfl) (by assumption) (fun _ _ _ h => h) (Or.inl ⟨by rfl, ?_⟩) ?_
  rotate_left
  · (intro w hSw; (try dsimp only at hSw); go_simp; (try with_reducible rfl))
  (try simp only [Act.put, List.setIfInBounds_toArray, List.set_cons_zero, List.set_cons_succ])
  refine M_take (v := ?_) 15 rfl (by kernel_rfl) (by assumption) (fun _ _ _ h => h) (Or.inl ⟨by rfl, ?_⟩) ?_
  rotate_left
  · (intro w hSw; (try dsimp only at hSw); go_simp; (try with_reducible rfl))
  (try simp only [Act.put, List.setIfInBounds_toArray, List.set_cons_zero, List.set_cons_succ])
  refine M_take (v := ?_) 16 rfl (by kernel_rfl) (by assumption) (fun _ _ _ h => h) (Or.inl ⟨by rfl, ?_⟩) ?_
  rotate_left
  · (intro w hSw; (try dsimp only at hSw); go_simp; (try with_reducible rfl))
  (try simp only [Act.put, List.setIfInBounds_toArray, List.set_cons_zero, List.set_cons_succ])
  refine M_take (v := ?_) 17 rfl (by kernel_rfl) (by assumption) (fun _ _ _ h => h) (Or.inl ⟨by rfl, ?_⟩) ?_
  rotate_left
  · (intro w hSw; (try dsimp only at hSw); go_simp; (try with_reducible rfl))
  (try simp only [Act.put, List.setIfInBounds_toArray, List.set_cons_zero, List.set_cons_succ])
  refine M_take (v := ?_) 18 rfl (by kernel_rfl) (by assumption) (fun _ _ _ h => h) (Or.inl ⟨by rfl, ?_⟩) ?_
  rotate_left
  · (intro w hSw; (try dsimp only at hSw); go_simp; (try with_reducible rfl))
  (try simp only [Act.put, List.setIfInBounds_toArray, List.set_cons_zero, List.set_cons_succ])
  refine M_take (v := ?_) 19 rfl (by kernel_rfl) (by assumption) (fun _ _ _ h => h) (Or.inl ⟨by rfl, ?_⟩) ?_
  rotate_left
  · (intro w hSw; (try dsimp only at hSw); go_simp; (try with_reducible rfl))
  (try simp only [Act.put, List.setIfInBounds_toArray, List.set_cons_zero, List.set_cons_succ])
  refine M_take (v := ?_) 20 rfl (by kernel_rfl) (by assumption) (fun _ _ _ h => h) (Or.inl ⟨by rfl, ?_⟩) ?_
  rotate_left
  · (intro w hSw; (try dsimp only at hSw); go_simp; (try with_reducible rfl))
  (try simp only [Act.put, List.setIfInBounds_toArray, List.set_cons_zero, List.set_cons_succ])
  refine M_take (v := ?_) 21 rfl (by kernel_rfl) (by assumption) (fun _ _ _ h => h) (Or.inl ⟨by rfl, ?_⟩) ?_
  rotate_left
  · (intro w hSw; (try dsimp only at hSw); go_simp; (try with_reducible rfl))
  (try simp only [Act.put, List.setIfInBounds_toArray, List.set_cons_zero, List.set_cons_succ])
  refine M_take (v := ?_) 22 rfl (by kernel_rfl) (by assumption) (fun _ _ _ h => h) (Or.inl ⟨by rfl, ?_⟩) ?_
  rotate_left
  · (intro w hSw; (try dsimp only at hSw); go_simp; (try with_reducible rfl))
  (try simp only [Act.put, List.setIfInBounds_toArray, List.set_cons_zero, List.set_cons_succ])
  refine M_take (v := ?_) 23 rfl (by kernel_rfl) (by assumption) (fun _ _ _ h => h) (Or.inl ⟨by rfl, ?_⟩) ?_
  rotate_left
  · (intro w hSw; (try dsimp only at hSw); go_simp; (try with_reducible rfl))
  (try simp only [Act.put, List.setIfInBounds_toArray, List.set_cons_zero, List.set_cons_succ])
  refine M_take (v := ?_) 24 rfl (by kernel_rfl) (by assumption) (fun _ _ _ h => h) (Or.inl ⟨by rfl, ?_⟩) ?_
  rotate_left
  · (intro w hSw; (try dsimp only at hSw); go_simp; (try with_reducible rfl))
  (try simp only [Act.put, List.setIfInBounds_toArray, List.set_cons_zero, List.set_cons_succ])
  refine M_take (v := ?_) 25 rfl (by kernel_rfl) (by assumption) (fun _ _ _ h => h) (Or.inl ⟨by rfl, ?_⟩) ?_
  rotate_left
  · (intro w hSw; (try dsimp only at hSw); go_simp; (try with_reducible rfl))
  (try simp only [Act.put, List.setIfInBounds_toArray, List.set_cons_zero, List.set_cons_succ])
  refine M_take (v := ?_) 26 rfl (by kernel_rfl) (by assumption) (fun _ _ _ h => h) (Or.inl ⟨by rfl, ?_⟩) ?_
  rotate_left
  · (intro w hSw; (try dsimp only at hSw); go_simp; (try with_reducible rfl))
  (try simp only [Act.put, List.setIfInBounds_toArray, List.set_cons_zero, List.set_cons_succ])
  refine M_take (v := ?_) 27 rfl (by kernel_rfl) (by assumption) (fun _ _ _ h => h) (Or.inl ⟨by rfl, ?_⟩) ?_
  rotate_left
  · (intro w hSw; (try dsimp only at hSw); go_simp; (try with_reducible rfl))
  (try simp only [Act.put, List.setIfInBounds_toArray, List.set_cons_zero, List.set_cons_succ])
  refine M_take (v := ?_) 28 rfl (by kernel_rfl) (by assumption) (fun _ _ _ h => h) (Or.inl ⟨by rfl, ?_⟩) ?_
  rotate_left
  · (intro w hSw; (try dsimp only at hSw); go_simp; (try with_reducible rfl))
  (try simp only [Act.put, List.setIfInBounds_toArray, List.set_cons_zero, List.set_cons_succ])
  refine M_take (v := ?_) 29 rfl (by kernel_rfl) (by assumption) (fun _ _ _ h => h) (Or.inl ⟨by rfl, ?_⟩) ?_
  rotate_left
  · (intro w hSw; (try dsimp only at hSw); go_simp; (try with_reducible rfl))
  (try simp only [Act.put, List.setIfInBounds_toArray, List.set_cons_zero, List.set_cons_succ])
  refine M_take (v := ?_) 30 rfl (by kernel_rfl) (by assumption) (fun _ _ _ h => h) (Or.inl ⟨by rfl, ?_⟩) ?_
  rotate_left
  · (intro w hSw; (try dsimp only at hSw); go_simp; (try with_reducible rfl))
  (try simp only [Act.put, List.setIfInBounds_toArray, List.set_cons_zero, List.set_cons_succ])
  refine M_step 31 rfl (by kernel_rfl) (fun K hK => ?_)
  go_simp
  obtain ⟨w4, hw4⟩ : ∃ w4 : World, w4 = (w3.alloc (.cells #[.int .i64 0, .int .i64 0, .int .i64 0, .int .i64 0, .int .i64 0, .int .i64 0, .int .i64 0, .int .i64 0, .int .i64 0] 123)).drew := ⟨_, rfl⟩
  rw [← hw4]
  have hb4 : Below w3.heap.size w3 w4 := by rw [hw4]; exact (box1 _ _).drew
  have hN4 : NineR (w2.heap.size + 1) (fun _ => 0) w4 := by
    rw [hw4, ← hs3]
    exact nine_new w3 _
  have hT4 : (fun w' => w'.cell? ⟨t, a * 2, none⟩ = some (.int .i64 (S a).1) ∧ w'.cell? ⟨t, a * 2 + 1, none⟩ = some (.int .i64 (S a).2) ∧ w'.cell? ⟨t, b * 2, none⟩ = some (.int .i64 (S b).1) ∧ w'.cell? ⟨t, b * 2 + 1, none⟩ = some (.int .i64 (S b).2) ∧ w'.cell? ⟨w2.heap.size, 0, none⟩ = some (.int .i64 (addedF G a b).1) ∧ w'.cell? ⟨w2.heap.size, 1, none⟩ = some (.int .i64 (addedF G a b).2)) w4 := ⟨cell_of hb4 c1, cell_of hb4 c2, cell_of hb4 c3, cell_of hb4 c4, cell_of hb4 c5, cell_of hb4 c6⟩
  have hl4 := hN4.lt
  have k0 := hN4.c 0 (by omega)
  have k1 := hN4.c 1 (by omega)
  have k2 := hN4.c 2 (by omega)
  have k3 := hN4.c 3 (by omega)
  have k4 := hN4.c 4 (by omega)
  have k5 := hN4.c 5 (by omega)
  have k6 := hN4.c 6 (by omega)
  have k7 := hN4.c 7 (by omega)
  have k8 := hN4.c 8 (by omega)
  have z0 := hN4.f 0
  have z1 := hN4.f 1
  have z2 := hN4.f 2
  have z3 := hN4.f 3
  have z4 := hN4.f 4
  have z5 := hN4.f 5
  have z6 := hN4.f 6
  have z7 := hN4.f 7
  have z8 := hN4.f 8
  have HN4 := Lib.hid hN4
  have HB4 := Lib.hid hb4
  clear hN4 hw4 hb4
  refine hK.out _ _ (fun _ => hT4) ?_
  clear hK K
  (try simp only [Act.put, List.setIfInBounds_toArray, List.set_cons_zero, List.set_cons_succ])
  refine M_step 32 rfl (by kernel_rfl) (fun K hK => ?_)
  go_simp
  skip
  refine hK.out _ _ (fun e => by cases e) ?_
  clear hK K
  (try simp only [Act.put, List.setIfInBounds_toArray, List.set_cons_zero, List.set_cons_succ])
  refine M_done (by kernel_rfl) ?_ _
  obtain ⟨w5, hw5⟩ : ∃ w5 : World, w5 = (((((((((w4.setCell ⟨w2.heap.size + 1, 0, none⟩ (.int .i64 0)).setCell ⟨w2.heap.size + 1, 1, none⟩ (.int .i64 (S a).2)).setCell ⟨w2.heap.size + 1, 2, none⟩ (.int .i64 (S b).2)).setCell ⟨w2.heap.size + 1, 3, none⟩ (.int .i64 (-(S a).1))).setCell ⟨w2.heap.size + 1, 4, none⟩ (.int .i64 0)).setCell ⟨w2.heap.size + 1, 5, none⟩ (.int .i64 (addedF G a b).2)).setCell ⟨w2.heap.size + 1, 6, none⟩ (.int .i64 (-(S b).1))).setCell ⟨w2.heap.size + 1, 7, none⟩ (.int .i64 (-(addedF G a b).1))).setCell ⟨w2.heap.size + 1, 8, none⟩ (.int .i64 0)) := ⟨_, rfl⟩
  rw [← hw5]
  have D4 : Below w.heap.size w w4 := D3.out.trans (HB4.out.mono D3.out.size)
  have hle : w.heap.size ≤ w2.heap.size + 1 := by have := D2.out.size; omega
  have D5 : Hid (Below w.heap.size w w5) := Lib.hid (by rw [hw5]; exact (set1 (set1 (set1 (set1 (set1 (set1 (set1 (set1 (set1 D4 hle 0 _) hle 1 _) hle 2 _) hle 3 _) hle 4 _) hle 5 _) hle 6 _) hle 7 _) hle 8 _))
  have N5 : Hid (NineR (w2.heap.size + 1) (apD G S a b) w5) := Lib.hid (by
    rw [hw5]
    refine NineR.same ((((((((((HN4.out).set (k := 0) (x := 0) (by omega)).set (k := 1) (x := (S a).2) (by omega)).set (k := 2) (x := (S b).2) (by omega)).set (k := 3) (x := -(S a).1) (by omega)).set (k := 4) (x := 0) (by omega)).set (k := 5) (x := (addedF G a b).2) (by omega)).set (k := 6) (x := -(S b).1) (by omega)).set (k := 7) (x := -(addedF G a b).1) (by omega)).set (k := 8) (x := 0) (by omega)) fun i hi => ?_
    match i, hi with
    | 0, _ => rfl
    | 1, _ => rfl
    | 2, _ => rfl
    | 3, _ => rfl
    | 4, _ => rfl
    | 5, _ => rfl
    | 6, _ => rfl
    | 7, _ => rfl
    | 8, _ => rfl)
  have R5 : Hid (Bt w.heap.size 0 0 w5) := Lib.hid (by
    have hz := R3.out.up HB4.out
    have hne : w.heap.size ≠ w2.heap.size + 1 := by have := D2.out.size; omega
    rw [hw5]
    exact (((((((((hz).other hne).other hne).other hne).other hne).other hne).other hne).other hne).other hne).other hne)
  clear hw5 D4 k0 k1 k2 k3 k4 k5 k6 k7 k8 z0 z1 z2 z3 z4 z5 z6 z7 z8 c1 c2 c3 c4 c5 c6 hl4 ht3 hT0
  go_wp2_with fail
  refine (dsettle_any (w2.heap.size + 1) (apD G S a b) w5 N5.out HDB.out).mono ?_
  rintro e w6 ⟨⟨v, rfl⟩, hN6, hg6⟩
  have D6 := Lib.hid (D5.out.grown hg6 D5.out.size (fun r e => by cases e; exact hle))
  have hne6 : some w.heap.size ≠ some (w2.heap.size + 1) := fun e => by have e1 := Option.some.inj e; have := D2.out.size; omega
  have r5 := R5.out
  have R6 : Bt w.heap.size 0 0 w6 := ⟨cell_row hg6 r5.lt hne6 r5.c0, cell_row hg6 r5.lt hne6 r5.c1, frozen_row hg6 r5.lt hne6 r5.f0, frozen_row hg6 r5.lt hne6 r5.f1⟩
  have k7 := hN6.c 7 (by omega)
  have k5 := hN6.c 5 (by omega)
  have nl6 := hN6.lt
  rw [HF.out.1] at k5
  rw [HF.out.2] at k7
  obtain ⟨v5, hv5⟩ : ∃ v, v = min (addedF G a b).2 (-(S a).1 + (S b).2) := ⟨_, rfl⟩
  obtain ⟨v7, hv7⟩ : ∃ v, v = min (-(addedF G a b).1) (-(S b).1 + (S a).2) := ⟨_, rfl⟩
  rw [← hv5] at k5
  rw [← hv7] at k7
  have hres : (-v7, v5) = apS G S a b := by
    unfold apS
    rw [hv5, hv7]
    exact Prod.ext (by simp only; omega) (by simp only; omega)
  have HRES := Lib.hid hres
  have n7 : IntKind.i64.wrap (-v7) = -v7 := IntWalk.i64_in _ (by have := HBV.out; omega)
  clear hv5 hv7 hres hN6 hg6 r5 R5 N5
  have hset : Below w.heap.size w6 ((w6.setCell ⟨w.heap.size, 0, none⟩ (.int .i64 (-v7))).setCell ⟨w.heap.size, 1, none⟩ (.int .i64 v5)) := set1 (set1 (Below.refl _ _) (Nat.le_refl _) _ _) (Nat.le_refl _) _ _
  have HF9 := Lib.hid (D6.out.trans hset)
  have hq := R6.store (-v7) v5
  clear hset
  have z9 := R6.lt
  obtain ⟨r0, r1, r2, r3⟩ := R6
  go_wp2_with fail
  obtain ⟨wf, hwf⟩ : ∃ wf : World, wf = (w6.setCell ⟨w.heap.size, 0, none⟩ (.int .i64 (-v7))).setCell ⟨w.heap.size, 1, none⟩ (.int .i64 v5) := ⟨_, rfl⟩
  have HF2 := HF9.out
  rw [← hwf] at hq HF2 ⊢
  obtain ⟨q0, q1, _, _⟩ := hq
  exact bodyPost_ret (v := Sp (-v7, v5)) (by simp [results, Try.results97, go_sem, q0, q1]) rfl ⟨by rw [HRES.out], HF2⟩
end Go.Proofs.Ytpikaohodieeaaa
namespace Go.Proofs.Ytpikaohodieeaaa
open Go.RowKit
set_option linter.unusedSimpArgs false
set_option linter.unusedVariables false
set_option maxRecDepth 100000 in
set_option maxHeartbeats 2000000 in
theorem ratio_any (x y : Nat) (w : World) (hx : x < 1000000000) (hy : y < 1000000000) (h1 : 0 < y) :
    Calls Try.prog 102 #[.int .i64 x, .int .i64 y] w fun e w' => e = .returned (Sp (((x / Nat.gcd x y : Nat) : Int), ((y / Nat.gcd x y : Nat) : Int))) ∧ Below w.heap.size w w' := by
  obtain ⟨w1, hw1⟩ : ∃ w1 : World, w1 = w.alloc (.cells #[.int .i64 0, .int .i64 0] 63) := ⟨_, rfl⟩
  have B1 : Below w.heap.size w w1 := by rw [hw1]; exact box1 _ _
  have R1 : Bt w.heap.size 0 0 w1 := by rw [hw1]; exact Bt.new _ _ _ _
  have HB := Lib.hid B1
  have HR := Lib.hid R1
  clear B1 R1
  go_enter Try.func102, Try.ntmps102
  go_wp2_with fail
  rw [← hw1]
  clear hw1
  go_loopw [5, 6] (fun v u wr => ∃ q r : Nat, v = .int .i64 q ∧ u = .int .i64 r ∧ 0 < q ∧ q < 1000000000 ∧ r < 1000000000 ∧ Nat.gcd q r = Nat.gcd x y ∧ Hid (Below w1.heap.size w1 wr)) (fun _ u _ => (intOf u).toNat)
  case atStart => exact ⟨y, x, rfl, rfl, h1, hy, hx, Nat.gcd_comm _ _, Lib.hid (Below.refl _ _)⟩
  case round =>
    obtain ⟨q, r, rfl, rfl, hq0, hq, hr, hg, hBr⟩ := hrel
    obtain ⟨wo, rfl⟩ : ∃ wo : World, wo = wr := ⟨_, rfl⟩
    by_cases h0 : 0 < r
    · have d1 : decide ((r : Int) > 0) = true := decide_eq_true (by omega)
      have d2 : decide (0 < (r : Int)) = true := decide_eq_true (by omega)
      have d3 : (0 : Int) < (r : Int) := by omega
      have n0 : ¬ (r : Int) = 0 := by omega
      have n1 : ((r : Int) == 0) = false := by simpa using n0
      have n2 : ¬ r = 0 := by omega
      have ht : (q : Int).tmod (r : Int) = ((q % r : Nat) : Int) := rfl
      have hm := Nat.mod_lt q h0
      have hg2 : Nat.gcd r (q % r) = Nat.gcd x y := ((Nat.gcd_comm _ _).trans (Nat.gcd_rec r q).symm).trans ((Nat.gcd_comm _ _).trans hg)
      have hwt : IntKind.i64.wrap ((q % r : Nat) : Int) = ((q % r : Nat) : Int) := IntWalk.i64_in _ (by omega)
      have NB := Lib.hid (nextB hBr.out (Below.refl _ _).drew)
      have HG2 := Lib.hid hg2
      clear hg hg2
      go_wp2_with fail
      refine wp_region_M [] (fun _ => True) (by kernel_rfl) (by kernel_rfl) trivial (fun hT0 => ?_)
      refine M_take (v := ?_) 0 rfl (by kernel_rfl) trivial (fun _ _ _ h => h) (Or.inl ⟨by rfl, ?_⟩) ?_
      rotate_left
      · (intro w hSw; (try dsimp only at hSw); go_simp; (try with_reducible rfl))
      (try simp only [Act.put, List.setIfInBounds_toArray, List.set_cons_zero, List.set_cons_succ])
      refine M_take (v := ?_) 1 rfl (by kernel_rfl) trivial (fun _ _ _ h => h) (Or.inl ⟨by rfl, ?_⟩) ?_
      rotate_left
      · (intro w hSw; (try dsimp only at hSw); go_simp; (try with_reducible rfl))
      (try simp only [Act.put, List.setIfInBounds_toArray, List.set_cons_zero, List.set_cons_succ])
      refine M_take (v := ?_) 2 rfl (by kernel_rfl) trivial (fun _ _ _ h => h) (Or.inl ⟨by rfl, ?_⟩) ?_
      rotate_left
      · (intro w hSw; (try dsimp only at hSw); go_simp; (try with_reducible rfl))
      (try simp only [Act.put, List.setIfInBounds_toArray, List.set_cons_zero, List.set_cons_succ])
      refine M_take (v := ?_) 3 rfl (by kernel_rfl) trivial (fun _ _ _ h => h) (Or.inl ⟨by rfl, ?_⟩) ?_
      rotate_left
      · (intro w hSw; (try dsimp only at hSw); go_simp; (try with_reducible rfl))
      (try simp only [Act.put, List.setIfInBounds_toArray, List.set_cons_zero, List.set_cons_succ])
      refine M_step 4 rfl (by kernel_rfl) (fun K hK => ?_)
      go_simp
      refine hK.out _ _ (fun _ => trivial) ?_
      clear hK K
      (try simp only [Act.put, List.setIfInBounds_toArray, List.set_cons_zero, List.set_cons_succ])
      refine M_step 5 rfl (by kernel_rfl) (fun K hK => ?_)
      go_simp
      refine hK.out _ _ (fun _ => trivial) ?_
      clear hK K
      (try simp only [Act.put, List.setIfInBounds_toArray, List.set_cons_zero, List.set_cons_succ])
      refine M_done (by kernel_rfl) ?_ _
      go_wp2_with fail
      go_round
      case rel => exact ⟨r, q % r, rfl, by first | rfl | rw [ht], h0, hr, by omega, HG2.out, NB⟩
      case measure => simp [intOf]; omega
    · obtain rfl : r = 0 := by omega
      have hgq : q = Nat.gcd x y := by rw [← hg, Nat.gcd_zero_right]
      have d1 : decide (((0 : Nat) : Int) > 0) = false := decide_eq_false (by omega)
      have d2 : decide ((0 : Int) < 0) = false := decide_eq_false (by omega)
      obtain ⟨X, hX⟩ : ∃ X, X = x / q := ⟨_, rfl⟩
      obtain ⟨Y, hY⟩ : ∃ Y, Y = y / q := ⟨_, rfl⟩
      have e1 : (x : Int) / (q : Int) = (X : Int) := by rw [hX]; rfl
      have e2 : (y : Int) / (q : Int) = (Y : Int) := by rw [hY]; rfl
      have e3 : (x : Int).tdiv (q : Int) = (X : Int) := by rw [hX]; rfl
      have e4 : (y : Int).tdiv (q : Int) = (Y : Int) := by rw [hY]; rfl
      have l1 : X ≤ x := by rw [hX]; exact Nat.div_le_self _ _
      have l2 : Y ≤ y := by rw [hY]; exact Nat.div_le_self _ _
      have hw5 : IntKind.i64.wrap (X : Int) = (X : Int) := IntWalk.i64_in _ (by omega)
      have hw6 : IntKind.i64.wrap (Y : Int) = (Y : Int) := IntWalk.i64_in _ (by omega)
      rw [hgq] at hX hY
      have HX := Lib.hid hX
      have HY := Lib.hid hY
      clear hX hY
      have n0 : ¬ (q : Int) = 0 := by omega
      have n1 : ((q : Int) == 0) = false := by simpa using n0
      have n2 : ¬ q = 0 := by omega
      have R2 := HR.out.up hBr.out
      have D2 := Lib.hid (nextB HB.out hBr.out)
      have HGQ := Lib.hid hgq
      rw [show ((0 : Nat) : Int) = 0 from rfl] at *
      clear hg hgq hBr
      have z2 := R2.lt
      obtain ⟨r0, r1, r2, r3⟩ := id R2
      have HR2 := Lib.hid R2
      clear R2
      go_wp2_with fail
      refine wp_region_M [7] (fun w9 => w9.cell? ⟨w.heap.size, 0, none⟩ = some (.int .i64 0) ∧ w9.cell? ⟨w.heap.size, 1, none⟩ = some (.int .i64 0)) (by kernel_rfl) (by kernel_rfl) (by (try dsimp only); (repeat' apply And.intro); all_goals first | assumption | (go_simp; done)) (fun hT0 => ?_)
      refine M_take (v := ?_) 0 rfl (by kernel_rfl) (by assumption) (fun _ _ _ h => h) (Or.inl ⟨by rfl, ?_⟩) ?_
      rotate_left
      · (intro w hSw; (try dsimp only at hSw); go_simp; (try with_reducible rfl))
      (try simp only [Act.put, List.setIfInBounds_toArray, List.set_cons_zero, List.set_cons_succ])
      refine M_take (v := ?_) 1 rfl (by kernel_rfl) (by assumption) (fun _ _ _ h => h) (Or.inl ⟨by rfl, ?_⟩) ?_
      rotate_left
      · (intro w hSw; (try dsimp only at hSw); go_simp; (try with_reducible rfl))
      (try simp only [Act.put, List.setIfInBounds_toArray, List.set_cons_zero, List.set_cons_succ])
      refine M_take (v := ?_) 2 rfl (by kernel_rfl) (by assumption) (fun _ _ _ h => h) (Or.inl ⟨by rfl, ?_⟩) ?_
      rotate_left
      · (intro w hSw; (try dsimp only at hSw); go_simp; (try with_reducible rfl))
      (try simp only [Act.put, List.setIfInBounds_toArray, List.set_cons_zero, List.set_cons_succ])
      refine M_take (v := ?_) 3 rfl (by kernel_rfl) (by assumption) (fun _ _ _ h => h) (Or.inl ⟨by rfl, ?_⟩) ?_
      rotate_left
      · (intro w hSw; (try dsimp only at hSw); go_simp; (try with_reducible rfl))
      (try simp only [Act.put, List.setIfInBounds_toArray, List.set_cons_zero, List.set_cons_succ])
      refine M_take (v := ?_) 4 rfl (by kernel_rfl) (by assumption) (fun _ _ _ h => h) (Or.inl ⟨by rfl, ?_⟩) ?_
      rotate_left
      · (intro w hSw; (try dsimp only at hSw); go_simp; (try with_reducible rfl))
      (try simp only [Act.put, List.setIfInBounds_toArray, List.set_cons_zero, List.set_cons_succ])
      refine M_take (v := ?_) 5 rfl (by kernel_rfl) (by assumption) (fun _ _ _ h => h) (Or.inl ⟨by rfl, ?_⟩) ?_
      rotate_left
      · (intro w hSw; (try dsimp only at hSw); go_simp; (try with_reducible rfl))
      (try simp only [Act.put, List.setIfInBounds_toArray, List.set_cons_zero, List.set_cons_succ])
      refine M_take (v := ?_) 6 rfl (by kernel_rfl) (by assumption) (fun _ _ _ h => h) (Or.inl ⟨by rfl, ?_⟩) ?_
      rotate_left
      · (intro w hSw; (try dsimp only at hSw); go_simp; (try with_reducible rfl))
      (try simp only [Act.put, List.setIfInBounds_toArray, List.set_cons_zero, List.set_cons_succ])
      refine M_step 7 rfl (by kernel_rfl) (fun K hK => ?_)
      go_simp
      skip
      refine hK.out _ _ (fun e => by cases e) ?_
      clear hK K
      (try simp only [Act.put, List.setIfInBounds_toArray, List.set_cons_zero, List.set_cons_succ])
      refine M_done (by kernel_rfl) ?_ _
      obtain ⟨wf, hwf⟩ : ∃ wf : World, wf = ((wo.setCell ⟨w.heap.size, 0, none⟩ (.int .i64 (X : Int))).setCell ⟨w.heap.size, 1, none⟩ (.int .i64 (Y : Int))).drew := ⟨_, rfl⟩
      have hset : Below w.heap.size w wf := by rw [hwf]; exact (set1 (set1 D2.out (Nat.le_refl _) _ _) (Nat.le_refl _) _ _).drew
      have hq := (HR2.out.store (X : Int) (Y : Int)).up (Below.refl _ _).drew
      rw [← hwf] at hq ⊢
      have HF := Lib.hid hset
      clear hset hwf
      obtain ⟨q0, q1, _, _⟩ := hq
      go_wp2_with fail
      exact bodyPost_ret (v := Sp ((X : Int), (Y : Int))) (by simp [results, Try.results102, go_sem, q0, q1]) rfl ⟨by rw [← HX.out, ← HY.out], HF.out⟩
end Go.Proofs.Ytpikaohodieeaaa
namespace Go.Proofs.Ytpikaohodieeaaa
open Go.RowKit
set_option linter.unusedSimpArgs false
set_option linter.unusedVariables false
theorem rdg_sum {n : Nat} {G : Nat → Int × Int} {T : Nat → Int} (h : ∀ i, i < n → hasP (G i) (T (i + 1) - T i)) (x : Nat) : ∀ k, x + k ≤ n → hasP (sumK G x k) (T (x + k) - T x)
  | 0, _ => by unfold hasP sumK; simp
  | k + 1, hk => by
    have h1 := rdg_sum h x k (by omega)
    have h2 := h (x + k) (by omega)
    unfold hasP at *
    simp only [sumK, addS]
    rw [show x + (k + 1) = x + k + 1 by omega]
    omega
theorem rdg_added {n : Nat} {G : Nat → Int × Int} {T : Nat → Int} (h : ∀ i, i < n → hasP (G i) (T (i + 1) - T i)) {a b : Nat} (ha : a ≤ n) (hb : b ≤ n) : hasP (addedF G a b) (T b - T a) := by
  unfold addedF
  split
  · have h1 := rdg_sum h a (b - a) (by omega)
    rwa [show a + (b - a) = b by omega] at h1
  · have h1 := rdg_sum h b (a - b) (by omega)
    rw [show b + (a - b) = a by omega] at h1
    unfold hasP at *
    simp only [oppS]
    omega
/-- what apart asks, out of exact spans -/
theorem ends_ap {d : Drm} {m : Nat} {F : Nat → Int × Int × Int} {S : Nat → Int × Int} (h : Ends d.n (Rdg d.n (gapF d) m F) S) :
    (∀ i, i ≤ d.n → 0 ≤ (S i).1 ∧ (S i).1 ≤ (S i).2 ∧ (S i).2 ≤ 400) ∧ ∀ a b, a ≤ d.n → b ≤ d.n → ∃ x y : Int, ((S a).1 ≤ x ∧ x ≤ (S a).2) ∧ ((S b).1 ≤ y ∧ y ≤ (S b).2) ∧ (addedF (gapF d) a b).1 ≤ y - x ∧ y - x ≤ (addedF (gapF d) a b).2 := by
  have h0 : ∀ i, i ≤ d.n → 0 ≤ (S i).1 ∧ (S i).1 ≤ (S i).2 ∧ (S i).2 ≤ 400 := fun i hi => by
    have h1 := h.lo.tick i (by omega)
    have h2 := h.hi.tick i (by omega)
    have h3 := h.all _ h.lo i hi
    omega
  refine ⟨h0, fun a b ha hb => ⟨(S a).1, (S b).1, ?_, ?_, ?_⟩⟩
  · have := h0 a ha; omega
  · have := h0 b hb; omega
  · have := rdg_added (T := fun i => (S i).1) h.lo.gap ha hb
    unfold hasP at this
    exact this
set_option maxRecDepth 100000 in
set_option maxHeartbeats 4000000 in
theorem Between_any (d : Drm) (MA : Option Addr) (m mc : Nat) (F : Nat → Int × Int × Int) (a b : Int) (vd : Bool) (E : Int) (S : Nat → Int × Int) (w : World) (hin : DrIn d w.heap.size w) (hm : TrsIn MA m F w.heap.size w) (hvd : vd = true ↔ (0 ≤ a ∧ a ≤ d.n) ∧ 0 ≤ b ∧ b ≤ d.n) (hE : RdR d m F vd E S) :
    Calls Try.prog 46 #[d.v, .slice MA m mc, .int .i64 a, .int .i64 b] w fun e w' => e = .returned (.tuple #[Sp (if E = 0 then apS (gapF d) S a.toNat b.toNat else (0, 0)), .int .i64 E]) ∧ Below w.heap.size w w' := by
  obtain ⟨w1, hw1⟩ : ∃ w1 : World, w1 = (w.alloc (drO d)).alloc (.cells #[.int .i64 0, .int .i64 0] 31) := ⟨_, rfl⟩
  have B1 : Below w.heap.size w w1 := by rw [hw1]; exact box2 _ _ _
  have P1 : HasDr d w.heap.size w1 := by rw [hw1]; exact (dr_new w d).up (box1 _ _)
  have R1 : Bt (w.heap.size + 1) 0 0 w1 := by
    rw [hw1]
    have := Bt.new (w.alloc (drO d)) 31 0 0
    rw [World.size_alloc] at this
    exact this
  have HB := Lib.hid B1
  have HP := Lib.hid P1
  have HR := Lib.hid R1
  have HIN := Lib.hid hin
  have KR := Lib.hid fun W (hW : Below w.heap.size w W) => read_any d MA m mc F vd E S W ((hin.up hW (Nat.le_refl _)).more hW.size) ((hm.up hW (Nat.le_refl _)).more hW.size) hE
  have hk : Hid (E = 0 → vd = true ∧ DrOk d ∧ Ends d.n (Rdg d.n (gapF d) m F) S) := Lib.hid fun h => by
    rcases hE with ⟨h1, _⟩ | ⟨h1, _, h2⟩
    · omega
    · rcases h2 with ⟨h2, h3⟩ | ⟨h2, h3, _⟩ | ⟨h2, h3, h4⟩
      · omega
      · omega
      · exact ⟨h2, h1, h4⟩
  obtain ⟨A, hA⟩ := bool_of (0 ≤ a ∧ a ≤ d.n)
  obtain ⟨B, hB⟩ := bool_of (0 ≤ b ∧ b ≤ d.n)
  have hAB : vd = (A && B) := Bool.eq_iff_iff.2 (hvd.trans (by rw [Bool.and_eq_true, hA, hB]))
  obtain ⟨x0, x1⟩ := P1
  have HA := Lib.hid hA
  have HBB := Lib.hid hB
  have HV1 := Lib.hid hvd
  clear hin hm B1 R1 hE hvd hA hB
  cases A with
  | false =>
    obtain rfl : vd = false := hAB
    go_enter Try.func46, Try.ntmps46
    go_wp2_with fail
    rw [← hw1]
    clear hw1
    refine wp_region_M [] (fun w' => w'.cell? ⟨w.heap.size, 0, none⟩ = some (.slice d.RA d.n d.rc) ∧ w'.cell? ⟨w.heap.size, 1, none⟩ = some (.slice d.SA d.m d.sc)) (by kernel_rfl) (by kernel_rfl) (by (try dsimp only); (repeat' apply And.intro); all_goals first | assumption | (go_simp; done)) (fun hT0 => ?_)
    refine M_take (v := ?_) 0 rfl (by kernel_rfl) (by assumption) (fun _ _ _ h => h) (Or.inl ⟨by rfl, ?_⟩) ?_
    rotate_left
    · (intro w hSw; (try dsimp only at hSw); go_simp; (try with_reducible rfl))
    (try simp only [Act.put, List.setIfInBounds_toArray, List.set_cons_zero, List.set_cons_succ])
    refine M_take (v := ?_) 1 rfl (by kernel_rfl) (by assumption) (fun _ _ _ h => h) (Or.inl ⟨by rfl, ?_⟩) ?_
    rotate_left
    · (intro w hSw; (try dsimp only at hSw); go_simp; (try with_reducible rfl))
    (try simp only [Act.put, List.setIfInBounds_toArray, List.set_cons_zero, List.set_cons_succ])
    refine M_take (v := ?_) 2 rfl (by kernel_rfl) (by assumption) (fun _ _ _ h => h) (Or.inl ⟨by rfl, ?_⟩) ?_
    rotate_left
    · (intro w hSw; (try dsimp only at hSw); go_simp; (try with_reducible rfl))
    (try simp only [Act.put, List.setIfInBounds_toArray, List.set_cons_zero, List.set_cons_succ])
    refine M_take (v := ?_) 3 rfl (by kernel_rfl) (by assumption) (fun _ _ _ h => h) (Or.inl ⟨by rfl, ?_⟩) ?_
    rotate_left
    · (intro w hSw; (try dsimp only at hSw); go_simp; (try with_reducible rfl))
    (try simp only [Act.put, List.setIfInBounds_toArray, List.set_cons_zero, List.set_cons_succ])
    refine M_step 4 rfl (by kernel_rfl) (fun K hK => ?_)
    go_simp
    go_at_call 75
    refine (isColumn_is d a false _ (by first | exact HA.out | simpa using HA.out)).mono ?_
    rintro e w4 ⟨rfl, hb4'⟩
    have hb4 : Below w1.heap.size w1 w4 := nextB (Below.refl _ _).drew hb4'
    have hT4 : (fun w' => w'.cell? ⟨w.heap.size, 0, none⟩ = some (.slice d.RA d.n d.rc) ∧ w'.cell? ⟨w.heap.size, 1, none⟩ = some (.slice d.SA d.m d.sc)) w4 := HP.out.up hb4
    clear hb4'
    refine hK.out _ _ (fun _ => hT4) ?_
    clear hK K
    (try simp only [Act.put, List.setIfInBounds_toArray, List.set_cons_zero, List.set_cons_succ])
    refine M_take (v := ?_) 5 rfl (by kernel_rfl) (by assumption) (fun _ _ _ h => h) (Or.inl ⟨by rfl, ?_⟩) ?_
    rotate_left
    · (intro w hSw; (try dsimp only at hSw); go_simp; (try with_reducible rfl))
    (try simp only [Act.put, List.setIfInBounds_toArray, List.set_cons_zero, List.set_cons_succ])
    refine M_take 6 rfl (by kernel_rfl) (by assumption) (fun _ _ _ h => h) (Or.inr ⟨by rfl, rfl⟩) ?_
    (try simp only [Act.put, List.setIfInBounds_toArray, List.set_cons_zero, List.set_cons_succ])
    refine M_take 7 rfl (by kernel_rfl) (by assumption) (fun _ _ _ h => h) (Or.inr ⟨by rfl, rfl⟩) ?_
    (try simp only [Act.put, List.setIfInBounds_toArray, List.set_cons_zero, List.set_cons_succ])
    refine M_take 8 rfl (by kernel_rfl) (by assumption) (fun _ _ _ h => h) (Or.inr ⟨by rfl, rfl⟩) ?_
    (try simp only [Act.put, List.setIfInBounds_toArray, List.set_cons_zero, List.set_cons_succ])
    refine M_take (v := ?_) 9 rfl (by kernel_rfl) (by assumption) (fun _ _ _ h => h) (Or.inl ⟨by rfl, ?_⟩) ?_
    rotate_left
    · (intro w hSw; (try dsimp only at hSw); go_simp; (try with_reducible rfl))
    (try simp only [Act.put, List.setIfInBounds_toArray, List.set_cons_zero, List.set_cons_succ])
    refine M_step 10 rfl (by kernel_rfl) (fun K hK => ?_)
    go_simp
    go_at_call 89
    refine (KR.out _ (nextB HB.out hb4)).mono ?_
    rintro e w2 ⟨v, rfl, hb2, hv⟩
    have D2 := Lib.hid (nextB (nextB HB.out hb4) hb2)
    have R2 := HR.out.up (nextB hb4 hb2)
    have P2 := HP.out.up (nextB hb4 hb2)
    have hT2 : (fun w' => w'.cell? ⟨w.heap.size, 0, none⟩ = some (.slice d.RA d.n d.rc) ∧ w'.cell? ⟨w.heap.size, 1, none⟩ = some (.slice d.SA d.m d.sc)) w2 := P2
    have HV := Lib.hid hv
    clear hb2 hv
    refine hK.out _ _ (fun _ => hT2) ?_
    clear hK K
    (try simp only [Act.put, List.setIfInBounds_toArray, List.set_cons_zero, List.set_cons_succ])
    refine M_take (v := ?_) 11 rfl (by kernel_rfl) (by assumption) (fun _ _ _ h => h) (Or.inl ⟨by rfl, ?_⟩) ?_
    rotate_left
    · (intro w hSw; (try dsimp only at hSw); go_simp; (try with_reducible rfl))
    (try simp only [Act.put, List.setIfInBounds_toArray, List.set_cons_zero, List.set_cons_succ])
    refine M_take (v := ?_) 12 rfl (by kernel_rfl) (by assumption) (fun _ _ _ h => h) (Or.inl ⟨by rfl, ?_⟩) ?_
    rotate_left
    · (intro w hSw; (try dsimp only at hSw); go_simp; (try with_reducible rfl))
    (try simp only [Act.put, List.setIfInBounds_toArray, List.set_cons_zero, List.set_cons_succ])
    refine M_take (v := ?_) 13 rfl (by kernel_rfl) (by assumption) (fun _ _ _ h => h) (Or.inl ⟨by rfl, ?_⟩) ?_
    rotate_left
    · (intro w hSw; (try dsimp only at hSw); go_simp; (try with_reducible rfl))
    (try simp only [Act.put, List.setIfInBounds_toArray, List.set_cons_zero, List.set_cons_succ])
    refine M_step 14 rfl (by kernel_rfl) (fun K hK => ?_)
    go_simp
    refine hK.out _ _ (fun _ => by assumption) ?_
    clear hK K
    (try simp only [Act.put, List.setIfInBounds_toArray, List.set_cons_zero, List.set_cons_succ])
    refine M_step 15 rfl (by kernel_rfl) (fun K hK => ?_)
    go_simp
    refine hK.out _ _ (fun _ => by assumption) ?_
    clear hK K
    (try simp only [Act.put, List.setIfInBounds_toArray, List.set_cons_zero, List.set_cons_succ])
    refine M_done (by kernel_rfl) ?_ _
    rcases HV.out with ⟨hne, rfl⟩ | ⟨rfl, t, rfl, ht, hS⟩
    · have hn1 : (E != 0) = true := by simpa using hne
      have hset : Below (w.heap.size + 1) w2 ((w2.setCell ⟨w.heap.size + 1, 0, none⟩ (.int .i64 (0))).setCell ⟨w.heap.size + 1, 1, none⟩ (.int .i64 (0))) := set1 (set1 (Below.refl _ _) (Nat.le_refl _) _ _) (Nat.le_refl _) _ _
      have HF := Lib.hid (D2.out.trans (hset.mono (by omega)))
      have hq := R2.store (0) (0)
      clear hset
      have z2 := R2.lt
      obtain ⟨r0, r1, r2, r3⟩ := R2
      go_wp2_with fail
      obtain ⟨wf, hwf⟩ : ∃ wf : World, wf = (w2.setCell ⟨w.heap.size + 1, 0, none⟩ (.int .i64 (0))).setCell ⟨w.heap.size + 1, 1, none⟩ (.int .i64 (0)) := ⟨_, rfl⟩
      have HF2 := HF.out
      rw [← hwf] at hq HF2 ⊢
      obtain ⟨q0, q1, _, _⟩ := hq
      exact bodyPost_ret (v := .tuple #[Sp (0, 0), .int .i64 E]) (by simp [results, Try.results46, go_sem, q0, q1]) rfl ⟨by first | rfl | rw [if_neg hne], HF2⟩
    · exact absurd (hk.out (by trivial)).1 (by decide)
  | true =>
    obtain rfl : vd = B := by rw [hAB]; rfl
    clear hAB
    go_enter Try.func46, Try.ntmps46
    go_wp2_with fail
    rw [← hw1]
    clear hw1
    refine wp_region_M [] (fun w' => w'.cell? ⟨w.heap.size, 0, none⟩ = some (.slice d.RA d.n d.rc) ∧ w'.cell? ⟨w.heap.size, 1, none⟩ = some (.slice d.SA d.m d.sc)) (by kernel_rfl) (by kernel_rfl) (by (try dsimp only); (repeat' apply And.intro); all_goals first | assumption | (go_simp; done)) (fun hT0 => ?_)
    refine M_take (v := ?_) 0 rfl (by kernel_rfl) (by assumption) (fun _ _ _ h => h) (Or.inl ⟨by rfl, ?_⟩) ?_
    rotate_left
    · (intro w hSw; (try dsimp only at hSw); go_simp; (try with_reducible rfl))
    (try simp only [Act.put, List.setIfInBounds_toArray, List.set_cons_zero, List.set_cons_succ])
    refine M_take (v := ?_) 1 rfl (by kernel_rfl) (by assumption) (fun _ _ _ h => h) (Or.inl ⟨by rfl, ?_⟩) ?_
    rotate_left
    · (intro w hSw; (try dsimp only at hSw); go_simp; (try with_reducible rfl))
    (try simp only [Act.put, List.setIfInBounds_toArray, List.set_cons_zero, List.set_cons_succ])
    refine M_take (v := ?_) 2 rfl (by kernel_rfl) (by assumption) (fun _ _ _ h => h) (Or.inl ⟨by rfl, ?_⟩) ?_
    rotate_left
    · (intro w hSw; (try dsimp only at hSw); go_simp; (try with_reducible rfl))
    (try simp only [Act.put, List.setIfInBounds_toArray, List.set_cons_zero, List.set_cons_succ])
    refine M_take (v := ?_) 3 rfl (by kernel_rfl) (by assumption) (fun _ _ _ h => h) (Or.inl ⟨by rfl, ?_⟩) ?_
    rotate_left
    · (intro w hSw; (try dsimp only at hSw); go_simp; (try with_reducible rfl))
    (try simp only [Act.put, List.setIfInBounds_toArray, List.set_cons_zero, List.set_cons_succ])
    refine M_step 4 rfl (by kernel_rfl) (fun K hK => ?_)
    go_simp
    go_at_call 75
    refine (isColumn_is d a true _ (by first | exact HA.out | simpa using HA.out)).mono ?_
    rintro e w4 ⟨rfl, hb4'⟩
    have hb4 : Below w1.heap.size w1 w4 := nextB (Below.refl _ _).drew hb4'
    have hT4 : (fun w' => w'.cell? ⟨w.heap.size, 0, none⟩ = some (.slice d.RA d.n d.rc) ∧ w'.cell? ⟨w.heap.size, 1, none⟩ = some (.slice d.SA d.m d.sc)) w4 := HP.out.up hb4
    clear hb4'
    refine hK.out _ _ (fun _ => hT4) ?_
    clear hK K
    (try simp only [Act.put, List.setIfInBounds_toArray, List.set_cons_zero, List.set_cons_succ])
    refine M_take (v := ?_) 5 rfl (by kernel_rfl) (by assumption) (fun _ _ _ h => h) (Or.inl ⟨by rfl, ?_⟩) ?_
    rotate_left
    · (intro w hSw; (try dsimp only at hSw); go_simp; (try with_reducible rfl))
    (try simp only [Act.put, List.setIfInBounds_toArray, List.set_cons_zero, List.set_cons_succ])
    refine M_take (v := ?_) 6 rfl (by kernel_rfl) (by assumption) (fun _ _ _ h => h) (Or.inl ⟨by rfl, ?_⟩) ?_
    rotate_left
    · (intro w hSw; (try dsimp only at hSw); go_simp; (try with_reducible rfl))
    (try simp only [Act.put, List.setIfInBounds_toArray, List.set_cons_zero, List.set_cons_succ])
    refine M_take (v := ?_) 7 rfl (by kernel_rfl) (by assumption) (fun _ _ _ h => h) (Or.inl ⟨by rfl, ?_⟩) ?_
    rotate_left
    · (intro w hSw; (try dsimp only at hSw); go_simp; (try with_reducible rfl))
    (try simp only [Act.put, List.setIfInBounds_toArray, List.set_cons_zero, List.set_cons_succ])
    refine M_step 8 rfl (by kernel_rfl) (fun K hK => ?_)
    go_simp
    go_at_call 75
    refine (isColumn_is d b vd _ HBB.out).mono ?_
    rintro e w5 ⟨rfl, hb5'⟩
    have hb5 : Below w1.heap.size w1 w5 := nextB hb4 hb5'
    have hT5 : (fun w' => w'.cell? ⟨w.heap.size, 0, none⟩ = some (.slice d.RA d.n d.rc) ∧ w'.cell? ⟨w.heap.size, 1, none⟩ = some (.slice d.SA d.m d.sc)) w5 := HP.out.up hb5
    clear hb5'
    refine hK.out _ _ (fun _ => hT5) ?_
    clear hK K
    (try simp only [Act.put, List.setIfInBounds_toArray, List.set_cons_zero, List.set_cons_succ])
    refine M_take (v := ?_) 9 rfl (by kernel_rfl) (by assumption) (fun _ _ _ h => h) (Or.inl ⟨by rfl, ?_⟩) ?_
    rotate_left
    · (intro w hSw; (try dsimp only at hSw); go_simp; (try with_reducible rfl))
    (try simp only [Act.put, List.setIfInBounds_toArray, List.set_cons_zero, List.set_cons_succ])
    refine M_step 10 rfl (by kernel_rfl) (fun K hK => ?_)
    go_simp
    go_at_call 89
    refine (KR.out _ (nextB HB.out hb5)).mono ?_
    rintro e w2 ⟨v, rfl, hb2, hv⟩
    have D2 := Lib.hid (nextB (nextB HB.out hb5) hb2)
    have R2 := HR.out.up (nextB hb5 hb2)
    have P2 := HP.out.up (nextB hb5 hb2)
    have hT2 : (fun w' => w'.cell? ⟨w.heap.size, 0, none⟩ = some (.slice d.RA d.n d.rc) ∧ w'.cell? ⟨w.heap.size, 1, none⟩ = some (.slice d.SA d.m d.sc)) w2 := P2
    have HV := Lib.hid hv
    clear hb2 hv
    refine hK.out _ _ (fun _ => hT2) ?_
    clear hK K
    (try simp only [Act.put, List.setIfInBounds_toArray, List.set_cons_zero, List.set_cons_succ])
    refine M_take (v := ?_) 11 rfl (by kernel_rfl) (by assumption) (fun _ _ _ h => h) (Or.inl ⟨by rfl, ?_⟩) ?_
    rotate_left
    · (intro w hSw; (try dsimp only at hSw); go_simp; (try with_reducible rfl))
    (try simp only [Act.put, List.setIfInBounds_toArray, List.set_cons_zero, List.set_cons_succ])
    refine M_take (v := ?_) 12 rfl (by kernel_rfl) (by assumption) (fun _ _ _ h => h) (Or.inl ⟨by rfl, ?_⟩) ?_
    rotate_left
    · (intro w hSw; (try dsimp only at hSw); go_simp; (try with_reducible rfl))
    (try simp only [Act.put, List.setIfInBounds_toArray, List.set_cons_zero, List.set_cons_succ])
    refine M_take (v := ?_) 13 rfl (by kernel_rfl) (by assumption) (fun _ _ _ h => h) (Or.inl ⟨by rfl, ?_⟩) ?_
    rotate_left
    · (intro w hSw; (try dsimp only at hSw); go_simp; (try with_reducible rfl))
    (try simp only [Act.put, List.setIfInBounds_toArray, List.set_cons_zero, List.set_cons_succ])
    refine M_step 14 rfl (by kernel_rfl) (fun K hK => ?_)
    go_simp
    refine hK.out _ _ (fun _ => by assumption) ?_
    clear hK K
    (try simp only [Act.put, List.setIfInBounds_toArray, List.set_cons_zero, List.set_cons_succ])
    refine M_step 15 rfl (by kernel_rfl) (fun K hK => ?_)
    go_simp
    refine hK.out _ _ (fun _ => by assumption) ?_
    clear hK K
    (try simp only [Act.put, List.setIfInBounds_toArray, List.set_cons_zero, List.set_cons_succ])
    refine M_done (by kernel_rfl) ?_ _
    rcases HV.out with ⟨hne, rfl⟩ | ⟨rfl, t, rfl, ht, hS⟩
    · have hn1 : (E != 0) = true := by simpa using hne
      have hset : Below (w.heap.size + 1) w2 ((w2.setCell ⟨w.heap.size + 1, 0, none⟩ (.int .i64 (0))).setCell ⟨w.heap.size + 1, 1, none⟩ (.int .i64 (0))) := set1 (set1 (Below.refl _ _) (Nat.le_refl _) _ _) (Nat.le_refl _) _ _
      have HF := Lib.hid (D2.out.trans (hset.mono (by omega)))
      have hq := R2.store (0) (0)
      clear hset
      have z2 := R2.lt
      obtain ⟨r0, r1, r2, r3⟩ := R2
      go_wp2_with fail
      obtain ⟨wf, hwf⟩ : ∃ wf : World, wf = (w2.setCell ⟨w.heap.size + 1, 0, none⟩ (.int .i64 (0))).setCell ⟨w.heap.size + 1, 1, none⟩ (.int .i64 (0)) := ⟨_, rfl⟩
      have HF2 := HF.out
      rw [← hwf] at hq HF2 ⊢
      obtain ⟨q0, q1, _, _⟩ := hq
      exact bodyPost_ret (v := .tuple #[Sp (0, 0), .int .i64 E]) (by simp [results, Try.results46, go_sem, q0, q1]) rfl ⟨by first | rfl | rw [if_neg hne], HF2⟩
    · obtain ⟨hk1, hk2, hk3⟩ := hk.out (by trivial)
      obtain ⟨⟨ha0, ha1⟩, hb0, hb1⟩ := HV1.out.1 hk1
      obtain ⟨qa, rfl⟩ : ∃ q : Nat, a = (q : Int) := ⟨a.toNat, by omega⟩
      obtain ⟨qb, rfl⟩ : ∃ q : Nat, b = (q : Int) := ⟨b.toNat, by omega⟩
      have HK2 := Lib.hid hk2
      have HS := Lib.hid hS
      have hgp := gpOk hk2
      have hap := ends_ap hk3
      clear hS hk x0 x1 hT0
      obtain ⟨x0, x1⟩ := P2
      have KP := Lib.hid fun g gc W (h1 : SpR g d.n (gapF d) W) (h2 : SpR t (d.n + 1) S W) (h3 : d.n ≤ gc) => apart_any g d.n gc t (d.n + 1) (gapF d) S qa qb W h1 h2 h3 (by have := hgp.2.1; omega) (by omega) (by omega) hgp.2.2 hap.1 (hap.2 qa qb (by omega) (by omega))
      clear hgp hap hk2 hk3 hk1
      go_wp2_with fail
      refine (gapsOf_any d w2 ((HIN.out.up D2.out (Nat.le_refl _)).more D2.out.size) HK2.out).mono ?_
      rintro e w6 ⟨g, cap, rfl, hg6, hcap6, hS6, hb6⟩
      have D6 := Lib.hid (nextB D2.out hb6)
      have HG6 := Lib.hid hS6
      have HS6 := Lib.hid (HS.out.up hb6)
      have R6 := R2.up hb6
      have HC6 := Lib.hid hcap6
      clear hb6 hS6 hg6 hcap6 x0 x1 R2
      go_wp2_with fail
      refine (KP.out g cap w6 HG6.out HS6.out HC6.out).mono ?_
      rintro e w7 ⟨rfl, hb7⟩
      have D7 := Lib.hid (nextB D6.out hb7)
      have R7 := R6.up hb7
      clear hb7 R6
      obtain ⟨sx, sy, hs9⟩ : ∃ x y, apS (gapF d) S qa qb = (x, y) := ⟨_, _, rfl⟩
      rw [hs9]
      have H9 := Lib.hid hs9
      clear hs9
      have hset : Below (w.heap.size + 1) w7 ((w7.setCell ⟨w.heap.size + 1, 0, none⟩ (.int .i64 (sx))).setCell ⟨w.heap.size + 1, 1, none⟩ (.int .i64 (sy))) := set1 (set1 (Below.refl _ _) (Nat.le_refl _) _ _) (Nat.le_refl _) _ _
      have HF := Lib.hid (D7.out.trans (hset.mono (by omega)))
      have hq := R7.store (sx) (sy)
      clear hset
      have z7 := R7.lt
      obtain ⟨r0, r1, r2, r3⟩ := R7
      go_wp2_with fail
      obtain ⟨wf, hwf⟩ : ∃ wf : World, wf = (w7.setCell ⟨w.heap.size + 1, 0, none⟩ (.int .i64 (sx))).setCell ⟨w.heap.size + 1, 1, none⟩ (.int .i64 (sy)) := ⟨_, rfl⟩
      have HF2 := HF.out
      rw [← hwf] at hq HF2 ⊢
      obtain ⟨q0, q1, _, _⟩ := hq
      exact bodyPost_ret (v := .tuple #[Sp (sx, sy), .int .i64 0]) (by simp [results, Try.results46, go_sem, q0, q1]) rfl ⟨by first | rw [H9.out] | (rw [if_pos rfl, Int.toNat_natCast, Int.toNat_natCast, H9.out]), HF2⟩
end Go.Proofs.Ytpikaohodieeaaa
namespace Go.Proofs.Ytpikaohodieeaaa
open Go.RowKit
set_option linter.unusedSimpArgs false
set_option linter.unusedVariables false
/-- a fraction in lowest terms -/
def ratP (x : Int) (y : Nat) : Int × Int := (((x.toNat / Nat.gcd x.toNat y : Nat) : Int), ((y / Nat.gcd x.toNat y : Nat) : Int))
theorem sumK_pos {G : Nat → Int × Int} {n x : Nat} (h : ∀ i, i < n → 0 ≤ (G i).1 ∧ (G i).1 ≤ (G i).2 ∧ (G i).2 ≤ 10000) : ∀ k, x + k ≤ n → 0 ≤ (sumK G x k).1
  | 0, _ => by unfold sumK; simp
  | k + 1, hk => by
    have h1 := sumK_pos (G := G) (n := n) (x := x) h k (by omega)
    have h2 := h (x + k) (by omega)
    simp only [sumK, addS]
    omega
/-- the differences of a later column are small and not negative -/
theorem apS_pos {d : Drm} {m : Nat} {F : Nat → Int × Int × Int} {S : Nat → Int × Int} (hd : DrOk d) (h : Ends d.n (Rdg d.n (gapF d) m F) S) {a b : Nat} (hab : a < b) (hb : b ≤ d.n) :
    (0 ≤ (apS (gapF d) S a b).1 ∧ (apS (gapF d) S a b).1 ≤ 400) ∧ 0 ≤ (apS (gapF d) S a b).2 ∧ (apS (gapF d) S a b).2 ≤ 400 := by
  obtain ⟨h0, h1⟩ := ends_ap h
  have ha0 := h0 a (by omega)
  have hb0 := h0 b hb
  obtain ⟨x, y, hx, hy, hz1, hz2⟩ := h1 a b (by omega) hb
  have hp : 0 ≤ (addedF (gapF d) a b).1 := by
    unfold addedF
    rw [if_pos (by omega)]
    exact sumK_pos (gpOk hd).2.2 _ (by omega)
  unfold apS
  simp only
  omega
set_option maxRecDepth 100000 in
set_option maxHeartbeats 4000000 in
theorem Drift_any (d : Drm) (MA : Option Addr) (m mc : Nat) (F : Nat → Int × Int × Int) (a b : Int) (vd : Bool) (E : Int) (S : Nat → Int × Int) (w : World) (hin : DrIn d w.heap.size w) (hm : TrsIn MA m F w.heap.size w) (hvd : vd = true ↔ ((0 ≤ a ∧ a ≤ d.n) ∧ 0 ≤ b ∧ b ≤ d.n) ∧ a < b) (hE : RdR d m F vd E S) :
    Calls Try.prog 52 #[d.v, .slice MA m mc, .int .i64 a, .int .i64 b] w fun e w' => e = .returned (.tuple #[Sp (if E = 0 then ratP (apS (gapF d) S a.toNat b.toNat).1 (b - a).toNat else (0, 0)), Sp (if E = 0 then ratP (apS (gapF d) S a.toNat b.toNat).2 (b - a).toNat else (0, 0)), .int .i64 E]) ∧ Below w.heap.size w w' := by
  obtain ⟨w1, hw1⟩ : ∃ w1 : World, w1 = ((w.alloc (drO d)).alloc (.cells #[.int .i64 0, .int .i64 0] 63)).alloc (.cells #[.int .i64 0, .int .i64 0] 63) := ⟨_, rfl⟩
  have B1 : Below w.heap.size w w1 := by rw [hw1]; exact box3 _ _ _ _
  have P1 : HasDr d w.heap.size w1 := by rw [hw1]; exact ((dr_new w d).up (box1 _ _)).up (box1 _ _)
  have R1 : Bt (w.heap.size + 1) 0 0 w1 := by
    rw [hw1]
    have := (Bt.new (w.alloc (drO d)) 63 0 0).up (box1 _ (.cells #[.int .i64 0, .int .i64 0] 63))
    rw [World.size_alloc] at this
    exact this
  have Q1 : Bt (w.heap.size + 1 + 1) 0 0 w1 := by
    rw [hw1]
    have := Bt.new ((w.alloc (drO d)).alloc (.cells #[.int .i64 0, .int .i64 0] 63)) 63 0 0
    rw [World.size_alloc, World.size_alloc] at this
    exact this
  have HB := Lib.hid B1
  have HP := Lib.hid P1
  have HR := Lib.hid R1
  have HQ := Lib.hid Q1
  have HIN := Lib.hid hin
  have KR := Lib.hid fun W (hW : Below w.heap.size w W) => read_any d MA m mc F vd E S W ((hin.up hW (Nat.le_refl _)).more hW.size) ((hm.up hW (Nat.le_refl _)).more hW.size) hE
  have hk : Hid (E = 0 → vd = true ∧ DrOk d ∧ Ends d.n (Rdg d.n (gapF d) m F) S) := Lib.hid fun h => by
    rcases hE with ⟨h1, _⟩ | ⟨h1, _, h2⟩
    · omega
    · rcases h2 with ⟨h2, h3⟩ | ⟨h2, h3, _⟩ | ⟨h2, h3, h4⟩
      · omega
      · omega
      · exact ⟨h2, h1, h4⟩
  obtain ⟨A, hA⟩ := bool_of (0 ≤ a ∧ a ≤ d.n)
  obtain ⟨B, hB⟩ := bool_of (0 ≤ b ∧ b ≤ d.n)
  have hAB : vd = ((A && B) && decide (a < b)) := Bool.eq_iff_iff.2 (hvd.trans (by rw [Bool.and_eq_true, Bool.and_eq_true, hA, hB, decide_eq_true_eq]))
  obtain ⟨x0, x1⟩ := P1
  have HA := Lib.hid hA
  have HBB := Lib.hid hB
  have HV1 := Lib.hid hvd
  clear hin hm B1 R1 Q1 hE hvd hA hB
  cases A with
  | false =>
    obtain rfl : vd = false := hAB
    go_enter Try.func52, Try.ntmps52
    go_wp2_with fail
    rw [← hw1]
    clear hw1
    refine wp_region_M [] (fun w' => w'.cell? ⟨w.heap.size, 0, none⟩ = some (.slice d.RA d.n d.rc) ∧ w'.cell? ⟨w.heap.size, 1, none⟩ = some (.slice d.SA d.m d.sc)) (by kernel_rfl) (by kernel_rfl) (by (try dsimp only); (repeat' apply And.intro); all_goals first | assumption | (go_simp; done)) (fun hT0 => ?_)
    refine M_take (v := ?_) 0 rfl (by kernel_rfl) (by assumption) (fun _ _ _ h => h) (Or.inl ⟨by rfl, ?_⟩) ?_
    rotate_left
    · (intro w hSw; (try dsimp only at hSw); go_simp; (try with_reducible rfl))
    (try simp only [Act.put, List.setIfInBounds_toArray, List.set_cons_zero, List.set_cons_succ])
    refine M_take (v := ?_) 1 rfl (by kernel_rfl) (by assumption) (fun _ _ _ h => h) (Or.inl ⟨by rfl, ?_⟩) ?_
    rotate_left
    · (intro w hSw; (try dsimp only at hSw); go_simp; (try with_reducible rfl))
    (try simp only [Act.put, List.setIfInBounds_toArray, List.set_cons_zero, List.set_cons_succ])
    refine M_take (v := ?_) 2 rfl (by kernel_rfl) (by assumption) (fun _ _ _ h => h) (Or.inl ⟨by rfl, ?_⟩) ?_
    rotate_left
    · (intro w hSw; (try dsimp only at hSw); go_simp; (try with_reducible rfl))
    (try simp only [Act.put, List.setIfInBounds_toArray, List.set_cons_zero, List.set_cons_succ])
    refine M_take (v := ?_) 3 rfl (by kernel_rfl) (by assumption) (fun _ _ _ h => h) (Or.inl ⟨by rfl, ?_⟩) ?_
    rotate_left
    · (intro w hSw; (try dsimp only at hSw); go_simp; (try with_reducible rfl))
    (try simp only [Act.put, List.setIfInBounds_toArray, List.set_cons_zero, List.set_cons_succ])
    refine M_step 4 rfl (by kernel_rfl) (fun K hK => ?_)
    go_simp
    go_at_call 75
    refine (isColumn_is d a false _ (by first | exact HA.out | simpa using HA.out)).mono ?_
    rintro e w4 ⟨rfl, hb4'⟩
    have hb4 : Below w1.heap.size w1 w4 := nextB (Below.refl _ _).drew hb4'
    have hT4 : (fun w' => w'.cell? ⟨w.heap.size, 0, none⟩ = some (.slice d.RA d.n d.rc) ∧ w'.cell? ⟨w.heap.size, 1, none⟩ = some (.slice d.SA d.m d.sc)) w4 := HP.out.up hb4
    clear hb4'
    refine hK.out _ _ (fun _ => hT4) ?_
    clear hK K
    (try simp only [Act.put, List.setIfInBounds_toArray, List.set_cons_zero, List.set_cons_succ])
    refine M_take (v := ?_) 5 rfl (by kernel_rfl) (by assumption) (fun _ _ _ h => h) (Or.inl ⟨by rfl, ?_⟩) ?_
    rotate_left
    · (intro w hSw; (try dsimp only at hSw); go_simp; (try with_reducible rfl))
    (try simp only [Act.put, List.setIfInBounds_toArray, List.set_cons_zero, List.set_cons_succ])
    refine M_take 6 rfl (by kernel_rfl) (by assumption) (fun _ _ _ h => h) (Or.inr ⟨by rfl, rfl⟩) ?_
    (try simp only [Act.put, List.setIfInBounds_toArray, List.set_cons_zero, List.set_cons_succ])
    refine M_take 7 rfl (by kernel_rfl) (by assumption) (fun _ _ _ h => h) (Or.inr ⟨by rfl, rfl⟩) ?_
    (try simp only [Act.put, List.setIfInBounds_toArray, List.set_cons_zero, List.set_cons_succ])
    refine M_take 8 rfl (by kernel_rfl) (by assumption) (fun _ _ _ h => h) (Or.inr ⟨by rfl, rfl⟩) ?_
    (try simp only [Act.put, List.setIfInBounds_toArray, List.set_cons_zero, List.set_cons_succ])
    refine M_take (v := ?_) 9 rfl (by kernel_rfl) (by assumption) (fun _ _ _ h => h) (Or.inl ⟨by rfl, ?_⟩) ?_
    rotate_left
    · (intro w hSw; (try dsimp only at hSw); go_simp; (try with_reducible rfl))
    (try simp only [Act.put, List.setIfInBounds_toArray, List.set_cons_zero, List.set_cons_succ])
    refine M_take (v := ?_) 10 rfl (by kernel_rfl) (by assumption) (fun _ _ _ h => h) (Or.inl ⟨by rfl, ?_⟩) ?_
    rotate_left
    · (intro w hSw; (try dsimp only at hSw); go_simp; (try with_reducible rfl))
    (try simp only [Act.put, List.setIfInBounds_toArray, List.set_cons_zero, List.set_cons_succ])
    refine M_take 11 rfl (by kernel_rfl) (by assumption) (fun _ _ _ h => h) (Or.inr ⟨by rfl, rfl⟩) ?_
    (try simp only [Act.put, List.setIfInBounds_toArray, List.set_cons_zero, List.set_cons_succ])
    refine M_take 12 rfl (by kernel_rfl) (by assumption) (fun _ _ _ h => h) (Or.inr ⟨by rfl, rfl⟩) ?_
    (try simp only [Act.put, List.setIfInBounds_toArray, List.set_cons_zero, List.set_cons_succ])
    refine M_take 13 rfl (by kernel_rfl) (by assumption) (fun _ _ _ h => h) (Or.inr ⟨by rfl, rfl⟩) ?_
    (try simp only [Act.put, List.setIfInBounds_toArray, List.set_cons_zero, List.set_cons_succ])
    refine M_take (v := ?_) 14 rfl (by kernel_rfl) (by assumption) (fun _ _ _ h => h) (Or.inl ⟨by rfl, ?_⟩) ?_
    rotate_left
    · (intro w hSw; (try dsimp only at hSw); go_simp; (try with_reducible rfl))
    (try simp only [Act.put, List.setIfInBounds_toArray, List.set_cons_zero, List.set_cons_succ])
    refine M_step 15 rfl (by kernel_rfl) (fun K hK => ?_)
    go_simp
    go_at_call 89
    refine (KR.out _ (nextB HB.out hb4)).mono ?_
    rintro e w2 ⟨v, rfl, hb2, hv⟩
    have D2 := Lib.hid (nextB (nextB HB.out hb4) hb2)
    have R2 := HR.out.up (nextB hb4 hb2)
    have Q2 := HQ.out.up (nextB hb4 hb2)
    have P2 := HP.out.up (nextB hb4 hb2)
    have hT2 : (fun w' => w'.cell? ⟨w.heap.size, 0, none⟩ = some (.slice d.RA d.n d.rc) ∧ w'.cell? ⟨w.heap.size, 1, none⟩ = some (.slice d.SA d.m d.sc)) w2 := P2
    have HV := Lib.hid hv
    clear hb2 hv
    refine hK.out _ _ (fun _ => hT2) ?_
    clear hK K
    (try simp only [Act.put, List.setIfInBounds_toArray, List.set_cons_zero, List.set_cons_succ])
    refine M_take (v := ?_) 16 rfl (by kernel_rfl) (by assumption) (fun _ _ _ h => h) (Or.inl ⟨by rfl, ?_⟩) ?_
    rotate_left
    · (intro w hSw; (try dsimp only at hSw); go_simp; (try with_reducible rfl))
    (try simp only [Act.put, List.setIfInBounds_toArray, List.set_cons_zero, List.set_cons_succ])
    refine M_take (v := ?_) 17 rfl (by kernel_rfl) (by assumption) (fun _ _ _ h => h) (Or.inl ⟨by rfl, ?_⟩) ?_
    rotate_left
    · (intro w hSw; (try dsimp only at hSw); go_simp; (try with_reducible rfl))
    (try simp only [Act.put, List.setIfInBounds_toArray, List.set_cons_zero, List.set_cons_succ])
    refine M_take (v := ?_) 18 rfl (by kernel_rfl) (by assumption) (fun _ _ _ h => h) (Or.inl ⟨by rfl, ?_⟩) ?_
    rotate_left
    · (intro w hSw; (try dsimp only at hSw); go_simp; (try with_reducible rfl))
    (try simp only [Act.put, List.setIfInBounds_toArray, List.set_cons_zero, List.set_cons_succ])
    refine M_step 19 rfl (by kernel_rfl) (fun K hK => ?_)
    go_simp
    refine hK.out _ _ (fun _ => by assumption) ?_
    clear hK K
    (try simp only [Act.put, List.setIfInBounds_toArray, List.set_cons_zero, List.set_cons_succ])
    refine M_step 20 rfl (by kernel_rfl) (fun K hK => ?_)
    go_simp
    refine hK.out _ _ (fun _ => by assumption) ?_
    clear hK K
    (try simp only [Act.put, List.setIfInBounds_toArray, List.set_cons_zero, List.set_cons_succ])
    refine M_done (by kernel_rfl) ?_ _
    rcases HV.out with ⟨hne, rfl⟩ | ⟨rfl, t, rfl, ht, hS⟩
    · have hn1 : (E != 0) = true := by simpa using hne
      obtain ⟨wf, hwf⟩ : ∃ wf : World, wf = (((w2.setCell ⟨w.heap.size + 1, 0, none⟩ (.int .i64 (0))).setCell ⟨w.heap.size + 1, 1, none⟩ (.int .i64 (0))).setCell ⟨w.heap.size + 1 + 1, 0, none⟩ (.int .i64 (0))).setCell ⟨w.heap.size + 1 + 1, 1, none⟩ (.int .i64 (0)) := ⟨_, rfl⟩
      have hbf : Below w.heap.size w wf := by rw [hwf]; exact set1 (set1 (set1 (set1 D2.out (by omega) _ _) (by omega) _ _) (by omega) _ _) (by omega) _ _
      have hq : Bt (w.heap.size + 1) (0) (0) wf := by rw [hwf]; exact (Bt.other (R2.store (0) (0)) (by omega)).other (by omega)
      have hr : Bt (w.heap.size + 1 + 1) (0) (0) wf := by rw [hwf]; exact ((Q2.other (by omega)).other (by omega)).store (0) (0)
      have HF := Lib.hid hbf
      have HQ9 := Lib.hid hq
      have HR9 := Lib.hid hr
      clear hbf hq hr
      have z2 := R2.lt
      have y2 := Q2.lt
      obtain ⟨r0, r1, r2, r3⟩ := R2
      obtain ⟨s0, s1, s2, s3⟩ := Q2
      go_wp2_with fail
      rw [← hwf]
      obtain ⟨q0, q1, _, _⟩ := HQ9.out
      obtain ⟨p0, p1, _, _⟩ := HR9.out
      exact bodyPost_ret (v := .tuple #[Sp (0, 0), Sp (0, 0), .int .i64 E]) (by simp [results, Try.results52, go_sem, q0, q1, p0, p1]) rfl ⟨by first | rfl | rw [if_neg hne], HF.out⟩
    · exact absurd (hk.out (by trivial)).1 (by decide)
  | true =>
    cases B with
    | false =>
      obtain rfl : vd = false := hAB
      go_enter Try.func52, Try.ntmps52
      go_wp2_with fail
      rw [← hw1]
      clear hw1
      refine wp_region_M [] (fun w' => w'.cell? ⟨w.heap.size, 0, none⟩ = some (.slice d.RA d.n d.rc) ∧ w'.cell? ⟨w.heap.size, 1, none⟩ = some (.slice d.SA d.m d.sc)) (by kernel_rfl) (by kernel_rfl) (by (try dsimp only); (repeat' apply And.intro); all_goals first | assumption | (go_simp; done)) (fun hT0 => ?_)
      refine M_take (v := ?_) 0 rfl (by kernel_rfl) (by assumption) (fun _ _ _ h => h) (Or.inl ⟨by rfl, ?_⟩) ?_
      rotate_left
      · (intro w hSw; (try dsimp only at hSw); go_simp; (try with_reducible rfl))
      (try simp only [Act.put, List.setIfInBounds_toArray, List.set_cons_zero, List.set_cons_succ])
      refine M_take (v := ?_) 1 rfl (by kernel_rfl) (by assumption) (fun _ _ _ h => h) (Or.inl ⟨by rfl, ?_⟩) ?_
      rotate_left
      · (intro w hSw; (try dsimp only at hSw); go_simp; (try with_reducible rfl))
      (try simp only [Act.put, List.setIfInBounds_toArray, List.set_cons_zero, List.set_cons_succ])
      refine M_take (v := ?_) 2 rfl (by kernel_rfl) (by assumption) (fun _ _ _ h => h) (Or.inl ⟨by rfl, ?_⟩) ?_
      rotate_left
      · (intro w hSw; (try dsimp only at hSw); go_simp; (try with_reducible rfl))
      (try simp only [Act.put, List.setIfInBounds_toArray, List.set_cons_zero, List.set_cons_succ])
      refine M_take (v := ?_) 3 rfl (by kernel_rfl) (by assumption) (fun _ _ _ h => h) (Or.inl ⟨by rfl, ?_⟩) ?_
      rotate_left
      · (intro w hSw; (try dsimp only at hSw); go_simp; (try with_reducible rfl))
      (try simp only [Act.put, List.setIfInBounds_toArray, List.set_cons_zero, List.set_cons_succ])
      refine M_step 4 rfl (by kernel_rfl) (fun K hK => ?_)
      go_simp
      go_at_call 75
      refine (isColumn_is d a true _ (by first | exact HA.out | simpa using HA.out)).mono ?_
      rintro e w4 ⟨rfl, hb4'⟩
      have hb4 : Below w1.heap.size w1 w4 := nextB (Below.refl _ _).drew hb4'
      have hT4 : (fun w' => w'.cell? ⟨w.heap.size, 0, none⟩ = some (.slice d.RA d.n d.rc) ∧ w'.cell? ⟨w.heap.size, 1, none⟩ = some (.slice d.SA d.m d.sc)) w4 := HP.out.up hb4
      clear hb4'
      refine hK.out _ _ (fun _ => hT4) ?_
      clear hK K
      (try simp only [Act.put, List.setIfInBounds_toArray, List.set_cons_zero, List.set_cons_succ])
      refine M_take (v := ?_) 5 rfl (by kernel_rfl) (by assumption) (fun _ _ _ h => h) (Or.inl ⟨by rfl, ?_⟩) ?_
      rotate_left
      · (intro w hSw; (try dsimp only at hSw); go_simp; (try with_reducible rfl))
      (try simp only [Act.put, List.setIfInBounds_toArray, List.set_cons_zero, List.set_cons_succ])
      refine M_take (v := ?_) 6 rfl (by kernel_rfl) (by assumption) (fun _ _ _ h => h) (Or.inl ⟨by rfl, ?_⟩) ?_
      rotate_left
      · (intro w hSw; (try dsimp only at hSw); go_simp; (try with_reducible rfl))
      (try simp only [Act.put, List.setIfInBounds_toArray, List.set_cons_zero, List.set_cons_succ])
      refine M_take (v := ?_) 7 rfl (by kernel_rfl) (by assumption) (fun _ _ _ h => h) (Or.inl ⟨by rfl, ?_⟩) ?_
      rotate_left
      · (intro w hSw; (try dsimp only at hSw); go_simp; (try with_reducible rfl))
      (try simp only [Act.put, List.setIfInBounds_toArray, List.set_cons_zero, List.set_cons_succ])
      refine M_step 8 rfl (by kernel_rfl) (fun K hK => ?_)
      go_simp
      go_at_call 75
      refine (isColumn_is d b false _ (by first | exact HBB.out | simpa using HBB.out)).mono ?_
      rintro e w5 ⟨rfl, hb5'⟩
      have hb5 : Below w1.heap.size w1 w5 := nextB hb4 hb5'
      have hT5 : (fun w' => w'.cell? ⟨w.heap.size, 0, none⟩ = some (.slice d.RA d.n d.rc) ∧ w'.cell? ⟨w.heap.size, 1, none⟩ = some (.slice d.SA d.m d.sc)) w5 := HP.out.up hb5
      clear hb5'
      refine hK.out _ _ (fun _ => hT5) ?_
      clear hK K
      (try simp only [Act.put, List.setIfInBounds_toArray, List.set_cons_zero, List.set_cons_succ])
      refine M_take (v := ?_) 9 rfl (by kernel_rfl) (by assumption) (fun _ _ _ h => h) (Or.inl ⟨by rfl, ?_⟩) ?_
      rotate_left
      · (intro w hSw; (try dsimp only at hSw); go_simp; (try with_reducible rfl))
      (try simp only [Act.put, List.setIfInBounds_toArray, List.set_cons_zero, List.set_cons_succ])
      refine M_take (v := ?_) 10 rfl (by kernel_rfl) (by assumption) (fun _ _ _ h => h) (Or.inl ⟨by rfl, ?_⟩) ?_
      rotate_left
      · (intro w hSw; (try dsimp only at hSw); go_simp; (try with_reducible rfl))
      (try simp only [Act.put, List.setIfInBounds_toArray, List.set_cons_zero, List.set_cons_succ])
      refine M_take 11 rfl (by kernel_rfl) (by assumption) (fun _ _ _ h => h) (Or.inr ⟨by rfl, rfl⟩) ?_
      (try simp only [Act.put, List.setIfInBounds_toArray, List.set_cons_zero, List.set_cons_succ])
      refine M_take 12 rfl (by kernel_rfl) (by assumption) (fun _ _ _ h => h) (Or.inr ⟨by rfl, rfl⟩) ?_
      (try simp only [Act.put, List.setIfInBounds_toArray, List.set_cons_zero, List.set_cons_succ])
      refine M_take 13 rfl (by kernel_rfl) (by assumption) (fun _ _ _ h => h) (Or.inr ⟨by rfl, rfl⟩) ?_
      (try simp only [Act.put, List.setIfInBounds_toArray, List.set_cons_zero, List.set_cons_succ])
      refine M_take (v := ?_) 14 rfl (by kernel_rfl) (by assumption) (fun _ _ _ h => h) (Or.inl ⟨by rfl, ?_⟩) ?_
      rotate_left
      · (intro w hSw; (try dsimp only at hSw); go_simp; (try with_reducible rfl))
      (try simp only [Act.put, List.setIfInBounds_toArray, List.set_cons_zero, List.set_cons_succ])
      refine M_step 15 rfl (by kernel_rfl) (fun K hK => ?_)
      go_simp
      go_at_call 89
      refine (KR.out _ (nextB HB.out hb5)).mono ?_
      rintro e w2 ⟨v, rfl, hb2, hv⟩
      have D2 := Lib.hid (nextB (nextB HB.out hb5) hb2)
      have R2 := HR.out.up (nextB hb5 hb2)
      have Q2 := HQ.out.up (nextB hb5 hb2)
      have P2 := HP.out.up (nextB hb5 hb2)
      have hT2 : (fun w' => w'.cell? ⟨w.heap.size, 0, none⟩ = some (.slice d.RA d.n d.rc) ∧ w'.cell? ⟨w.heap.size, 1, none⟩ = some (.slice d.SA d.m d.sc)) w2 := P2
      have HV := Lib.hid hv
      clear hb2 hv
      refine hK.out _ _ (fun _ => hT2) ?_
      clear hK K
      (try simp only [Act.put, List.setIfInBounds_toArray, List.set_cons_zero, List.set_cons_succ])
      refine M_take (v := ?_) 16 rfl (by kernel_rfl) (by assumption) (fun _ _ _ h => h) (Or.inl ⟨by rfl, ?_⟩) ?_
      rotate_left
      · (intro w hSw; (try dsimp only at hSw); go_simp; (try with_reducible rfl))
      (try simp only [Act.put, List.setIfInBounds_toArray, List.set_cons_zero, List.set_cons_succ])
      refine M_take (v := ?_) 17 rfl (by kernel_rfl) (by assumption) (fun _ _ _ h => h) (Or.inl ⟨by rfl, ?_⟩) ?_
      rotate_left
      · (intro w hSw; (try dsimp only at hSw); go_simp; (try with_reducible rfl))
      (try simp only [Act.put, List.setIfInBounds_toArray, List.set_cons_zero, List.set_cons_succ])
      refine M_take (v := ?_) 18 rfl (by kernel_rfl) (by assumption) (fun _ _ _ h => h) (Or.inl ⟨by rfl, ?_⟩) ?_
      rotate_left
      · (intro w hSw; (try dsimp only at hSw); go_simp; (try with_reducible rfl))
      (try simp only [Act.put, List.setIfInBounds_toArray, List.set_cons_zero, List.set_cons_succ])
      refine M_step 19 rfl (by kernel_rfl) (fun K hK => ?_)
      go_simp
      refine hK.out _ _ (fun _ => by assumption) ?_
      clear hK K
      (try simp only [Act.put, List.setIfInBounds_toArray, List.set_cons_zero, List.set_cons_succ])
      refine M_step 20 rfl (by kernel_rfl) (fun K hK => ?_)
      go_simp
      refine hK.out _ _ (fun _ => by assumption) ?_
      clear hK K
      (try simp only [Act.put, List.setIfInBounds_toArray, List.set_cons_zero, List.set_cons_succ])
      refine M_done (by kernel_rfl) ?_ _
      rcases HV.out with ⟨hne, rfl⟩ | ⟨rfl, t, rfl, ht, hS⟩
      · have hn1 : (E != 0) = true := by simpa using hne
        obtain ⟨wf, hwf⟩ : ∃ wf : World, wf = (((w2.setCell ⟨w.heap.size + 1, 0, none⟩ (.int .i64 (0))).setCell ⟨w.heap.size + 1, 1, none⟩ (.int .i64 (0))).setCell ⟨w.heap.size + 1 + 1, 0, none⟩ (.int .i64 (0))).setCell ⟨w.heap.size + 1 + 1, 1, none⟩ (.int .i64 (0)) := ⟨_, rfl⟩
        have hbf : Below w.heap.size w wf := by rw [hwf]; exact set1 (set1 (set1 (set1 D2.out (by omega) _ _) (by omega) _ _) (by omega) _ _) (by omega) _ _
        have hq : Bt (w.heap.size + 1) (0) (0) wf := by rw [hwf]; exact (Bt.other (R2.store (0) (0)) (by omega)).other (by omega)
        have hr : Bt (w.heap.size + 1 + 1) (0) (0) wf := by rw [hwf]; exact ((Q2.other (by omega)).other (by omega)).store (0) (0)
        have HF := Lib.hid hbf
        have HQ9 := Lib.hid hq
        have HR9 := Lib.hid hr
        clear hbf hq hr
        have z2 := R2.lt
        have y2 := Q2.lt
        obtain ⟨r0, r1, r2, r3⟩ := R2
        obtain ⟨s0, s1, s2, s3⟩ := Q2
        go_wp2_with fail
        rw [← hwf]
        obtain ⟨q0, q1, _, _⟩ := HQ9.out
        obtain ⟨p0, p1, _, _⟩ := HR9.out
        exact bodyPost_ret (v := .tuple #[Sp (0, 0), Sp (0, 0), .int .i64 E]) (by simp [results, Try.results52, go_sem, q0, q1, p0, p1]) rfl ⟨by first | rfl | rw [if_neg hne], HF.out⟩
      · exact absurd (hk.out (by trivial)).1 (by decide)
    | true =>
      have hAB2 : decide (a < b) = vd := by rw [hAB]; rfl
      clear hAB
      go_enter Try.func52, Try.ntmps52
      go_wp2_with fail
      rw [← hw1]
      clear hw1
      refine wp_region_M [] (fun w' => w'.cell? ⟨w.heap.size, 0, none⟩ = some (.slice d.RA d.n d.rc) ∧ w'.cell? ⟨w.heap.size, 1, none⟩ = some (.slice d.SA d.m d.sc)) (by kernel_rfl) (by kernel_rfl) (by (try dsimp only); (repeat' apply And.intro); all_goals first | assumption | (go_simp; done)) (fun hT0 => ?_)
      refine M_take (v := ?_) 0 rfl (by kernel_rfl) (by assumption) (fun _ _ _ h => h) (Or.inl ⟨by rfl, ?_⟩) ?_
      rotate_left
      · (intro w hSw; (try dsimp only at hSw); go_simp; (try with_reducible rfl))
      (try simp only [Act.put, List.setIfInBounds_toArray, List.set_cons_zero, List.set_cons_succ])
      refine M_take (v := ?_) 1 rfl (by kernel_rfl) (by assumption) (fun _ _ _ h => h) (Or.inl ⟨by rfl, ?_⟩) ?_
      rotate_left
      · (intro w hSw; (try dsimp only at hSw); go_simp; (try with_reducible rfl))
      (try simp only [Act.put, List.setIfInBounds_toArray, List.set_cons_zero, List.set_cons_succ])
      refine M_take (v := ?_) 2 rfl (by kernel_rfl) (by assumption) (fun _ _ _ h => h) (Or.inl ⟨by rfl, ?_⟩) ?_
      rotate_left
      · (intro w hSw; (try dsimp only at hSw); go_simp; (try with_reducible rfl))
      (try simp only [Act.put, List.setIfInBounds_toArray, List.set_cons_zero, List.set_cons_succ])
      refine M_take (v := ?_) 3 rfl (by kernel_rfl) (by assumption) (fun _ _ _ h => h) (Or.inl ⟨by rfl, ?_⟩) ?_
      rotate_left
      · (intro w hSw; (try dsimp only at hSw); go_simp; (try with_reducible rfl))
      (try simp only [Act.put, List.setIfInBounds_toArray, List.set_cons_zero, List.set_cons_succ])
      refine M_step 4 rfl (by kernel_rfl) (fun K hK => ?_)
      go_simp
      go_at_call 75
      refine (isColumn_is d a true _ (by first | exact HA.out | simpa using HA.out)).mono ?_
      rintro e w4 ⟨rfl, hb4'⟩
      have hb4 : Below w1.heap.size w1 w4 := nextB (Below.refl _ _).drew hb4'
      have hT4 : (fun w' => w'.cell? ⟨w.heap.size, 0, none⟩ = some (.slice d.RA d.n d.rc) ∧ w'.cell? ⟨w.heap.size, 1, none⟩ = some (.slice d.SA d.m d.sc)) w4 := HP.out.up hb4
      clear hb4'
      refine hK.out _ _ (fun _ => hT4) ?_
      clear hK K
      (try simp only [Act.put, List.setIfInBounds_toArray, List.set_cons_zero, List.set_cons_succ])
      refine M_take (v := ?_) 5 rfl (by kernel_rfl) (by assumption) (fun _ _ _ h => h) (Or.inl ⟨by rfl, ?_⟩) ?_
      rotate_left
      · (intro w hSw; (try dsimp only at hSw); go_simp; (try with_reducible rfl))
      (try simp only [Act.put, List.setIfInBounds_toArray, List.set_cons_zero, List.set_cons_succ])
      refine M_take (v := ?_) 6 rfl (by kernel_rfl) (by assumption) (fun _ _ _ h => h) (Or.inl ⟨by rfl, ?_⟩) ?_
      rotate_left
      · (intro w hSw; (try dsimp only at hSw); go_simp; (try with_reducible rfl))
      (try simp only [Act.put, List.setIfInBounds_toArray, List.set_cons_zero, List.set_cons_succ])
      refine M_take (v := ?_) 7 rfl (by kernel_rfl) (by assumption) (fun _ _ _ h => h) (Or.inl ⟨by rfl, ?_⟩) ?_
      rotate_left
      · (intro w hSw; (try dsimp only at hSw); go_simp; (try with_reducible rfl))
      (try simp only [Act.put, List.setIfInBounds_toArray, List.set_cons_zero, List.set_cons_succ])
      refine M_step 8 rfl (by kernel_rfl) (fun K hK => ?_)
      go_simp
      go_at_call 75
      refine (isColumn_is d b true _ (by first | exact HBB.out | simpa using HBB.out)).mono ?_
      rintro e w5 ⟨rfl, hb5'⟩
      have hb5 : Below w1.heap.size w1 w5 := nextB hb4 hb5'
      have hT5 : (fun w' => w'.cell? ⟨w.heap.size, 0, none⟩ = some (.slice d.RA d.n d.rc) ∧ w'.cell? ⟨w.heap.size, 1, none⟩ = some (.slice d.SA d.m d.sc)) w5 := HP.out.up hb5
      clear hb5'
      refine hK.out _ _ (fun _ => hT5) ?_
      clear hK K
      (try simp only [Act.put, List.setIfInBounds_toArray, List.set_cons_zero, List.set_cons_succ])
      refine M_take (v := ?_) 9 rfl (by kernel_rfl) (by assumption) (fun _ _ _ h => h) (Or.inl ⟨by rfl, ?_⟩) ?_
      rotate_left
      · (intro w hSw; (try dsimp only at hSw); go_simp; (try with_reducible rfl))
      (try simp only [Act.put, List.setIfInBounds_toArray, List.set_cons_zero, List.set_cons_succ])
      refine M_take (v := ?_) 10 rfl (by kernel_rfl) (by assumption) (fun _ _ _ h => h) (Or.inl ⟨by rfl, ?_⟩) ?_
      rotate_left
      · (intro w hSw; (try dsimp only at hSw); go_simp; (try with_reducible rfl))
      (try simp only [Act.put, List.setIfInBounds_toArray, List.set_cons_zero, List.set_cons_succ])
      refine M_take (v := ?_) 11 rfl (by kernel_rfl) (by assumption) (fun _ _ _ h => h) (Or.inl ⟨by rfl, ?_⟩) ?_
      rotate_left
      · (intro w hSw; (try dsimp only at hSw); go_simp; (try with_reducible rfl))
      (try simp only [Act.put, List.setIfInBounds_toArray, List.set_cons_zero, List.set_cons_succ])
      refine M_take (v := ?_) 12 rfl (by kernel_rfl) (by assumption) (fun _ _ _ h => h) (Or.inl ⟨by rfl, ?_⟩) ?_
      rotate_left
      · (intro w hSw; (try dsimp only at hSw); go_simp; (try with_reducible rfl))
      (try simp only [Act.put, List.setIfInBounds_toArray, List.set_cons_zero, List.set_cons_succ])
      refine M_take (v := ?_) 13 rfl (by kernel_rfl) (by assumption) (fun _ _ _ h => h) (Or.inl ⟨by rfl, ?_⟩) ?_
      rotate_left
      · (intro w hSw; (try dsimp only at hSw); go_simp; (try with_reducible rfl))
      (try simp only [Act.put, List.setIfInBounds_toArray, List.set_cons_zero, List.set_cons_succ])
      refine M_take (v := ?_) 14 rfl (by kernel_rfl) (by assumption) (fun _ _ _ h => h) (Or.inl ⟨by rfl, ?_⟩) ?_
      rotate_left
      · (intro w hSw; (try dsimp only at hSw); go_simp; (try with_reducible rfl))
      (try simp only [Act.put, List.setIfInBounds_toArray, List.set_cons_zero, List.set_cons_succ])
      refine M_step 15 rfl (by kernel_rfl) (fun K hK => ?_)
      go_simp
      go_at_call 89
      refine (KR.out _ (nextB HB.out hb5)).mono ?_
      rintro e w2 ⟨v, rfl, hb2, hv⟩
      have D2 := Lib.hid (nextB (nextB HB.out hb5) hb2)
      have R2 := HR.out.up (nextB hb5 hb2)
      have Q2 := HQ.out.up (nextB hb5 hb2)
      have P2 := HP.out.up (nextB hb5 hb2)
      have hT2 : (fun w' => w'.cell? ⟨w.heap.size, 0, none⟩ = some (.slice d.RA d.n d.rc) ∧ w'.cell? ⟨w.heap.size, 1, none⟩ = some (.slice d.SA d.m d.sc)) w2 := P2
      have HV := Lib.hid hv
      clear hb2 hv
      refine hK.out _ _ (fun _ => hT2) ?_
      clear hK K
      (try simp only [Act.put, List.setIfInBounds_toArray, List.set_cons_zero, List.set_cons_succ])
      refine M_take (v := ?_) 16 rfl (by kernel_rfl) (by assumption) (fun _ _ _ h => h) (Or.inl ⟨by rfl, ?_⟩) ?_
      rotate_left
      · (intro w hSw; (try dsimp only at hSw); go_simp; (try with_reducible rfl))
      (try simp only [Act.put, List.setIfInBounds_toArray, List.set_cons_zero, List.set_cons_succ])
      refine M_take (v := ?_) 17 rfl (by kernel_rfl) (by assumption) (fun _ _ _ h => h) (Or.inl ⟨by rfl, ?_⟩) ?_
      rotate_left
      · (intro w hSw; (try dsimp only at hSw); go_simp; (try with_reducible rfl))
      (try simp only [Act.put, List.setIfInBounds_toArray, List.set_cons_zero, List.set_cons_succ])
      refine M_take (v := ?_) 18 rfl (by kernel_rfl) (by assumption) (fun _ _ _ h => h) (Or.inl ⟨by rfl, ?_⟩) ?_
      rotate_left
      · (intro w hSw; (try dsimp only at hSw); go_simp; (try with_reducible rfl))
      (try simp only [Act.put, List.setIfInBounds_toArray, List.set_cons_zero, List.set_cons_succ])
      refine M_step 19 rfl (by kernel_rfl) (fun K hK => ?_)
      go_simp
      refine hK.out _ _ (fun _ => by assumption) ?_
      clear hK K
      (try simp only [Act.put, List.setIfInBounds_toArray, List.set_cons_zero, List.set_cons_succ])
      refine M_step 20 rfl (by kernel_rfl) (fun K hK => ?_)
      go_simp
      refine hK.out _ _ (fun _ => by assumption) ?_
      clear hK K
      (try simp only [Act.put, List.setIfInBounds_toArray, List.set_cons_zero, List.set_cons_succ])
      refine M_done (by kernel_rfl) ?_ _
      rcases HV.out with ⟨hne, rfl⟩ | ⟨rfl, t, rfl, ht, hS⟩
      · have hn1 : (E != 0) = true := by simpa using hne
        obtain ⟨wf, hwf⟩ : ∃ wf : World, wf = (((w2.setCell ⟨w.heap.size + 1, 0, none⟩ (.int .i64 (0))).setCell ⟨w.heap.size + 1, 1, none⟩ (.int .i64 (0))).setCell ⟨w.heap.size + 1 + 1, 0, none⟩ (.int .i64 (0))).setCell ⟨w.heap.size + 1 + 1, 1, none⟩ (.int .i64 (0)) := ⟨_, rfl⟩
        have hbf : Below w.heap.size w wf := by rw [hwf]; exact set1 (set1 (set1 (set1 D2.out (by omega) _ _) (by omega) _ _) (by omega) _ _) (by omega) _ _
        have hq : Bt (w.heap.size + 1) (0) (0) wf := by rw [hwf]; exact (Bt.other (R2.store (0) (0)) (by omega)).other (by omega)
        have hr : Bt (w.heap.size + 1 + 1) (0) (0) wf := by rw [hwf]; exact ((Q2.other (by omega)).other (by omega)).store (0) (0)
        have HF := Lib.hid hbf
        have HQ9 := Lib.hid hq
        have HR9 := Lib.hid hr
        clear hbf hq hr
        have z2 := R2.lt
        have y2 := Q2.lt
        obtain ⟨r0, r1, r2, r3⟩ := R2
        obtain ⟨s0, s1, s2, s3⟩ := Q2
        go_wp2_with fail
        rw [← hwf]
        obtain ⟨q0, q1, _, _⟩ := HQ9.out
        obtain ⟨p0, p1, _, _⟩ := HR9.out
        exact bodyPost_ret (v := .tuple #[Sp (0, 0), Sp (0, 0), .int .i64 E]) (by simp [results, Try.results52, go_sem, q0, q1, p0, p1]) rfl ⟨by first | rfl | rw [if_neg hne], HF.out⟩
      · obtain ⟨hk1, hk2, hk3⟩ := hk.out (by trivial)
        obtain ⟨⟨⟨ha0, ha1⟩, hb0, hb1⟩, hlt⟩ := HV1.out.1 hk1
        obtain ⟨qa, rfl⟩ : ∃ q : Nat, a = (q : Int) := ⟨a.toNat, by omega⟩
        obtain ⟨qb, rfl⟩ : ∃ q : Nat, b = (q : Int) := ⟨b.toNat, by omega⟩
        have HK2 := Lib.hid hk2
        have HS := Lib.hid hS
        have hgp := gpOk hk2
        have hap := ends_ap hk3
        have hpos := apS_pos hk2 hk3 (a := qa) (b := qb) (by omega) (by omega)
        have hn200 := hgp.2.1
        clear hS hk x0 x1 hT0
        obtain ⟨x0, x1⟩ := P2
        have KP := Lib.hid fun g gc W (h1 : SpR g d.n (gapF d) W) (h2 : SpR t (d.n + 1) S W) (h3 : d.n ≤ gc) => apart_any g d.n gc t (d.n + 1) (gapF d) S qa qb W h1 h2 h3 (by have := hgp.2.1; omega) (by omega) (by omega) hgp.2.2 hap.1 (hap.2 qa qb (by omega) (by omega))
        obtain ⟨Y, hY⟩ : ∃ Y : Nat, (qb : Int) - (qa : Int) = (Y : Int) := ⟨qb - qa, by omega⟩
        have hY1 : 0 < Y := by omega
        have hY2 : Y < 1000 := by omega
        have hwY : IntKind.i64.wrap ((qb : Int) - (qa : Int)) = (Y : Int) := by rw [hY]; exact IntWalk.i64_in _ (by omega)
        obtain ⟨sx, sy, hs9⟩ : ∃ x y, apS (gapF d) S qa qb = (x, y) := ⟨_, _, rfl⟩
        rw [hs9] at hpos
        obtain ⟨X1, rfl⟩ : ∃ X : Nat, sx = (X : Int) := ⟨sx.toNat, by have := hpos.1.1; simp only at this; omega⟩
        obtain ⟨X2, rfl⟩ : ∃ X : Nat, sy = (X : Int) := ⟨sy.toNat, by have := hpos.2.1; simp only at this; omega⟩
        simp only at hpos
        have kt1 := fun W => ratio_any X1 Y W (by omega) (by omega) hY1
        have kt2 := fun W => ratio_any X2 Y W (by omega) (by omega) hY1
        obtain ⟨p1, hp1⟩ : ∃ p, p = X1 / Nat.gcd X1 Y := ⟨_, rfl⟩
        obtain ⟨p2, hp2⟩ : ∃ p, p = Y / Nat.gcd X1 Y := ⟨_, rfl⟩
        obtain ⟨p3, hp3⟩ : ∃ p, p = X2 / Nat.gcd X2 Y := ⟨_, rfl⟩
        obtain ⟨p4, hp4⟩ : ∃ p, p = Y / Nat.gcd X2 Y := ⟨_, rfl⟩
        rw [← hp1, ← hp2] at kt1
        rw [← hp3, ← hp4] at kt2
        have KT1 := Lib.hid kt1
        have KT2 := Lib.hid kt2
        have HP1 := Lib.hid hp1
        have HP2 := Lib.hid hp2
        have HP3 := Lib.hid hp3
        have HP4 := Lib.hid hp4
        clear kt1 kt2 hp1 hp2 hp3 hp4
        have H9 := Lib.hid hs9
        have HYY := Lib.hid hY
        clear hgp hap hk2 hk3 hk1 hs9 hpos hY
        go_wp2_with fail
        refine (gapsOf_any d w2 ((HIN.out.up D2.out (Nat.le_refl _)).more D2.out.size) HK2.out).mono ?_
        rintro e w6 ⟨g, cap, rfl, hg6, hcap6, hS6, hb6⟩
        have D6 := Lib.hid (nextB D2.out hb6)
        have HG6 := Lib.hid hS6
        have HS6 := Lib.hid (HS.out.up hb6)
        have R6 := R2.up hb6
        have Q6 := Q2.up hb6
        have HC6 := Lib.hid hcap6
        clear hb6 hS6 hg6 hcap6 x0 x1 R2 Q2
        go_wp2_with fail
        refine (KP.out g cap w6 HG6.out HS6.out HC6.out).mono ?_
        rintro e w7 ⟨rfl, hb7⟩
        have D7 := Lib.hid (nextB D6.out hb7)
        have R7 := R6.up hb7
        have Q7 := Q6.up hb7
        clear hb7 R6 Q6
        rw [H9.out]
        go_wp2_with fail
        obtain ⟨w8, hw8⟩ : ∃ w8 : World, w8 = w7.alloc (.cells #[.int .i64 (X1 : Int), .int .i64 (X2 : Int)] 31) := ⟨_, rfl⟩
        rw [← hw8]
        have hb8 : Below w7.heap.size w7 w8 := by rw [hw8]; exact box1 _ _
        have t8 : Bt w7.heap.size (X1 : Int) (X2 : Int) w8 := by rw [hw8]; exact Bt.new _ _ _ _
        have D8 := Lib.hid (nextB D7.out hb8)
        have R8 := R7.up hb8
        have Q8 := Q7.up hb8
        obtain ⟨t0, t1, _, _⟩ := t8
        clear hw8 hb8 R7 Q7
        refine wp_region_M [12, 13, 14] (fun w' => w'.cell? ⟨w7.heap.size, 0, none⟩ = some (.int .i64 (X1 : Int)) ∧ w'.cell? ⟨w7.heap.size, 1, none⟩ = some (.int .i64 (X2 : Int))) (by kernel_rfl) (by kernel_rfl) (by (try dsimp only); (repeat' apply And.intro); all_goals first | assumption | (go_simp; done)) (fun hT0 => ?_)
        refine M_take (v := ?_) 0 rfl (by kernel_rfl) (by assumption) (fun _ _ _ h => h) (Or.inl ⟨by rfl, ?_⟩) ?_
        rotate_left
        · (intro w hSw; (try dsimp only at hSw); go_simp; (try with_reducible rfl))
        (try simp only [Act.put, List.setIfInBounds_toArray, List.set_cons_zero, List.set_cons_succ])
        refine M_take (v := ?_) 1 rfl (by kernel_rfl) (by assumption) (fun _ _ _ h => h) (Or.inl ⟨by rfl, ?_⟩) ?_
        rotate_left
        · (intro w hSw; (try dsimp only at hSw); go_simp; (try with_reducible rfl))
        (try simp only [Act.put, List.setIfInBounds_toArray, List.set_cons_zero, List.set_cons_succ])
        refine M_take (v := ?_) 2 rfl (by kernel_rfl) (by assumption) (fun _ _ _ h => h) (Or.inl ⟨by rfl, ?_⟩) ?_
        rotate_left
        · (intro w hSw; (try dsimp only at hSw); go_simp; (try with_reducible rfl))
        (try simp only [Act.put, List.setIfInBounds_toArray, List.set_cons_zero, List.set_cons_succ])
        refine M_take (v := ?_) 3 rfl (by kernel_rfl) (by assumption) (fun _ _ _ h => h) (Or.inl ⟨by rfl, ?_⟩) ?_
        rotate_left
        · (intro w hSw; (try dsimp only at hSw); go_simp; (try with_reducible rfl))
        (try simp only [Act.put, List.setIfInBounds_toArray, List.set_cons_zero, List.set_cons_succ])
        refine M_take (v := ?_) 4 rfl (by kernel_rfl) (by assumption) (fun _ _ _ h => h) (Or.inl ⟨by rfl, ?_⟩) ?_
        rotate_left
        · (intro w hSw; (try dsimp only at hSw); go_simp; (try with_reducible rfl))
        (try simp only [Act.put, List.setIfInBounds_toArray, List.set_cons_zero, List.set_cons_succ])
        refine M_take (v := ?_) 6 rfl (by kernel_rfl) (by assumption) (fun _ _ _ h => h) (Or.inl ⟨by rfl, ?_⟩) ?_
        rotate_left
        · (intro w hSw; (try dsimp only at hSw); go_simp; (try with_reducible rfl))
        (try simp only [Act.put, List.setIfInBounds_toArray, List.set_cons_zero, List.set_cons_succ])
        refine M_take (v := ?_) 7 rfl (by kernel_rfl) (by assumption) (fun _ _ _ h => h) (Or.inl ⟨by rfl, ?_⟩) ?_
        rotate_left
        · (intro w hSw; (try dsimp only at hSw); go_simp; (try with_reducible rfl))
        (try simp only [Act.put, List.setIfInBounds_toArray, List.set_cons_zero, List.set_cons_succ])
        refine M_take (v := ?_) 8 rfl (by kernel_rfl) (by assumption) (fun _ _ _ h => h) (Or.inl ⟨by rfl, ?_⟩) ?_
        rotate_left
        · (intro w hSw; (try dsimp only at hSw); go_simp; (try with_reducible rfl))
        (try simp only [Act.put, List.setIfInBounds_toArray, List.set_cons_zero, List.set_cons_succ])
        refine M_take (v := ?_) 9 rfl (by kernel_rfl) (by assumption) (fun _ _ _ h => h) (Or.inl ⟨by rfl, ?_⟩) ?_
        rotate_left
        · (intro w hSw; (try dsimp only at hSw); go_simp; (try with_reducible rfl))
        (try simp only [Act.put, List.setIfInBounds_toArray, List.set_cons_zero, List.set_cons_succ])
        refine M_take (v := ?_) 10 rfl (by kernel_rfl) (by assumption) (fun _ _ _ h => h) (Or.inl ⟨by rfl, ?_⟩) ?_
        rotate_left
        · (intro w hSw; (try dsimp only at hSw); go_simp; (try with_reducible rfl))
        (try simp only [Act.put, List.setIfInBounds_toArray, List.set_cons_zero, List.set_cons_succ])
        refine M_step 5 rfl (by kernel_rfl) (fun K hK => ?_)
        go_simp
        go_at_call 102
        refine (KT1.out _).mono ?_
        rintro e w9 ⟨rfl, hb9'⟩
        have hb9 : Below w8.heap.size w8 w9 := nextB (Below.refl _ _).drew hb9'
        have hT9 : (fun w' => w'.cell? ⟨w7.heap.size, 0, none⟩ = some (.int .i64 (X1 : Int)) ∧ w'.cell? ⟨w7.heap.size, 1, none⟩ = some (.int .i64 (X2 : Int))) w9 := ⟨cell_of hb9 t0, cell_of hb9 t1⟩
        clear hb9'
        refine hK.out _ _ (fun _ => hT9) ?_
        clear hK K
        (try simp only [Act.put, List.setIfInBounds_toArray, List.set_cons_zero, List.set_cons_succ])
        refine M_step 11 rfl (by kernel_rfl) (fun K hK => ?_)
        go_simp
        go_at_call 102
        refine (KT2.out _).mono ?_
        rintro e w3 ⟨rfl, hb3'⟩
        have hb3 : Below w8.heap.size w8 w3 := nextB hb9 hb3'
        have hT3 : (fun w' => w'.cell? ⟨w7.heap.size, 0, none⟩ = some (.int .i64 (X1 : Int)) ∧ w'.cell? ⟨w7.heap.size, 1, none⟩ = some (.int .i64 (X2 : Int))) w3 := ⟨cell_of hb3 t0, cell_of hb3 t1⟩
        have D3 := Lib.hid (nextB D8.out hb3)
        have R3 := R8.up hb3
        have Q3 := Q8.up hb3
        have z3 := R3.lt
        have y3 := Q3.lt
        obtain ⟨r0, r1, r2, r3⟩ := id R3
        obtain ⟨s0, s1, s2, s3⟩ := id Q3
        have HR3 := Lib.hid R3
        have HQ3 := Lib.hid Q3
        clear hb3' R3 Q3
        refine hK.out _ _ (fun _ => hT3) ?_
        clear hK K
        (try simp only [Act.put, List.setIfInBounds_toArray, List.set_cons_zero, List.set_cons_succ])
        refine M_step 12 rfl (by kernel_rfl) (fun K hK => ?_)
        go_simp
        skip
        refine hK.out _ _ (fun e => by cases e) ?_
        clear hK K
        (try simp only [Act.put, List.setIfInBounds_toArray, List.set_cons_zero, List.set_cons_succ])
        refine M_step 13 rfl (by kernel_rfl) (fun K hK => ?_)
        go_simp
        skip
        refine hK.out _ _ (fun e => by cases e) ?_
        clear hK K
        (try simp only [Act.put, List.setIfInBounds_toArray, List.set_cons_zero, List.set_cons_succ])
        refine M_step 14 rfl (by kernel_rfl) (fun K hK => ?_)
        go_simp
        refine hK.out _ _ (fun e => by cases e) ?_
        clear hK K
        (try simp only [Act.put, List.setIfInBounds_toArray, List.set_cons_zero, List.set_cons_succ])
        refine M_done (by kernel_rfl) ?_ _
        obtain ⟨wf, hwf⟩ : ∃ wf : World, wf = (((w3.setCell ⟨w.heap.size + 1, 0, none⟩ (.int .i64 ((p1 : Int)))).setCell ⟨w.heap.size + 1, 1, none⟩ (.int .i64 ((p2 : Int)))).setCell ⟨w.heap.size + 1 + 1, 0, none⟩ (.int .i64 ((p3 : Int)))).setCell ⟨w.heap.size + 1 + 1, 1, none⟩ (.int .i64 ((p4 : Int))) := ⟨_, rfl⟩
        have hbf : Below w.heap.size w wf := by rw [hwf]; exact set1 (set1 (set1 (set1 D3.out (by omega) _ _) (by omega) _ _) (by omega) _ _) (by omega) _ _
        have hq : Bt (w.heap.size + 1) ((p1 : Int)) ((p2 : Int)) wf := by rw [hwf]; exact (Bt.other (HR3.out.store ((p1 : Int)) ((p2 : Int))) (by omega)).other (by omega)
        have hr : Bt (w.heap.size + 1 + 1) ((p3 : Int)) ((p4 : Int)) wf := by rw [hwf]; exact ((HQ3.out.other (by omega)).other (by omega)).store ((p3 : Int)) ((p4 : Int))
        have HF := Lib.hid hbf
        have HQ9 := Lib.hid hq
        have HR9 := Lib.hid hr
        clear hbf hq hr
        go_wp2_with fail
        rw [← hwf]
        obtain ⟨q0, q1, _, _⟩ := HQ9.out
        obtain ⟨p0, p5, _, _⟩ := HR9.out
        exact bodyPost_ret (v := .tuple #[Sp ((p1 : Int), (p2 : Int)), Sp ((p3 : Int), (p4 : Int)), .int .i64 0]) (by simp [results, Try.results52, go_sem, q0, q1, p0, p5]) rfl ⟨by
          have e1 : ((qb : Int) - (qa : Int)).toNat = Y := by rw [HYY.out]; omega
          have e2 : qb - qa = Y := by have := HYY.out; omega
          first | rw [e2, H9.out] | rw [e1, H9.out] | (rw [if_pos rfl, if_pos rfl, Int.toNat_natCast, Int.toNat_natCast, e1, H9.out])
          unfold ratP
          simp only [Int.toNat_natCast]
          rw [← HP1.out, ← HP2.out, ← HP3.out, ← HP4.out], HF.out⟩
end Go.Proofs.Ytpikaohodieeaaa
