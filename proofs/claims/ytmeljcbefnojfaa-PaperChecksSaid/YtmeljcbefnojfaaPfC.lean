/- The law PaperChecks returns true for every paper, every list of points and every inked sheet, and leaves its arguments as they were; no condition. -/
import Derived.Test.YtmeljcbefnojfaaGap
import Derived.Test.YtmeljcbefnojfaaLif
namespace Go.Proofs.Ytmeljcbefnojfaa
open Go.ChangeShapes Go.WideShapes Go.ChangeAt Go.RowKit
/-- both checks of a paper answer alike -/
theorem paper_both (p : Pap) : ∃ E : Int, Hid (∀ w, Calls Try.prog 27 #[p.v] w fun e w' => e = .returned (.int .i64 E) ∧ Below w.heap.size w w') ∧ Hid (∀ w, Calls Try.prog 28 #[p.v] w fun e w' => e = .returned (.int .i64 E) ∧ Below w.heap.size w w') := by
  by_cases h : p.Ok
  · exact ⟨0, Lib.hid fun w => checkPaper_ok p w h, Lib.hid fun w => rck_ok p w h⟩
  · exact ⟨10, Lib.hid fun w => checkPaper_no p w h, Lib.hid fun w => rck_no p w h⟩
theorem trace_both (A : Option Addr) (n c : Nat) (P : Nat → Pt) : ∃ E I : Int, Hid (∀ w, PtsIn A n P w.heap.size w → Calls Try.prog 21 #[.slice A n c] w fun e w' => e = .returned (.tuple #[.int .i64 E, .int .i64 I]) ∧ Below w.heap.size w w') ∧ Hid (∀ w, PtsIn A n P w.heap.size w → Calls Try.prog 22 #[.slice A n c] w fun e w' => e = .returned (.tuple #[.int .i64 E, .int .i64 I]) ∧ Below w.heap.size w w') := by
  obtain ⟨j, hj⟩ := firstBad_ex P n
  exact ⟨_, _, Lib.hid fun w h => CheckTrace_any A n c P j w h hj, Lib.hid fun w h => RCheckTrace_any A n c P j w h hj⟩
structure InkBoth (A : Option Addr) (n c : Nat) (x : Cls) (E : Int) (L1 L2 : List Nat) : Prop where
  g : Hid (∀ w, ClsIn A n x w.heap.size w → Calls Try.prog 23 #[.agg #[.slice A n c]] w (IPost w L1 E))
  rg : Hid (∀ w, ClsIn A n x w.heap.size w → Calls Try.prog 24 #[.agg #[.slice A n c]] w (IPost w L1 E))
  cr : Hid (∀ w, ClsIn A n x w.heap.size w → Calls Try.prog 25 #[.agg #[.slice A n c]] w (IPost w L2 E))
  rc : Hid (∀ w, ClsIn A n x w.heap.size w → Calls Try.prog 26 #[.agg #[.slice A n c]] w (IPost w L2 E))
  k : Hid (∀ w, ClsIn A n x w.heap.size w → Calls Try.prog 29 #[.agg #[.slice A n c]] w fun e w' => e = .returned (.int .i64 E) ∧ Below w.heap.size w w')
  rk : Hid (∀ w, ClsIn A n x w.heap.size w → Calls Try.prog 30 #[.agg #[.slice A n c]] w fun e w' => e = .returned (.int .i64 E) ∧ Below w.heap.size w w')
  l1 : L1.length ≤ 200
  l2 : L2.length ≤ 200
theorem ink_both (A : Option Addr) (n c : Nat) (x : Cls) : ∃ (E : Int) (L1 L2 : List Nat), InkBoth A n c x E L1 L2 := by
  by_cases h : InkOk x n
  · exact ⟨0, _, _, Lib.hid fun w i => Gaps_yes A n c x w i h, Lib.hid fun w i => RGaps_yes A n c x w i h, Lib.hid fun w i => Crossings_yes A n c x w i h, Lib.hid fun w i => RCrossings_yes A n c x w i h, Lib.hid fun w i => CheckInked_any A n c x true w i ⟨fun _ => h, fun _ => rfl⟩, Lib.hid fun w i => RCheckInked_any A n c x true w i ⟨fun _ => h, fun _ => rfl⟩, (by have := selL_le (gapF x) n; have := h.2.1; omega), (by have := selL_le (croF x) n; have := h.2.1; omega)⟩
  · exact ⟨12, _, _, Lib.hid fun w i => Gaps_no A n c x w i h, Lib.hid fun w i => RGaps_no A n c x w i h, Lib.hid fun w i => Crossings_no A n c x w i h, Lib.hid fun w i => RCrossings_no A n c x w i h, Lib.hid fun w i => CheckInked_any A n c x false w i ⟨(fun h => by cases h), fun g => absurd g h⟩, Lib.hid fun w i => RCheckInked_any A n c x false w i ⟨(fun h => by cases h), fun g => absurd g h⟩, by simp, by simp⟩
set_option maxRecDepth 100000 in
set_option maxHeartbeats 4000000 in
theorem checks_law (p : Pap) (A : Option Addr) (n c : Nat) (Q : Nat → Pt) (D : Option Addr) (m d : Nat) (x : Cls) (w : World) (hp : PtsIn A n Q w.heap.size w) (hi : ClsIn D m x w.heap.size w) :
    Calls Try.prog 3 #[p.v, .slice A n c, .agg #[.slice D m d]] w fun e w' => e = .returned (.bool true) ∧ Below w.heap.size w w' := by
  obtain ⟨EP, KP, KR⟩ := paper_both p
  obtain ⟨ET, IT, KT, KU⟩ := trace_both A n c Q
  obtain ⟨EI, L1, L2, HI⟩ := ink_both D m d x
  have hl1 := HI.l1
  have hl2 := HI.l2
  have hpn := hp.1
  have PI := Lib.hid hp
  have XI := Lib.hid hi
  have II := Lib.hid HI
  clear hp hi HI
  go_enter Try.func3, Try.ntmps3
  go_wp2_with fail
  refine (awake_any _).mono ?_
  rintro e w1 ⟨rfl, hb1⟩
  have C1 : Below w.heap.size w w1 := (box2 w _ _).trans (hb1.mono (by simp only [World.size_alloc]; omega))
  have P1 : HasPap p w.heap.size w1 := HasPap.up (by unfold HasPap; go_simp) hb1 (by simp only [World.size_alloc]; omega)
  have X1 : w1.cell? ⟨w.heap.size + 1, 0, none⟩ = some (.slice D m d) := low_cell hb1 (by simp only [World.size_alloc]; omega) (by go_simp)
  clear hb1
  go_wp2_with fail
  refine (few_any A none n c 0 0 _ hpn (by omega)).mono ?_
  rintro e w2 ⟨⟨b, rfl⟩, hb2⟩
  have C2 : Below w.heap.size w w2 := C1.trans (hb2.mono C1.size)
  have P2 : HasPap p w.heap.size w2 := P1.up hb2 P1.block
  have X2 : w2.cell? ⟨w.heap.size + 1, 0, none⟩ = some (.slice D m d) := cell_up hb2 (World.block_lt_of_cell? _ _ X1) X1
  clear hb2 X1 P1
  cases b with
  | false =>
    go_wp2_with fail
    go_ret
    exact ⟨rfl, C2⟩
  | true =>
    go_wp2_with fail
    refine (small_any D m d x _ ((XI.out.up C2 (Nat.le_refl _)).more C2.size)).mono ?_
    rintro e w3 ⟨⟨b, rfl⟩, hb3⟩
    have C3 : Below w.heap.size w w3 := C2.trans (hb3.mono C2.size)
    have P3 : HasPap p w.heap.size w3 := P2.up hb3 P2.block
    have X3 : w3.cell? ⟨w.heap.size + 1, 0, none⟩ = some (.slice D m d) := cell_up hb3 (World.block_lt_of_cell? _ _ X2) X2
    clear hb3 X2 P2
    cases b with
    | false =>
      go_wp2_with fail
      go_ret
      exact ⟨rfl, C3⟩
    | true =>
      go_wp2_with fail
      refine (KT.out _ ((PI.out.up C3 (Nat.le_refl _)).more C3.size)).mono ?_
      rintro e w4 ⟨rfl, hb4⟩
      have C4 : Below w.heap.size w w4 := C3.trans (hb4.mono C3.size)
      have P4 : HasPap p w.heap.size w4 := P3.up hb4 P3.block
      have X4 : w4.cell? ⟨w.heap.size + 1, 0, none⟩ = some (.slice D m d) := cell_up hb4 (World.block_lt_of_cell? _ _ X3) X3
      clear hb4 X3 P3
      go_wp2_with fail
      refine (KU.out _ ((PI.out.up C4 (Nat.le_refl _)).more C4.size)).mono ?_
      rintro e w5 ⟨rfl, hb5⟩
      have C5 : Below w.heap.size w w5 := C4.trans (hb5.mono C4.size)
      have P5 : HasPap p w.heap.size w5 := P4.up hb5 P4.block
      have X5 : w5.cell? ⟨w.heap.size + 1, 0, none⟩ = some (.slice D m d) := cell_up hb5 (World.block_lt_of_cell? _ _ X4) X4
      clear hb5 X4 P4
      go_wp2_with fail
      refine (II.out.g.out _ ((XI.out.up C5 (Nat.le_refl _)).more C5.size)).mono ?_
      rintro e w6 ⟨v6, rfl, hb6, h6⟩
      have C6 : Below w.heap.size w w6 := C5.trans (hb6.mono C5.size)
      have P6 : HasPap p w.heap.size w6 := P5.up hb6 P5.block
      have X6 : w6.cell? ⟨w.heap.size + 1, 0, none⟩ = some (.slice D m d) := cell_up hb6 (World.block_lt_of_cell? _ _ X5) X5
      have O6_6 := h6
      clear h6 
      clear hb6 X5 P5
      go_wp2_with fail
      refine (II.out.rg.out _ ((XI.out.up C6 (Nat.le_refl _)).more C6.size)).mono ?_
      rintro e w7 ⟨v7, rfl, hb7, h7⟩
      have C7 : Below w.heap.size w w7 := C6.trans (hb7.mono C6.size)
      have P7 : HasPap p w.heap.size w7 := P6.up hb7 P6.block
      have X7 : w7.cell? ⟨w.heap.size + 1, 0, none⟩ = some (.slice D m d) := cell_up hb7 (World.block_lt_of_cell? _ _ X6) X6
      have O6_7 := own_keep O6_6 hb7
      have O7_7 := h7
      clear h7 O6_6
      clear hb7 X6 P6
      go_wp2_with fail
      refine (II.out.cr.out _ ((XI.out.up C7 (Nat.le_refl _)).more C7.size)).mono ?_
      rintro e w8 ⟨v8, rfl, hb8, h8⟩
      have C8 : Below w.heap.size w w8 := C7.trans (hb8.mono C7.size)
      have P8 : HasPap p w.heap.size w8 := P7.up hb8 P7.block
      have X8 : w8.cell? ⟨w.heap.size + 1, 0, none⟩ = some (.slice D m d) := cell_up hb8 (World.block_lt_of_cell? _ _ X7) X7
      have O6_8 := own_keep O6_7 hb8
      have O7_8 := own_keep O7_7 hb8
      have O8_8 := h8
      clear h8 O6_7 O7_7
      clear hb8 X7 P7
      go_wp2_with fail
      refine (II.out.rc.out _ ((XI.out.up C8 (Nat.le_refl _)).more C8.size)).mono ?_
      rintro e w9 ⟨v9, rfl, hb9, h9⟩
      have C9 : Below w.heap.size w w9 := C8.trans (hb9.mono C8.size)
      have P9 : HasPap p w.heap.size w9 := P8.up hb9 P8.block
      have X9 : w9.cell? ⟨w.heap.size + 1, 0, none⟩ = some (.slice D m d) := cell_up hb9 (World.block_lt_of_cell? _ _ X8) X8
      have O6_9 := own_keep O6_8 hb9
      have O7_9 := own_keep O7_8 hb9
      have O8_9 := own_keep O8_8 hb9
      have O9_9 := h9
      clear h9 O6_8 O7_8 O8_8
      clear hb9 X8 P8
      have HX := Lib.hid X9
      have HPP := Lib.hid P9
      have C9h := Lib.hid C9
      have K29 : Hid (∀ w', Below w9.heap.size w9 w' → Calls Try.prog 29 #[.agg #[.slice D m d]] w' fun e w'' => e = .returned (.int .i64 EI) ∧ Below w'.heap.size w' w'') := Lib.hid fun w' hb => II.out.k.out _ ((((XI.out.up C9h.out (Nat.le_refl _)).more C9h.out.size).up hb (Nat.le_refl _)).more hb.size)
      have K30 : Hid (∀ w', Below w9.heap.size w9 w' → Calls Try.prog 30 #[.agg #[.slice D m d]] w' fun e w'' => e = .returned (.int .i64 EI) ∧ Below w'.heap.size w' w'') := Lib.hid fun w' hb => II.out.rk.out _ ((((XI.out.up C9h.out (Nat.le_refl _)).more C9h.out.size).up hb (Nat.le_refl _)).more hb.size)
      have S1 : Hid (∀ w', Below w9.heap.size w9 w' → Calls Try.prog 31 #[v6, v7] w' fun e w'' => e = .returned (.bool true) ∧ Below w'.heap.size w' w'') := Lib.hid fun w' hb => same_ints hl1 (own_keep O6_9 hb) (own_keep O7_9 hb)
      have S2 : Hid (∀ w', Below w9.heap.size w9 w' → Calls Try.prog 31 #[v8, v9] w' fun e w'' => e = .returned (.bool true) ∧ Below w'.heap.size w' w'') := Lib.hid fun w' hb => same_ints hl2 (own_keep O8_9 hb) (own_keep O9_9 hb)
      clear O6_9 O7_9 O8_9 O9_9
      unfold HasPap at P9
      obtain ⟨f0, f1, f2, f3, f4, f5, f6, f7, f8, f9⟩ := P9
      have z0 : w.heap.size < w9.heap.size := World.block_lt_of_cell? _ _ f0
      have z1 : w.heap.size + 1 < w9.heap.size := World.block_lt_of_cell? _ _ X9
      go_wp2_with fail
      go_region_held3 (fun w' => w'.cell? ⟨w.heap.size, 0, none⟩ = some (.int .i64 p.pitch) ∧ w'.cell? ⟨w.heap.size, 1, none⟩ = some (.int .i64 p.height) ∧ w'.cell? ⟨w.heap.size, 2, none⟩ = some (.int .i64 p.radius) ∧ w'.cell? ⟨w.heap.size, 3, none⟩ = some (.int .i64 p.low) ∧ w'.cell? ⟨w.heap.size, 4, none⟩ = some (.int .i64 p.high) ∧ w'.cell? ⟨w.heap.size, 5, none⟩ = some (.int .i64 p.cols) ∧ w'.cell? ⟨w.heap.size, 6, none⟩ = some (.int .i64 p.al) ∧ w'.cell? ⟨w.heap.size, 7, none⟩ = some (.int .i64 p.ah) ∧ w'.cell? ⟨w.heap.size, 8, none⟩ = some (.int .i64 p.cl) ∧ w'.cell? ⟨w.heap.size, 9, none⟩ = some (.int .i64 p.ch) ∧ w'.cell? ⟨w.heap.size + 1, 0, none⟩ = some (.slice D m d) ∧ Below w9.heap.size w9 w' ∧ w9.heap.size ≤ w'.heap.size)
      (first
        | (go_split_ands; (repeat' apply And.intro); all_goals first | assumption | (go_simp; done) | exact (Below.refl _ _).drew | ((try simp only [World.size_drew, World.size_alloc]); omega))
        | (go_split_ands; (repeat' apply And.intro); all_goals first | exact cell_up hbA (by first | omega | ((try simp only [World.size_drew]); omega)) (by assumption) | exact Below.trans (by assumption) (hbA.mono (by first | omega | ((try simp only [World.size_drew, World.size_alloc, World.size_setCell]); omega))) | (have := hbA.size; first | omega | ((try simp only [World.size_drew] at this); omega)))
        | (go_split_ands; (repeat' apply And.intro); all_goals first | exact cell_up hbB (by first | omega | ((try simp only [World.size_drew]); omega)) (by assumption) | exact Below.trans (by assumption) (hbB.mono (by first | omega | ((try simp only [World.size_drew, World.size_alloc, World.size_setCell]); omega))) | (have := hbB.size; first | omega | ((try simp only [World.size_drew] at this); omega)))
        | (go_split_ands; (repeat' apply And.intro); all_goals first | exact cell_up hbC (by first | omega | ((try simp only [World.size_drew]); omega)) (by assumption) | exact Below.trans (by assumption) (hbC.mono (by first | omega | ((try simp only [World.size_drew, World.size_alloc, World.size_setCell]); omega))) | (have := hbC.size; first | omega | ((try simp only [World.size_drew] at this); omega)))
        | (go_split_ands; (repeat' apply And.intro); all_goals first | exact cell_up hbD (by first | omega | ((try simp only [World.size_drew]); omega)) (by assumption) | exact Below.trans (by assumption) (hbD.mono (by first | omega | ((try simp only [World.size_drew, World.size_alloc, World.size_setCell]); omega))) | (have := hbD.size; first | omega | ((try simp only [World.size_drew] at this); omega)))
        | (go_split_ands; (repeat' apply And.intro); all_goals first | exact cell_up hbE (by first | omega | ((try simp only [World.size_drew]); omega)) (by assumption) | exact Below.trans (by assumption) (hbE.mono (by first | omega | ((try simp only [World.size_drew, World.size_alloc, World.size_setCell]); omega))) | (have := hbE.size; first | omega | ((try simp only [World.size_drew] at this); omega)))
        | (go_split_ands; (repeat' apply And.intro); all_goals first | exact cell_up hbF (by first | omega | ((try simp only [World.size_drew]); omega)) (by assumption) | exact Below.trans (by assumption) (hbF.mono (by first | omega | ((try simp only [World.size_drew, World.size_alloc, World.size_setCell]); omega))) | (have := hbF.size; first | omega | ((try simp only [World.size_drew] at this); omega)))
        | (go_split_ands; (repeat' apply And.intro); all_goals first | assumption | (go_simp; done)))
        (first | (go_at_call 27; go_split_ands; ((with_reducible refine (KP.out _).mono ?_); rintro e wA ⟨rfl, hbA⟩)) | (go_at_call 28; go_split_ands; ((with_reducible refine (KR.out _).mono ?_); rintro e wB ⟨rfl, hbB⟩)) | (go_at_call 29; go_split_ands; ((with_reducible refine (K29.out _ (by assumption)).mono ?_); rintro e wC ⟨rfl, hbC⟩)) | (go_at_call 30; go_split_ands; ((with_reducible refine (K30.out _ (by assumption)).mono ?_); rintro e wD ⟨rfl, hbD⟩)) | (go_at_call 31; go_split_ands; ((with_reducible refine (S1.out _ (by assumption)).mono ?_); rintro e wE ⟨rfl, hbE⟩)) | (go_at_call 31; go_split_ands; ((with_reducible refine (S2.out _ (by assumption)).mono ?_); rintro e wF ⟨rfl, hbF⟩)))
      all_goals
        go_wp2_with fail
        go_ret
        refine ⟨rfl, C9h.out.trans (Below.mono ?_ C9h.out.size)⟩
        go_split_ands
        assumption
theorem checks.own : ownKnob Try.prog.godebug = none := by kernel_rfl
set_option maxRecDepth 100000 in
set_option maxHeartbeats 1000000 in
theorem checks_lifted (os : Os) (started : os.Started) (H : Type) (enc : TypeId × Value → H) :
    ReturnsInHanded {} Try.checked os 3 .any (Rows.paperChecksSpec.pre6 enc Try.prog Try.f3 Rows.paperChecksRow.domain false) (Rows.paperChecksSpec.post enc Try.prog Try.f3 false true false false) := by
  refine returnsInHanded_of_change (C := Try.checked) checks.own started (by kernel_rfl) Try.func3
    (ChangeSpec.witness6 (enc := enc) (C := Try.checked) false ⟨#[], #[.agg #[.int .i64 0, .int .i64 0, .int .i64 0, .int .i64 0, .int .i64 0, .int .i64 0, .int .i64 0, .int .i64 0, .int .i64 0, .int .i64 0], .slice none 0 0, .agg #[.slice none 0 0]], []⟩ 8 (by kernel_rfl) (by kernel_rfl) (by kernel_rfl) (by kernel_rfl)) ?_
  intro W base args ds gs before hval0 hW hcnd _
  have hval : ∀ (j : Nat) t v, Try.f3.params[j]? = some t → args[j]? = some v → Value.okWide Try.prog W .any base t v := hval0
  have hW' := hW
  obtain ⟨p, q, hA0, hV, rfl, hfz, hnd⟩ := hW
  have hA : DataW.TrodAll enc Try.prog W 0 (fun _ => true) true Try.f3.params.toList args.toList ds p := hA0
  rw [Try.params3] at hA hval
  obtain ⟨v0, v1, v2, d0, d1, d2, p0, p1, p2, rfl, rfl, rfl, h0, h1, h2⟩ := trodAll_three hA
  obtain ⟨rfl, rfl⟩ := trodVars_none hV
  have hlt := fun x hx => hW'.lt x hx
  simp only [List.append_nil, List.mem_append] at hlt
  have k0 := h0
  have k1 := h1
  have k2 := h2
  obtain ⟨a, rfl, _, _, _⟩ := open_paper (hval 0 25 v0 rfl rfl) h0
  obtain ⟨bA, bn, bc, bP, rfl, bh⟩ := open_trace (hval 1 26 v1 rfl rfl) h1
  obtain ⟨cA, cn, cc, cP, rfl, ch⟩ := open_inked (hval 2 29 v2 rfl rfl) h2
  clear hA0 hval0
  simp only [List.append_nil] at hW'
  refine (checks_law a bA bn bc bP cA cn cc cP W bh ch).mono fun e W' ⟨he, hw⟩ => ?_
  subst he
  exact ⟨_, rfl, [d0, d1, d2], [], _, [], p0 ++ (p1 ++ (p2)), [], hW', trodAll_mk1 (shut_bool Try.underlying4 true), trodAll_mk3 (Below.trod Try.laidOut (by kernel_rfl) (of_decide_eq_true (by kernel_rfl)) k0 hw (fun x hx => hlt x (by simp [hx]))) (Below.trod Try.laidOut (by kernel_rfl) (of_decide_eq_true (by kernel_rfl)) k1 hw (fun x hx => hlt x (by simp [hx]))) (Below.trod Try.laidOut (by kernel_rfl) (of_decide_eq_true (by kernel_rfl)) k2 hw (fun x hx => hlt x (by simp [hx]))), rfl, hw.frame _, fun h => by cases h⟩
theorem checks_holds : Rows.PaperChecksSaid :=
  OpenClaim.holds_of_wide 3 Try.f3 rfl rfl rfl rfl rfl rfl rfl ⟨rfl, rfl, rfl, rfl, rfl⟩ rfl rfl rfl rfl rfl (by kernel_rfl) Try.func3 (by kernel_rfl)
    (of_decide_eq_true (by kernel_rfl)) (by unfold Func.isWrapper; first | (rw [if_pos (by decide +kernel)]; kernel_rfl) | (rw [if_neg (by decide +kernel)]; exact ⟨rfl, rfl⟩))
    (fun os started H enc _ => checks_lifted os started H enc)
end Go.Proofs.Ytmeljcbefnojfaa
