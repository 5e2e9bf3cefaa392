/- The law PaperHeights returns true for every paper, every height and every level, and leaves its arguments as they were; no condition. -/
import Derived.Test.YtmeljcbefnojfaaOpn
import Derived.Test.YtmeljcbefnojfaaPld
import Derived.Test.YtmeljcbefnojfaaShr
namespace Go.Proofs.Ytmeljcbefnojfaa
open Go.ChangeShapes Go.WideShapes Go.ChangeAt Go.RowKit
set_option maxRecDepth 100000 in
set_option maxHeartbeats 4000000 in
theorem heights_law (p : Pap) (y l : Int) (w : World) :
    Calls Try.prog 5 #[p.v, .int .i64 y, .int .i64 l] w fun e w' => e = .returned (.bool true) ∧ Below w.heap.size w w' := by
  go_enter Try.func5, Try.ntmps5
  go_wp2_with fail
  refine (Arc_any p y _).mono ?_
  rintro e w1 ⟨rfl, hb1⟩
  have hB1_0 : HasPap (p) (w.heap.size) w1 := HasPap.up (by unfold HasPap; go_simp) hb1 (by (try simp only [World.size_alloc]); omega)
  have C1 : Below w.heap.size w w1 := by
    refine Below.trans ?_ (hb1.mono ?_)
    · repeat' (first | with_reducible exact Below.refl _ _ | with_reducible exact Below.refl _ _ | with_reducible refine set1 ?_ (by omega) _ _ | with_reducible refine Below.alloc ?_ (by (try simp only [World.size_alloc, World.size_setCell]); omega) _ | with_reducible refine below_drewN ?_ _)
    · (try simp only [World.size_alloc]); omega
  clear hb1
  obtain ⟨f1_0_0, f1_0_1, f1_0_2, f1_0_3, f1_0_4, f1_0_5, f1_0_6, f1_0_7, f1_0_8, f1_0_9⟩ := hB1_0
  have z1_0 : w.heap.size < w1.heap.size := World.block_lt_of_cell? _ _ f1_0_0
  have zz1 := C1.size
  go_wp2_with fail
  refine (RArc_any p y _).mono ?_
  rintro e w2 ⟨rfl, hb2⟩
  have hB2_0 : HasPap (p) (w.heap.size) w2 := HasPap.up (by unfold HasPap; go_simp) hb2 (by (try simp only [World.size_alloc, World.size_setCell]); omega)
  have C2 : Below w.heap.size w w2 := by
    refine Below.trans ?_ (hb2.mono ?_)
    · repeat' (first | with_reducible exact Below.refl _ _ | with_reducible exact C1 | with_reducible refine set1 ?_ (by omega) _ _ | with_reducible refine Below.alloc ?_ (by (try simp only [World.size_alloc, World.size_setCell]); omega) _ | with_reducible refine below_drewN ?_ _)
    · (try simp only [World.size_alloc, World.size_setCell]); omega
  clear f1_0_0 f1_0_1 f1_0_2 f1_0_3 f1_0_4 f1_0_5 f1_0_6 f1_0_7 f1_0_8 f1_0_9 hb2
  obtain ⟨f2_0_0, f2_0_1, f2_0_2, f2_0_3, f2_0_4, f2_0_5, f2_0_6, f2_0_7, f2_0_8, f2_0_9⟩ := hB2_0
  have z2_0 : w.heap.size < w2.heap.size := World.block_lt_of_cell? _ _ f2_0_0
  have zz2 := C2.size
  go_wp2_with fail
  refine (Level_any p y _).mono ?_
  rintro e w3 ⟨rfl, hb3⟩
  have hB3_0 : HasPap (p) (w.heap.size) w3 := HasPap.up (by unfold HasPap; go_simp) hb3 (by (try simp only [World.size_alloc, World.size_setCell]); omega)
  have C3 : Below w.heap.size w w3 := by
    refine Below.trans ?_ (hb3.mono ?_)
    · repeat' (first | with_reducible exact Below.refl _ _ | with_reducible exact C2 | with_reducible refine set1 ?_ (by omega) _ _ | with_reducible refine Below.alloc ?_ (by (try simp only [World.size_alloc, World.size_setCell]); omega) _ | with_reducible refine below_drewN ?_ _)
    · (try simp only [World.size_alloc, World.size_setCell]); omega
  clear f2_0_0 f2_0_1 f2_0_2 f2_0_3 f2_0_4 f2_0_5 f2_0_6 f2_0_7 f2_0_8 f2_0_9 hb3
  obtain ⟨f3_0_0, f3_0_1, f3_0_2, f3_0_3, f3_0_4, f3_0_5, f3_0_6, f3_0_7, f3_0_8, f3_0_9⟩ := hB3_0
  have z3_0 : w.heap.size < w3.heap.size := World.block_lt_of_cell? _ _ f3_0_0
  have zz3 := C3.size
  go_wp2_with fail
  refine (RLevel_any p y _).mono ?_
  rintro e w4 ⟨rfl, hb4⟩
  have hB4_0 : HasPap (p) (w.heap.size) w4 := HasPap.up (by unfold HasPap; go_simp) hb4 (by (try simp only [World.size_alloc, World.size_setCell]); omega)
  have C4 : Below w.heap.size w w4 := by
    refine Below.trans ?_ (hb4.mono ?_)
    · repeat' (first | with_reducible exact Below.refl _ _ | with_reducible exact C3 | with_reducible refine set1 ?_ (by omega) _ _ | with_reducible refine Below.alloc ?_ (by (try simp only [World.size_alloc, World.size_setCell]); omega) _ | with_reducible refine below_drewN ?_ _)
    · (try simp only [World.size_alloc, World.size_setCell]); omega
  clear f3_0_0 f3_0_1 f3_0_2 f3_0_3 f3_0_4 f3_0_5 f3_0_6 f3_0_7 f3_0_8 f3_0_9 hb4
  obtain ⟨f4_0_0, f4_0_1, f4_0_2, f4_0_3, f4_0_4, f4_0_5, f4_0_6, f4_0_7, f4_0_8, f4_0_9⟩ := hB4_0
  have z4_0 : w.heap.size < w4.heap.size := World.block_lt_of_cell? _ _ f4_0_0
  have zz4 := C4.size
  go_wp2_with fail
  refine (Heights_any p l _).mono ?_
  rintro e w5 ⟨rfl, hb5⟩
  have hB5_0 : HasPap (p) (w.heap.size) w5 := HasPap.up (by unfold HasPap; go_simp) hb5 (by (try simp only [World.size_alloc, World.size_setCell]); omega)
  have C5 : Below w.heap.size w w5 := by
    refine Below.trans ?_ (hb5.mono ?_)
    · repeat' (first | with_reducible exact Below.refl _ _ | with_reducible exact C4 | with_reducible refine set1 ?_ (by omega) _ _ | with_reducible refine Below.alloc ?_ (by (try simp only [World.size_alloc, World.size_setCell]); omega) _ | with_reducible refine below_drewN ?_ _)
    · (try simp only [World.size_alloc, World.size_setCell]); omega
  clear f4_0_0 f4_0_1 f4_0_2 f4_0_3 f4_0_4 f4_0_5 f4_0_6 f4_0_7 f4_0_8 f4_0_9 hb5
  obtain ⟨f5_0_0, f5_0_1, f5_0_2, f5_0_3, f5_0_4, f5_0_5, f5_0_6, f5_0_7, f5_0_8, f5_0_9⟩ := hB5_0
  have z5_0 : w.heap.size < w5.heap.size := World.block_lt_of_cell? _ _ f5_0_0
  have zz5 := C5.size
  go_wp2_with fail
  refine (RHeights_any p l _).mono ?_
  rintro e w6 ⟨rfl, hb6⟩
  have hB6_0 : HasPap (p) (w.heap.size) w6 := HasPap.up (by unfold HasPap; go_simp) hb6 (by (try simp only [World.size_alloc]); omega)
  have hB6_1 : HasSp (hsLo p l) (hsHi p l) (w5.heap.size) w6 := HasSp.up (by unfold HasSp; go_simp) hb6 (by (try simp only [World.size_alloc]); omega)
  have C6 : Below w.heap.size w w6 := by
    refine Below.trans ?_ (hb6.mono ?_)
    · repeat' (first | with_reducible exact Below.refl _ _ | with_reducible exact C5 | with_reducible refine set1 ?_ (by omega) _ _ | with_reducible refine Below.alloc ?_ (by (try simp only [World.size_alloc, World.size_setCell]); omega) _ | with_reducible refine below_drewN ?_ _)
    · (try simp only [World.size_alloc]); omega
  clear f5_0_0 f5_0_1 f5_0_2 f5_0_3 f5_0_4 f5_0_5 f5_0_6 f5_0_7 f5_0_8 f5_0_9 hb6
  obtain ⟨f6_0_0, f6_0_1, f6_0_2, f6_0_3, f6_0_4, f6_0_5, f6_0_6, f6_0_7, f6_0_8, f6_0_9⟩ := hB6_0
  have z6_0 : w.heap.size < w6.heap.size := World.block_lt_of_cell? _ _ f6_0_0
  obtain ⟨f6_1_0, f6_1_1⟩ := hB6_1
  have z6_1 : w5.heap.size < w6.heap.size := World.block_lt_of_cell? _ _ f6_1_0
  have zz6 := C6.size
  go_wp2_with fail
  refine (awake_any _).mono ?_
  rintro e w7 ⟨rfl, hb7⟩
  have hB7_0 : HasPap (p) (w.heap.size) w7 := HasPap.up (by unfold HasPap; go_simp) hb7 (by (try simp only [World.size_alloc]); omega)
  have hB7_1 : HasSp (hsLo p l) (hsHi p l) (w5.heap.size) w7 := HasSp.up (by unfold HasSp; go_simp) hb7 (by (try simp only [World.size_alloc]); omega)
  have hB7_2 : HasSp (hsLo p l) (hsHi p l) (w6.heap.size) w7 := HasSp.up (by unfold HasSp; go_simp) hb7 (by (try simp only [World.size_alloc]); omega)
  have C7 : Below w.heap.size w w7 := by
    refine Below.trans ?_ (hb7.mono ?_)
    · repeat' (first | with_reducible exact Below.refl _ _ | with_reducible exact C6 | with_reducible refine set1 ?_ (by omega) _ _ | with_reducible refine Below.alloc ?_ (by (try simp only [World.size_alloc, World.size_setCell]); omega) _ | with_reducible refine below_drewN ?_ _)
    · (try simp only [World.size_alloc]); omega
  clear f6_0_0 f6_0_1 f6_0_2 f6_0_3 f6_0_4 f6_0_5 f6_0_6 f6_0_7 f6_0_8 f6_0_9 f6_1_0 f6_1_1 hb7
  obtain ⟨f7_0_0, f7_0_1, f7_0_2, f7_0_3, f7_0_4, f7_0_5, f7_0_6, f7_0_7, f7_0_8, f7_0_9⟩ := hB7_0
  have z7_0 : w.heap.size < w7.heap.size := World.block_lt_of_cell? _ _ f7_0_0
  obtain ⟨f7_1_0, f7_1_1⟩ := hB7_1
  have z7_1 : w5.heap.size < w7.heap.size := World.block_lt_of_cell? _ _ f7_1_0
  obtain ⟨f7_2_0, f7_2_1⟩ := hB7_2
  have z7_2 : w6.heap.size < w7.heap.size := World.block_lt_of_cell? _ _ f7_2_0
  have zz7 := C7.size
  go_wp2_with fail
  go_ret
  exact ⟨rfl, C7⟩
theorem heights.own : ownKnob Try.prog.godebug = none := by kernel_rfl
set_option maxRecDepth 100000 in
theorem heights_lifted (os : Os) (started : os.Started) (H : Type) (enc : TypeId × Value → H) :
    ReturnsInHanded {} Try.checked os 5 .any (Rows.paperHeightsSpec.pre6 enc Try.prog Try.f5 Rows.paperHeightsRow.domain false) (Rows.paperHeightsSpec.post enc Try.prog Try.f5 false true false false) := by
  refine returnsInHanded_of_change (C := Try.checked) heights.own started (by kernel_rfl) Try.func5
    (ChangeSpec.witness6 (enc := enc) (C := Try.checked) false ⟨#[], #[.agg #[.int .i64 0, .int .i64 0, .int .i64 0, .int .i64 0, .int .i64 0, .int .i64 0, .int .i64 0, .int .i64 0, .int .i64 0, .int .i64 0], .int .i64 0, .int .i64 0], []⟩ 8 (by kernel_rfl) (by kernel_rfl) (by kernel_rfl) (by kernel_rfl)) ?_
  intro W base args ds gs before hval0 hW hcnd _
  have hval : ∀ (j : Nat) t v, Try.f5.params[j]? = some t → args[j]? = some v → Value.okWide Try.prog W .any base t v := hval0
  have hW' := hW
  obtain ⟨p, q, hA0, hV, rfl, hfz, hnd⟩ := hW
  have hA : DataW.TrodAll enc Try.prog W 0 (fun _ => true) true Try.f5.params.toList args.toList ds p := hA0
  rw [Try.params5] at hA hval
  obtain ⟨v0, v1, v2, d0, d1, d2, p0, p1, p2, rfl, rfl, rfl, h0, h1, h2⟩ := trodAll_three hA
  obtain ⟨rfl, rfl⟩ := trodVars_none hV
  obtain ⟨a, rfl, rfl, rfl, wa⟩ := open_paper (hval 0 25 v0 rfl rfl) h0
  obtain ⟨b, rfl, rfl, rfl, wb⟩ := open_int Try.underlying3 (hval 1 3 v1 rfl rfl) h1
  obtain ⟨c, rfl, rfl, rfl, wc⟩ := open_int Try.underlying3 (hval 2 3 v2 rfl rfl) h2
  clear hA0 hval0
  simp only [List.append_nil] at hW'
  refine (heights_law a b c W).mono fun e W' ⟨he, hw⟩ => ?_
  subst he
  exact ⟨_, rfl, [a.d, .lit (.int .i64 b), .lit (.int .i64 c)], [], _, [], [], [], hW', trodAll_mk1 (shut_bool Try.underlying4 true), trodAll_mk3 (shut_paper a wa) (shut_int Try.underlying3 wb) (shut_int Try.underlying3 wc), rfl, hw.frame _, fun h => by cases h⟩
theorem heights_holds : Rows.PaperHeightsSaid :=
  OpenClaim.holds_of_wide 5 Try.f5 rfl rfl rfl rfl rfl rfl rfl ⟨rfl, rfl, rfl, rfl, rfl⟩ rfl rfl rfl rfl rfl (by kernel_rfl) Try.func5 (by kernel_rfl)
    (of_decide_eq_true (by kernel_rfl)) (by unfold Func.isWrapper; first | (rw [if_pos (by decide +kernel)]; kernel_rfl) | (rw [if_neg (by decide +kernel)]; exact ⟨rfl, rfl⟩))
    (fun os started H enc _ => heights_lifted os started H enc)
end Go.Proofs.Ytmeljcbefnojfaa
