/- The law PaperLevels returns true for every paper, every height and every level, and leaves its arguments as they were; no condition. -/
import Derived.Test.YtmeljcbefnojfaaLvE
import Derived.Test.YtmeljcbefnojfaaLvL
import Derived.Test.YtmeljcbefnojfaaLvQ
namespace Go.Proofs.Ytmeljcbefnojfaa
open Go.ChangeShapes Go.WideShapes Go.ChangeAt Go.RowKit
theorem levels_law (p : Pap) (y l : Int) (w : World) :
    Calls Try.prog 9 #[p.v, .int .i64 y, .int .i64 l] w fun e w' => e = .returned (.bool true) ∧ Below w.heap.size w w' := by
  by_cases h1 : htE p y = 0
  · obtain ⟨h, hy⟩ := htE_iff.1 h1
    by_cases h2 : lvE p l = 0
    · obtain ⟨_, hl⟩ := lvE_iff.1 h2
      by_cases ey : y = p.height
      · rw [ey]
        by_cases e1 : l = p.high
        · rw [e1]; exact lv_eq_top p w h
        · by_cases e2 : l = p.low
          · rw [e2]; exact lv_eq_low p w h
          · exact lv_eq_mid p l w h (by omega)
      · by_cases e1 : l = p.high
        · rw [e1]; exact lv_lt_top p y w h (by omega)
        · by_cases e2 : l = p.low
          · rw [e2]; exact lv_lt_low p y w h (by omega)
          · exact lv_lt_mid p y l w h (by omega) (by omega)
    · by_cases ey : y = p.height
      · rw [ey]; exact lv_eq_err p l w h h2
      · exact lv_lt_err p y l w h (by omega) h2
  · by_cases h2 : lvE p l = 0
    · obtain ⟨h, hl⟩ := lvE_iff.1 h2
      by_cases e1 : l = p.high
      · rw [e1]; exact lv_err_top p y w h h1
      · by_cases e2 : l = p.low
        · rw [e2]; exact lv_err_low p y w h h1
        · exact lv_err_mid p y l w h h1 (by omega)
    · exact lv_err_err p y l w h1 h2
theorem L.own : ownKnob Try.prog.godebug = none := by kernel_rfl
set_option maxRecDepth 100000 in
theorem levels_lifted (os : Os) (started : os.Started) (H : Type) (enc : TypeId × Value → H) :
    ReturnsInHanded {} Try.checked os 9 .any (Rows.paperLevelsSpec.pre6 enc Try.prog Try.f9 Rows.paperLevelsRow.domain false) (Rows.paperLevelsSpec.post enc Try.prog Try.f9 false true false false) := by
  refine returnsInHanded_of_change (C := Try.checked) L.own started (by kernel_rfl) Try.func9
    (ChangeSpec.witness6 (enc := enc) (C := Try.checked) false ⟨#[], #[.agg #[.int .i64 0, .int .i64 0, .int .i64 0, .int .i64 0, .int .i64 0, .int .i64 0, .int .i64 0, .int .i64 0, .int .i64 0, .int .i64 0], .int .i64 0, .int .i64 0], []⟩ 8 (by kernel_rfl) (by kernel_rfl) (by kernel_rfl) (by kernel_rfl)) ?_
  intro W base args ds gs before hval0 hW hcnd _
  have hval : ∀ (j : Nat) t v, Try.f9.params[j]? = some t → args[j]? = some v → Value.okWide Try.prog W .any base t v := hval0
  have hW' := hW
  obtain ⟨p, q, hA0, hV, rfl, hfz, hnd⟩ := hW
  have hA : DataW.TrodAll enc Try.prog W 0 (fun _ => true) true Try.f9.params.toList args.toList ds p := hA0
  rw [Try.params9] at hA hval
  obtain ⟨v0, v1, v2, d0, d1, d2, p0, p1, p2, rfl, rfl, rfl, h0, h1, h2⟩ := trodAll_three hA
  obtain ⟨rfl, rfl⟩ := trodVars_none hV
  obtain ⟨a, rfl, rfl, rfl, wa⟩ := open_paper (hval 0 25 v0 rfl rfl) h0
  obtain ⟨b, rfl, rfl, rfl, wb⟩ := open_int Try.underlying3 (hval 1 3 v1 rfl rfl) h1
  obtain ⟨c, rfl, rfl, rfl, wc⟩ := open_int Try.underlying3 (hval 2 3 v2 rfl rfl) h2
  clear hA0 hval0
  simp only [List.append_nil] at hW'
  refine (levels_law a b c W).mono fun e W' ⟨he, hw⟩ => ?_
  subst he
  exact ⟨_, rfl, [a.d, .lit (.int .i64 b), .lit (.int .i64 c)], [], _, [], [], [], hW', trodAll_mk1 (shut_bool Try.underlying4 true), trodAll_mk3 (shut_paper a wa) (shut_int Try.underlying3 wb) (shut_int Try.underlying3 wc), rfl, hw.frame _, fun h => by cases h⟩
theorem levels_holds : Rows.PaperLevelsSaid :=
  OpenClaim.holds_of_wide 9 Try.f9 rfl rfl rfl rfl rfl rfl rfl ⟨rfl, rfl, rfl, rfl, rfl⟩ rfl rfl rfl rfl rfl (by kernel_rfl) Try.func9 (by kernel_rfl)
    (of_decide_eq_true (by kernel_rfl)) (by unfold Func.isWrapper; first | (rw [if_pos (by decide +kernel)]; kernel_rfl) | (rw [if_neg (by decide +kernel)]; exact ⟨rfl, rfl⟩))
    (fun os started H enc _ => levels_lifted os started H enc)
end Go.Proofs.Ytmeljcbefnojfaa
