/- The law PaperNarrower returns true for every paper, every point, every two spans and every two numbers, and leaves its arguments as they were; no condition. -/
import Derived.Test.YtmeljcbefnojfaaNar
import Derived.Test.YtmeljcbefnojfaaTrd
namespace Go.Proofs.Ytmeljcbefnojfaa
open Go.ChangeShapes Go.WideShapes Go.ChangeAt Go.RowKit
theorem means_calls (p : Pap) (t : Pt) (c : Int) : ∃ er l, (∀ w, Calls Try.prog 46 #[p.v, t.v, .int .i64 c] w (MPost w er l)) ∧ (er = 0 → p.Ok ∧ t.Ok ∧ (0 ≤ c ∧ c ≤ p.cols - 1) ∧ ∃ L, HtsL p t c L ∧ l = meansOf p L) := by
  by_cases h : ptE p t = 0
  · obtain ⟨h1, h2⟩ := ptE_iff.1 h
    by_cases hc : 0 ≤ c ∧ c ≤ p.cols - 1
    · obtain ⟨L, hL⟩ := hts_ex p t c h1 h2
      exact ⟨0, meansOf p L, fun w => (Means_ok p t c L w h1 h2 hc hL).mono fun e w' ⟨v, he, hb, hr⟩ => ⟨v, he, hb, row0_of hr⟩, fun _ => ⟨h1, h2, hc, L, hL, rfl⟩⟩
    · exact ⟨1, [], fun w => (Means_arg p t c w h1 h2 hc).mono fun e w' ⟨he, hb⟩ => ⟨_, he, hb, .inl ⟨rfl, rfl⟩⟩, fun e => absurd e (by decide)⟩
  · exact ⟨ptE p t, [], fun w => (Means_err p t c w h).mono fun e w' ⟨he, hb⟩ => ⟨_, he, hb, .inl ⟨rfl, rfl⟩⟩, fun e => absurd e h⟩
theorem clE_some {p : Pap} {t : Pt} (h : clE p t = 0) : ptE p t = 0 ∧ ColSome p t := by
  unfold clE at h
  by_cases h1 : ptE p t = 0
  · rw [if_pos h1] at h
    by_cases h2 : ColSome p t
    · exact ⟨h1, h2⟩
    · rw [if_neg h2] at h; exact absurd h (by decide)
  · rw [if_neg h1] at h; exact absurd h h1
theorem clE_of {p : Pap} {t : Pt} (h1 : ptE p t = 0) (h2 : ColSome p t) : clE p t = 0 ∧ clLo p t = cLo p t ∧ clHi p t = cHi p t := by
  have e0 : clE p t = 0 := by unfold clE; rw [if_pos h1, if_pos h2]
  exact ⟨e0, by unfold clLo; rw [if_pos e0], by unfold clHi; rw [if_pos e0]⟩
theorem nar_law (p : Pap) (t : Pt) (al ah cl ch k c : Int) (w : World) :
    Calls Try.prog 13 #[p.v, t.v, .agg #[.int .i64 al, .int .i64 ah], .agg #[.int .i64 cl, .int .i64 ch], .int .i64 k, .int .i64 c] w fun e w' => e = .returned (.bool true) ∧ Below w.heap.size w w' := by
  by_cases h1 : p.al ≤ al ∧ ah ≤ p.ah
  case neg => exact nar_out1 p t al ah cl ch k c w h1
  by_cases h2 : p.cl ≤ cl ∧ ch ≤ p.ch
  case neg => exact nar_out2 p t al ah cl ch k c w h1 h2
  by_cases h3 : k > t.half
  case pos => exact nar_out3 p t al ah cl ch k c w h1 h2 h3
  have h3 : k ≤ t.half := by omega
  obtain ⟨e1, l1, k1, g1⟩ := means_calls p t c
  obtain ⟨e2, l2, k2, g2⟩ := means_calls (narP p al ah cl ch) (narT t k) c
  by_cases he : e1 ≠ 0 ∨ e2 ≠ 0
  · exact nar_err p t al ah cl ch k c w e1 e2 l1 l2 h1 h2 h3 (Lib.hid k1) (Lib.hid k2) he
  obtain rfl : e1 = 0 := by omega
  obtain rfl : e2 = 0 := by omega
  obtain ⟨o1, o2, o3, L1, hL1, rfl⟩ := g1 rfl
  obtain ⟨q1, q2, q3, L2, hL2, rfl⟩ := g2 rfl
  have n := nar_of o1 o2 q1 q2 h1.1 h1.2 h2.1 h2.2 h3
  have hc := nar_means n hL1 hL2
  have HH : clE (narP p al ah cl ch) (narT t k) = 0 → clE p t = 0 ∧ clLo p t ≤ clLo (narP p al ah cl ch) (narT t k) ∧ clHi (narP p al ah cl ch) (narT t k) ≤ clHi p t := by
    intro hz
    obtain ⟨z1, z2⟩ := clE_some hz
    obtain ⟨z3, z4, z5⟩ := nar_cols n z2
    obtain ⟨y1, y2, y3⟩ := clE_of (ptE_iff.2 ⟨o1, o2⟩) z3
    obtain ⟨x1, x2, x3⟩ := clE_of z1 z2
    rw [y2, y3, x2, x3]
    exact ⟨y1, z4, z5⟩
  by_cases hl : meansOf (narP p al ah cl ch) L2 = []
  · exact nar_nil p t al ah cl ch k c w _ _ _ _ _ _ _ _ h1 h2 h3 (Lib.hid k1) (Lib.hid k2) (Lib.hid fun w => Columns_any p t w) (Lib.hid fun w => Columns_any (narP p al ah cl ch) (narT t k) w) (Lib.hid HH) hl
  · exact nar_row p t al ah cl ch k c w _ _ _ _ _ _ _ _ h1 h2 h3 (Lib.hid k1) (Lib.hid k2) (Lib.hid fun w => Columns_any p t w) (Lib.hid fun w => Columns_any (narP p al ah cl ch) (narT t k) w) (Lib.hid HH) hl hc
theorem narrower.own : ownKnob Try.prog.godebug = none := by kernel_rfl
set_option maxRecDepth 100000 in
theorem narrower_lifted (os : Os) (started : os.Started) (H : Type) (enc : TypeId × Value → H) :
    ReturnsInHanded {} Try.checked os 13 .any (Rows.paperNarrowerSpec.pre6 enc Try.prog Try.f13 Rows.paperNarrowerRow.domain false) (Rows.paperNarrowerSpec.post enc Try.prog Try.f13 false true false false) := by
  refine returnsInHanded_of_change (C := Try.checked) narrower.own started (by kernel_rfl) Try.func13
    (ChangeSpec.witness6 (enc := enc) (C := Try.checked) false ⟨#[], #[.agg #[.int .i64 0, .int .i64 0, .int .i64 0, .int .i64 0, .int .i64 0, .int .i64 0, .int .i64 0, .int .i64 0, .int .i64 0, .int .i64 0], .agg #[.int .i64 0, .int .i64 0, .int .i64 0], .agg #[.int .i64 0, .int .i64 0], .agg #[.int .i64 0, .int .i64 0], .int .i64 0, .int .i64 0], []⟩ 8 (by kernel_rfl) (by kernel_rfl) (by kernel_rfl) (by kernel_rfl)) ?_
  intro W base args ds gs before hval0 hW hcnd _
  have hval : ∀ (j : Nat) t v, Try.f13.params[j]? = some t → args[j]? = some v → Value.okWide Try.prog W .any base t v := hval0
  have hW' := hW
  obtain ⟨p, q, hA0, hV, rfl, hfz, hnd⟩ := hW
  have hA : DataW.TrodAll enc Try.prog W 0 (fun _ => true) true Try.f13.params.toList args.toList ds p := hA0
  rw [Try.params13] at hA hval
  obtain ⟨v0, v1, v2, v3, v4, v5, d0, d1, d2, d3, d4, d5, p0, p1, p2, p3, p4, p5, rfl, rfl, rfl, h0, h1, h2, h3, h4, h5⟩ := trodAll_six hA
  obtain ⟨rfl, rfl⟩ := trodVars_none hV
  obtain ⟨a, rfl, rfl, rfl, wa⟩ := open_paper (hval 0 25 v0 rfl rfl) h0
  obtain ⟨b, rfl, rfl, rfl, wb⟩ := open_point (hval 1 44 v1 rfl rfl) h1
  obtain ⟨c0, c1, rfl, rfl, rfl, wc⟩ := open_span (hval 2 23 v2 rfl rfl) h2
  obtain ⟨d0, d1, rfl, rfl, rfl, wd⟩ := open_span (hval 3 23 v3 rfl rfl) h3
  obtain ⟨f, rfl, rfl, rfl, wf⟩ := open_int Try.underlying3 (hval 4 3 v4 rfl rfl) h4
  obtain ⟨g, rfl, rfl, rfl, wg⟩ := open_int Try.underlying3 (hval 5 3 v5 rfl rfl) h5
  clear hA0 hval0
  simp only [List.append_nil] at hW'
  refine (nar_law a b c0 c1 d0 d1 f g W).mono fun e W' ⟨he, hw⟩ => ?_
  subst he
  exact ⟨_, rfl, [a.d, b.d, .agg [.lit (.int .i64 c0), .lit (.int .i64 c1)], .agg [.lit (.int .i64 d0), .lit (.int .i64 d1)], .lit (.int .i64 f), .lit (.int .i64 g)], [], _, [], [], [], hW', trodAll_mk1 (shut_bool Try.underlying4 true), trodAll_mk6 (shut_paper a wa) (shut_point b wb) (shut_span c0 c1 wc) (shut_span d0 d1 wd) (shut_int Try.underlying3 wf) (shut_int Try.underlying3 wg), rfl, hw.frame _, fun h => by cases h⟩
theorem narrower_holds : Rows.PaperNarrowerSaid :=
  OpenClaim.holds_of_wide 13 Try.f13 rfl rfl rfl rfl rfl rfl rfl ⟨rfl, rfl, rfl, rfl, rfl⟩ rfl rfl rfl rfl rfl (by kernel_rfl) Try.func13 (by kernel_rfl)
    (of_decide_eq_true (by kernel_rfl)) (by unfold Func.isWrapper; first | (rw [if_pos (by decide +kernel)]; kernel_rfl) | (rw [if_neg (by decide +kernel)]; exact ⟨rfl, rfl⟩))
    (fun os started H enc _ => narrower_lifted os started H enc)
end Go.Proofs.Ytmeljcbefnojfaa
