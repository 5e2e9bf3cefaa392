/- The law PaperExact returns true for every paper, every point and every three numbers, and leaves its arguments as they were; no condition. -/
import Derived.Test.YtmeljcbefnojfaaExr
import Derived.Test.YtmeljcbefnojfaaExn
import Derived.Test.YtmeljcbefnojfaaExe
import Derived.Test.YtmeljcbefnojfaaPfN
import Derived.Test.YtmeljcbefnojfaaOpp
namespace Go.Proofs.Ytmeljcbefnojfaa
open Go.ChangeShapes Go.WideShapes Go.ChangeAt Go.RowKit
theorem ex_law (p : Pap) (t : Pt) (x y c : Int) (w : World) :
    Calls Try.prog 11 #[p.v, t.v, .int .i64 x, .int .i64 y, .int .i64 c] w fun e w' => e = .returned (.bool true) ∧ Below w.heap.size w w' := by
  by_cases h : ptE p t = 0
  case neg =>
    obtain ⟨er, l, k1, -⟩ := means_calls p t c
    exact ex_err p t x y c _ _ _ _ _ _ er l w (Lib.hid fun w => PAlong_any p t w) (Lib.hid fun w => PAcross_any p t w) (Lib.hid k1) (.inl h)
  obtain ⟨h1, h2⟩ := ptE_iff.1 h
  by_cases hc : 0 ≤ c ∧ c ≤ p.cols - 1
  case neg =>
    exact ex_err p t x y c _ _ _ _ _ _ 1 [] w (Lib.hid fun w => PAlong_ok p t w h1 h2) (Lib.hid fun w => PAcross_ok p t w h1 h2) (Lib.hid fun w => (Means_arg p t c w h1 h2 hc).mono fun e w' ⟨he, hb⟩ => ⟨_, he, hb, .inl ⟨rfl, rfl⟩⟩) (.inr (.inr (by decide)))
  have hlo : 0 ≤ hLo p t ∧ hLo p t ≤ 450000 := acrossLo_bd h1 h2
  have hhi : hHi p t ≤ p.height := by unfold hHi; omega
  obtain ⟨L, hL⟩ := hts_ex p t c h1 h2
  have ex : ∃ K1 K2 K3 K4, Ends p t c K1 K2 K3 K4 ∧ L = two K1 (K2 - 1) K3 (K4 - 1) := by
    rcases hL with ⟨hh, rfl⟩ | ⟨hh, K1, K2, K3, K4, hE, rfl⟩
    · refine ⟨hLo p t, hLo p t, max (hLo p t) (midOf p + 1), max (hLo p t) (midOf p + 1), ⟨.inl ⟨by omega, rfl, rfl⟩, .inl ⟨by omega, rfl, rfl⟩⟩, ?_⟩
      unfold two
      rw [if_neg (by omega), if_neg (by omega)]
      rfl
    · exact ⟨K1, K2, K3, K4, hE, rfl⟩
  obtain ⟨K1, K2, K3, K4, hE, rfl⟩ := ex
  have hME := means_ends h1 hE
  have hMH := fun y => means_has (y := y) h1 hE
  have hMS := means_some h1 hE
  have hML := means_le h1 hE
  have hci := cols_iff h1 h2 hc
  have k3 : ∀ w, Calls Try.prog 46 #[p.v, t.v, .int .i64 c] w (MPost w 0 (meansOf p (two K1 (K2 - 1) K3 (K4 - 1)))) := fun w => (Means_ok p t c _ w h1 h2 hc hL).mono fun e w' ⟨v, he, hb, hr⟩ => ⟨v, he, hb, row0_of hr⟩
  generalize meansOf p (two K1 (K2 - 1) K3 (K4 - 1)) = l at *
  -- the columns
  have hcl : (clE p t = 0 ∧ clLo p t ≤ c ∧ c ≤ clHi p t) ↔ ∃ y, InS p t c y := by
    rw [hci]
    constructor
    · rintro ⟨z1, z2, z3⟩
      have z4 := (clE_some z1).2
      obtain ⟨_, z5, z6⟩ := clE_of h z4
      exact ⟨z4, by omega, by omega⟩
    · rintro ⟨z1, z2, z3⟩
      obtain ⟨z4, z5, z6⟩ := clE_of h z1
      exact ⟨z4, by omega, by omega⟩
  have NH : htE p y = 0 → htE p y = 0 → alongLo p t ≤ x → x ≤ alongHi p t → acrossLo p t ≤ y → y ≤ acrossHi p t → (x - arcV p y) / p.pitch = c → ∃ s ∈ l, s.1 ≤ levV p y ∧ levV p y ≤ s.2 := by
    intro g0 _ g2 g3 g4 g5 g6
    obtain ⟨_, y1, y2⟩ := htE_iff.1 g0
    rw [arcV_ok h1 ⟨y1, y2⟩] at g6
    rw [levV_ok h1 ⟨y1, y2⟩]
    refine hMH y ⟨⟨g4, ?_⟩, place_col h1 ⟨g2, g3⟩ g6⟩
    unfold hHi
    omega
  have HX : htE p y = 0 → alongLo p t ≤ x → x ≤ alongHi p t → -100000000000 ≤ x - arcV p y ∧ x - arcV p y ≤ 100000000000 := by
    intro g0 g2 g3
    obtain ⟨_, y1, y2⟩ := htE_iff.1 g0
    rw [arcV_ok h1 ⟨y1, y2⟩]
    have b1 := arcOf_bd h1 ⟨y1, y2⟩
    have b2 := arcOf_le h1 ⟨y1, y2⟩
    have b3 := alongLo_bd h1 h2
    have b4 := alongHi_bd h1 h2
    have b5 := h1.height
    omega
  have hlw := h1.low
  by_cases hl : l = []
  · refine ex_nil p t x y c _ _ _ _ (arcV p y) (levV p y) (htE p y) (htE p y) (clLo p t) (clHi p t) (clE p t) l w (Lib.hid fun w => PAlong_ok p t w h1 h2) (Lib.hid fun w => PAcross_ok p t w h1 h2) (Lib.hid k3) (Lib.hid fun w => Arc_any p y w) (Lib.hid fun w => Level_any p y w) (Lib.hid fun w => Columns_any p t w) (Lib.hid NH) (Lib.hid HX) h1.pitch (by omega) (by omega) h1.height hl ?_
    rw [hcl, ← hMS, hl]
    simp
  · refine ex_row p t x y c _ _ _ _ (arcV p y) (levV p y) (htE p y) (htE p y) (clLo p t) (clHi p t) (clE p t) l w (Lib.hid fun w => PAlong_ok p t w h1 h2) (Lib.hid fun w => PAcross_ok p t w h1 h2) (Lib.hid k3) (Lib.hid fun w => Arc_any p y w) (Lib.hid fun w => Level_any p y w) (Lib.hid fun w => Columns_any p t w) (Lib.hid NH) (Lib.hid HX) h1.pitch (by omega) (by omega) h1.height hl hML (hcl.2 (hMS.1 (List.length_pos_iff.2 hl))) ?_ (Lib.hid ?_)
    · intro s hs
      obtain ⟨⟨y1, i1, q1⟩, ⟨y2, i2, q2⟩, _⟩ := hME s hs
      have r1 := wit_range h1 h2 ⟨y1, i1, q1⟩
      have r2 := wit_range h1 h2 ⟨y2, i2, q2⟩
      exact ⟨by omega, by omega, by omega, by omega⟩
    · intro s hs w
      obtain ⟨a1, a2, a3, a4⟩ := hME s hs
      exact ⟨witness_any p t s.1 c true w h1 h2 hc ⟨fun _ => a1, fun _ => rfl⟩, witness_any p t s.2 c true w h1 h2 hc ⟨fun _ => a2, fun _ => rfl⟩,
        witness_any p t (s.1 - 1) c false w h1 h2 hc ⟨(fun h => by cases h), fun ⟨y, i, q⟩ => absurd q (a3 y i)⟩, witness_any p t (s.2 + 1) c false w h1 h2 hc ⟨(fun h => by cases h), fun ⟨y, i, q⟩ => absurd q (a4 y i)⟩⟩
theorem exact.own : ownKnob Try.prog.godebug = none := by kernel_rfl
set_option maxRecDepth 100000 in
theorem exact_lifted (os : Os) (started : os.Started) (H : Type) (enc : TypeId × Value → H) :
    ReturnsInHanded {} Try.checked os 11 .any (Rows.paperExactSpec.pre6 enc Try.prog Try.f11 Rows.paperExactRow.domain false) (Rows.paperExactSpec.post enc Try.prog Try.f11 false true false false) := by
  refine returnsInHanded_of_change (C := Try.checked) exact.own started (by kernel_rfl) Try.func11
    (ChangeSpec.witness6 (enc := enc) (C := Try.checked) false ⟨#[], #[.agg #[.int .i64 0, .int .i64 0, .int .i64 0, .int .i64 0, .int .i64 0, .int .i64 0, .int .i64 0, .int .i64 0, .int .i64 0, .int .i64 0], .agg #[.int .i64 0, .int .i64 0, .int .i64 0], .int .i64 0, .int .i64 0, .int .i64 0], []⟩ 8 (by kernel_rfl) (by kernel_rfl) (by kernel_rfl) (by kernel_rfl)) ?_
  intro W base args ds gs before hval0 hW hcnd _
  have hval : ∀ (j : Nat) t v, Try.f11.params[j]? = some t → args[j]? = some v → Value.okWide Try.prog W .any base t v := hval0
  have hW' := hW
  obtain ⟨p, q, hA0, hV, rfl, hfz, hnd⟩ := hW
  have hA : DataW.TrodAll enc Try.prog W 0 (fun _ => true) true Try.f11.params.toList args.toList ds p := hA0
  rw [Try.params11] at hA hval
  obtain ⟨v0, v1, v2, v3, v4, d0, d1, d2, d3, d4, p0, p1, p2, p3, p4, rfl, rfl, rfl, h0, h1, h2, h3, h4⟩ := trodAll_five hA
  obtain ⟨rfl, rfl⟩ := trodVars_none hV
  obtain ⟨a, rfl, rfl, rfl, wa⟩ := open_paper (hval 0 25 v0 rfl rfl) h0
  obtain ⟨b, rfl, rfl, rfl, wb⟩ := open_point (hval 1 44 v1 rfl rfl) h1
  obtain ⟨c, rfl, rfl, rfl, wc⟩ := open_int Try.underlying3 (hval 2 3 v2 rfl rfl) h2
  obtain ⟨d, rfl, rfl, rfl, wd⟩ := open_int Try.underlying3 (hval 3 3 v3 rfl rfl) h3
  obtain ⟨f, rfl, rfl, rfl, wf⟩ := open_int Try.underlying3 (hval 4 3 v4 rfl rfl) h4
  clear hA0 hval0
  simp only [List.append_nil] at hW'
  refine (ex_law a b c d f W).mono fun e W' ⟨he, hw⟩ => ?_
  subst he
  exact ⟨_, rfl, [a.d, b.d, .lit (.int .i64 c), .lit (.int .i64 d), .lit (.int .i64 f)], [], _, [], [], [], hW', trodAll_mk1 (shut_bool Try.underlying4 true), trodAll_mk5 (shut_paper a wa) (shut_point b wb) (shut_int Try.underlying3 wc) (shut_int Try.underlying3 wd) (shut_int Try.underlying3 wf), rfl, hw.frame _, fun h => by cases h⟩
theorem exact_holds : Rows.PaperExactSaid :=
  OpenClaim.holds_of_wide 11 Try.f11 rfl rfl rfl rfl rfl rfl rfl ⟨rfl, rfl, rfl, rfl, rfl⟩ rfl rfl rfl rfl rfl (by kernel_rfl) Try.func11 (by kernel_rfl)
    (of_decide_eq_true (by kernel_rfl)) (by unfold Func.isWrapper; first | (rw [if_pos (by decide +kernel)]; kernel_rfl) | (rw [if_neg (by decide +kernel)]; exact ⟨rfl, rfl⟩))
    (fun os started H enc _ => exact_lifted os started H enc)
end Go.Proofs.Ytmeljcbefnojfaa
