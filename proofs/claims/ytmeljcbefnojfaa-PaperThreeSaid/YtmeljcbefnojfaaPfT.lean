/- The law PaperThree returns true for every three inked sheets, and leaves its arguments as they were; no condition. -/
import Derived.Test.YtmeljcbefnojfaaTha
import Derived.Test.YtmeljcbefnojfaaThb
import Derived.Test.YtmeljcbefnojfaaThc
import Derived.Test.YtmeljcbefnojfaaThd
import Derived.Test.YtmeljcbefnojfaaThe
namespace Go.Proofs.Ytmeljcbefnojfaa
open Go.ChangeShapes Go.WideShapes Go.ChangeAt Go.RowKit
theorem three_law (A : Option Addr) (n c : Nat) (M : Nat → List (Int × Int)) (B : Option Addr) (m d : Nat) (N : Nat → List (Int × Int)) (C : Option Addr) (l f : Nat) (P : Nat → List (Int × Int)) (w : World) (ha0 : SheetC A n M w) (hb0 : SheetC B m N w) (hc0 : SheetC C l P w) :
    Calls Try.prog 16 #[.agg #[.slice A n c], .agg #[.slice B m d], .agg #[.slice C l f]] w fun e w' => e = .returned (.bool true) ∧ Below w.heap.size w w' := by
  have ha := ha0.sheet
  have hb := hb0.sheet
  have hc := hc0.sheet
  obtain ⟨E1, h1⟩ := bthE_ex n m M N
  obtain ⟨E2, h2⟩ := eitE_ex n m M N
  obtain ⟨E3, h3⟩ := alE_ex l n P M
  obtain ⟨E4, h4⟩ := alE_ex l m P N
  obtain ⟨G1, hG1⟩ := bool_ex (E3 = 0 ∧ ∀ i, i < l → Win (P i) (M i))
  obtain ⟨G2, hG2⟩ := bool_ex (E4 = 0 ∧ ∀ i, i < l → Win (P i) (N i))
  obtain ⟨E5, E6, E7, E8, E9, E10, G3, G4, LY, LXP, LMY, LV, LUP, LMV, nx, nu, hT⟩ : ∃ (E5 E6 E7 E8 E9 E10 : Int) (G3 G4 : Bool) (LY LXP LMY LV LUP LMV : Nat → List (Int × Int)) (nx nu : Nat), (E3 = 0 → E4 = 0 → Three A B C n m l c d f w E1 E2 G1 G2 (fun c => bc (M c) (N c)) (fun c => ec (M c) (N c)) E5 E6 E7 E8 E9 E10 G3 G4 LY LXP LMY LV LUP LMV nx nu) := by
    by_cases h : E3 = 0 ∧ E4 = 0
    · obtain ⟨rfl, rfl⟩ := h
      obtain ⟨g3, g1, e1⟩ := alE_zero h3
      obtain ⟨_, g2, e2⟩ := alE_zero h4
      subst e1
      subst e2
      obtain ⟨E5, E6, E7, E8, E9, E10, G3, G4, LY, LXP, LMY, LV, LUP, LMV, nx, nu, hT⟩ := three_ex A B C l c d f M N P w E1 E2 G1 G2 ha hb hc g1 g2 g3 h1 h2 (hG1.trans ⟨fun h => h.2, fun h => ⟨rfl, h⟩⟩) (hG2.trans ⟨fun h => h.2, fun h => ⟨rfl, h⟩⟩)
      exact ⟨E5, E6, E7, E8, E9, E10, G3, G4, LY, LXP, LMY, LV, LUP, LMV, nx, nu, fun _ _ => hT⟩
    · exact ⟨0, 0, 0, 0, 0, 0, false, false, fun _ => [], fun _ => [], fun _ => [], fun _ => [], fun _ => [], fun _ => [], 0, 0, fun a b => absurd ⟨a, b⟩ h⟩
  have q1 := Lib.hid fun (W : World) (hW : Below w.heap.size w W) => small_sh A n c M W (ha.up hW)
  have q2 := Lib.hid fun (W : World) (hW : Below w.heap.size w W) => small_sh B m d N W (hb.up hW)
  have q3 := Lib.hid fun (W : World) (hW : Below w.heap.size w W) => small_sh C l f P W (hc.up hW)
  have q4 := Lib.hid fun (W : World) (hW : Below w.heap.size w W) => Both_sh A B n m c d M N E1 W (ha.up hW) (hb.up hW) h1
  have q5 := Lib.hid fun (W : World) (hW : Below w.heap.size w W) => Either_sh A B n m c d M N E2 W (ha.up hW) (hb.up hW) h2
  have q6 := Lib.hid fun (W : World) (hW : Below w.heap.size w W) => Within_sh C A l n f c P M E3 G1 W (hc.up hW) (ha.up hW) h3 hG1
  have q7 := Lib.hid fun (W : World) (hW : Below w.heap.size w W) => Within_sh C B l m f d P N E4 G2 W (hc.up hW) (hb.up hW) h4 hG2
  clear h1 h2 h3 h4 hG1 hG2
  by_cases e3 : E3 = 0
  · subst e3
    by_cases e4 : E4 = 0
    · subst e4
      have T := hT rfl rfl
      rcases T.e1 with rfl | rfl | rfl
      · cases G1 with
        | true => exact three_0t A B C n m l c d f w E2 G2 _ _ E5 E6 E7 E8 E9 E10 G3 G4 LY LXP LMY LV LUP LMV nx nu q1 q2 q3 q4 q5 q6 q7 (Lib.hid T)
        | false => exact three_0f A B C n m l c d f w E2 G2 _ _ E5 E6 E7 E8 E9 E10 G3 G4 LY LXP LMY LV LUP LMV nx nu q1 q2 q3 q4 q5 q6 q7 (Lib.hid T)
      · exact three_2 A B C n m l c d f w E2 G1 G2 _ _ E5 E6 E7 E8 E9 E10 G3 G4 LY LXP LMY LV LUP LMV nx nu q1 q2 q3 q4 q5 q6 q7 (Lib.hid T)
      · cases G1 with
        | true =>
          obtain rfl : G2 = false := by simpa using T.none rfl
          exact three_3t A B C n m l c d f w E2 _ _ E5 E6 E7 E8 E9 E10 G3 G4 LY LXP LMY LV LUP LMV nx nu q1 q2 q3 q4 q5 q6 q7 (Lib.hid T)
        | false => exact three_3f A B C n m l c d f w E2 G2 _ _ E5 E6 E7 E8 E9 E10 G3 G4 LY LXP LMY LV LUP LMV nx nu q1 q2 q3 q4 q5 q6 q7 (Lib.hid T)
    · exact three_e4 A B C n m l c d f w E1 E2 E4 G1 G2 _ _ E5 E6 E7 E8 E9 E10 G3 G4 LY LXP LMY LV LUP LMV nx nu q1 q2 q3 q4 q5 q6 q7 e4
  · exact three_e3 A B C n m l c d f w E1 E2 E3 E4 G1 G2 _ _ E5 E6 E7 E8 E9 E10 G3 G4 LY LXP LMY LV LUP LMV nx nu q1 q2 q3 q4 q5 q6 q7 e3
theorem three.own : ownKnob Try.prog.godebug = none := by kernel_rfl
set_option maxRecDepth 100000 in
set_option maxHeartbeats 1000000 in
theorem three_lifted (os : Os) (started : os.Started) (H : Type) (enc : TypeId × Value → H) :
    ReturnsInHanded {} Try.checked os 16 .any (Rows.paperThreeSpec.pre6 enc Try.prog Try.f16 Rows.paperThreeRow.domain false) (Rows.paperThreeSpec.post enc Try.prog Try.f16 false true false false) := by
  refine returnsInHanded_of_change (C := Try.checked) three.own started (by kernel_rfl) Try.func16
    (ChangeSpec.witness6 (enc := enc) (C := Try.checked) false ⟨#[], #[.agg #[.slice none 0 0], .agg #[.slice none 0 0], .agg #[.slice none 0 0]], []⟩ 8 (by kernel_rfl) (by kernel_rfl) (by kernel_rfl) (by kernel_rfl)) ?_
  intro W base args ds gs before hval0 hW hcnd _
  have hval : ∀ (j : Nat) t v, Try.f16.params[j]? = some t → args[j]? = some v → Value.okWide Try.prog W .any base t v := hval0
  have hW' := hW
  obtain ⟨p, q, hA0, hV, rfl, hfz, hnd⟩ := hW
  have hA : DataW.TrodAll enc Try.prog W 0 (fun _ => true) true Try.f16.params.toList args.toList ds p := hA0
  rw [Try.params16] at hA hval
  obtain ⟨v0, v1, v2, d0, d1, d2, p0, p1, p2, rfl, rfl, rfl, h0, h1, h2⟩ := trodAll_three hA
  obtain ⟨rfl, rfl⟩ := trodVars_none hV
  have hlt := fun x hx => hW'.lt x hx
  simp only [List.append_nil, List.mem_append] at hlt
  have k0 := h0
  have k1 := h1
  have k2 := h2
  obtain ⟨aA, an, ac, aP, rfl, ah⟩ := open_sheet (hval 0 29 v0 rfl rfl) h0
  obtain ⟨bA, bn, bc, bP, rfl, bh⟩ := open_sheet (hval 1 29 v1 rfl rfl) h1
  obtain ⟨cA, cn, cc, cP, rfl, ch⟩ := open_sheet (hval 2 29 v2 rfl rfl) h2
  clear hA0 hval0
  simp only [List.append_nil] at hW'
  refine (three_law aA an ac aP bA bn bc bP cA cn cc cP W ah bh ch).mono fun e W' ⟨he, hw⟩ => ?_
  subst he
  exact ⟨_, rfl, [d0, d1, d2], [], _, [], p0 ++ (p1 ++ (p2)), [], hW', trodAll_mk1 (shut_bool Try.underlying4 true), trodAll_mk3 (Below.trod Try.laidOut (by kernel_rfl) (of_decide_eq_true (by kernel_rfl)) k0 hw (fun x hx => hlt x (by simp [hx]))) (Below.trod Try.laidOut (by kernel_rfl) (of_decide_eq_true (by kernel_rfl)) k1 hw (fun x hx => hlt x (by simp [hx]))) (Below.trod Try.laidOut (by kernel_rfl) (of_decide_eq_true (by kernel_rfl)) k2 hw (fun x hx => hlt x (by simp [hx]))), rfl, hw.frame _, fun h => by cases h⟩
theorem three_holds : Rows.PaperThreeSaid :=
  OpenClaim.holds_of_wide 16 Try.f16 rfl rfl rfl rfl rfl rfl rfl ⟨rfl, rfl, rfl, rfl, rfl⟩ rfl rfl rfl rfl rfl (by kernel_rfl) Try.func16 (by kernel_rfl)
    (of_decide_eq_true (by kernel_rfl)) (by unfold Func.isWrapper; first | (rw [if_pos (by decide +kernel)]; kernel_rfl) | (rw [if_neg (by decide +kernel)]; exact ⟨rfl, rfl⟩))
    (fun os started H enc _ => three_lifted os started H enc)
end Go.Proofs.Ytmeljcbefnojfaa
