/- The specification's readings: told, ends, Earliest, Latest, Feasible, Span. -/
import Derived.Test.YtpikaohodieeaaaQfRsp
namespace Go.Proofs.Ytpikaohodieeaaa
open Go.RowKit
set_option linter.unusedSimpArgs false
set_option linter.unusedVariables false
set_option maxRecDepth 100000 in
set_option maxHeartbeats 4000000 in
theorem Rtold_any (d : Drm) (MA : Option Addr) (m mc : Nat) (F : Nat → Int × Int × Int) (E : Int) (S : Nat → Int × Int) (w : World) (hin : DrIn d w.heap.size w) (hm : TrsIn MA m F w.heap.size w) (hE : RdR d m F true E S) :
    Calls Try.prog 91 #[d.v, .slice MA m mc] w fun e w' => ∃ v, e = .returned (.tuple #[v, .int .i64 E]) ∧ RdV d.n E S v w w' := by
  have DD : Hid (∀ W, Below w.heap.size w W → DrIn d W.heap.size W) := Lib.hid fun W h => (hin.up h (Nat.le_refl _)).more h.size
  have MM : Hid (∀ W, Below w.heap.size w W → TrsIn MA m F W.heap.size W) := Lib.hid fun W h => (hm.up h (Nat.le_refl _)).more h.size
  obtain ⟨w1, hw1⟩ : ∃ w1 : World, w1 = w.alloc (drO d) := ⟨_, rfl⟩
  have B1 : Below w.heap.size w w1 := by rw [hw1]; exact box1 _ _
  have P1 : HasDr d w.heap.size w1 := by rw [hw1]; exact dr_new w d
  have D := Lib.hid B1
  have P := Lib.hid P1
  have HW := Lib.hid hw1
  have K1 := Lib.hid fun E (h : ChR d m F E) => Rasked_any d MA m mc F E w1 (DD.out w1 B1) (MM.out w1 B1) h
  clear hin hm B1 P1 hw1
  obtain ⟨x0, x1⟩ := P.out
  rcases hE with ⟨hE, hC⟩ | ⟨hd, hk, hE⟩
  · have hne : ¬ E = 0 := by omega
    have hn1 : (E != 0) = true := by simpa using hne
    have K2 := Lib.hid (K1.out E hC)
    have HNE := Lib.hid hne
    clear hE hne hC
    go_enter Try.func91, Try.ntmps91
    go_wp2_with fail
    rw [← HW.out]
    refine K2.out.mono ?_
    rintro e w2 ⟨rfl, hb2⟩
    have D := Lib.hid (nextB D.out hb2)
    have P := Lib.hid (P.out.up hb2)
    clear hb2 x0 x1
    obtain ⟨x0, x1⟩ := P.out
    go_wp2_with fail
    go_ret2
    exact ⟨_, by simp, D.out, .inl ⟨HNE.out, rfl⟩⟩
  · obtain ⟨R, hR, hRE⟩ : ∃ R : Bool, ((R = true ∧ Ends d.n (Rdg d.n (gapF d) m F) S) ∨ (R = false ∧ ∀ T, ¬ Rdg d.n (gapF d) m F T)) ∧ ((R = true ∧ E = 0) ∨ (R = false ∧ E = 22)) := by
      rcases hE with ⟨h, _⟩ | ⟨_, h, h2⟩ | ⟨_, h, h2⟩
      · cases h
      · exact ⟨false, .inr ⟨rfl, h2⟩, .inr ⟨rfl, h⟩⟩
      · exact ⟨true, .inl ⟨rfl, h2⟩, .inl ⟨rfl, h⟩⟩
    have K2 := Lib.hid (K1.out 0 (.inr (.inr ⟨rfl, hd, hk⟩)))
    have KS := Lib.hid fun W h => Rspans_any d MA m mc F R S W (DD.out W h) (MM.out W h) hd ⟨by have := hk.1; omega, hk.2⟩ hR
    clear hE hd hk hR
    go_enter Try.func91, Try.ntmps91
    go_wp2_with fail
    rw [← HW.out]
    refine K2.out.mono ?_
    rintro e w2 ⟨rfl, hb2⟩
    have D := Lib.hid (nextB D.out hb2)
    have P := Lib.hid (P.out.up hb2)
    clear hb2 x0 x1
    obtain ⟨x0, x1⟩ := P.out
    go_wp2_with fail
    refine (KS.out _ D.out).mono ?_
    rintro e w3 ⟨v, rfl, hb3, hv⟩
    have HB3 := Lib.hid hb3
    have D := Lib.hid (nextB D.out hb3)
    have HSZ := Lib.hid D.out.size
    clear hb3 x0 x1
    have hsz : w.heap.size ≤ w2.heap.size := by have := HW.out; first | exact Nat.le_of_lt P.out.lt | omega
    rcases hRE with ⟨rfl, rfl⟩ | ⟨rfl, rfl⟩
    · rcases hv with ⟨h, _⟩ | ⟨_, t, rfl, ht, hS⟩
      · exact absurd rfl h
      · have HS := Lib.hid hS
        have HT := Lib.hid (Nat.le_trans hsz ht)
        clear hS ht hsz
        go_wp2_with fail
        go_ret2
        exact ⟨_, by simp, D.out, .inr ⟨rfl, t, rfl, HT.out, HS.out⟩⟩
    · rcases hv with ⟨_, rfl⟩ | ⟨h, _⟩
      · clear hsz
        go_wp2_with fail
        go_ret2
        exact ⟨_, by simp, D.out, .inl ⟨by decide, rfl⟩⟩
      · exact absurd h (by decide)
set_option maxRecDepth 100000 in
set_option maxHeartbeats 4000000 in
theorem RFeasible_any (d : Drm) (MA : Option Addr) (m mc : Nat) (F : Nat → Int × Int × Int) (R : Bool) (E : Int) (w : World) (hin : DrIn d w.heap.size w) (hm : TrsIn MA m F w.heap.size w) (hE : FeR d m F R E) :
    Calls Try.prog 34 #[d.v, .slice MA m mc] w fun e w' => e = .returned (.tuple #[.bool R, .int .i64 E]) ∧ Below w.heap.size w w' := by
  have DD : Hid (∀ W, Below w.heap.size w W → DrIn d W.heap.size W) := Lib.hid fun W h => (hin.up h (Nat.le_refl _)).more h.size
  have MM : Hid (∀ W, Below w.heap.size w W → TrsIn MA m F W.heap.size W) := Lib.hid fun W h => (hm.up h (Nat.le_refl _)).more h.size
  obtain ⟨w1, hw1⟩ : ∃ w1 : World, w1 = w.alloc (drO d) := ⟨_, rfl⟩
  have B1 : Below w.heap.size w w1 := by rw [hw1]; exact box1 _ _
  have P1 : HasDr d w.heap.size w1 := by rw [hw1]; exact dr_new w d
  have D := Lib.hid B1
  have P := Lib.hid P1
  have HW := Lib.hid hw1
  have K1 := Lib.hid fun E (h : ChR d m F E) => Rasked_any d MA m mc F E w1 (DD.out w1 B1) (MM.out w1 B1) h
  clear hin hm B1 P1 hw1
  obtain ⟨x0, x1⟩ := P.out
  rcases hE with ⟨hE, rfl, hC⟩ | ⟨rfl, hd, hk, hR⟩
  · have hne : ¬ E = 0 := by omega
    have hn1 : (E != 0) = true := by simpa using hne
    have K2 := Lib.hid (K1.out E hC)
    clear hE hne hC
    go_enter Try.func34, Try.ntmps34
    go_wp2_with fail
    rw [← HW.out]
    refine K2.out.mono ?_
    rintro e w2 ⟨rfl, hb2⟩
    have D := Lib.hid (nextB D.out hb2)
    have P := Lib.hid (P.out.up hb2)
    clear hb2 x0 x1
    obtain ⟨x0, x1⟩ := P.out
    go_wp2_with fail
    go_ret2
    exact ⟨by simp, D.out⟩
  · obtain ⟨S, hS⟩ : ∃ S, (R = true ∧ Ends d.n (Rdg d.n (gapF d) m F) S) ∨ (R = false ∧ ∀ T, ¬ Rdg d.n (gapF d) m F T) := by
      rcases ends_ex (gpOk hd) (mkOk_of hk) with ⟨S, h⟩ | h
      · exact ⟨S, .inl ⟨hR.2 ⟨_, h.lo⟩, h⟩⟩
      · refine ⟨fun _ => (0, 0), .inr ⟨?_, h⟩⟩
        cases R with
        | false => rfl
        | true => obtain ⟨T, hT⟩ := hR.1 rfl; exact absurd hT (h T)
    have K2 := Lib.hid (K1.out 0 (.inr (.inr ⟨rfl, hd, hk⟩)))
    have KS := Lib.hid fun W h => Rspans_any d MA m mc F R S W (DD.out W h) (MM.out W h) hd ⟨by have := hk.1; omega, hk.2⟩ hS
    clear hd hk hR hS
    go_enter Try.func34, Try.ntmps34
    go_wp2_with fail
    rw [← HW.out]
    refine K2.out.mono ?_
    rintro e w2 ⟨rfl, hb2⟩
    have D := Lib.hid (nextB D.out hb2)
    have P := Lib.hid (P.out.up hb2)
    clear hb2 x0 x1
    obtain ⟨x0, x1⟩ := P.out
    go_wp2_with fail
    refine (KS.out _ D.out).mono ?_
    rintro e w3 ⟨v, rfl, hb3, hv⟩
    have D := Lib.hid (nextB D.out hb3)
    obtain ⟨A, q, c, rfl⟩ : ∃ A q c, v = .slice A q c := by
      rcases hv with ⟨_, h⟩ | ⟨_, t, h, _⟩
      · exact ⟨_, _, _, h⟩
      · exact ⟨_, _, _, h⟩
    clear hb3 x0 x1 hv
    go_wp2_with fail
    go_ret2
    exact ⟨by simp, D.out⟩
end Go.Proofs.Ytpikaohodieeaaa
