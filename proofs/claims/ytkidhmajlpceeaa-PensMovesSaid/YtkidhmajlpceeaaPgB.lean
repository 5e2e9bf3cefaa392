/- PensMoves' law. -/
import Derived.Test.YtkidhmajlpceeaaRmv
import Derived.Test.YtkidhmajlpceeaaRkp
import Derived.Test.YtkidhmajlpceeaaSed
namespace Go.Proofs.Ytkidhmajlpceeaa
open Go.RowKit
def mB (n : Nat) (E : Int) : Nat := if E = 0 then n else 0
theorem EPost.any {w w' : World} {n : Nat} {F : Nat → Int × Int × Int} {E : Int} {e : Ending} (h : EPost w n F E e w') : ∃ A c, e = .returned (.tuple #[.slice A (mB n E) c, .int .i64 E]) ∧ EdsIn A (mB n E) F w'.heap.size w' ∧ Below w.heap.size w w' := by
  by_cases h0 : E = 0
  · obtain ⟨A, c, e1, h1, h2⟩ := h.1 h0
    subst h0
    exact ⟨A, c, e1, h1, h2⟩
  · obtain ⟨e1, h2⟩ := h.2 h0
    refine ⟨none, 0, ?_, ?_, h2⟩
    · rw [e1]; unfold mB; rw [if_neg h0]
    · unfold mB; rw [if_neg h0]; exact ⟨by omega, fun i hi => absurd hi (by omega)⟩
set_option maxRecDepth 100000 in
set_option maxHeartbeats 4000000 in
theorem moves_law (p : Pn) (A : Option Addr) (n c : Nat) (M : Nat → Int × Int) (o : Int) (w : World) (hin : MosIn A n M w.heap.size w) :
    Calls Try.prog 4 #[p.v, .slice A n c, .int .i64 o] w fun e w' => e = .returned (.bool true) ∧ Below w.heap.size w w' := by
  have HIN := Lib.hid hin
  have hn := hin.1
  clear hin
  go_enter Try.func4, Try.ntmps4
  go_wp2_with fail
  refine (awake_any _).mono ?_
  rintro e w2 ⟨rfl, hb2⟩
  have hp2 := (pn_new w p.b p.lo p.hi p.r).up hb2 (by simp)
  have C2 := Lib.hid (nextB (box1 w _) hb2)
  have zp2 := hp2.lt
  have Hp2 := Lib.hid hp2
  clear hb2 hp2
  by_cases hf : n ≤ 500
  · have d1 : decide ((500 : Int) < (n : Int)) = false := decide_eq_false (by omega)
    have d2 : decide (500 < n) = false := decide_eq_false (by omega)
    obtain ⟨E1, hE1⟩ := movR_ex p o
    obtain ⟨E2, hE2⟩ := keeR_ex p n M
    have K1 := Lib.hid fun W => Moves_any p o E1 W hE1
    have K2 := Lib.hid fun W => RMoves_any p o E1 W hE1
    have K3 : Hid (∀ W, Below w.heap.size w W → Calls Try.prog 32 #[p.v, .slice A n c] W fun e w' => e = .returned (.int .i64 E2) ∧ Below W.heap.size W w') :=
      Lib.hid fun W hW => Keeps_any p A n c M E2 W ((HIN.out.up hW (Nat.le_refl _)).more hW.size) hE2
    have K4 : Hid (∀ W, Below w.heap.size w W → Calls Try.prog 33 #[p.v, .slice A n c] W fun e w' => e = .returned (.int .i64 E2) ∧ Below W.heap.size W w') :=
      Lib.hid fun W hW => RKeeps_any p A n c M E2 W ((HIN.out.up hW (Nat.le_refl _)).more hW.size) hE2
    clear hE1 hE2 hf
    obtain ⟨x0, x1, x2, x3⟩ := Hp2.out
    go_wp2_with fail
    refine (K1.out _).mono ?_
    rintro e w3 hP
    obtain ⟨A3, c3, rfl, hin3, hb3⟩ := hP.any
    have C3 := Lib.hid (nextB C2.out hb3)
    have Hp3 := Lib.hid (Hp2.out.up hb3 zp2)
    have zp3 := Hp3.out.lt
    have HN3 := Lib.hid hin3
    clear x0 x1 x2 x3 hP hin3 hb3 K1
    obtain ⟨x0, x1, x2, x3⟩ := Hp3.out
    go_wp2_with fail
    refine (K2.out _).mono ?_
    rintro e w4 hP
    obtain ⟨A4, c4, rfl, hin4, hb4⟩ := hP.any
    have C4 := Lib.hid (nextB C3.out hb4)
    have Hp4 := Lib.hid (Hp3.out.up hb4 zp3)
    have zp4 := Hp4.out.lt
    have HN4 := Lib.hid hin4
    have HN3' := Lib.hid ((HN3.out.up hb4 (Nat.le_refl _)).more hb4.size)
    have K5 : Hid (∀ W, Below w4.heap.size w4 W → Calls Try.prog 34 #[.slice A3 (mB (mvN p o) E1) c3, .slice A4 (mB (mvN p o) E1) c4] W fun e w' => e = .returned (.bool true) ∧ Below W.heap.size W w') :=
      Lib.hid fun W hW => sameEdges_t _ A3 A4 c3 c4 _ W ((HN3'.out.up hW (Nat.le_refl _)).more hW.size) ((HN4.out.up hW (Nat.le_refl _)).more hW.size)
    clear x0 x1 x2 x3 hP hin4 hb4 K2 HN3 HN4 HN3' Hp2 Hp3 C2 C3
    generalize mB (mvN p o) E1 = N at *
    obtain ⟨x0, x1, x2, x3⟩ := Hp4.out
    go_wp2_with fail
    go_region_held3 (fun w' => w'.cell? ⟨w.heap.size, 0, none⟩ = some (.int .i64 (p.b)) ∧ w'.cell? ⟨w.heap.size, 1, none⟩ = some (.int .i64 (p.lo)) ∧ w'.cell? ⟨w.heap.size, 2, none⟩ = some (.int .i64 (p.hi)) ∧ w'.cell? ⟨w.heap.size, 3, none⟩ = some (.int .i64 (p.r)) ∧ w4.heap.size ≤ w'.heap.size)
      (first
        | (go_split_ands; (repeat' apply And.intro); all_goals first | assumption | (go_simp; done) | ((try simp only [World.size_drew]); omega))
        | (go_split_ands; (repeat' apply And.intro); all_goals first | exact (hbA.cell (by first | omega | (dsimp only; omega) | ((try simp only [World.size_drew]); omega))).trans (by assumption) | (have := hbA.size; first | omega | ((try simp only [World.size_drew] at this); omega)))
        | (go_split_ands; (repeat' apply And.intro); all_goals first | exact (hbB.cell (by first | omega | (dsimp only; omega))).trans (by assumption) | (have := hbB.size; omega))
        | (go_split_ands; (repeat' apply And.intro); all_goals first | exact (hbC.cell (by first | omega | (dsimp only; omega))).trans (by assumption) | (have := hbC.size; omega)))
      (first
        | (go_at_call 32; go_split_ands; ((with_reducible refine (K3.out _ (by first | exact C4.out | exact C4.out.drew)).mono ?_); rintro e wA ⟨rfl, hbA⟩; have DA := Lib.hid (show Below w4.heap.size w4 wA from by first | exact hbA | exact (Below.refl _ _).drew.trans (hbA.mono (by simp only [World.size_drew]; omega)))))
        | (go_at_call 33; go_split_ands; ((with_reducible refine (K4.out _ (nextB C4.out DA.out)).mono ?_); rintro e wB ⟨rfl, hbB⟩; have DB := Lib.hid (DA.out.trans (hbB.mono DA.out.size))))
        | (go_at_call 34; go_split_ands; ((with_reducible refine (K5.out _ DB.out).mono ?_); rintro e wC ⟨rfl, hbC⟩; have DC := Lib.hid (DB.out.trans (hbC.mono DB.out.size)))))
    all_goals
      go_wp2_with fail
      go_ret
      exact ⟨rfl, nextB C4.out DC.out⟩
  · have d1 : decide ((500 : Int) < (n : Int)) = true := decide_eq_true (by omega)
    have d2 : decide (500 < n) = true := decide_eq_true (by omega)
    clear hf
    go_wp2_with fail
    go_ret
    exact ⟨rfl, C2.out⟩
end Go.Proofs.Ytkidhmajlpceeaa
