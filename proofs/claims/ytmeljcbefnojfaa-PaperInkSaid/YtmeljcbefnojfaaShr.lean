import Derived.Test.YtmeljcbefnojfaaClm
import Derived.Test.YtmeljcbefnojfaaIt
namespace Go.Proofs.Ytmeljcbefnojfaa
open Go.RowKit
/-- two numbers in a box, one number in a box -/
def HasSp (a b : Int) (k : Nat) (w : World) : Prop := w.cell? ⟨k, 0, none⟩ = some (.int .i64 a) ∧ w.cell? ⟨k, 1, none⟩ = some (.int .i64 b)
theorem HasSp.up {a b : Int} {k : Nat} {W w1 : World} (h : HasSp a b k W) {B : Nat} (hb : Below B W w1) (hl : k < B) : HasSp a b k w1 := by
  unfold HasSp at *
  have hc : ∀ o, w1.cell? ⟨k, o, none⟩ = W.cell? ⟨k, o, none⟩ := fun o => hb.cell (p := ⟨k, o, none⟩) hl
  simp only [hc]
  exact h
theorem HasPt.up {t : Pt} {k : Nat} {W w1 : World} (h : HasPt t k W) {B : Nat} (hb : Below B W w1) (hl : k < B) : HasPt t k w1 := by
  unfold HasPt at *
  have hc : ∀ o, w1.cell? ⟨k, o, none⟩ = W.cell? ⟨k, o, none⟩ := fun o => hb.cell (p := ⟨k, o, none⟩) hl
  simp only [hc]
  exact h
def HasIn (a : Int) (k : Nat) (w : World) : Prop := w.cell? ⟨k, 0, none⟩ = some (.int .i64 a)
theorem HasIn.up {a : Int} {k : Nat} {W w1 : World} (h : HasIn a k W) {B : Nat} (hb : Below B W w1) (hl : k < B) : HasIn a k w1 := by
  unfold HasIn at *
  rw [hb.cell (p := ⟨k, 0, none⟩) hl]
  exact h
def shrP (t : Pt) (a c : Int) : Pt := ⟨t.x * a / 1000, t.y * c / 1000, t.half⟩
def ShrIn (p : Pap) (a c : Int) : Prop := (p.al ≤ a ∧ a ≤ p.ah) ∧ p.cl ≤ c ∧ c ≤ p.ch
def zeroT : Pt := ⟨0, 0, 0⟩
open Classical in
/-- the error of Shrink, and what it returns -/
noncomputable def shE (p : Pap) (t : Pt) (a c : Int) : Int := if ptE p t = 0 then (if ShrIn p a c then (if (shrP t a c).Ok then 0 else 2) else 1) else ptE p t
open Classical in
noncomputable def shP (p : Pap) (t : Pt) (a c : Int) : Pt := if shE p t a c = 0 then shrP t a c else zeroT
theorem shE_iff {p : Pap} {t : Pt} {a c : Int} : shE p t a c = 0 ↔ p.Ok ∧ t.Ok ∧ ShrIn p a c ∧ (shrP t a c).Ok := by
  unfold shE
  by_cases h : ptE p t = 0
  · obtain ⟨h1, h2⟩ := ptE_iff.1 h
    rw [if_pos h]
    by_cases h3 : ShrIn p a c
    · rw [if_pos h3]
      by_cases h4 : (shrP t a c).Ok
      · simp [h1, h2, h3, h4]
      · simp [h4]
    · simp [h3]
  · rw [if_neg h]
    exact ⟨fun e => absurd e h, fun e => absurd (ptE_iff.2 ⟨e.1, e.2.1⟩) h⟩
theorem shP_ok {p : Pap} {t : Pt} {a c : Int} (h : shE p t a c = 0) : shP p t a c = shrP t a c := by unfold shP; rw [if_pos h]
theorem shP_no {p : Pap} {t : Pt} {a c : Int} (h : shE p t a c ≠ 0) : shP p t a c = zeroT := by unfold shP; rw [if_neg h]
theorem shr_bd {p : Pap} {t : Pt} {a c : Int} (h : p.Ok) (ht : t.Ok) (hi : ShrIn p a c) : (0 ≤ t.x * a ∧ t.x * a ≤ 440000000) ∧ 0 ≤ t.y * c ∧ t.y * c ≤ 440000000 := by
  have h7 := h.along
  have h8 := h.across
  have hx := ht.x
  have hy := ht.y
  obtain ⟨i1, i2⟩ := hi
  have m1 := mul_bd (a := t.x) (b := a) (A := 400000) (B := 1100) (by omega) (by omega) (by omega) (by omega)
  have m2 := mul_bd (a := t.y) (b := c) (A := 400000) (B := 1100) (by omega) (by omega) (by omega) (by omega)
  omega
end Go.Proofs.Ytmeljcbefnojfaa
