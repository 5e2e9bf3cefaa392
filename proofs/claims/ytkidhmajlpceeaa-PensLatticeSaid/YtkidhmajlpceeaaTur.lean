import Derived.Test.YtkidhmajlpceeaaTrn
import Derived.Test.YtkidhmajlpceeaaRea
namespace Go.Proofs.Ytkidhmajlpceeaa
open Go.RowKit
attribute [local go_sem] Oper.semAt_some
theorem eg_tur : ∀ args w, (callFunc 107 args).run Try.prog w = .ok (.enter 107 args) w := enters_of Try.func107 (by kernel_rfl) rfl
theorem turns_any (A : Option Addr) (n c : Nat) (w : World) :
    Calls Try.prog 92 #[.slice A n c] w fun e w' => e = .returned (.func (.func 107) #[] #[.pointer (some ⟨w.heap.size, 0, none⟩)]) ∧ w' = w.alloc (.cells #[.slice A n c] 28) := by
  go_enter Try.func92, Try.ntmps92
  go_wp2
  go_ret
  exact ⟨rfl, rfl⟩
def turR (n : Nat) (Z : Nat → Int) (E : Int) : Prop := (LsOk Z n ∧ E = 0) ∨ (¬ LsOk Z n ∧ E = 1)
/-- a row of numbers and no error, or nothing and an error -/
def ZPost (w : World) (L : List Int) (E : Int) (e : Ending) (w' : World) : Prop :=
  (E = 0 → ∃ v, e = .returned (.tuple #[v, .int .i64 0]) ∧ RowZ w L v w') ∧ (E ≠ 0 → e = .returned (.tuple #[.slice none 0 0, .int .i64 E]) ∧ Below w.heap.size w w')
theorem RowZ.from_ {w w1 w2 : World} {L : List Int} {v : Value} (hb : Below w.heap.size w w1) (h : RowZ w1 L v w2) : RowZ w L v w2 := by
  obtain ⟨h1, hx0, hx | ⟨gb, cap, cur, rfl, hbase, r0, r1, r2, r3, r4⟩⟩ := h
  · exact ⟨hb.trans (h1.mono hb.size), hx0, .inl hx⟩
  · exact ⟨hb.trans (h1.mono hb.size), hx0, .inr ⟨gb, cap, cur, rfl, Nat.le_trans hb.size hbase, r0, r1, r2, r3, r4⟩⟩
theorem Turns_any (A : Option Addr) (n c : Nat) (Z : Nat → Int) (E : Int) (w : World) (hin : IntsIn A n Z w.heap.size w) (hE : turR n Z E) :
    Calls Try.prog 50 #[.slice A n c] w fun e w' => ZPost w (turnsL Z n) E e w' := by
  rcases hE with ⟨hl, rfl⟩ | ⟨hl, rfl⟩
  · have K := Lib.hid (isList_any A n c Z true w hin ⟨fun _ => hl, fun _ => rfl⟩)
    have h0 : 0 < n := hl.1
    have h1 : n ≤ 401 := hl.2.1
    have hlen : (turnsL Z n).length ≤ 1000 := Nat.le_trans (tout_len Z _) (by omega)
    have hb1 := box1 w (.cells #[.slice A n c] 28)
    have K2 := Lib.hid (Collect_any (turnsL Z n) hlen 107 #[.pointer (some ⟨w.heap.size, 0, none⟩)] (w.alloc (.cells #[.slice A n c] 28)) eg_tur (turns_yields A n c w.heap.size _ 7 Z _ ((hin.up hb1 (Nat.le_refl _)).more hb1.size) (by go_simp) (by simp) (Nat.le_refl _) h0 h1))
    clear hin hl h0 h1 hlen hb1
    go_enter Try.func50, Try.ntmps50
    go_wp2_with fail
    refine K.out.mono ?_
    rintro e w' ⟨rfl, rfl⟩
    go_wp2_with fail
    refine (turns_any A n c _).mono ?_
    rintro e w1 ⟨rfl, rfl⟩
    go_wp2_with fail
    refine K2.out.mono ?_
    rintro e w2 ⟨v, rfl, h⟩
    have H := Lib.hid h
    clear h
    go_wp2_with fail
    go_ret2
    exact ⟨fun _ => ⟨_, rfl, RowZ.from_ (box1 _ _) H.out⟩, fun e => absurd rfl e⟩
  · have K := Lib.hid (isList_any A n c Z false w hin ⟨fun h => (by cases h), fun h => absurd h hl⟩)
    clear hin hl
    go_enter Try.func50, Try.ntmps50
    go_wp2_with fail
    refine K.out.mono ?_
    rintro e w' ⟨rfl, rfl⟩
    go_wp2_with fail
    go_ret2
    exact ⟨fun e => by simp at e, fun _ => ⟨rfl, Below.refl _ _⟩⟩
end Go.Proofs.Ytkidhmajlpceeaa
