import Derived.Test.YtmeljcbefnojfaaLop
import Derived.Test.YtmeljcbefnojfaaRbo
namespace Go.Proofs.Ytmeljcbefnojfaa
open Go.RowKit Go.ChangeShapes Go.WideShapes Go.ChangeAt Go.Deep
theorem rowsP_sh {n : Nat} {Lc L : Nat → List (Int × Int)} {E : Int} {w w' : World} {e : Ending} (h : RowsP w n Lc E e w') (hL : ∀ c, c < n → Lc c = L c) : ShP n L E w e w' := by
  obtain ⟨A, k, c, h1, h2, ⟨e0, rfl, X, x1, x2⟩ | ⟨e0, rfl⟩⟩ := h
  · exact ⟨A, k, c, h1, h2, Lib.hid ⟨⟨X, x1, fun c hc => by rw [← hL c hc]; exact x2 c hc⟩, fun _ => rfl, fun h => absurd e0 h⟩⟩
  · exact ⟨A, 0, c, h1, h2, Lib.hid ⟨Sheet.zero _ _ _, fun h => absurd h e0, fun _ => rfl⟩⟩
theorem RBoth_sh (A B : Option Addr) (n m c d : Nat) (M N : Nat → List (Int × Int)) (E : Int) (w : World) (ha : Sheet A n M w) (hb : Sheet B m N w) (hE : bthE n m M N E) :
    Calls Try.prog 57 #[.agg #[.slice A n c], .agg #[.slice B m d]] w (ShP n (fun c => bc (M c) (N c)) E w) := by
  obtain ⟨x, hx, rx⟩ := ha
  obtain ⟨y, hy, ry⟩ := hb
  rcases hE with ⟨h, h0⟩ | ⟨h, h'⟩
  · exact (RBoth_err A B n m c d x y E w hx hy ((alE_alk rx ry).2 h) h0 (fun c => bc (M c) (N c))).mono fun e w' hq => rowsP_sh hq fun _ _ => rfl
  · obtain ⟨g1, g2, rfl⟩ := alE_zero h
    have hL := bthL_reads rx ry g1 g2
    obtain ⟨E0, hb1⟩ := bothE_of rx hL h'
    exact (RBoth_ok A B n c d x y w hx hy ((good_iff rx).2 g1) ((good_iff ry).2 g2) _ rfl E0 E hb1).mono fun e w' hq => rowsP_sh hq hL
theorem REither_sh (A B : Option Addr) (n m c d : Nat) (M N : Nat → List (Int × Int)) (E : Int) (w : World) (ha : SheetC A n M w) (hb : Sheet B m N w) (hE : eitE n m M N E) :
    Calls Try.prog 59 #[.agg #[.slice A n c], .agg #[.slice B m d]] w (ShP n (fun c => ec (M c) (N c)) E w) := by
  obtain ⟨x, hx, rx, hcx⟩ := ha
  obtain ⟨y, hy, ry⟩ := hb
  rcases hE with ⟨h, h0⟩ | ⟨h, h'⟩
  · exact (REither_err A B n m c d x y E w hx hy ((alE_alk rx ry).2 h) h0 (fun c => ec (M c) (N c))).mono fun e w' hq => rowsP_sh hq fun _ _ => rfl
  · obtain ⟨g1, g2, rfl⟩ := alE_zero h
    have hL := eitL_reads rx ry g1
    have e8 : (∀ c, c < n → ((fun k => eitL (x.S k) (y.S k) (x.L k) (y.L k)) c).length ≤ 8) ↔ ∀ c, c < n → (ec (M c) (N c)).length ≤ 8 := ⟨fun h c hc => by rw [← hL c hc]; exact h c hc, fun h c hc => by show (eitL _ _ _ _).length ≤ 8; rw [hL c hc]; exact h c hc⟩
    exact (REither_ok A B n c d x y w hx hy ((good_iff rx).2 g1) ((good_iff ry).2 g2) hcx _ rfl E (by rw [e8]; rcases h' with h' | h'; exact .inr h'; exact .inl h')).mono fun e w' hq => rowsP_sh hq hL
theorem RWithin_sh (A B : Option Addr) (n m c d : Nat) (M N : Nat → List (Int × Int)) (E : Int) (G : Bool) (w : World) (ha : Sheet A n M w) (hb : Sheet B m N w) (hE : alE n m M N E) (hG : G = true ↔ E = 0 ∧ ∀ i, i < n → Win (M i) (N i)) :
    Calls Try.prog 61 #[.agg #[.slice A n c], .agg #[.slice B m d]] w fun e w' => e = .returned (.tuple #[.bool G, .int .i64 E]) ∧ Below w.heap.size w w' := by
  obtain ⟨x, hx, rx⟩ := ha
  obtain ⟨y, hy, ry⟩ := hb
  refine RWithin_any A B n m c d x y E G w hx hy ((alE_alk rx ry).2 hE) (hG.trans ?_)
  constructor
  · rintro ⟨rfl, h⟩
    obtain ⟨g1, g2, rfl⟩ := alE_zero hE
    exact ⟨rfl, fun i hi => (win_winC rx ry hi hi (g1.2.2 i hi).2.1 (g2.2.2 i hi).2.1).2 (h i hi)⟩
  · rintro ⟨rfl, h⟩
    obtain ⟨g1, g2, rfl⟩ := alE_zero hE
    exact ⟨rfl, fun i hi => (win_winC rx ry hi hi (g1.2.2 i hi).2.1 (g2.2.2 i hi).2.1).1 (h i hi)⟩
end Go.Proofs.Ytmeljcbefnojfaa
