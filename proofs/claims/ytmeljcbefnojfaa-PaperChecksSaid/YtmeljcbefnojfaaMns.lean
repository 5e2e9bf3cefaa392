import Derived.Test.YtmeljcbefnojfaaIz
import Derived.Test.YtmeljcbefnojfaaIr
import Derived.Test.YtmeljcbefnojfaaIn
import Derived.Test.YtmeljcbefnojfaaAdb
import Derived.Test.YtmeljcbefnojfaaAdc
import Derived.Test.YtmeljcbefnojfaaAdd
namespace Go.Proofs.Ytmeljcbefnojfaa
open Go.RowKit
attribute [local go_sem] Oper.semAt_some
/-- the heights of a point in a column -/
def HtsL (p : Pap) (t : Pt) (c : Int) (L : List (Int × Int)) : Prop :=
  (hLo p t > p.height ∧ L = []) ∨ (hLo p t ≤ p.height ∧ ∃ K1 K2 K3 K4, Ends p t c K1 K2 K3 K4 ∧ L = (if K1 ≤ K2 - 1 then [(K1, K2 - 1)] else []) ++ (if K3 ≤ K4 - 1 then [(K3, K4 - 1)] else []))
theorem hin_of (p : Pap) (t : Pt) (c : Int) (L : List (Int × Int)) (bm bp bt bc n : Nat) (w : World) (h : p.Ok) (ht : t.Ok) (hc : 0 ≤ c ∧ c ≤ p.cols - 1) (hL : HtsL p t c L)
    (hm : w.cell? ⟨bm, 0, none⟩ = some (.slice none 0 0)) (np : bp ≠ bm) (nt : bt ≠ bm) (nc : bc ≠ bm)
    (hP : HasPap p bp w) (hT : HasPt t bt w) (hC : w.cell? ⟨bc, 0, none⟩ = some (.int .i64 c)) (hn : 2 ≤ n) :
    Yields Fence.wide n Try.prog 124 #[.pointer (some ⟨bp, 0, none⟩), .pointer (some ⟨bt, 0, none⟩), .pointer (some ⟨bc, 0, none⟩)] (fun s : Int × Int => #[.agg #[.int .i64 s.1, .int .i64 s.2]]) (KpM bm) L w := by
  rcases hL with ⟨hh, rfl⟩ | ⟨hh, K1, K2, K3, K4, hE, rfl⟩
  · exact hin_none p t c bm bp bt bc n w h ht hP hT hn hh
  · by_cases hr : p.radius = 0
    · by_cases hB : K1 ≤ K2 - 1
      · by_cases hA : K3 ≤ K4 - 1
        · rw [if_pos hB, if_pos hA]; exact hin_zba p t c K1 K2 K3 K4 bm bp bt bc n w h ht hc hr hm np nt nc hP hT hC hn hh hE hB hA
        · rw [if_pos hB, if_neg hA]; exact hin_zb p t c K1 K2 K3 K4 bm bp bt bc n w h ht hc hr hm np nt nc hP hT hC hn hh hE hB hA
      · by_cases hA : K3 ≤ K4 - 1
        · rw [if_neg hB, if_pos hA]; exact hin_za p t c K1 K2 K3 K4 bm bp bt bc n w h ht hc hr hm np nt nc hP hT hC hn hh hE hB hA
        · rw [if_neg hB, if_neg hA]; exact hin_z p t c K1 K2 K3 K4 bm bp bt bc n w h ht hc hr hm np nt nc hP hT hC hn hh hE hB hA
    · by_cases hB : K1 ≤ K2 - 1
      · by_cases hA : K3 ≤ K4 - 1
        · rw [if_pos hB, if_pos hA]; exact hin_rba p t c K1 K2 K3 K4 bm bp bt bc n w h ht hc hr hm np nt nc hP hT hC hn hh hE hB hA
        · rw [if_pos hB, if_neg hA]; exact hin_rb p t c K1 K2 K3 K4 bm bp bt bc n w h ht hc hr hm np nt nc hP hT hC hn hh hE hB hA
      · by_cases hA : K3 ≤ K4 - 1
        · rw [if_neg hB, if_pos hA]; exact hin_ra p t c K1 K2 K3 K4 bm bp bt bc n w h ht hc hr hm np nt nc hP hT hC hn hh hE hB hA
        · rw [if_neg hB, if_neg hA]; exact hin_r p t c K1 K2 K3 K4 bm bp bt bc n w h ht hc hr hm np nt nc hP hT hC hn hh hE hB hA
/-- such heights are there -/
theorem hts_ex (p : Pap) (t : Pt) (c : Int) (h : p.Ok) (ht : t.Ok) : ∃ L, HtsL p t c L := by
  by_cases hh : hLo p t ≤ p.height
  · obtain ⟨b1, b2, b3⟩ := h_bd h ht hh
    have hht := h.height
    have sc : ∀ (P1 P2 : Int → Prop) (lo hi : Int), (∀ a b, lo ≤ a → a ≤ b → b ≤ hi → P1 a → P1 b) → (∀ a b, lo ≤ a → a ≤ b → b ≤ hi → P2 a → P2 b) → ∃ K1 K2, SC P1 P2 lo hi K1 K2 := by
      intro P1 P2 lo hi m1 m2
      by_cases hl : lo ≤ hi
      · obtain ⟨K1, c1⟩ := cut_ex (by omega) m1
        obtain ⟨K2, c2⟩ := cut_ex (by omega) m2
        exact ⟨K1, K2, .inr ⟨hl, c1, c2⟩⟩
      · exact ⟨lo, lo, .inl ⟨by omega, rfl, rfl⟩⟩
    obtain ⟨K1, K2, e1⟩ := sc (fun y => leastOf p t c ≤ arcOf p y) (fun y => greatOf p t c < arcOf p y) (hLo p t) (min (hHi p t) (midOf p))
      (fun a b ha hab hb hp => Int.le_trans hp (arc_up h (by omega) hab (by unfold midOf at hb; omega))) (fun a b ha hab hb hp => Int.lt_of_lt_of_le hp (arc_up h (by omega) hab (by unfold midOf at hb; omega)))
    obtain ⟨K3, K4, e2⟩ := sc (fun y => arcOf p y ≤ greatOf p t c) (fun y => arcOf p y < leastOf p t c) (max (hLo p t) (midOf p + 1)) (hHi p t)
      (fun a b ha hab hb hp => Int.le_trans (arc_down h (by unfold midOf at ha; omega) hab (by omega)) hp) (fun a b ha hab hb hp => Int.lt_of_le_of_lt (arc_down h (by unfold midOf at ha; omega) hab (by omega)) hp)
    exact ⟨_, .inr ⟨hh, K1, K2, K3, K4, ⟨e1, e2⟩, rfl⟩⟩
  · exact ⟨[], .inl ⟨by omega, rfl⟩⟩
/-- what such heights are like -/
theorem hts_bd {p : Pap} {t : Pt} {c : Int} {L : List (Int × Int)} (h : p.Ok) (ht : t.Ok) (hL : HtsL p t c L) :
    (∀ (k : Nat) (s : Int × Int), L[k]? = some s → 0 ≤ s.1 ∧ s.1 ≤ s.2 ∧ s.2 ≤ p.height) ∧ (∀ s s' : Int × Int, L[0]? = some s → L[1]? = some s' → s.2 < s'.1) ∧ L.length ≤ 2 := by
  rcases hL with ⟨_, rfl⟩ | ⟨hh, K1, K2, K3, K4, ⟨e1, e2⟩, rfl⟩
  · simp
  · obtain ⟨b1, b2, b3⟩ := h_bd h ht hh
    have f1 : K1 ≤ K2 - 1 → 0 ≤ K1 ∧ K2 - 1 ≤ min (hHi p t) (midOf p) := by
      intro hK
      rcases e1 with ⟨_, x, y⟩ | ⟨_, c1, c2⟩
      · omega
      · have := c1.1; have := c2.2.1; omega
    have f2 : K3 ≤ K4 - 1 → midOf p + 1 ≤ K3 ∧ 0 ≤ K3 ∧ K4 - 1 ≤ hHi p t := by
      intro hK
      rcases e2 with ⟨_, x, y⟩ | ⟨_, c1, c2⟩
      · omega
      · have := c1.1; have := c2.2.1; omega
    by_cases hB : K1 ≤ K2 - 1
    · by_cases hA : K3 ≤ K4 - 1
      · rw [if_pos hB, if_pos hA]
        refine ⟨fun k s hs => ?_, fun s s' h1 h2 => ?_, by simp⟩
        · have g1 := f1 hB; have g2 := f2 hA
          match k with
          | 0 => simp at hs; subst hs; exact ⟨g1.1, hB, by show K2 - 1 ≤ _; omega⟩
          | 1 => simp at hs; subst hs; exact ⟨g2.2.1, hA, by show K4 - 1 ≤ _; omega⟩
          | k + 2 => simp at hs
        · simp at h1 h2; subst h1; subst h2
          have g1 := f1 hB; have g2 := f2 hA
          show K2 - 1 < K3; omega
      · rw [if_pos hB, if_neg hA]
        refine ⟨fun k s hs => ?_, fun s s' h1 h2 => by simp at h2, by simp⟩
        have g1 := f1 hB
        match k with
        | 0 => simp at hs; subst hs; exact ⟨g1.1, hB, by show K2 - 1 ≤ _; omega⟩
        | k + 1 => simp at hs
    · by_cases hA : K3 ≤ K4 - 1
      · rw [if_neg hB, if_pos hA]
        refine ⟨fun k s hs => ?_, fun s s' h1 h2 => by simp at h2, by simp⟩
        have g2 := f2 hA
        match k with
        | 0 => simp at hs; subst hs; exact ⟨g2.2.1, hA, by show K4 - 1 ≤ _; omega⟩
        | k + 1 => simp at hs
      · rw [if_neg hB, if_neg hA]
        simp
theorem lev_mono {p : Pap} {a b : Int} (h : p.Ok) (hab : a ≤ b) : lev p a ≤ lev p b := by
  unfold lev
  have h4 := h.low
  have h2 := h.height
  have : a * (p.high - p.low) ≤ b * (p.high - p.low) := Int.mul_le_mul_of_nonneg_right hab (by omega)
  have := Int.ediv_le_ediv (c := p.height) (by omega) this
  omega
theorem lev_bd {p : Pap} {a : Int} (h : p.Ok) (ha : 0 ≤ a ∧ a ≤ p.height) : 0 ≤ lev p a ∧ lev p a ≤ p.high := by
  have h4 := h.low
  have h2 := h.height
  have e0 : lev p 0 = p.low := by unfold lev; simp
  have e1 : lev p p.height = p.high := by unfold lev; rw [Int.mul_ediv_cancel_left _ (by omega)]; omega
  have g0 := lev_mono h ha.1
  have g1 := lev_mono h ha.2
  omega
end Go.Proofs.Ytmeljcbefnojfaa
