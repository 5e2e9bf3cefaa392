import Derived.Test.YtmeljcbefnojfaaMee
import Derived.Test.YtmeljcbefnojfaaPld
import Derived.Test.YtmeljcbefnojfaaShr
import Derived.Test.YtmeljcbefnojfaaLwA
namespace Go.Proofs.Ytmeljcbefnojfaa
open Go.RowKit
/-- each span of the second list lies in one of the first -/
def Cov (l l' : List (Int × Int)) : Prop := ∀ s' ∈ l', ∃ s ∈ l, s.1 ≤ s'.1 ∧ s'.2 ≤ s.2
def two (a b c d : Int) : List (Int × Int) := (if a ≤ b then [(a, b)] else []) ++ (if c ≤ d then [(c, d)] else [])
theorem sc_below {a : Int → Int} {l g lo hi K1 K2 : Int} (e : SC (fun y => l ≤ a y) (fun y => g < a y) lo hi K1 K2) (y : Int) : (K1 ≤ y ∧ y ≤ K2 - 1) ↔ (lo ≤ y ∧ y ≤ hi ∧ l ≤ a y ∧ a y ≤ g) := by
  rcases e with ⟨h, rfl, rfl⟩ | ⟨_, ⟨a1, a2, a3⟩, b1, b2, b3⟩
  · omega
  · constructor
    · rintro ⟨h1, h2⟩
      have g1 := (a3 y (by omega) (by omega)).2 h1
      have g2 : ¬ g < a y := fun hh => by have := (b3 y (by omega) (by omega)).1 hh; omega
      exact ⟨by omega, by omega, g1, by omega⟩
    · rintro ⟨h1, h2, h3, h4⟩
      have g1 := (a3 y h1 h2).1 h3
      have g2 : ¬ K2 ≤ y := fun hh => by have := (b3 y h1 h2).2 hh; omega
      omega
theorem sc_above {a : Int → Int} {l g lo hi K1 K2 : Int} (e : SC (fun y => a y ≤ g) (fun y => a y < l) lo hi K1 K2) (y : Int) : (K1 ≤ y ∧ y ≤ K2 - 1) ↔ (lo ≤ y ∧ y ≤ hi ∧ l ≤ a y ∧ a y ≤ g) := by
  rcases e with ⟨h, rfl, rfl⟩ | ⟨_, ⟨a1, a2, a3⟩, b1, b2, b3⟩
  · omega
  · constructor
    · rintro ⟨h1, h2⟩
      have g1 := (a3 y (by omega) (by omega)).2 h1
      have g2 : ¬ a y < l := fun hh => by have := (b3 y (by omega) (by omega)).1 hh; omega
      exact ⟨by omega, by omega, by omega, g1⟩
    · rintro ⟨h1, h2, h3, h4⟩
      have g1 := (a3 y h1 h2).1 h4
      have g2 : ¬ K2 ≤ y := fun hh => by have := (b3 y h1 h2).2 hh; omega
      omega
/-- what the spans of heights mean -/
theorem means_two {p : Pap} (h : p.Ok) {a b c d : Int} (hab : a ≤ b → c ≤ d → b < c) :
    meansOf p (two a b c d) = if a ≤ b then (if c ≤ d then (if lev p c - 1 ≤ lev p b then [(lev p a, lev p d)] else [(lev p a, lev p b), (lev p c, lev p d)]) else [(lev p a, lev p b)]) else (if c ≤ d then [(lev p c, lev p d)] else []) := by
  by_cases h1 : a ≤ b
  · by_cases h2 : c ≤ d
    · have h3 := hab h1 h2
      have m1 := lev_mono h (show a ≤ c by omega)
      have m2 := lev_mono h (show b ≤ d by omega)
      have m3 : min (lev p c) (lev p a) = lev p a := by omega
      have m4 : max (lev p d) (lev p b) = lev p d := by omega
      simp only [two, if_pos h1, if_pos h2, meansOf, addL, List.foldl_cons, List.foldl_nil, List.cons_append, List.nil_append, m3, m4]
    · simp only [two, if_pos h1, if_neg h2, meansOf, addL, List.foldl_cons, List.foldl_nil, List.append_nil]
  · by_cases h2 : c ≤ d
    · simp only [two, if_neg h1, if_pos h2, meansOf, addL, List.foldl_cons, List.foldl_nil, List.nil_append]
    · simp only [two, if_neg h1, if_neg h2, meansOf, List.foldl_nil, List.append_nil]
theorem cov_two {p : Pap} (h : p.Ok) {a b c d a' b' c' d' : Int} (hab : a ≤ b → c ≤ d → b < c) (hab' : a' ≤ b' → c' ≤ d' → b' < c')
    (h1 : a' ≤ b' → a ≤ a' ∧ b' ≤ b) (h2 : c' ≤ d' → c ≤ c' ∧ d' ≤ d) : Cov (meansOf p (two a b c d)) (meansOf p (two a' b' c' d')) := by
  rw [means_two h hab, means_two h hab']
  intro s hs
  by_cases e1 : a' ≤ b'
  · obtain ⟨g1, g2⟩ := h1 e1
    have m1 := lev_mono h g1
    have m2 := lev_mono h g2
    rw [if_pos (show a ≤ b by omega)]
    by_cases e2 : c' ≤ d'
    · obtain ⟨g3, g4⟩ := h2 e2
      have m3 := lev_mono h g3
      have m4 := lev_mono h g4
      have g5 := hab (by omega) (by omega)
      have m5 := lev_mono h (show b ≤ d by omega)
      have m6 := lev_mono h (show a ≤ c by omega)
      rw [if_pos (show c ≤ d by omega)]
      rw [if_pos e1, if_pos e2] at hs
      by_cases e3 : lev p c - 1 ≤ lev p b
      · rw [if_pos e3]
        refine ⟨_, List.mem_singleton.2 rfl, ?_⟩
        by_cases e4 : lev p c' - 1 ≤ lev p b'
        · rw [if_pos e4, List.mem_singleton] at hs; subst hs; exact ⟨m1, m4⟩
        · rw [if_neg e4] at hs
          simp only [List.mem_cons, List.not_mem_nil, or_false] at hs
          rcases hs with rfl | rfl
          · exact ⟨m1, by show lev p b' ≤ lev p d; omega⟩
          · exact ⟨by show lev p a ≤ lev p c'; omega, m4⟩
      · rw [if_neg e3]
        rw [if_neg (show ¬ lev p c' - 1 ≤ lev p b' by omega)] at hs
        simp only [List.mem_cons, List.not_mem_nil, or_false] at hs
        rcases hs with rfl | rfl
        · exact ⟨_, List.mem_cons_self .., m1, m2⟩
        · exact ⟨_, List.mem_cons_of_mem _ (List.mem_cons_self ..), m3, m4⟩
    · rw [if_pos e1, if_neg e2, List.mem_singleton] at hs
      subst hs
      by_cases e5 : c ≤ d
      · rw [if_pos e5]
        have g5 := hab (by omega) e5
        have m5 := lev_mono h (show b ≤ d by omega)
        by_cases e3 : lev p c - 1 ≤ lev p b
        · rw [if_pos e3]; exact ⟨_, List.mem_singleton.2 rfl, m1, by show lev p b' ≤ lev p d; omega⟩
        · rw [if_neg e3]; exact ⟨_, List.mem_cons_self .., m1, m2⟩
      · rw [if_neg e5]; exact ⟨_, List.mem_singleton.2 rfl, m1, m2⟩
  · rw [if_neg e1] at hs
    by_cases e2 : c' ≤ d'
    · obtain ⟨g3, g4⟩ := h2 e2
      have m3 := lev_mono h g3
      have m4 := lev_mono h g4
      rw [if_pos e2, List.mem_singleton] at hs
      subst hs
      by_cases e5 : a ≤ b
      · have g5 := hab e5 (by omega)
        have m6 := lev_mono h (show a ≤ c by omega)
        rw [if_pos e5, if_pos (show c ≤ d by omega)]
        by_cases e3 : lev p c - 1 ≤ lev p b
        · rw [if_pos e3]; exact ⟨_, List.mem_singleton.2 rfl, by show lev p a ≤ lev p c'; omega, m4⟩
        · rw [if_neg e3]; exact ⟨_, List.mem_cons_of_mem _ (List.mem_cons_self ..), m3, m4⟩
      · rw [if_neg e5, if_pos (show c ≤ d by omega)]
        exact ⟨_, List.mem_singleton.2 rfl, m3, m4⟩
    · rw [if_neg e2] at hs; cases hs
theorem div_anti {a b b' : Int} (ha : 0 ≤ a) (hb : 1 ≤ b') (hbb : b' ≤ b) : a / b ≤ a / b' := by
  refine Int.le_ediv_of_mul_le (by omega) ?_
  have h0 : 0 ≤ a / b := Int.ediv_nonneg ha (by omega)
  have h1 : a / b * b ≤ a := Int.ediv_mul_le a (by omega)
  have h2 : a / b * b' ≤ a / b * b := Int.mul_le_mul_of_nonneg_left hbb h0
  omega
theorem prLo_mono {n h h' hi hi' : Int} (hh : h' ≤ h) (hi0 : 1 ≤ hi') (hi1 : hi' ≤ hi) : prLo n h hi ≤ prLo n h' hi' := by
  unfold prLo
  by_cases hn : n < h
  · have : (n - h) * 1000 / hi < 0 := Int.ediv_neg_of_neg_of_pos (by omega) (by omega)
    omega
  · have h1 : (n - h) * 1000 / hi ≤ (n - h') * 1000 / hi := Int.ediv_le_ediv (by omega) (by omega)
    have h2 := div_anti (a := (n - h') * 1000) (by omega) hi0 hi1
    omega
theorem prHi_mono {n h h' lo lo' : Int} (hn : 0 ≤ n) (hh0 : 0 ≤ h') (hh : h' ≤ h) (hi0 : 1 ≤ lo) (hi1 : lo ≤ lo') : prHi n h' lo' ≤ prHi n h lo := by
  unfold prHi
  have h1 : (n + h') * 1000 / lo' ≤ (n + h) * 1000 / lo' := Int.ediv_le_ediv (by omega) (by omega)
  have h2 := div_anti (a := (n + h) * 1000) (by omega) hi0 hi1
  omega
/-- a paper of which more is known, a thinner line -/
def narP (p : Pap) (al ah cl ch : Int) : Pap := { p with al := al, ah := ah, cl := cl, ch := ch }
def narT (t : Pt) (k : Int) : Pt := { t with half := k }
structure Nar (p q : Pap) (t x : Pt) : Prop where
  ok : p.Ok
  okq : q.Ok
  okt : t.Ok
  okx : x.Ok
  lev : ∀ y, Go.Proofs.Ytmeljcbefnojfaa.lev q y = Go.Proofs.Ytmeljcbefnojfaa.lev p y
  arc : ∀ y, arcOf q y = arcOf p y
  hgt : q.height = p.height
  pit : q.pitch = p.pitch
  col : q.cols = p.cols
  a1 : alongLo p t ≤ alongLo q x
  a2 : alongHi q x ≤ alongHi p t
  c1 : acrossLo p t ≤ acrossLo q x
  c2 : acrossHi q x ≤ acrossHi p t
theorem nar_of {p : Pap} {t : Pt} {al ah cl ch k : Int} (h : p.Ok) (ht : t.Ok) (hq : (narP p al ah cl ch).Ok) (hx : (narT t k).Ok) (h1 : p.al ≤ al) (h2 : ah ≤ p.ah) (h3 : p.cl ≤ cl) (h4 : ch ≤ p.ch) (hk : k ≤ t.half) : Nar p (narP p al ah cl ch) t (narT t k) := by
  have p7 := h.along
  have p8 := h.across
  have q7 := hq.along
  have q8 := hq.across
  have x3 := hx.half
  have tx := ht.x
  have ty := ht.y
  simp only [narP, narT] at q7 q8 x3
  exact ⟨h, hq, ht, hx, fun _ => rfl, fun _ => rfl, rfl, rfl, rfl, prLo_mono hk (by show 1 ≤ ah; omega) h2, prHi_mono (by show 0 ≤ t.x; omega) (by show 0 ≤ k; omega) hk (by omega) h1, prLo_mono hk (by show 1 ≤ ch; omega) h4, prHi_mono (by show 0 ≤ t.y; omega) (by show 0 ≤ k; omega) hk (by omega) h3⟩
theorem Nar.hLo {p q : Pap} {t x : Pt} (n : Nar p q t x) : Go.Proofs.Ytmeljcbefnojfaa.hLo p t ≤ Go.Proofs.Ytmeljcbefnojfaa.hLo q x := n.c1
theorem Nar.hHi {p q : Pap} {t x : Pt} (n : Nar p q t x) : Go.Proofs.Ytmeljcbefnojfaa.hHi q x ≤ Go.Proofs.Ytmeljcbefnojfaa.hHi p t := by
  have := n.c2
  have := n.hgt
  unfold Go.Proofs.Ytmeljcbefnojfaa.hHi
  omega
theorem nar_means {p q : Pap} {t x : Pt} {c : Int} {L L' : List (Int × Int)} (n : Nar p q t x) (hL : HtsL p t c L) (hL' : HtsL q x c L') : Cov (meansOf p L) (meansOf q L') := by
  have em : meansOf q L' = meansOf p L' := by
    unfold meansOf
    congr 1
    funext acc s
    rw [n.lev, n.lev]
  rw [em]
  have l1 := n.hLo
  have l2 := n.hHi
  have l3 := n.hgt
  rcases hL' with ⟨_, rfl⟩ | ⟨hh', J1, J2, J3, J4, ⟨e1', e2'⟩, rfl⟩
  · intro s hs; cases hs
  rcases hL with ⟨hh, rfl⟩ | ⟨hh, K1, K2, K3, K4, ⟨e1, e2⟩, rfl⟩
  · omega
  have hm : midOf q = midOf p := by unfold midOf; rw [l3]
  have hl : leastOf p t c ≤ leastOf q x c := by unfold leastOf; have := n.a1; rw [n.pit]; omega
  have hg : greatOf q x c ≤ greatOf p t c := by unfold greatOf; have := n.a2; rw [n.pit]; omega
  refine cov_two n.ok ?_ ?_ ?_ ?_
  · intro f1 f2
    have g1 := (sc_below e1 (K2 - 1)).1 ⟨f1, Int.le_refl _⟩
    have g2 := (sc_above e2 K3).1 ⟨Int.le_refl _, f2⟩
    omega
  · intro f1 f2
    have g1 := (sc_below e1' (J2 - 1)).1 ⟨f1, Int.le_refl _⟩
    have g2 := (sc_above e2' J3).1 ⟨Int.le_refl _, f2⟩
    omega
  · intro f1
    have g1 := (sc_below e1' J1).1 ⟨Int.le_refl _, f1⟩
    have g2 := (sc_below e1' (J2 - 1)).1 ⟨f1, Int.le_refl _⟩
    rw [n.arc] at g1 g2
    have k1 := (sc_below e1 J1).2 ⟨by omega, by omega, by omega, by omega⟩
    have k2 := (sc_below e1 (J2 - 1)).2 ⟨by omega, by omega, by omega, by omega⟩
    omega
  · intro f1
    have g1 := (sc_above e2' J3).1 ⟨Int.le_refl _, f1⟩
    have g2 := (sc_above e2' (J4 - 1)).1 ⟨f1, Int.le_refl _⟩
    rw [n.arc] at g1 g2
    have k1 := (sc_above e2 J3).2 ⟨by omega, by omega, by omega, by omega⟩
    have k2 := (sc_above e2 (J4 - 1)).2 ⟨by omega, by omega, by omega, by omega⟩
    omega
theorem ar_bd {p : Pap} {lo hi y : Int} (h : p.Ok) (h0 : 0 ≤ lo) (h1 : hi ≤ p.height) (hy : lo ≤ y ∧ y ≤ hi) : arLo p lo hi ≤ arcOf p y ∧ arcOf p y ≤ arHi p lo hi := by
  have hm := arc_mid h (y := y) (by omega)
  constructor
  · unfold arLo
    by_cases hh : y ≤ p.height / 2
    · have := arc_up h h0 hy.1 hh; omega
    · have := arc_down h (a := y) (b := hi) (by omega) hy.2 h1; omega
  · unfold arHi clMid
    by_cases c1 : hi ≤ p.height / 2
    · rw [show min (max (p.height / 2) lo) hi = hi by omega]
      exact arc_up h (by omega) hy.2 c1
    · by_cases c2 : lo ≤ p.height / 2
      · rw [show min (max (p.height / 2) lo) hi = p.height / 2 by omega]; exact hm
      · rw [show min (max (p.height / 2) lo) hi = lo by omega]
        exact arc_down h (by omega) hy.1 (by omega)
theorem nar_cols {p q : Pap} {t x : Pt} (n : Nar p q t x) (hs : ColSome q x) : ColSome p t ∧ cLo p t ≤ cLo q x ∧ cHi q x ≤ cHi p t := by
  obtain ⟨s1, s2⟩ := hs
  have l1 := n.hLo
  have l2 := n.hHi
  have l3 := n.hgt
  have bq := h_bd n.okq n.okx s1
  have bp := h_bd n.ok n.okt (show hLo p t ≤ p.height by omega)
  have hp := n.ok.pitch
  have m0 : 0 ≤ clMid q (hLo q x) (hHi q x) ∧ hLo q x ≤ clMid q (hLo q x) (hHi q x) ∧ clMid q (hLo q x) (hHi q x) ≤ hHi q x := by unfold clMid; omega
  have e1 : arHi q (hLo q x) (hHi q x) ≤ arHi p (hLo p t) (hHi p t) := by
    have := (ar_bd n.ok bp.1 bp.2.2 (y := clMid q (hLo q x) (hHi q x)) (by omega)).2
    unfold arHi at this ⊢
    rw [n.arc]; exact this
  have e2 : arLo p (hLo p t) (hHi p t) ≤ arLo q (hLo q x) (hHi q x) := by
    have g1 := (ar_bd n.ok bp.1 bp.2.2 (y := hLo q x) (by omega)).1
    have g2 := (ar_bd n.ok bp.1 bp.2.2 (y := hHi q x) (by omega)).1
    unfold arLo at g1 g2 ⊢
    rw [n.arc, n.arc]; omega
  have k1 : cLo p t ≤ cLo q x := by
    unfold cLo colLo
    rw [n.pit]
    have := Int.ediv_le_ediv (c := p.pitch) (a := alongLo p t - arHi p (hLo p t) (hHi p t)) (b := alongLo q x - arHi q (hLo q x) (hHi q x)) (by omega) (by have := n.a1; omega)
    omega
  have k2 : cHi q x ≤ cHi p t := by
    unfold cHi colHi
    rw [n.pit, n.col]
    have := Int.ediv_le_ediv (c := p.pitch) (a := alongHi q x - arLo q (hLo q x) (hHi q x)) (b := alongHi p t - arLo p (hLo p t) (hHi p t)) (by omega) (by have := n.a2; omega)
    omega
  exact ⟨⟨by omega, by omega⟩, k1, k2⟩
end Go.Proofs.Ytmeljcbefnojfaa
