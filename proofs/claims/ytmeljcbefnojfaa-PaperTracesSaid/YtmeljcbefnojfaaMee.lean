import Derived.Test.YtmeljcbefnojfaaMns
import Derived.Test.YtmeljcbefnojfaaShr
import Derived.Test.YtmeljcbefnojfaaPlc
import Derived.Test.YtmeljcbefnojfaaSam
namespace Go.Proofs.Ytmeljcbefnojfaa
open Go.RowKit
set_option maxHeartbeats 1000000 in
theorem Means_err (p : Pap) (t : Pt) (c : Int) (w : World) (h : ptE p t ≠ 0) :
    Calls Try.prog 46 #[p.v, t.v, .int .i64 c] w fun e w' => e = .returned (.tuple #[.slice none 0 0, .int .i64 (ptE p t)]) ∧ Below w.heap.size w w' := by
  have d : (ptE p t == 0) = false := by simpa using h
  have d' : (ptE p t != 0) = true := by simpa using h
  clear h
  go_enter Try.func46, Try.ntmps46
  go_wp2_with fail
  refine (check_any p t _).mono ?_
  rintro e w1 ⟨rfl, hb⟩
  obtain ⟨hc, hf⟩ := bcell hb
  have hz := hb.size
  simp only [World.size_alloc] at hz
  go_wp2_with fail
  go_ret2
  exact ⟨rfl, (box2 _ _ _).trans (hb.mono (by simp only [World.size_alloc]; omega))⟩
set_option maxHeartbeats 1000000 in
theorem Means_arg (p : Pap) (t : Pt) (c : Int) (w : World) (h : p.Ok) (ht : t.Ok) (hc : ¬ (0 ≤ c ∧ c ≤ p.cols - 1)) :
    Calls Try.prog 46 #[p.v, t.v, .int .i64 c] w fun e w' => e = .returned (.tuple #[.slice none 0 0, .int .i64 1]) ∧ Below w.heap.size w w' := by
  have hco := h.cols
  go_enter Try.func46, Try.ntmps46
  go_wp2_with fail
  refine (check_ok p t _ h ht).mono ?_
  rintro e w1 ⟨rfl, hb⟩
  obtain ⟨hc1, hf⟩ := bcell hb
  have hz := hb.size
  simp only [World.size_alloc] at hz
  have z0 : w.heap.size < w1.heap.size := by omega
  go_wp2_with fail
  refine (between_f _ _ _ _ hc).mono ?_
  rintro e w2 ⟨rfl, rfl⟩
  go_wp2_with fail
  go_ret2
  exact ⟨rfl, (box2 _ _ _).trans (hb.mono (by simp only [World.size_alloc]; omega))⟩
end Go.Proofs.Ytmeljcbefnojfaa
namespace Go.Proofs.Ytmeljcbefnojfaa
open Go.RowKit
/-- each span of the second list lies in one of the first -/
def Cov (l l' : List (Int × Int)) : Prop := ∀ s' ∈ l', ∃ s ∈ l, s.1 ≤ s'.1 ∧ s'.2 ≤ s.2
def two (a b c d : Int) : List (Int × Int) := (if a ≤ b then [(a, b)] else []) ++ (if c ≤ d then [(c, d)] else [])
theorem sc_below {a : Int → Int} {l g lo hi K1 K2 : Int} (e : SC (fun y => l ≤ a y) (fun y => g < a y) lo hi K1 K2) (y : Int) : (K1 ≤ y ∧ y ≤ K2 - 1) ↔ (lo ≤ y ∧ y ≤ hi ∧ l ≤ a y ∧ a y ≤ g) := by
  rcases e with ⟨h, rfl, rfl⟩ | ⟨_, ⟨a1, a2, a3⟩, b1, b2, b3⟩
  · omega
  · constructor
    · rintro ⟨h1, h2⟩
      have g1 := (a3 y (by omega) (by omega)).2 h1
      have g2 : ¬ g < a y := fun hh => by have := (b3 y (by omega) (by omega)).1 hh; omega
      exact ⟨by omega, by omega, g1, by omega⟩
    · rintro ⟨h1, h2, h3, h4⟩
      have g1 := (a3 y h1 h2).1 h3
      have g2 : ¬ K2 ≤ y := fun hh => by have := (b3 y h1 h2).2 hh; omega
      omega
theorem sc_above {a : Int → Int} {l g lo hi K1 K2 : Int} (e : SC (fun y => a y ≤ g) (fun y => a y < l) lo hi K1 K2) (y : Int) : (K1 ≤ y ∧ y ≤ K2 - 1) ↔ (lo ≤ y ∧ y ≤ hi ∧ l ≤ a y ∧ a y ≤ g) := by
  rcases e with ⟨h, rfl, rfl⟩ | ⟨_, ⟨a1, a2, a3⟩, b1, b2, b3⟩
  · omega
  · constructor
    · rintro ⟨h1, h2⟩
      have g1 := (a3 y (by omega) (by omega)).2 h1
      have g2 : ¬ a y < l := fun hh => by have := (b3 y (by omega) (by omega)).1 hh; omega
      exact ⟨by omega, by omega, by omega, g1⟩
    · rintro ⟨h1, h2, h3, h4⟩
      have g1 := (a3 y h1 h2).1 h4
      have g2 : ¬ K2 ≤ y := fun hh => by have := (b3 y h1 h2).2 hh; omega
      omega
/-- what the spans of heights mean -/
theorem means_two {p : Pap} (h : p.Ok) {a b c d : Int} (hab : a ≤ b → c ≤ d → b < c) :
    meansOf p (two a b c d) = if a ≤ b then (if c ≤ d then (if lev p c - 1 ≤ lev p b then [(lev p a, lev p d)] else [(lev p a, lev p b), (lev p c, lev p d)]) else [(lev p a, lev p b)]) else (if c ≤ d then [(lev p c, lev p d)] else []) := by
  by_cases h1 : a ≤ b
  · by_cases h2 : c ≤ d
    · have h3 := hab h1 h2
      have m1 := lev_mono h (show a ≤ c by omega)
      have m2 := lev_mono h (show b ≤ d by omega)
      have m3 : min (lev p c) (lev p a) = lev p a := by omega
      have m4 : max (lev p d) (lev p b) = lev p d := by omega
      simp only [two, if_pos h1, if_pos h2, meansOf, addL, List.foldl_cons, List.foldl_nil, List.cons_append, List.nil_append, m3, m4]
    · simp only [two, if_pos h1, if_neg h2, meansOf, addL, List.foldl_cons, List.foldl_nil, List.append_nil]
  · by_cases h2 : c ≤ d
    · simp only [two, if_neg h1, if_pos h2, meansOf, addL, List.foldl_cons, List.foldl_nil, List.nil_append]
    · simp only [two, if_neg h1, if_neg h2, meansOf, List.foldl_nil, List.append_nil]
theorem cov_two {p : Pap} (h : p.Ok) {a b c d a' b' c' d' : Int} (hab : a ≤ b → c ≤ d → b < c) (hab' : a' ≤ b' → c' ≤ d' → b' < c')
    (h1 : a' ≤ b' → a ≤ a' ∧ b' ≤ b) (h2 : c' ≤ d' → c ≤ c' ∧ d' ≤ d) : Cov (meansOf p (two a b c d)) (meansOf p (two a' b' c' d')) := by
  rw [means_two h hab, means_two h hab']
  intro s hs
  by_cases e1 : a' ≤ b'
  · obtain ⟨g1, g2⟩ := h1 e1
    have m1 := lev_mono h g1
    have m2 := lev_mono h g2
    rw [if_pos (show a ≤ b by omega)]
    by_cases e2 : c' ≤ d'
    · obtain ⟨g3, g4⟩ := h2 e2
      have m3 := lev_mono h g3
      have m4 := lev_mono h g4
      have g5 := hab (by omega) (by omega)
      have m5 := lev_mono h (show b ≤ d by omega)
      have m6 := lev_mono h (show a ≤ c by omega)
      rw [if_pos (show c ≤ d by omega)]
      rw [if_pos e1, if_pos e2] at hs
      by_cases e3 : lev p c - 1 ≤ lev p b
      · rw [if_pos e3]
        refine ⟨_, List.mem_singleton.2 rfl, ?_⟩
        by_cases e4 : lev p c' - 1 ≤ lev p b'
        · rw [if_pos e4, List.mem_singleton] at hs; subst hs; exact ⟨m1, m4⟩
        · rw [if_neg e4] at hs
          simp only [List.mem_cons, List.not_mem_nil, or_false] at hs
          rcases hs with rfl | rfl
          · exact ⟨m1, by show lev p b' ≤ lev p d; omega⟩
          · exact ⟨by show lev p a ≤ lev p c'; omega, m4⟩
      · rw [if_neg e3]
        rw [if_neg (show ¬ lev p c' - 1 ≤ lev p b' by omega)] at hs
        simp only [List.mem_cons, List.not_mem_nil, or_false] at hs
        rcases hs with rfl | rfl
        · exact ⟨_, List.mem_cons_self .., m1, m2⟩
        · exact ⟨_, List.mem_cons_of_mem _ (List.mem_cons_self ..), m3, m4⟩
    · rw [if_pos e1, if_neg e2, List.mem_singleton] at hs
      subst hs
      by_cases e5 : c ≤ d
      · rw [if_pos e5]
        have g5 := hab (by omega) e5
        have m5 := lev_mono h (show b ≤ d by omega)
        by_cases e3 : lev p c - 1 ≤ lev p b
        · rw [if_pos e3]; exact ⟨_, List.mem_singleton.2 rfl, m1, by show lev p b' ≤ lev p d; omega⟩
        · rw [if_neg e3]; exact ⟨_, List.mem_cons_self .., m1, m2⟩
      · rw [if_neg e5]; exact ⟨_, List.mem_singleton.2 rfl, m1, m2⟩
  · rw [if_neg e1] at hs
    by_cases e2 : c' ≤ d'
    · obtain ⟨g3, g4⟩ := h2 e2
      have m3 := lev_mono h g3
      have m4 := lev_mono h g4
      rw [if_pos e2, List.mem_singleton] at hs
      subst hs
      by_cases e5 : a ≤ b
      · have g5 := hab e5 (by omega)
        have m6 := lev_mono h (show a ≤ c by omega)
        rw [if_pos e5, if_pos (show c ≤ d by omega)]
        by_cases e3 : lev p c - 1 ≤ lev p b
        · rw [if_pos e3]; exact ⟨_, List.mem_singleton.2 rfl, by show lev p a ≤ lev p c'; omega, m4⟩
        · rw [if_neg e3]; exact ⟨_, List.mem_cons_of_mem _ (List.mem_cons_self ..), m3, m4⟩
      · rw [if_neg e5, if_pos (show c ≤ d by omega)]
        exact ⟨_, List.mem_singleton.2 rfl, m3, m4⟩
    · rw [if_neg e2] at hs; cases hs
theorem div_anti {a b b' : Int} (ha : 0 ≤ a) (hb : 1 ≤ b') (hbb : b' ≤ b) : a / b ≤ a / b' := by
  refine Int.le_ediv_of_mul_le (by omega) ?_
  have h0 : 0 ≤ a / b := Int.ediv_nonneg ha (by omega)
  have h1 : a / b * b ≤ a := Int.ediv_mul_le a (by omega)
  have h2 : a / b * b' ≤ a / b * b := Int.mul_le_mul_of_nonneg_left hbb h0
  omega
theorem prLo_mono {n h h' hi hi' : Int} (hh : h' ≤ h) (hi0 : 1 ≤ hi') (hi1 : hi' ≤ hi) : prLo n h hi ≤ prLo n h' hi' := by
  unfold prLo
  by_cases hn : n < h
  · have : (n - h) * 1000 / hi < 0 := Int.ediv_neg_of_neg_of_pos (by omega) (by omega)
    omega
  · have h1 : (n - h) * 1000 / hi ≤ (n - h') * 1000 / hi := Int.ediv_le_ediv (by omega) (by omega)
    have h2 := div_anti (a := (n - h') * 1000) (by omega) hi0 hi1
    omega
theorem prHi_mono {n h h' lo lo' : Int} (hn : 0 ≤ n) (hh0 : 0 ≤ h') (hh : h' ≤ h) (hi0 : 1 ≤ lo) (hi1 : lo ≤ lo') : prHi n h' lo' ≤ prHi n h lo := by
  unfold prHi
  have h1 : (n + h') * 1000 / lo' ≤ (n + h) * 1000 / lo' := Int.ediv_le_ediv (by omega) (by omega)
  have h2 := div_anti (a := (n + h) * 1000) (by omega) hi0 hi1
  omega
/-- a paper of which more is known, a thinner line -/
def narP (p : Pap) (al ah cl ch : Int) : Pap := { p with al := al, ah := ah, cl := cl, ch := ch }
def narT (t : Pt) (k : Int) : Pt := { t with half := k }
structure Nar (p q : Pap) (t x : Pt) : Prop where
  ok : p.Ok
  okq : q.Ok
  okt : t.Ok
  okx : x.Ok
  lev : ∀ y, Go.Proofs.Ytmeljcbefnojfaa.lev q y = Go.Proofs.Ytmeljcbefnojfaa.lev p y
  arc : ∀ y, arcOf q y = arcOf p y
  hgt : q.height = p.height
  pit : q.pitch = p.pitch
  col : q.cols = p.cols
  a1 : alongLo p t ≤ alongLo q x
  a2 : alongHi q x ≤ alongHi p t
  c1 : acrossLo p t ≤ acrossLo q x
  c2 : acrossHi q x ≤ acrossHi p t
theorem nar_of {p : Pap} {t : Pt} {al ah cl ch k : Int} (h : p.Ok) (ht : t.Ok) (hq : (narP p al ah cl ch).Ok) (hx : (narT t k).Ok) (h1 : p.al ≤ al) (h2 : ah ≤ p.ah) (h3 : p.cl ≤ cl) (h4 : ch ≤ p.ch) (hk : k ≤ t.half) : Nar p (narP p al ah cl ch) t (narT t k) := by
  have p7 := h.along
  have p8 := h.across
  have q7 := hq.along
  have q8 := hq.across
  have x3 := hx.half
  have tx := ht.x
  have ty := ht.y
  simp only [narP, narT] at q7 q8 x3
  exact ⟨h, hq, ht, hx, fun _ => rfl, fun _ => rfl, rfl, rfl, rfl, prLo_mono hk (by show 1 ≤ ah; omega) h2, prHi_mono (by show 0 ≤ t.x; omega) (by show 0 ≤ k; omega) hk (by omega) h1, prLo_mono hk (by show 1 ≤ ch; omega) h4, prHi_mono (by show 0 ≤ t.y; omega) (by show 0 ≤ k; omega) hk (by omega) h3⟩
theorem Nar.hLo {p q : Pap} {t x : Pt} (n : Nar p q t x) : Go.Proofs.Ytmeljcbefnojfaa.hLo p t ≤ Go.Proofs.Ytmeljcbefnojfaa.hLo q x := n.c1
theorem Nar.hHi {p q : Pap} {t x : Pt} (n : Nar p q t x) : Go.Proofs.Ytmeljcbefnojfaa.hHi q x ≤ Go.Proofs.Ytmeljcbefnojfaa.hHi p t := by
  have := n.c2
  have := n.hgt
  unfold Go.Proofs.Ytmeljcbefnojfaa.hHi
  omega
theorem nar_means {p q : Pap} {t x : Pt} {c : Int} {L L' : List (Int × Int)} (n : Nar p q t x) (hL : HtsL p t c L) (hL' : HtsL q x c L') : Cov (meansOf p L) (meansOf q L') := by
  have em : meansOf q L' = meansOf p L' := by
    unfold meansOf
    congr 1
    funext acc s
    rw [n.lev, n.lev]
  rw [em]
  have l1 := n.hLo
  have l2 := n.hHi
  have l3 := n.hgt
  rcases hL' with ⟨_, rfl⟩ | ⟨hh', J1, J2, J3, J4, ⟨e1', e2'⟩, rfl⟩
  · intro s hs; cases hs
  rcases hL with ⟨hh, rfl⟩ | ⟨hh, K1, K2, K3, K4, ⟨e1, e2⟩, rfl⟩
  · omega
  have hm : midOf q = midOf p := by unfold midOf; rw [l3]
  have hl : leastOf p t c ≤ leastOf q x c := by unfold leastOf; have := n.a1; rw [n.pit]; omega
  have hg : greatOf q x c ≤ greatOf p t c := by unfold greatOf; have := n.a2; rw [n.pit]; omega
  refine cov_two n.ok ?_ ?_ ?_ ?_
  · intro f1 f2
    have g1 := (sc_below e1 (K2 - 1)).1 ⟨f1, Int.le_refl _⟩
    have g2 := (sc_above e2 K3).1 ⟨Int.le_refl _, f2⟩
    omega
  · intro f1 f2
    have g1 := (sc_below e1' (J2 - 1)).1 ⟨f1, Int.le_refl _⟩
    have g2 := (sc_above e2' J3).1 ⟨Int.le_refl _, f2⟩
    omega
  · intro f1
    have g1 := (sc_below e1' J1).1 ⟨Int.le_refl _, f1⟩
    have g2 := (sc_below e1' (J2 - 1)).1 ⟨f1, Int.le_refl _⟩
    rw [n.arc] at g1 g2
    have k1 := (sc_below e1 J1).2 ⟨by omega, by omega, by omega, by omega⟩
    have k2 := (sc_below e1 (J2 - 1)).2 ⟨by omega, by omega, by omega, by omega⟩
    omega
  · intro f1
    have g1 := (sc_above e2' J3).1 ⟨Int.le_refl _, f1⟩
    have g2 := (sc_above e2' (J4 - 1)).1 ⟨f1, Int.le_refl _⟩
    rw [n.arc] at g1 g2
    have k1 := (sc_above e2 J3).2 ⟨by omega, by omega, by omega, by omega⟩
    have k2 := (sc_above e2 (J4 - 1)).2 ⟨by omega, by omega, by omega, by omega⟩
    omega
theorem ar_bd {p : Pap} {lo hi y : Int} (h : p.Ok) (h0 : 0 ≤ lo) (h1 : hi ≤ p.height) (hy : lo ≤ y ∧ y ≤ hi) : arLo p lo hi ≤ arcOf p y ∧ arcOf p y ≤ arHi p lo hi := by
  have hm := arc_mid h (y := y) (by omega)
  constructor
  · unfold arLo
    by_cases hh : y ≤ p.height / 2
    · have := arc_up h h0 hy.1 hh; omega
    · have := arc_down h (a := y) (b := hi) (by omega) hy.2 h1; omega
  · unfold arHi clMid
    by_cases c1 : hi ≤ p.height / 2
    · rw [show min (max (p.height / 2) lo) hi = hi by omega]
      exact arc_up h (by omega) hy.2 c1
    · by_cases c2 : lo ≤ p.height / 2
      · rw [show min (max (p.height / 2) lo) hi = p.height / 2 by omega]; exact hm
      · rw [show min (max (p.height / 2) lo) hi = lo by omega]
        exact arc_down h (by omega) hy.1 (by omega)
theorem nar_cols {p q : Pap} {t x : Pt} (n : Nar p q t x) (hs : ColSome q x) : ColSome p t ∧ cLo p t ≤ cLo q x ∧ cHi q x ≤ cHi p t := by
  obtain ⟨s1, s2⟩ := hs
  have l1 := n.hLo
  have l2 := n.hHi
  have l3 := n.hgt
  have bq := h_bd n.okq n.okx s1
  have bp := h_bd n.ok n.okt (show hLo p t ≤ p.height by omega)
  have hp := n.ok.pitch
  have m0 : 0 ≤ clMid q (hLo q x) (hHi q x) ∧ hLo q x ≤ clMid q (hLo q x) (hHi q x) ∧ clMid q (hLo q x) (hHi q x) ≤ hHi q x := by unfold clMid; omega
  have e1 : arHi q (hLo q x) (hHi q x) ≤ arHi p (hLo p t) (hHi p t) := by
    have := (ar_bd n.ok bp.1 bp.2.2 (y := clMid q (hLo q x) (hHi q x)) (by omega)).2
    unfold arHi at this ⊢
    rw [n.arc]; exact this
  have e2 : arLo p (hLo p t) (hHi p t) ≤ arLo q (hLo q x) (hHi q x) := by
    have g1 := (ar_bd n.ok bp.1 bp.2.2 (y := hLo q x) (by omega)).1
    have g2 := (ar_bd n.ok bp.1 bp.2.2 (y := hHi q x) (by omega)).1
    unfold arLo at g1 g2 ⊢
    rw [n.arc, n.arc]; omega
  have k1 : cLo p t ≤ cLo q x := by
    unfold cLo colLo
    rw [n.pit]
    have := Int.ediv_le_ediv (c := p.pitch) (a := alongLo p t - arHi p (hLo p t) (hHi p t)) (b := alongLo q x - arHi q (hLo q x) (hHi q x)) (by omega) (by have := n.a1; omega)
    omega
  have k2 : cHi q x ≤ cHi p t := by
    unfold cHi colHi
    rw [n.pit, n.col]
    have := Int.ediv_le_ediv (c := p.pitch) (a := alongHi q x - arLo q (hLo q x) (hHi q x)) (b := alongHi p t - arLo p (hLo p t) (hHi p t)) (by omega) (by have := n.a2; omega)
    omega
  exact ⟨⟨by omega, by omega⟩, k1, k2⟩
end Go.Proofs.Ytmeljcbefnojfaa
namespace Go.Proofs.Ytmeljcbefnojfaa
open Go.RowKit
/-- the heights at which a point may lie in a column -/
def InS (p : Pap) (t : Pt) (c y : Int) : Prop := (hLo p t ≤ y ∧ y ≤ hHi p t) ∧ leastOf p t c ≤ arcOf p y ∧ arcOf p y ≤ greatOf p t c
theorem ins_two {p : Pap} {t : Pt} {c K1 K2 K3 K4 : Int} (hE : Ends p t c K1 K2 K3 K4) (y : Int) : InS p t c y ↔ (K1 ≤ y ∧ y ≤ K2 - 1) ∨ (K3 ≤ y ∧ y ≤ K4 - 1) := by
  have e1 := sc_below hE.below y
  have e2 := sc_above hE.above y
  unfold InS
  rw [e1, e2]
  omega
theorem ends_ord {p : Pap} {t : Pt} {c K1 K2 K3 K4 : Int} (hE : Ends p t c K1 K2 K3 K4) : K1 ≤ K2 - 1 → K3 ≤ K4 - 1 → K2 - 1 < K3 := by
  intro f1 f2
  have e1 := (sc_below hE.below (K2 - 1)).1 ⟨f1, Int.le_refl _⟩
  have e2 := (sc_above hE.above K3).1 ⟨Int.le_refl _, f2⟩
  omega
/-- places along and arcs -/
theorem wit_iff {p : Pap} {t : Pt} {c a : Int} (h : p.Ok) : ((alongLo p t - a) / p.pitch ≤ c ∧ c ≤ (alongHi p t - a) / p.pitch) ↔ leastOf p t c ≤ a ∧ a ≤ greatOf p t c := by
  have hp := h.pitch
  unfold leastOf greatOf
  have e1 : (alongLo p t - a) / p.pitch ≤ c ↔ (alongLo p t - a) / p.pitch < c + 1 := by omega
  rw [e1, Int.ediv_lt_iff_lt_mul (by omega), Int.le_ediv_iff_mul_le (by omega)]
  omega
theorem place_col {p : Pap} {t : Pt} {c a x : Int} (h : p.Ok) (hx : alongLo p t ≤ x ∧ x ≤ alongHi p t) (hc : (x - a) / p.pitch = c) : leastOf p t c ≤ a ∧ a ≤ greatOf p t c := by
  have hp := h.pitch
  refine (wit_iff h).1 ⟨?_, ?_⟩
  · rw [← hc]; exact Int.ediv_le_ediv (by omega) (by omega)
  · rw [← hc]; exact Int.ediv_le_ediv (by omega) (by omega)
/-- no number is left out -/
theorem ivt_up (f : Int → Int) (a v : Int) : ∀ n : Nat, (∀ y, a ≤ y → y < a + n → f (y + 1) ≤ f y + 1) → f a ≤ v → v ≤ f (a + n) → ∃ y, a ≤ y ∧ y ≤ a + n ∧ f y = v := by
  intro n
  induction n with
  | zero => intro _ h1 h2; exact ⟨a, by omega, by omega, by simp at h2; omega⟩
  | succ n ih =>
    intro hs h1 h2
    by_cases h3 : v ≤ f (a + n)
    · obtain ⟨y, y1, y2, y3⟩ := ih (fun y y1 y2 => hs y y1 (by omega)) h1 h3
      exact ⟨y, y1, by omega, y3⟩
    · have := hs (a + n) (by omega) (by omega)
      refine ⟨a + n + 1, by omega, by omega, ?_⟩
      rw [show a + ((n + 1 : Nat) : Int) = a + n + 1 by omega] at h2
      omega
theorem ivt_down (f : Int → Int) (a v : Int) (n : Nat) (hs : ∀ y, a ≤ y → y < a + n → f y ≤ f (y + 1) + 1) (h1 : v ≤ f a) (h2 : f (a + n) ≤ v) : ∃ y, a ≤ y ∧ y ≤ a + n ∧ f y = v := by
  obtain ⟨y, y1, y2, y3⟩ := ivt_up (fun y => -f y) a (-v) n (fun y y1 y2 => by have := hs y y1 y2; show -f (y + 1) ≤ -f y + 1; omega) (by show -f a ≤ -v; omega) (by show -v ≤ -f (a + n); omega)
  exact ⟨y, y1, y2, by omega⟩
theorem ivt {p : Pap} (h : p.Ok) {a b v : Int} (ha : 0 ≤ a) (hab : a ≤ b) (hb : b ≤ p.height) (hv : (arcOf p a ≤ v ∧ v ≤ arcOf p b) ∨ (v ≤ arcOf p a ∧ arcOf p b ≤ v)) : ∃ y, a ≤ y ∧ y ≤ b ∧ arcOf p y = v := by
  obtain ⟨n, rfl⟩ : ∃ n : Nat, b = a + n := ⟨(b - a).toNat, by omega⟩
  rcases hv with ⟨h1, h2⟩ | ⟨h1, h2⟩
  · exact ivt_up (arcOf p) a v n (fun y y1 y2 => by have := (arc_step h (y := y) (by omega)).1; omega) h1 h2
  · exact ivt_down (arcOf p) a v n (fun y y1 y2 => by have := (arc_step h (y := y) (by omega)).2; omega) h1 h2
theorem alongLo_le {p : Pap} {t : Pt} (h : p.Ok) (ht : t.Ok) : alongLo p t ≤ alongHi p t := by
  have h7 := h.along
  have hx := ht.x
  have hh := ht.half
  unfold alongLo alongHi prLo prHi
  have h1 : (t.x - t.half) * 1000 / p.ah ≤ (t.x + t.half) * 1000 / p.ah := Int.ediv_le_ediv (by omega) (by omega)
  have h2 := div_anti (a := (t.x + t.half) * 1000) (b := p.ah) (b' := p.al) (by omega) (by omega) (by omega)
  have h3 : 0 ≤ (t.x + t.half) * 1000 / p.al := Int.ediv_nonneg (by omega) (by omega)
  omega
/-- the columns of a point are those in which it has a height -/
theorem cols_iff {p : Pap} {t : Pt} {c : Int} (h : p.Ok) (ht : t.Ok) (hc : 0 ≤ c ∧ c ≤ p.cols - 1) : (∃ y, InS p t c y) ↔ (ColSome p t ∧ cLo p t ≤ c ∧ c ≤ cHi p t) := by
  have hp := h.pitch
  have hw : ∀ a, (alongLo p t - a) / p.pitch ≤ c ↔ leastOf p t c ≤ a := by
    intro a
    have e1 : (alongLo p t - a) / p.pitch ≤ c ↔ (alongLo p t - a) / p.pitch < c + 1 := by omega
    rw [e1, Int.ediv_lt_iff_lt_mul (by omega)]
    unfold leastOf
    omega
  have hw2 : ∀ a, c ≤ (alongHi p t - a) / p.pitch ↔ a ≤ greatOf p t c := by
    intro a
    rw [Int.le_ediv_iff_mul_le (by omega)]
    unfold greatOf
    omega
  have key : hLo p t ≤ p.height → ((cLo p t ≤ c ∧ c ≤ cHi p t) ↔ (leastOf p t c ≤ arHi p (hLo p t) (hHi p t) ∧ arLo p (hLo p t) (hHi p t) ≤ greatOf p t c)) := by
    intro _
    rw [← hw, ← hw2]
    unfold cLo cHi colLo colHi
    omega
  constructor
  · rintro ⟨y, ⟨y1, y2⟩, y3, y4⟩
    have hn : hLo p t ≤ p.height := by have : hHi p t ≤ p.height := by unfold hHi; omega
                                       omega
    have hb := h_bd h ht hn
    have ab := ar_bd h hb.1 hb.2.2 ⟨y1, y2⟩
    have k := (key hn).2 ⟨by omega, by omega⟩
    exact ⟨⟨hn, by omega⟩, k⟩
  · rintro ⟨⟨hn, _⟩, hk⟩
    have hb := h_bd h ht hn
    obtain ⟨k1, k2⟩ := (key hn).1 hk
    have hlg : leastOf p t c ≤ greatOf p t c := by
      have := alongLo_le h ht
      unfold leastOf greatOf
      rw [Int.add_mul]
      omega
    -- a number between
    obtain ⟨v, v1, v2, v3, v4⟩ : ∃ v, leastOf p t c ≤ v ∧ v ≤ greatOf p t c ∧ arLo p (hLo p t) (hHi p t) ≤ v ∧ v ≤ arHi p (hLo p t) (hHi p t) := by
      have hle : arLo p (hLo p t) (hHi p t) ≤ arHi p (hLo p t) (hHi p t) := by have := ar_bd h hb.1 hb.2.2 (y := hLo p t) (by omega); omega
      exact ⟨max (leastOf p t c) (arLo p (hLo p t) (hHi p t)), by omega, by omega, by omega, by omega⟩
    have m0 : hLo p t ≤ clMid p (hLo p t) (hHi p t) ∧ clMid p (hLo p t) (hHi p t) ≤ hHi p t := by unfold clMid; omega
    have hA : arHi p (hLo p t) (hHi p t) = arcOf p (clMid p (hLo p t) (hHi p t)) := rfl
    by_cases hl : arcOf p (hLo p t) ≤ v
    · obtain ⟨y, y1, y2, y3⟩ := ivt h hb.1 m0.1 (by omega) (.inl ⟨hl, by omega⟩)
      exact ⟨y, ⟨y1, by omega⟩, by omega, by omega⟩
    · have hr : arcOf p (hHi p t) ≤ v := by unfold arLo at v3; omega
      obtain ⟨y, y1, y2, y3⟩ := ivt h (by omega) m0.2 hb.2.2 (v := v) (.inr ⟨by omega, hr⟩)
      exact ⟨y, ⟨by omega, y2⟩, by omega, by omega⟩
/-- what a point means: the levels of its heights, and their ends -/
theorem means_has {p : Pap} {t : Pt} {c K1 K2 K3 K4 y : Int} (h : p.Ok) (hE : Ends p t c K1 K2 K3 K4) (hy : InS p t c y) : ∃ s ∈ meansOf p (two K1 (K2 - 1) K3 (K4 - 1)), s.1 ≤ lev p y ∧ lev p y ≤ s.2 := by
  have ho := ends_ord hE
  rw [means_two h ho]
  rcases (ins_two hE y).1 hy with ⟨y1, y2⟩ | ⟨y1, y2⟩
  · have f1 : K1 ≤ K2 - 1 := by omega
    have m1 := lev_mono h y1
    have m2 := lev_mono h y2
    rw [if_pos f1]
    by_cases f2 : K3 ≤ K4 - 1
    · have m3 := lev_mono h (show K2 - 1 ≤ K4 - 1 by have := ho f1 f2; omega)
      rw [if_pos f2]
      by_cases f3 : lev p K3 - 1 ≤ lev p (K2 - 1)
      · rw [if_pos f3]; exact ⟨_, List.mem_singleton.2 rfl, m1, by show lev p y ≤ lev p (K4 - 1); omega⟩
      · rw [if_neg f3]; exact ⟨_, List.mem_cons_self .., m1, m2⟩
    · rw [if_neg f2]; exact ⟨_, List.mem_singleton.2 rfl, m1, m2⟩
  · have f2 : K3 ≤ K4 - 1 := by omega
    have m1 := lev_mono h y1
    have m2 := lev_mono h y2
    rw [if_pos f2]
    by_cases f1 : K1 ≤ K2 - 1
    · have m3 := lev_mono h (show K1 ≤ K3 by have := ho f1 f2; omega)
      rw [if_pos f1]
      by_cases f3 : lev p K3 - 1 ≤ lev p (K2 - 1)
      · rw [if_pos f3]; exact ⟨_, List.mem_singleton.2 rfl, by show lev p K1 ≤ lev p y; omega, m2⟩
      · rw [if_neg f3]; exact ⟨_, List.mem_cons_of_mem _ (List.mem_cons_self ..), m1, m2⟩
    · rw [if_neg f1, if_pos f2]; exact ⟨_, List.mem_singleton.2 rfl, m1, m2⟩
def EndsOf (p : Pap) (t : Pt) (c : Int) (s : Int × Int) : Prop :=
  (∃ y, InS p t c y ∧ lev p y = s.1) ∧ (∃ y, InS p t c y ∧ lev p y = s.2) ∧ (∀ y, InS p t c y → lev p y ≠ s.1 - 1) ∧ (∀ y, InS p t c y → lev p y ≠ s.2 + 1)
theorem means_ends {p : Pap} {t : Pt} {c K1 K2 K3 K4 : Int} (h : p.Ok) (hE : Ends p t c K1 K2 K3 K4) : ∀ s ∈ meansOf p (two K1 (K2 - 1) K3 (K4 - 1)), EndsOf p t c s := by
  have ho := ends_ord hE
  have hi := ins_two hE
  rw [means_two h ho]
  -- the levels of a height, by halves
  have lv : ∀ y, InS p t c y → (K1 ≤ K2 - 1 ∧ lev p K1 ≤ lev p y ∧ lev p y ≤ lev p (K2 - 1)) ∨ (K3 ≤ K4 - 1 ∧ lev p K3 ≤ lev p y ∧ lev p y ≤ lev p (K4 - 1)) := by
    intro y hy
    rcases (hi y).1 hy with ⟨y1, y2⟩ | ⟨y1, y2⟩
    · exact .inl ⟨by omega, lev_mono h y1, lev_mono h y2⟩
    · exact .inr ⟨by omega, lev_mono h y1, lev_mono h y2⟩
  intro s hs
  by_cases f1 : K1 ≤ K2 - 1
  · have i1 := (hi K1).2 (.inl ⟨Int.le_refl _, f1⟩)
    have i2 := (hi (K2 - 1)).2 (.inl ⟨f1, Int.le_refl _⟩)
    rw [if_pos f1] at hs
    by_cases f2 : K3 ≤ K4 - 1
    · have i3 := (hi K3).2 (.inr ⟨Int.le_refl _, f2⟩)
      have i4 := (hi (K4 - 1)).2 (.inr ⟨f2, Int.le_refl _⟩)
      have o := ho f1 f2
      have m1 := lev_mono h (show K1 ≤ K3 by omega)
      have m2 := lev_mono h (show K2 - 1 ≤ K4 - 1 by omega)
      rw [if_pos f2] at hs
      by_cases f3 : lev p K3 - 1 ≤ lev p (K2 - 1)
      · rw [if_pos f3, List.mem_singleton] at hs
        subst hs
        exact ⟨⟨_, i1, rfl⟩, ⟨_, i4, rfl⟩, fun y hy e => by have := lv y hy; simp only at e; omega, fun y hy e => by have := lv y hy; simp only at e; omega⟩
      · rw [if_neg f3] at hs
        simp only [List.mem_cons, List.not_mem_nil, or_false] at hs
        rcases hs with rfl | rfl
        · exact ⟨⟨_, i1, rfl⟩, ⟨_, i2, rfl⟩, fun y hy e => by have := lv y hy; simp only at e; omega, fun y hy e => by have := lv y hy; simp only at e; omega⟩
        · exact ⟨⟨_, i3, rfl⟩, ⟨_, i4, rfl⟩, fun y hy e => by have := lv y hy; simp only at e; omega, fun y hy e => by have := lv y hy; simp only at e; omega⟩
    · rw [if_neg f2, List.mem_singleton] at hs
      subst hs
      exact ⟨⟨_, i1, rfl⟩, ⟨_, i2, rfl⟩, fun y hy e => by have := lv y hy; simp only at e; omega, fun y hy e => by have := lv y hy; simp only at e; omega⟩
  · rw [if_neg f1] at hs
    by_cases f2 : K3 ≤ K4 - 1
    · have i3 := (hi K3).2 (.inr ⟨Int.le_refl _, f2⟩)
      have i4 := (hi (K4 - 1)).2 (.inr ⟨f2, Int.le_refl _⟩)
      rw [if_pos f2, List.mem_singleton] at hs
      subst hs
      exact ⟨⟨_, i3, rfl⟩, ⟨_, i4, rfl⟩, fun y hy e => by have := lv y hy; simp only at e; omega, fun y hy e => by have := lv y hy; simp only at e; omega⟩
    · rw [if_neg f2] at hs; cases hs
theorem means_some {p : Pap} {t : Pt} {c K1 K2 K3 K4 : Int} (h : p.Ok) (hE : Ends p t c K1 K2 K3 K4) : 0 < (meansOf p (two K1 (K2 - 1) K3 (K4 - 1))).length ↔ ∃ y, InS p t c y := by
  constructor
  · intro hl
    obtain ⟨s, hs⟩ := List.exists_mem_of_length_pos hl
    obtain ⟨⟨y, hy, _⟩, _⟩ := means_ends h hE s hs
    exact ⟨y, hy⟩
  · rintro ⟨y, hy⟩
    obtain ⟨s, hs, _⟩ := means_has h hE hy
    exact List.length_pos_of_mem hs
theorem means_le {p : Pap} {t : Pt} {c K1 K2 K3 K4 : Int} (h : p.Ok) (hE : Ends p t c K1 K2 K3 K4) : (meansOf p (two K1 (K2 - 1) K3 (K4 - 1))).length ≤ 2 := by
  rw [means_two h (ends_ord hE)]
  by_cases f1 : K1 ≤ K2 - 1 <;> by_cases f2 : K3 ≤ K4 - 1 <;> by_cases f3 : lev p K3 - 1 ≤ lev p (K2 - 1) <;> simp [f1, f2, f3]
end Go.Proofs.Ytmeljcbefnojfaa
