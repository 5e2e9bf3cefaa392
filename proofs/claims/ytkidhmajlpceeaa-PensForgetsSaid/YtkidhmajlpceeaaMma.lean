/- What a pen remembers: the mathematics. -/
import Derived.Test.YtkidhmajlpceeaaSwg
import Derived.Test.YtkidhmajlpceeaaMem
namespace Go.Proofs.Ytkidhmajlpceeaa
open Go.RowKit
/-- what a pen shows at last, if it has what is shown and goes through the last d + 1 levels -/
def cmpR (b : Int) (Z : Nat → Int) (n : Nat) : Nat → Int → Int
  | 0, x => lz b x (Z (n - 1))
  | d + 1, x => cmpR b Z n d (lz b x (Z (n - 2 - d)))
theorem m_le (Z : Nat → Int) (n : Nat) : ∀ d, mLo Z n d ≤ mHi Z n d
  | 0 => Int.le_refl _
  | d + 1 => by
    have := m_le Z n d
    show min (mLo Z n d) (Z (n - 2 - d)) ≤ max (mHi Z n d) (Z (n - 2 - d))
    omega
theorem cmp_at {b : Int} (hb : 0 ≤ b) (Z : Nat → Int) (n : Nat) : ∀ d,
    (mHi Z n d - mLo Z n d ≤ 2 * b → ∀ x, cmpR b Z n d x = max (mHi Z n d - b) (min (mLo Z n d + b) x)) ∧ (2 * b ≤ mHi Z n d - mLo Z n d → ∀ x y, cmpR b Z n d x = cmpR b Z n d y)
  | 0 => by
    refine ⟨fun _ x => ?_, fun h x y => ?_⟩
    · show lz b x (Z (n - 1)) = max (Z (n - 1) - b) (min (Z (n - 1) + b) x)
      rfl
    · have h' : 2 * b ≤ Z (n - 1) - Z (n - 1) := h
      show lz b x (Z (n - 1)) = lz b y (Z (n - 1))
      unfold lz; omega
  | d + 1 => by
    obtain ⟨h1, h2⟩ := cmp_at hb Z n d
    have hm := m_le Z n d
    have eL : mLo Z n (d + 1) = min (mLo Z n d) (Z (n - 2 - d)) := rfl
    have eH : mHi Z n (d + 1) = max (mHi Z n d) (Z (n - 2 - d)) := rfl
    rw [eL, eH]
    by_cases h : mHi Z n d - mLo Z n d ≤ 2 * b
    · have e := h1 h
      refine ⟨fun h3 x => ?_, fun h3 x y => ?_⟩
      · show cmpR b Z n d (lz b x (Z (n - 2 - d))) = _
        rw [e]; unfold lz; omega
      · show cmpR b Z n d (lz b x (Z (n - 2 - d))) = cmpR b Z n d (lz b y (Z (n - 2 - d)))
        rw [e, e]; unfold lz; omega
    · refine ⟨fun h3 => by omega, fun _ x y => ?_⟩
      exact h2 (by omega) _ _
theorem cmp_skip {b : Int} (hb : 0 ≤ b) (Z : Nat → Int) (n d : Nat) (h : mHi Z n d - mLo Z n d < 2 * b) (hz : mLo Z n d ≤ Z (n - 2 - d) ∧ Z (n - 2 - d) ≤ mHi Z n d) (x : Int) : cmpR b Z n (d + 1) x = cmpR b Z n d x := by
  have e := (cmp_at hb Z n d).1 (by omega)
  show cmpR b Z n d (lz b x (Z (n - 2 - d))) = _
  rw [e, e]
  unfold lz; omega
theorem shw_cmp (b f : Int) (Z : Nat → Int) (n : Nat) : ∀ d, d + 1 < n → cmpR b Z n d (shw b f Z (n - 2 - d)) = shw b f Z (n - 1)
  | 0, h => by
    show lz b (shw b f Z (n - 2)) (Z (n - 1)) = _
    rw [show n - 1 = (n - 2) + 1 by omega]
    rfl
  | d + 1, h => by
    show cmpR b Z n d (lz b (shw b f Z (n - 2 - (d + 1))) (Z (n - 2 - d))) = _
    rw [← shw_cmp b f Z n d (by omega), show n - 2 - d = (n - 2 - (d + 1)) + 1 by omega]
    rfl
theorem shw_cmp_all (b f : Int) (Z : Nat → Int) (n : Nat) (h : 1 ≤ n) : cmpR b Z n (n - 1) f = shw b f Z (n - 1) := by
  by_cases h1 : n = 1
  · subst h1; rfl
  · obtain ⟨d, hd⟩ : ∃ d, n - 1 = d + 1 := ⟨n - 2, by omega⟩
    rw [← shw_cmp b f Z n d (by omega), hd]
    show cmpR b Z n d (lz b f (Z (n - 2 - d))) = _
    rw [show n - 2 - d = 0 by omega]
    rfl
theorem go_spec {b : Int} {Z : Nat → Int} {n : Nat} : ∀ f d, f + d = n - 1 → (∀ e, e < d → mHi Z n e - mLo Z n e < 2 * b) →
    (∀ e, e < memGo b Z n f d → mHi Z n e - mLo Z n e < 2 * b) ∧ memGo b Z n f d ≤ n - 1 ∧ (memGo b Z n f d = n - 1 ∨ 2 * b ≤ mHi Z n (memGo b Z n f d) - mLo Z n (memGo b Z n f d))
  | 0, d, h, hs => ⟨hs, by show d ≤ n - 1; omega, .inl (by show d = n - 1; omega)⟩
  | f + 1, d, h, hs => by
    unfold memGo
    split
    · rename_i h1
      exact go_spec f (d + 1) (by omega) fun e he => by
        by_cases h2 : e = d
        · rw [h2]; exact h1
        · exact hs e (by omega)
    · exact ⟨hs, by omega, .inr (by omega)⟩
/-- one number brought within the band of one level after the other -/
def kf (b : Int) (Z : Nat → Int) (L : List Int) (x : Int) : Int := L.foldl (fun s i => lz b s (Z i.toNat)) x
theorem kf_out {b : Int} (hb : 0 ≤ b) (Z : Nat → Int) (n : Nat) : ∀ d, (∀ e, e < d → mHi Z n e - mLo Z n e < 2 * b) → ∀ x, kf b Z (mOut Z n d).reverse x = cmpR b Z n d x
  | 0, _, x => by show kf b Z [((n - 1 : Nat) : Int)] x = lz b x (Z (n - 1)); simp [kf]
  | d + 1, h, x => by
    have ih := kf_out hb Z n d (fun e he => h e (by omega))
    unfold mOut
    split
    · rename_i h1
      rw [ih, cmp_skip hb Z n d (h d (by omega)) h1]
    · rw [List.reverse_append]
      show kf b Z (mOut Z n d).reverse (lz b x (Z ((n - 2 - d : Nat) : Int).toNat)) = cmpR b Z n d (lz b x (Z (n - 2 - d)))
      rw [ih, Int.toNat_natCast]
theorem kf_mem {b : Int} (hb : 0 ≤ b) (Z : Nat → Int) (n : Nat) (h1 : 1 ≤ n) (f : Int) : kf b Z (memL b Z n) f = shw b f Z (n - 1) := by
  obtain ⟨g1, g2, g3⟩ := go_spec (b := b) (Z := Z) (n := n) (n - 1) 0 (by omega) (fun e he => absurd he (by omega))
  unfold memL
  rw [kf_out hb Z n _ g1]
  by_cases hD : memGo b Z n (n - 1) 0 = n - 1
  · rw [hD]; exact shw_cmp_all b f Z n h1
  · rcases g3 with h | h
    · exact absurd h hD
    · rw [← shw_cmp b f Z n _ (by omega : memGo b Z n (n - 1) 0 + 1 < n)]
      exact (cmp_at hb Z n _).2 h _ _
/-- the remembered indices: decreasing from the last one on -/
theorem mOut_in (Z : Nat → Int) (n : Nat) : ∀ d, d + 1 ≤ n → (∀ x ∈ mOut Z n d, ((n - 1 - d : Nat) : Int) ≤ x ∧ x ≤ ((n - 1 : Nat) : Int)) ∧ (mOut Z n d).Pairwise (fun x y => y < x) ∧ (mOut Z n d)[0]? = some ((n - 1 : Nat) : Int)
  | 0, h => by simp [mOut]
  | d + 1, h => by
    obtain ⟨h1, h2, h3⟩ := mOut_in Z n d (by omega)
    have hl := mOut_len Z n d
    unfold mOut
    split
    · exact ⟨fun x hx => by have := h1 x hx; omega, h2, h3⟩
    · refine ⟨fun x hx => ?_, ?_, ?_⟩
      · rw [List.mem_append, List.mem_singleton] at hx
        rcases hx with hx | hx
        · have := h1 x hx; omega
        · omega
      · rw [List.pairwise_append]
        refine ⟨h2, List.pairwise_singleton _ _, fun x hx y hy => ?_⟩
        rw [List.mem_singleton] at hy
        have := h1 x hx
        omega
      · rw [List.getElem?_append_left hl.2]; exact h3
/-- the remembered indices and levels -/
def mIx (b : Int) (Z : Nat → Int) (n j : Nat) : Nat := (asZ (memL b Z n) j).toNat
def mKp (b : Int) (Z : Nat → Int) (n j : Nat) : Int := Z (mIx b Z n j)
theorem memL_facts {b : Int} {Z : Nat → Int} {n : Nat} (h1 : 1 ≤ n) :
    0 < (memL b Z n).length ∧ (memL b Z n).length ≤ n ∧ (∀ j, j < (memL b Z n).length → asZ (memL b Z n) j = (mIx b Z n j : Nat) ∧ mIx b Z n j < n) ∧ (∀ j, j + 1 < (memL b Z n).length → mIx b Z n j < mIx b Z n (j + 1)) ∧ mIx b Z n ((memL b Z n).length - 1) = n - 1 := by
  obtain ⟨g1, g2, g3⟩ := go_spec (b := b) (Z := Z) (n := n) (n - 1) 0 (by omega) (fun e he => absurd he (by omega))
  obtain ⟨i1, i2, i3⟩ := mOut_in Z n (memGo b Z n (n - 1) 0) (by omega)
  obtain ⟨l1, l2⟩ := mOut_len Z n (memGo b Z n (n - 1) 0)
  have hm : ∀ j, j < (memL b Z n).length → asZ (memL b Z n) j = (mIx b Z n j : Nat) ∧ mIx b Z n j < n := fun j hj => by
    have e := asZ_at hj
    have hx : (memL b Z n)[j] ∈ mOut Z n (memGo b Z n (n - 1) 0) := List.mem_reverse.1 (List.getElem_mem hj)
    have := i1 _ hx
    unfold mIx
    rw [e]
    omega
  refine ⟨by unfold memL; rw [List.length_reverse]; exact l2, by unfold memL; rw [List.length_reverse]; omega, hm, fun j hj => ?_, ?_⟩
  · have p : (memL b Z n).Pairwise (fun x y => x < y) := by unfold memL; rw [List.pairwise_reverse]; exact i2
    have := List.pairwise_iff_getElem.1 p j (j + 1) (by omega) hj (by omega)
    have e1 := asZ_at (l := memL b Z n) (i := j) (by omega)
    have e2 := asZ_at (l := memL b Z n) (i := j + 1) hj
    have := (hm j (by omega)).1
    have := (hm (j + 1) hj).1
    omega
  · have hl : 0 < (memL b Z n).length := by unfold memL; rw [List.length_reverse]; exact l2
    have e1 := asZ_at (l := memL b Z n) (i := (memL b Z n).length - 1) (by omega)
    have e2 : (memL b Z n)[(memL b Z n).length - 1]'(by omega) = ((n - 1 : Nat) : Int) := by
      have : (memL b Z n)[(memL b Z n).length - 1]? = some ((n - 1 : Nat) : Int) := by
        unfold memL
        rw [List.length_reverse, List.getElem?_reverse (by omega), show (mOut Z n (memGo b Z n (n - 1) 0)).length - 1 - ((mOut Z n (memGo b Z n (n - 1) 0)).length - 1) = 0 by omega]
        exact i3
      rw [List.getElem?_eq_getElem (by omega)] at this
      exact Option.some.inj this
    unfold mIx
    rw [e1, e2]
    omega
theorem shw_fold (b f : Int) (K : Nat → Int) : ∀ k, shw b f K k = (upTo K (k + 1)).foldl (lz b) f
  | 0 => by simp [upTo]; rfl
  | k + 1 => by
    rw [upTo_succ, List.foldl_append, ← shw_fold b f K k]
    rfl
theorem mem_map {b : Int} {Z : Nat → Int} {n : Nat} (L : List Int) (h : L = memL b Z n) : upTo (mKp b Z n) L.length = L.map (fun i => Z i.toNat) := by
  subst h
  apply List.ext_getElem (by simp [upTo])
  intro i h1 h2
  have hi : i < (memL b Z n).length := by simpa [upTo] using h1
  simp [upTo, mKp, mIx, asZ_at hi]
/-- what is shown at last depends on the remembered levels alone -/
theorem mem_shw {b : Int} (hb : 0 ≤ b) (Z : Nat → Int) (n : Nat) (h1 : 1 ≤ n) (f : Int) : shw b f (mKp b Z n) ((memL b Z n).length - 1) = shw b f Z (n - 1) := by
  rw [← kf_mem hb Z n h1 f, shw_fold, show (memL b Z n).length - 1 + 1 = (memL b Z n).length by have := (memL_facts (b := b) (Z := Z) h1).1; omega, mem_map _ rfl, List.foldl_map]
  rfl
/-- all that is remembered is remembered again -/
theorem mem_again_at {b : Int} {Z K : Nat → Int} {n q : Nat} {D : Nat} (hD : ∀ e, e < D → mHi Z n e - mLo Z n e < 2 * b) (hq : (mOut Z n D).length = q) (hK : ∀ c, c < q → K (q - 1 - c) = Z (asZ (mOut Z n D) c).toNat) (hpre : ∀ e, e ≤ D → mOut Z n e <+: mOut Z n D) :
    ∀ e, e ≤ D → (mLo K q ((mOut Z n e).length - 1) = mLo Z n e ∧ mHi K q ((mOut Z n e).length - 1) = mHi Z n e) ∧ ∀ c, c < (mOut Z n e).length - 1 → mHi K q c - mLo K q c < 2 * b ∧ ¬ (mLo K q c ≤ K (q - 2 - c) ∧ K (q - 2 - c) ≤ mHi K q c)
  | 0, he => by
    have h0 := hK 0 (by have := (mOut_len Z n D).2; omega)
    have e0 : asZ (mOut Z n D) 0 = ((n - 1 : Nat) : Int) := by
      obtain ⟨t, ht⟩ := hpre 0 he
      rw [← ht]
      rfl
    rw [e0, Int.toNat_natCast, Nat.sub_zero] at h0
    exact ⟨⟨h0, h0⟩, fun c hc => absurd hc (by simp [mOut])⟩
  | e + 1, he => by
    obtain ⟨⟨h1, h2⟩, h3⟩ := mem_again_at hD hq hK hpre e (by omega)
    have hl := mOut_len Z n e
    have hs := hD e (by omega)
    have hp := hpre (e + 1) he
    have eL : mLo Z n (e + 1) = min (mLo Z n e) (Z (n - 2 - e)) := rfl
    have eH : mHi Z n (e + 1) = max (mHi Z n e) (Z (n - 2 - e)) := rfl
    rw [eL, eH]
    have eo : mOut Z n (e + 1) = if mLo Z n e ≤ Z (n - 2 - e) ∧ Z (n - 2 - e) ≤ mHi Z n e then mOut Z n e else mOut Z n e ++ [((n - 2 - e : Nat) : Int)] := rfl
    by_cases hx : mLo Z n e ≤ Z (n - 2 - e) ∧ Z (n - 2 - e) ≤ mHi Z n e
    · rw [eo, if_pos hx]
      exact ⟨⟨by omega, by omega⟩, h3⟩
    · rw [eo, if_neg hx] at hp ⊢
      obtain ⟨t, ht⟩ := hp
      have hlen : (mOut Z n e).length + 1 ≤ q := by rw [← hq, ← ht]; simp
      have e2 : asZ (mOut Z n D) (mOut Z n e).length = ((n - 2 - e : Nat) : Int) := by
        rw [← ht]; simp [asZ]
      have hk := hK (mOut Z n e).length (by omega)
      rw [e2, Int.toNat_natCast] at hk
      obtain ⟨c, hc⟩ : ∃ c, (mOut Z n e).length = c + 1 := ⟨(mOut Z n e).length - 1, by omega⟩
      rw [hc] at h1 h2 h3 hk
      rw [Nat.add_sub_cancel] at h1 h2 h3
      rw [show q - 1 - (c + 1) = q - 2 - c by omega] at hk
      rw [List.length_append, List.length_singleton, hc, Nat.add_sub_cancel]
      have kL : mLo K q (c + 1) = min (mLo K q c) (K (q - 2 - c)) := rfl
      have kH : mHi K q (c + 1) = max (mHi K q c) (K (q - 2 - c)) := rfl
      refine ⟨⟨by rw [kL, h1, hk], by rw [kH, h2, hk]⟩, fun x hx' => ?_⟩
      by_cases hxc : x = c
      · subst hxc
        rw [hk, h1, h2]
        exact ⟨hs, hx⟩
      · exact h3 x (by omega)
theorem mOut_pre (Z : Nat → Int) (n e : Nat) : ∀ d, mOut Z n e <+: mOut Z n (e + d)
  | 0 => List.prefix_refl _
  | d + 1 => by
    refine (mOut_pre Z n e d).trans ?_
    rw [← Nat.add_assoc]
    show _ <+: (if _ then _ else _)
    split
    · exact List.prefix_refl _
    · exact List.prefix_append _ _
theorem go_all {b : Int} {K : Nat → Int} {q : Nat} (h : ∀ c, c < q - 1 → mHi K q c - mLo K q c < 2 * b) : ∀ f d, f + d = q - 1 → memGo b K q f d = q - 1
  | 0, d, e => by show d = q - 1; omega
  | f + 1, d, e => by
    unfold memGo
    rw [if_pos (h d (by omega))]
    exact go_all h f (d + 1) (by omega)
theorem out_all {K : Nat → Int} {q : Nat} (h : ∀ c, c < q - 1 → ¬ (mLo K q c ≤ K (q - 2 - c) ∧ K (q - 2 - c) ≤ mHi K q c)) : ∀ d, d ≤ q - 1 → (mOut K q d).length = d + 1
  | 0, _ => rfl
  | d + 1, hd => by
    have ih := out_all h d (by omega)
    unfold mOut
    rw [if_neg (h d (by omega)), List.length_append, ih]
    rfl
theorem mem_again {b : Int} {Z : Nat → Int} {n : Nat} (h1 : 1 ≤ n) : (memL b (mKp b Z n) (memL b Z n).length).length = (memL b Z n).length := by
  obtain ⟨g1, g2, g3⟩ := go_spec (b := b) (Z := Z) (n := n) (n - 1) 0 (by omega) (fun e he => absurd he (by omega))
  have hl := (memL_facts (b := b) (Z := Z) h1).1
  have hq : (mOut Z n (memGo b Z n (n - 1) 0)).length = (memL b Z n).length := by unfold memL; rw [List.length_reverse]
  have hA := (mem_again_at (K := mKp b Z n) g1 hq (fun c hc => by
    unfold mKp mIx
    have e1 := asZ_at (l := memL b Z n) (i := (memL b Z n).length - 1 - c) (by omega)
    have e2 := asZ_at (l := mOut Z n (memGo b Z n (n - 1) 0)) (i := c) (by omega)
    rw [e1, e2]
    congr 2
    simp only [memL, List.getElem_reverse, List.length_reverse]
    congr 1
    unfold memL at hc hq
    rw [List.length_reverse] at hc
    omega) (fun e he => by
      have := mOut_pre Z n e (memGo b Z n (n - 1) 0 - e)
      rwa [show e + (memGo b Z n (n - 1) 0 - e) = memGo b Z n (n - 1) 0 by omega] at this) _ (Nat.le_refl _)).2
  rw [hq] at hA
  generalize hQ : (memL b Z n).length = q at *
  have e1 : memGo b (mKp b Z n) q (q - 1) 0 = q - 1 := go_all (fun c hc => (hA c hc).1) (q - 1) 0 (by omega)
  show (mOut (mKp b Z n) q (memGo b (mKp b Z n) q (q - 1) 0)).reverse.length = q
  rw [e1, List.length_reverse, out_all (fun c hc => (hA c hc).2) (q - 1) (Nat.le_refl _)]
  omega
theorem shw_mono1 {b : Int} (K : Nat → Int) {x y : Int} (h : x ≤ y) : ∀ k, shw b x K k ≤ shw b y K k
  | 0 => by show lz b x (K 0) ≤ lz b y (K 0); unfold lz; omega
  | k + 1 => by
    have ih := shw_mono1 (b := b) K h k
    show lz b (shw b x K k) (K (k + 1)) ≤ lz b (shw b y K k) (K (k + 1))
    unfold lz; omega
theorem shw_inM {b : Int} (hb : 0 ≤ b) (K : Nat → Int) (x : Int) : ∀ k, shw b (K 0 - b) K k ≤ shw b x K k ∧ shw b x K k ≤ shw b (K 0 + b) K k
  | 0 => by show lz b (K 0 - b) (K 0) ≤ lz b x (K 0) ∧ lz b x (K 0) ≤ lz b (K 0 + b) (K 0); unfold lz; omega
  | k + 1 => by
    have ih := shw_inM hb K x k
    show lz b (shw b (K 0 - b) K k) (K (k + 1)) ≤ lz b (shw b x K k) (K (k + 1)) ∧ lz b (shw b x K k) (K (k + 1)) ≤ lz b (shw b (K 0 + b) K k) (K (k + 1))
    unfold lz; omega
theorem forgot {b : Int} (hb : 0 ≤ b) (K : Nat → Int) (x y : Int) (k : Nat) (h : 2 * b ≤ swH K k - swL K k) : shw b x K k = shw b y K k := by
  have h1 := (apart_iff hb K k).2 h
  have h2 := shw_inM hb K x k
  have h3 := shw_inM hb K y k
  omega
end Go.Proofs.Ytkidhmajlpceeaa
