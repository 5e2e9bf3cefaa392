/- Lists turned over: the mathematics. -/
import Derived.Test.YtkidhmajlpceeaaTnd
namespace Go.Proofs.Ytkidhmajlpceeaa
open Go.RowKit
theorem lv_ng {Z : Nat → Int} {n : Nat} (h : LsOk Z n) : LsOk (ngF Z) n := ⟨h.1, h.2.1, fun i hi => by have := h.2.2 i hi; show -50000 ≤ -Z i ∧ -Z i ≤ 50000; omega⟩
theorem ng_ng (Z : Nat → Int) : ngF (ngF Z) = Z := by funext i; unfold ngF; omega
theorem lv_ng_iff {Z : Nat → Int} {n : Nat} : LsOk (ngF Z) n ↔ LsOk Z n := ⟨fun h => by have := lv_ng h; rwa [ng_ng] at this, lv_ng⟩
theorem lz_ng (b s r : Int) (hb : 0 ≤ b) : lz b (-s) (-r) = -lz b s r := by unfold lz; omega
theorem shw_ng {b : Int} (hb : 0 ≤ b) (f : Int) (Z : Nat → Int) : ∀ k, shw b (-f) (ngF Z) k = -shw b f Z k
  | 0 => lz_ng b f (Z 0) hb
  | k + 1 => by
    show lz b (shw b (-f) (ngF Z) k) (-Z (k + 1)) = -lz b (shw b f Z k) (Z (k + 1))
    rw [shw_ng hb f Z k]
    exact lz_ng _ _ _ hb
theorem okAt_ng {p : Pn} {f : Int} {Z : Nat → Int} (k : Nat) : okAt p (-f) (ngF Z) k ↔ okAt p f Z k := by
  cases k with
  | zero => show (-p.b ≤ -Z 0 - -f ∧ -Z 0 - -f ≤ p.b) ↔ (-p.b ≤ Z 0 - f ∧ Z 0 - f ≤ p.b); omega
  | succ k => show (-p.r ≤ -Z (k + 1) - -Z k ∧ -Z (k + 1) - -Z k ≤ p.r) ↔ (-p.r ≤ Z (k + 1) - Z k ∧ Z (k + 1) - Z k ≤ p.r); omega
theorem folR_ng {p : Pn} {f : Int} {n : Nat} {Z : Nat → Int} {E : Int} (h : folR p f n Z E) : folR p (-f) n (ngF Z) E := by
  rcases h with ⟨h, e⟩ | ⟨hp, ⟨h, e⟩ | ⟨hf, ⟨h, e⟩ | ⟨hl, ⟨h, e⟩ | ⟨⟨j, h1, h2, h3⟩, e⟩⟩⟩⟩
  · exact .inl ⟨h, e⟩
  · exact .inr ⟨hp, .inl ⟨fun hx => h (by unfold Lev at *; omega), e⟩⟩
  · exact .inr ⟨hp, .inr ⟨by unfold Lev at *; omega, .inl ⟨fun hx => h (lv_ng_iff.1 hx), e⟩⟩⟩
  · exact .inr ⟨hp, .inr ⟨by unfold Lev at *; omega, .inr ⟨lv_ng hl, .inl ⟨fun k hk => (okAt_ng k).2 (h k hk), e⟩⟩⟩⟩
  · exact .inr ⟨hp, .inr ⟨by unfold Lev at *; omega, .inr ⟨lv_ng hl, .inr ⟨⟨j, h1, fun k hk => (okAt_ng k).2 (h2 k hk), fun hx => h3 ((okAt_ng j).1 hx)⟩, e⟩⟩⟩⟩
def swp (x : Int × Int) : Int × Int := (-x.2, -x.1)
theorem pul_ng (b d : Int) : pul b (-d) = swp (pul b d) := by
  unfold pul swp
  by_cases h1 : 0 < d
  · rw [if_neg (by omega), if_pos (by omega), if_pos h1]
  · by_cases h2 : d < 0
    · rw [if_pos (by omega), if_neg h1, if_pos h2]; simp
    · rw [if_neg (by omega), if_neg (by omega), if_neg h1, if_neg h2]; simp
theorem lft_ng (r : Int) (a b : Int × Int) (c : Int) : lft r (swp a) (swp b) (-c) = swp (lft r a b c) := by
  unfold lft swp
  simp only [Prod.mk.injEq]
  omega
theorem Ofs_ng (p : Pn) (Z : Nat → Int) (i : Nat) : Ofs p (ngF Z) i = swp (Ofs p Z i) := by
  unfold Ofs
  rw [← pul_ng]
  congr 1
  show -Z i - -Z (i - 1) = -(Z i - Z (i - 1))
  omega
theorem Fw_ng (p : Pn) (Z : Nat → Int) : ∀ k, Fw p (ngF Z) k = swp (Fw p Z k)
  | 0 => Ofs_ng p Z 0
  | k + 1 => by
    show lft p.r (Ofs p (ngF Z) (k + 1)) (Fw p (ngF Z) k) (-Z (k + 1) - -Z k) = swp (lft p.r (Ofs p Z (k + 1)) (Fw p Z k) (Z (k + 1) - Z k))
    rw [Ofs_ng, Fw_ng p Z k, ← lft_ng, show -Z (k + 1) - -Z k = -(Z (k + 1) - Z k) by omega]
theorem Bk_ng (p : Pn) (Z : Nat → Int) (n : Nat) : ∀ m, Bk p (ngF Z) n m = swp (Bk p Z n m)
  | 0 => Fw_ng p Z _
  | m + 1 => by
    show lft p.r (Fw p (ngF Z) (n - 1 - (m + 1))) (Bk p (ngF Z) n m) (-Z (n - 1 - (m + 1)) - -Z (n - 1 - m)) = swp (lft p.r (Fw p Z (n - 1 - (m + 1))) (Bk p Z n m) (Z (n - 1 - (m + 1)) - Z (n - 1 - m)))
    rw [Fw_ng, Bk_ng p Z n m, ← lft_ng, show -Z (n - 1 - (m + 1)) - -Z (n - 1 - m) = -(Z (n - 1 - (m + 1)) - Z (n - 1 - m)) by omega]
theorem Gs_ng (p : Pn) (Z : Nat → Int) (n i : Nat) : Gs p (ngF Z) n i = swp (Gs p Z n i) := Bk_ng p Z n _
theorem Rls_ng (p : Pn) (Z : Nat → Int) (n i : Nat) : Rls p (ngF Z) n i = swp (Rls p Z n i) := by
  unfold Rls
  rw [Gs_ng]
  show (-(Gs p Z n i).2 + -Z i, -(Gs p Z n i).1 + -Z i) = (-((Gs p Z n i).2 + Z i), -((Gs p Z n i).1 + Z i))
  rw [Int.neg_add, Int.neg_add]
theorem ful_ng {p : Pn} {Z : Nat → Int} {n m : Nat} : Ful (Gs p (ngF Z) n) m ↔ Ful (Gs p Z n) m := by
  constructor
  · intro h i hi
    have := h i hi
    rw [Gs_ng] at this
    have h2 : -(Gs p Z n i).2 ≤ -(Gs p Z n i).1 := this
    omega
  · intro h i hi
    have := h i hi
    rw [Gs_ng]
    show -(Gs p Z n i).2 ≤ -(Gs p Z n i).1
    omega
theorem reaR_ng {p : Pn} {n : Nat} {Z : Nat → Int} {E : Int} (h : reaR p n Z E) : reaR p n (ngF Z) E := by
  rcases h with ⟨h, e⟩ | ⟨hp, ⟨h, e⟩ | ⟨hl, ⟨h, e⟩ | ⟨h, e⟩⟩⟩
  · exact .inl ⟨h, e⟩
  · exact .inr ⟨hp, .inl ⟨fun hx => h (lv_ng_iff.1 hx), e⟩⟩
  · exact .inr ⟨hp, .inr ⟨lv_ng hl, .inl ⟨fun hx => h (ful_ng.1 hx), e⟩⟩⟩
  · exact .inr ⟨hp, .inr ⟨lv_ng hl, .inr ⟨ful_ng.2 h, e⟩⟩⟩
theorem mem_ng (Z : Nat → Int) (n : Nat) : ∀ d, mLo (ngF Z) n d = -mHi Z n d ∧ mHi (ngF Z) n d = -mLo Z n d ∧ mOut (ngF Z) n d = mOut Z n d
  | 0 => ⟨rfl, rfl, rfl⟩
  | d + 1 => by
    obtain ⟨h1, h2, h3⟩ := mem_ng Z n d
    refine ⟨?_, ?_, ?_⟩
    · show min (mLo (ngF Z) n d) (-Z (n - 2 - d)) = -max (mHi Z n d) (Z (n - 2 - d)); rw [h1]; omega
    · show max (mHi (ngF Z) n d) (-Z (n - 2 - d)) = -min (mLo Z n d) (Z (n - 2 - d)); rw [h2]; omega
    · show (if mLo (ngF Z) n d ≤ -Z (n - 2 - d) ∧ -Z (n - 2 - d) ≤ mHi (ngF Z) n d then mOut (ngF Z) n d else mOut (ngF Z) n d ++ _) = (if mLo Z n d ≤ Z (n - 2 - d) ∧ Z (n - 2 - d) ≤ mHi Z n d then mOut Z n d else mOut Z n d ++ _)
      rw [h1, h2, h3]
      by_cases hx : mLo Z n d ≤ Z (n - 2 - d) ∧ Z (n - 2 - d) ≤ mHi Z n d
      · rw [if_pos hx, if_pos (by omega)]
      · rw [if_neg hx, if_neg (by omega)]
theorem memGo_ng (b : Int) (Z : Nat → Int) (n : Nat) : ∀ f d, memGo b (ngF Z) n f d = memGo b Z n f d
  | 0, _ => rfl
  | f + 1, d => by
    obtain ⟨h1, h2, _⟩ := mem_ng Z n d
    show (if mHi (ngF Z) n d - mLo (ngF Z) n d < 2 * b then memGo b (ngF Z) n f (d + 1) else d) = (if mHi Z n d - mLo Z n d < 2 * b then memGo b Z n f (d + 1) else d)
    rw [h1, h2, memGo_ng b Z n f (d + 1), show -mLo Z n d - -mHi Z n d = mHi Z n d - mLo Z n d by omega]
theorem memL_ng (b : Int) (Z : Nat → Int) (n : Nat) : memL b (ngF Z) n = memL b Z n := by
  unfold memL
  rw [memGo_ng, (mem_ng Z n _).2.2]
theorem tlast_ng (Z : Nat → Int) : ∀ i, tlast (ngF Z) i = tlast Z i
  | 0 => rfl
  | i + 1 => by
    show (if -Z (i + 1) = -Z i then tlast (ngF Z) i else i + 1) = (if Z (i + 1) = Z i then tlast Z i else i + 1)
    rw [tlast_ng Z i]
    by_cases h : Z (i + 1) = Z i
    · rw [if_pos h, if_pos (by omega)]
    · rw [if_neg h, if_neg (by omega)]
theorem tlast_ne (Z : Nat → Int) : ∀ i, 0 < tlast Z i → Z (tlast Z i) ≠ Z (tlast Z i - 1)
  | 0, h => absurd h (by show ¬ 0 < 0; omega)
  | i + 1, h => by
    by_cases hx : Z (i + 1) = Z i
    · have e : tlast Z (i + 1) = tlast Z i := by show (if Z (i + 1) = Z i then _ else _) = _; rw [if_pos hx]
      rw [e] at h ⊢
      exact tlast_ne Z i h
    · have e : tlast Z (i + 1) = i + 1 := by show (if Z (i + 1) = Z i then _ else _) = _; rw [if_neg hx]
      rw [e]
      exact hx
theorem tyes_ng (Z : Nat → Int) (i : Nat) : tyes (ngF Z) i = tyes Z i := by
  unfold tyes
  rw [tlast_ng]
  by_cases h1 : Z (i + 1) = Z i
  · have h2 : ngF Z (i + 1) = ngF Z i := by show -Z (i + 1) = -Z i; omega
    simp [h1, h2]
  · by_cases h3 : 0 < tlast Z i
    · have h4 := tlast_ne Z i h3
      unfold ngF
      generalize tlast Z i = l at *
      have a1 : decide (-Z (i + 1) ≠ -Z i) = decide (Z (i + 1) ≠ Z i) := decide_eq_decide.2 (by omega)
      have a2 : decide (-Z (l - 1) < -Z l) = !decide (Z (l - 1) < Z l) := by
        by_cases hx : Z (l - 1) < Z l
        · simp [hx]; omega
        · simp [hx]; omega
      have a3 : decide (-Z (i + 1) < -Z i) = !decide (Z (i + 1) < Z i) := by
        by_cases hx : Z (i + 1) < Z i
        · simp [hx]; omega
        · simp [hx]; omega
      rw [a1, a2, a3]
      cases decide (Z (l - 1) < Z l) <;> cases decide (Z (i + 1) < Z i) <;> rfl
    · simp [h3]
theorem tout_ng (Z : Nat → Int) : ∀ i, tout (ngF Z) i = tout Z i
  | 0 => rfl
  | i + 1 => by
    show (if tyes (ngF Z) i = true then tout (ngF Z) i ++ [(tlast (ngF Z) i : Int)] else tout (ngF Z) i) = (if tyes Z i = true then tout Z i ++ [(tlast Z i : Int)] else tout Z i)
    rw [tyes_ng, tlast_ng, tout_ng Z i]
theorem turnsL_ng (Z : Nat → Int) (n : Nat) : turnsL (ngF Z) n = turnsL Z n := tout_ng Z _
theorem turR_ng {n : Nat} {Z : Nat → Int} {E : Int} (h : turR n Z E) : turR n (ngF Z) E := h.imp (fun h => ⟨lv_ng h.1, h.2⟩) (fun h => ⟨fun hx => h.1 (lv_ng_iff.1 hx), h.2⟩)
theorem memR_ng {p : Pn} {n : Nat} {Z : Nat → Int} {E : Int} (h : memR p n Z E) : memR p n (ngF Z) E := h.imp id (fun h => ⟨h.1, h.2.imp (fun h => ⟨fun hx => h.1 (lv_ng_iff.1 hx), h.2⟩) (fun h => ⟨lv_ng h.1, h.2⟩)⟩)
end Go.Proofs.Ytkidhmajlpceeaa
