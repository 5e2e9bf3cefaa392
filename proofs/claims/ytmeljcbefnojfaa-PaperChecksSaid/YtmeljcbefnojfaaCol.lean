import Derived.Test.YtmeljcbefnojfaaOut
import Derived.Deep.QuietTactic
namespace Go.Proofs.Ytmeljcbefnojfaa
open Go.RowKit
theorem neg_cdiv {n b : Int} (hb : 1 ≤ b) : -(cdiv (-n) b) = n / b := by
  unfold cdiv
  have h1 := Int.mul_ediv_add_emod n b
  have h2 := Int.emod_nonneg n (by omega : b ≠ 0)
  have h3 := Int.emod_lt_of_pos n (by omega : 0 < b)
  have h4 := Int.mul_ediv_add_emod (-n + b - 1) b
  have h5 := Int.emod_nonneg (-n + b - 1) (by omega : b ≠ 0)
  have h6 := Int.emod_lt_of_pos (-n + b - 1) (by omega : 0 < b)
  have h7 : b * (n / b + (-n + b - 1) / b) = b - 1 - n % b - (-n + b - 1) % b := by rw [Int.mul_add]; omega
  have h8 : n / b + (-n + b - 1) / b = 0 := by
    generalize n / b + (-n + b - 1) / b = q at h7
    rcases Int.lt_trichotomy q 0 with hq | hq | hq
    · have : b * q ≤ b * (-1) := Int.mul_le_mul_of_nonneg_left (by omega) (by omega)
      omega
    · exact hq
    · have : b * 1 ≤ b * q := Int.mul_le_mul_of_nonneg_left (by omega) (by omega)
      omega
  omega
theorem ediv_bd {n b : Int} (hb : 1 ≤ b) (h0 : -1000000000 ≤ n) (h1 : n ≤ 1000000000) : -1000000000 ≤ n / b ∧ n / b ≤ 1000000000 := by
  constructor
  · exact Int.le_ediv_of_mul_le (by omega) (by have : -1000000000 * b ≤ -1000000000 * 1 := Int.mul_le_mul_of_nonpos_left (by omega) (by omega); omega)
  · rcases Int.le_total 0 n with h | h
    · have := div_bd h hb; omega
    · have : n / b ≤ 0 := by
        rcases Int.lt_or_eq_of_le h with h' | h'
        · exact Int.le_of_lt (Int.ediv_neg_of_neg_of_pos h' (by omega))
        · subst h'; simp
      omega
set_option maxHeartbeats 400000 in
theorem floorDiv_any (n b : Int) (w : World) (h0 : -1000000000 ≤ n) (h1 : n ≤ 1000000000) (h2 : 1 ≤ b) (h3 : b ≤ 1000000000) :
    Calls Try.prog 119 #[.int .i64 n, .int .i64 b] w fun e w' => e = .returned (.int .i64 (n / b)) ∧ w = w' := by
  by_cases hn : n < 0
  · have hk : 0 ≤ cdiv (-n) b ∧ cdiv (-n) b ≤ 2000000000 := by
      have := div_bd (a := -n + b - 1) (b := b) (by omega) h2
      unfold cdiv; omega
    obtain ⟨k0, k1⟩ := hk
    rw [← neg_cdiv h2]
    go_enter Try.func119, Try.ntmps119
    go_wp2_with fail
    refine (ceilDiv_any (-n) b _ (by omega) (by omega) h2 (by omega)).mono ?_
    rintro e w1 ⟨rfl, rfl⟩
    go_wp2_with fail
    go_ret
    exact ⟨rfl, rfl⟩
  · have hn' : 0 ≤ n := by omega
    go_enter Try.func119, Try.ntmps119
    go_wp2_with fail
    go_ret
    exact ⟨rfl, rfl⟩
theorem HasPap.drewN {p : Pap} {b : Nat} {w : World} (h : HasPap p b w) (n : Nat) : HasPap p b (w.drewN n) := by
  unfold HasPap at *
  have hc : ∀ o, (w.drewN n).cell? ⟨b, o, none⟩ = w.cell? ⟨b, o, none⟩ := fun o => (below_drewN (Below.refl (b + 1) w) n).cell (p := ⟨b, o, none⟩) (Nat.lt_succ_self b)
  simp only [hc]
  exact h
def clMid (p : Pap) (lo hi : Int) : Int := min (max (p.height / 2) lo) hi
/-- the least and the greatest arc between two heights -/
def arLo (p : Pap) (lo hi : Int) : Int := min (arcOf p lo) (arcOf p hi)
def arHi (p : Pap) (lo hi : Int) : Int := arcOf p (clMid p lo hi)
def colLo (p : Pap) (t : Pt) (lo hi : Int) : Int := max 0 ((alongLo p t - arHi p lo hi) / p.pitch)
def colHi (p : Pap) (t : Pt) (lo hi : Int) : Int := min (p.cols - 1) ((alongHi p t - arLo p lo hi) / p.pitch)
theorem arcOf_bd {p : Pap} {y : Int} (h : p.Ok) (hy : 0 ≤ y ∧ y ≤ p.height) : 0 ≤ arcOf p y ∧ arcOf p y ≤ 160000000000 := by
  unfold arcOf
  by_cases hr : p.radius = 0
  · rw [if_pos hr]; omega
  · rw [if_neg hr]
    have h3 := h.radius
    have h2 := h.height
    have hm := mul_bd (a := y) (b := p.height - y) (A := 400000) (B := 400000) (by omega) (by omega) (by omega) (by omega)
    have hd := div_bd (a := y * (p.height - y)) (b := 2 * p.radius) (by omega) (by omega)
    omega
/-- arcs are not higher than the paper -/
theorem arcOf_le {p : Pap} {y : Int} (h : p.Ok) (hy : 0 ≤ y ∧ y ≤ p.height) : arcOf p y ≤ p.height := by
  unfold arcOf
  have h2 := h.height
  by_cases hr : p.radius = 0
  · rw [if_pos hr]; omega
  · rw [if_neg hr]
    have h3 := h.radius
    have hm : y * (p.height - y) ≤ p.height * (2 * p.radius) := Int.mul_le_mul hy.2 (by omega) (by omega) (by omega)
    exact Int.ediv_le_of_le_mul (by omega) hm
theorem alongLo_bd {p : Pap} {t : Pt} (h : p.Ok) (ht : t.Ok) : 0 ≤ alongLo p t ∧ alongLo p t ≤ 450000 := by
  have h7 := h.along
  have hx := ht.x
  have hh := ht.half
  unfold alongLo prLo
  have : (t.x - t.half) * 1000 / p.ah ≤ 450000 := Int.ediv_le_of_le_mul (by omega) (by omega)
  omega
theorem alongHi_bd {p : Pap} {t : Pt} (h : p.Ok) (ht : t.Ok) : 0 ≤ alongHi p t ∧ alongHi p t ≤ 450000 := by
  have h7 := h.along
  have hx := ht.x
  have hh := ht.half
  unfold alongHi prHi
  have h1 : (t.x + t.half) * 1000 / p.al ≤ 450000 := Int.ediv_le_of_le_mul (by omega) (by omega)
  have h2 : 0 ≤ (t.x + t.half) * 1000 / p.al := Int.ediv_nonneg (by omega) (by omega)
  omega
theorem acrossLo_bd {p : Pap} {t : Pt} (h : p.Ok) (ht : t.Ok) : 0 ≤ acrossLo p t ∧ acrossLo p t ≤ 450000 := by
  have h7 := h.across
  have hx := ht.y
  have hh := ht.half
  unfold acrossLo prLo
  have : (t.y - t.half) * 1000 / p.ch ≤ 450000 := Int.ediv_le_of_le_mul (by omega) (by omega)
  omega
theorem acrossHi_bd {p : Pap} {t : Pt} (h : p.Ok) (ht : t.Ok) : acrossLo p t ≤ acrossHi p t ∧ acrossHi p t ≤ 450000 := by
  have h7 := h.across
  have hx := ht.y
  have hh := ht.half
  unfold acrossHi acrossLo prHi prLo
  have h1 : (t.y + t.half) * 1000 / p.cl ≤ 450000 := Int.ediv_le_of_le_mul (by omega) (by omega)
  have h2 : 0 ≤ (t.y + t.half) * 1000 / p.cl := Int.ediv_nonneg (by omega) (by omega)
  have h3 : (t.y - t.half) * 1000 / p.ch ≤ (t.y + t.half) * 1000 / p.cl := by
    rcases Int.le_total 0 (t.y - t.half) with h0 | h0
    · refine Int.le_trans (Int.ediv_le_ediv (a := (t.y - t.half) * 1000) (b := (t.y + t.half) * 1000) (c := p.ch) (by omega) (by omega)) ?_
      refine Int.le_ediv_of_mul_le (by omega) ?_
      have e1 := Int.ediv_mul_le ((t.y + t.half) * 1000) (by omega : p.ch ≠ 0)
      have e2 : 0 ≤ (t.y + t.half) * 1000 / p.ch := Int.ediv_nonneg (by omega) (by omega)
      have e3 : (t.y + t.half) * 1000 / p.ch * p.cl ≤ (t.y + t.half) * 1000 / p.ch * p.ch := Int.mul_le_mul_of_nonneg_left (by omega) e2
      omega
    · refine Int.le_trans ?_ h2
      rcases Int.lt_or_eq_of_le h0 with h' | h'
      · exact Int.le_of_lt (Int.ediv_neg_of_neg_of_pos (by omega) (by omega))
      · rw [h']; simp
  omega
end Go.Proofs.Ytmeljcbefnojfaa
