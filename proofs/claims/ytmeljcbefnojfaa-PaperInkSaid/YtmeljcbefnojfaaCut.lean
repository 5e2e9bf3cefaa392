import Derived.Test.YtmeljcbefnojfaaStr
import Derived.Deep.QuietTactic
namespace Go.Proofs.Ytmeljcbefnojfaa
open Go.RowKit
/-- K is where P begins to hold, and it holds from there on -/
def Cut (P : Int → Prop) (lo hi K : Int) : Prop := lo ≤ K ∧ K ≤ hi + 1 ∧ ∀ y, lo ≤ y → y ≤ hi → (P y ↔ K ≤ y)
theorem cut_nat (P : Int → Prop) (lo : Int) : ∀ n : Nat, (∀ a b, lo ≤ a → a ≤ b → b < lo + n → P a → P b) → ∃ K, Cut P lo (lo + n - 1) K := by
  intro n
  induction n with
  | zero => intro _; exact ⟨lo, by omega, by omega, fun y h1 h2 => by omega⟩
  | succ n ih =>
    intro hm
    obtain ⟨K, h1, h2, h3⟩ := ih fun a b ha hab hb => hm a b ha hab (by omega)
    by_cases hK : K ≤ lo + n - 1
    · have hPK : P K := (h3 K h1 hK).2 (Int.le_refl _)
      refine ⟨K, h1, by omega, fun y hy1 hy2 => ?_⟩
      by_cases hy : y ≤ lo + n - 1
      · exact h3 y hy1 hy
      · exact ⟨fun _ => by omega, fun _ => hm K y h1 (by omega) (by omega) hPK⟩
    · by_cases hP : P (lo + n)
      · refine ⟨lo + n, by omega, by omega, fun y hy1 hy2 => ?_⟩
        by_cases hy : y ≤ lo + n - 1
        · rw [h3 y hy1 hy]; omega
        · have : y = lo + n := by omega
          subst this; exact ⟨fun _ => Int.le_refl _, fun _ => hP⟩
      · refine ⟨lo + n + 1, by omega, by omega, fun y hy1 hy2 => ?_⟩
        by_cases hy : y ≤ lo + n - 1
        · rw [h3 y hy1 hy]; omega
        · have : y = lo + n := by omega
          subst this; exact ⟨fun h => absurd h hP, fun h => by omega⟩
theorem cut_ex {P : Int → Prop} {lo hi : Int} (h : lo ≤ hi + 1) (hm : ∀ a b, lo ≤ a → a ≤ b → b ≤ hi → P a → P b) : ∃ K, Cut P lo hi K := by
  obtain ⟨n, hn⟩ : ∃ n : Nat, (n : Int) = hi + 1 - lo := ⟨(hi + 1 - lo).toNat, by omega⟩
  obtain ⟨K, hK⟩ := cut_nat P lo n fun a b h1 h2 h3 => hm a b h1 h2 (by omega)
  rw [show lo + (n : Int) - 1 = hi by omega] at hK
  exact ⟨K, hK⟩
/-- below the middle arcs grow -/
theorem arc_up {p : Pap} {a b : Int} (h : p.Ok) (_h0 : 0 ≤ a) (h1 : a ≤ b) (h2 : b ≤ p.height / 2) : arcOf p a ≤ arcOf p b := by
  unfold arcOf
  by_cases hr : p.radius = 0
  · rw [if_pos hr, if_pos hr]; omega
  · rw [if_neg hr, if_neg hr]
    have h3 := h.radius
    have hh := h.height
    refine Int.ediv_le_ediv (by omega) ?_
    have : 0 ≤ (b - a) * (p.height - a - b) := Int.mul_nonneg (by omega) (by omega)
    have e : b * (p.height - b) - a * (p.height - a) = (b - a) * (p.height - a - b) := by
      simp only [Int.mul_sub, Int.sub_mul]
      rw [Int.mul_comm b a]
      omega
    omega
/-- above the middle they shrink -/
theorem arc_down {p : Pap} {a b : Int} (h : p.Ok) (h0 : p.height / 2 + 1 ≤ a) (h1 : a ≤ b) (_h2 : b ≤ p.height) : arcOf p b ≤ arcOf p a := by
  unfold arcOf
  by_cases hr : p.radius = 0
  · rw [if_pos hr, if_pos hr]; omega
  · rw [if_neg hr, if_neg hr]
    have h3 := h.radius
    have hh := h.height
    refine Int.ediv_le_ediv (by omega) ?_
    have : 0 ≤ (b - a) * (a + b - p.height) := Int.mul_nonneg (by omega) (by omega)
    have e : a * (p.height - a) - b * (p.height - b) = (b - a) * (a + b - p.height) := by
      simp only [Int.mul_sub, Int.sub_mul, Int.mul_add]
      rw [Int.mul_comm b a]
      omega
    omega
/-- an arc's function lies in a cell -/
def ArcCell (p : Pap) (b : Nat) (W : World) : Prop :=
  (p.radius = 0 ∧ W.cell? ⟨b, 0, none⟩ = some (.func (.func 121) #[] #[])) ∨ (¬ p.radius = 0 ∧ ∃ b', W.cell? ⟨b, 0, none⟩ = some (.func (.func 122) #[] #[.pointer (some ⟨b', 0, none⟩)]) ∧ HasPap p b' W)
theorem ArcCell.drewN {p : Pap} {b : Nat} {W : World} (h : ArcCell p b W) (n : Nat) : ArcCell p b (W.drewN n) := by
  rcases h with h | ⟨h, b', h1, h2⟩
  · exact .inl h
  · exact .inr ⟨h, b', h1, h2.drewN n⟩
theorem HasPap.block {p : Pap} {b : Nat} {W : World} (h : HasPap p b W) : b < W.heap.size := World.block_lt_of_cell? _ _ h.1
theorem ArcCell.up {p : Pap} {b : Nat} {W w1 : World} (h : ArcCell p b W) (hb : Below W.heap.size W w1) : ArcCell p b w1 := by
  rcases h with ⟨h, h1⟩ | ⟨h, b', h1, h2⟩
  · exact .inl ⟨h, cell_up hb (World.block_lt_of_cell? _ _ h1) h1⟩
  · exact .inr ⟨h, b', cell_up hb (World.block_lt_of_cell? _ _ h1) h1, h2.up hb h2.block⟩
set_option maxHeartbeats 1000000 in
theorem hi1_any (p : Pap) (y l : Int) (ba bl : Nat) (W : World) (h : p.Ok) (hy : 0 ≤ y ∧ y ≤ p.height) (ha : ArcCell p ba W) (hl : W.cell? ⟨bl, 0, none⟩ = some (.int .i64 l)) :
    Calls Try.prog 126 #[.int .i64 y, .pointer (some ⟨ba, 0, none⟩), .pointer (some ⟨bl, 0, none⟩)] W fun e w' => e = .returned (.bool (decide (l ≤ arcOf p y))) ∧ ∃ q, w' = W.drewN q := by
  have H := Lib.hid h
  clear h
  rcases ha with ⟨hr, ca⟩ | ⟨hr, b', ca, hp⟩
  · have HR := Lib.hid hr
    clear hr
    go_enter Try.func126, Try.ntmps126
    go_wp2_with fail
    go_quiet ((go_at_call 121; exact Calls.quiet_of_same ((arcs1_any p _ _ HR.out).mono fun _ _ h => ⟨h.1, h.2.symm⟩)))
    go_wp2_with fail
    go_ret
    exact ⟨rfl, nq, rfl⟩
  · have HR := Lib.hid hr
    have HP := Lib.hid hp
    clear hr hp
    go_enter Try.func126, Try.ntmps126
    go_wp2_with fail
    go_quiet ((go_at_call 122; exact Calls.quiet_of_same ((arcs2_any p _ _ _ H.out hy HR.out (HP.out.drewN _)).mono fun _ _ h => ⟨h.1, h.2.symm⟩)))
    go_wp2_with fail
    go_ret
    exact ⟨rfl, nq, rfl⟩
set_option maxHeartbeats 1000000 in
theorem hi2_any (p : Pap) (y l : Int) (ba bl : Nat) (W : World) (h : p.Ok) (hy : 0 ≤ y ∧ y ≤ p.height) (ha : ArcCell p ba W) (hl : W.cell? ⟨bl, 0, none⟩ = some (.int .i64 l)) :
    Calls Try.prog 127 #[.int .i64 y, .pointer (some ⟨ba, 0, none⟩), .pointer (some ⟨bl, 0, none⟩)] W fun e w' => e = .returned (.bool (decide (l < arcOf p y))) ∧ ∃ q, w' = W.drewN q := by
  have H := Lib.hid h
  clear h
  rcases ha with ⟨hr, ca⟩ | ⟨hr, b', ca, hp⟩
  · have HR := Lib.hid hr
    clear hr
    go_enter Try.func127, Try.ntmps127
    go_wp2_with fail
    go_quiet ((go_at_call 121; exact Calls.quiet_of_same ((arcs1_any p _ _ HR.out).mono fun _ _ h => ⟨h.1, h.2.symm⟩)))
    go_wp2_with fail
    go_ret
    exact ⟨rfl, nq, rfl⟩
  · have HR := Lib.hid hr
    have HP := Lib.hid hp
    clear hr hp
    go_enter Try.func127, Try.ntmps127
    go_wp2_with fail
    go_quiet ((go_at_call 122; exact Calls.quiet_of_same ((arcs2_any p _ _ _ H.out hy HR.out (HP.out.drewN _)).mono fun _ _ h => ⟨h.1, h.2.symm⟩)))
    go_wp2_with fail
    go_ret
    exact ⟨rfl, nq, rfl⟩
set_option maxHeartbeats 1000000 in
theorem hi3_any (p : Pap) (y l : Int) (ba bl : Nat) (W : World) (h : p.Ok) (hy : 0 ≤ y ∧ y ≤ p.height) (ha : ArcCell p ba W) (hl : W.cell? ⟨bl, 0, none⟩ = some (.int .i64 l)) :
    Calls Try.prog 128 #[.int .i64 y, .pointer (some ⟨ba, 0, none⟩), .pointer (some ⟨bl, 0, none⟩)] W fun e w' => e = .returned (.bool (decide (arcOf p y ≤ l))) ∧ ∃ q, w' = W.drewN q := by
  have H := Lib.hid h
  clear h
  rcases ha with ⟨hr, ca⟩ | ⟨hr, b', ca, hp⟩
  · have HR := Lib.hid hr
    clear hr
    go_enter Try.func128, Try.ntmps128
    go_wp2_with fail
    go_quiet ((go_at_call 121; exact Calls.quiet_of_same ((arcs1_any p _ _ HR.out).mono fun _ _ h => ⟨h.1, h.2.symm⟩)))
    go_wp2_with fail
    go_ret
    exact ⟨rfl, nq, rfl⟩
  · have HR := Lib.hid hr
    have HP := Lib.hid hp
    clear hr hp
    go_enter Try.func128, Try.ntmps128
    go_wp2_with fail
    go_quiet ((go_at_call 122; exact Calls.quiet_of_same ((arcs2_any p _ _ _ H.out hy HR.out (HP.out.drewN _)).mono fun _ _ h => ⟨h.1, h.2.symm⟩)))
    go_wp2_with fail
    go_ret
    exact ⟨rfl, nq, rfl⟩
set_option maxHeartbeats 1000000 in
theorem hi4_any (p : Pap) (y l : Int) (ba bl : Nat) (W : World) (h : p.Ok) (hy : 0 ≤ y ∧ y ≤ p.height) (ha : ArcCell p ba W) (hl : W.cell? ⟨bl, 0, none⟩ = some (.int .i64 l)) :
    Calls Try.prog 129 #[.int .i64 y, .pointer (some ⟨ba, 0, none⟩), .pointer (some ⟨bl, 0, none⟩)] W fun e w' => e = .returned (.bool (decide (arcOf p y < l))) ∧ ∃ q, w' = W.drewN q := by
  have H := Lib.hid h
  clear h
  rcases ha with ⟨hr, ca⟩ | ⟨hr, b', ca, hp⟩
  · have HR := Lib.hid hr
    clear hr
    go_enter Try.func129, Try.ntmps129
    go_wp2_with fail
    go_quiet ((go_at_call 121; exact Calls.quiet_of_same ((arcs1_any p _ _ HR.out).mono fun _ _ h => ⟨h.1, h.2.symm⟩)))
    go_wp2_with fail
    go_ret
    exact ⟨rfl, nq, rfl⟩
  · have HR := Lib.hid hr
    have HP := Lib.hid hp
    clear hr hp
    go_enter Try.func129, Try.ntmps129
    go_wp2_with fail
    go_quiet ((go_at_call 122; exact Calls.quiet_of_same ((arcs2_any p _ _ _ H.out hy HR.out (HP.out.drewN _)).mono fun _ _ h => ⟨h.1, h.2.symm⟩)))
    go_wp2_with fail
    go_ret
    exact ⟨rfl, nq, rfl⟩
end Go.Proofs.Ytmeljcbefnojfaa
