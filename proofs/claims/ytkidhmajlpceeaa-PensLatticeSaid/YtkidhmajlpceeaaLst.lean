import Derived.Test.YtkidhmajlpceeaaChk
namespace Go.Proofs.Ytkidhmajlpceeaa
open Go.RowKit
set_option maxHeartbeats 1000000 in
theorem ixl_f (A : Option Addr) (n c j : Nat) (Z : Nat → Int) (w : World) (hin : IntsIn A n Z w.heap.size w) (hj : j < n) (hL : Lvs Z j) (hx : ¬ (-50000 ≤ Z j ∧ Z j ≤ 50000)) :
    Calls Try.prog 116 #[.slice A n c, .func (.func 109) #[] #[]] w fun e w' => e = .returned (.int .i64 j) ∧ w = w' := by
  have HIN := Lib.hid hin
  obtain ⟨hn, _⟩ := hin
  have HL := Lib.hid hL
  have HX := Lib.hid hx
  clear hL hx
  go_enter Try.func116, Try.ntmps116
  go_wp2_with fail
  go_loop [5, 8] (fun _ i => ∃ k : Nat, k ≤ j ∧ i = .int .i64 k) (fun _ i => n - (intOf i).toNat)
  case atStart => exact ⟨0, Nat.zero_le _, rfl⟩
  case round =>
    obtain ⟨k, hk, rfl⟩ := hrel
    have hk0 : (0 : Int) ≤ (k : Int) := by omega
    obtain ⟨a, rfl, ab, c0⟩ := HIN.out.2 k (by omega)
    have hki : (k : Int) < (n : Int) := by omega
    by_cases hlt : k < j
    · have K := Lib.hid (lev1_any (Z k) false w (by have := HL.out k hlt; simp [btw, this]))
      go_wp2_with (go_at_call 109; refine K.out.mono ?_; rintro e w' ⟨rfl, rfl⟩)
      go_round
      case rel => exact ⟨k + 1, by omega, by go_num⟩
      case measure => simp [intOf]; omega
    · obtain rfl : k = j := by omega
      have K := Lib.hid (lev1_any (Z k) true w (by have := HX.out; simp only [btw, decide_eq_false this]; rfl))
      go_wp2_with (go_at_call 109; refine K.out.mono ?_; rintro e w' ⟨rfl, rfl⟩)
      go_ret
      exact ⟨rfl, rfl⟩
set_option maxHeartbeats 400000 in
theorem cfl_any (A : Option Addr) (n c : Nat) (Z : Nat → Int) (G : Bool) (w : World) (hin : IntsIn A n Z w.heap.size w) (hG : G = true ↔ Lvs Z n) :
    Calls Try.prog 108 #[.slice A n c, .func (.func 109) #[] #[]] w fun e w' => e = .returned (.bool (!G)) ∧ w = w' := by
  rcases lvs_or Z n with h | ⟨k, hk, h1, h2⟩
  · obtain rfl : G = true := hG.2 h
    have K := Lib.hid (ixl_t A n c Z w hin h)
    clear hin h hG
    go_enter Try.func108, Try.ntmps108
    go_wp2_with (go_at_call 116; refine K.out.mono ?_; rintro e w' ⟨rfl, rfl⟩)
    go_ret
    exact ⟨rfl, rfl⟩
  · obtain rfl : G = false := by
      cases G with
      | false => rfl
      | true => exact absurd (hG.1 rfl k hk) h2
    have K := Lib.hid (ixl_f A n c k Z w hin hk h1 h2)
    have hk0 : (0 : Int) ≤ (k : Int) := by omega
    clear hin h1 h2 hG
    go_enter Try.func108, Try.ntmps108
    go_wp2_with (go_at_call 116; refine K.out.mono ?_; rintro e w' ⟨rfl, rfl⟩)
    go_ret
    exact ⟨rfl, rfl⟩
set_option maxHeartbeats 400000 in
theorem areLevels_any (A : Option Addr) (n c : Nat) (Z : Nat → Int) (G : Bool) (w : World) (hin : IntsIn A n Z w.heap.size w) (hG : G = true ↔ Lvs Z n) :
    Calls Try.prog 95 #[.slice A n c] w fun e w' => e = .returned (.bool G) ∧ w = w' := by
  have K := Lib.hid (cfl_any A n c Z G w hin hG)
  clear hin hG
  go_enter Try.func95, Try.ntmps95
  go_wp2_with (go_at_call 108; refine K.out.mono ?_; rintro e w' ⟨rfl, rfl⟩)
  go_ret
  cases G <;> exact ⟨rfl, rfl⟩
/-- a list of levels, not empty and not too long -/
def LsOk (Z : Nat → Int) (n : Nat) : Prop := 1 ≤ n ∧ n ≤ 401 ∧ Lvs Z n
set_option maxHeartbeats 400000 in
theorem isList_any (A : Option Addr) (n c : Nat) (Z : Nat → Int) (G : Bool) (w : World) (hin : IntsIn A n Z w.heap.size w) (hG : G = true ↔ LsOk Z n) :
    Calls Try.prog 70 #[.slice A n c] w fun e w' => e = .returned (.bool G) ∧ w = w' := by
  by_cases hn : (1 : Int) ≤ n ∧ (n : Int) ≤ 401
  · have K := Lib.hid (areLevels_any A n c Z G w hin (hG.trans ⟨fun h => h.2.2, fun h => ⟨by omega, by omega, h⟩⟩))
    have K2 := Lib.hid (between_t n 1 401 w hn)
    clear hin hG hn
    go_enter Try.func70, Try.ntmps70
    go_wp2_with (first | (go_at_call 73; refine K2.out.mono ?_; rintro e w' ⟨rfl, rfl⟩) | (go_at_call 95; refine K.out.mono ?_; rintro e w' ⟨rfl, rfl⟩))
    go_ret
    exact ⟨rfl, rfl⟩
  · obtain rfl : G = false := by
      cases G with
      | false => rfl
      | true => have := hG.1 rfl; exact absurd ⟨by have := this.1; omega, by have := this.2.1; omega⟩ hn
    have K2 := Lib.hid (between_f n 1 401 w hn)
    clear hin hG hn
    go_enter Try.func70, Try.ntmps70
    go_wp2_with (first | (go_at_call 73; refine K2.out.mono ?_; rintro e w' ⟨rfl, rfl⟩))
    go_ret
    exact ⟨rfl, rfl⟩
set_option maxHeartbeats 400000 in
theorem check_bad (p : Pn) (A : Option Addr) (n c : Nat) (w : World) (h : ¬ p.Ok) :
    Calls Try.prog 65 #[p.v, .slice A n c] w fun e w' => e = .returned (.int .i64 30) ∧ Below w.heap.size w w' := by
  go_enter Try.func65, Try.ntmps65
  go_wp2_with fail
  refine (Check_f p _ h).mono ?_
  rintro e w1 ⟨rfl, hb⟩
  go_wp2_with fail
  go_ret
  exact ⟨rfl, (box1 _ _).trans (hb.mono (by simp))⟩
set_option maxHeartbeats 400000 in
theorem check_ok (p : Pn) (A : Option Addr) (n c : Nat) (Z : Nat → Int) (w : World) (hin : IntsIn A n Z w.heap.size w) (h : p.Ok) (hL : Lvs Z n) :
    Calls Try.prog 65 #[p.v, .slice A n c] w fun e w' => e = .returned (.int .i64 0) ∧ Below w.heap.size w w' := by
  have HIN := Lib.hid hin
  have HL := Lib.hid hL
  clear hin hL
  go_enter Try.func65, Try.ntmps65
  go_wp2_with fail
  refine (Check_t p _ h).mono ?_
  rintro e w1 ⟨rfl, hb⟩
  have C1 : Below w.heap.size w w1 := (box1 _ _).trans (hb.mono (by simp))
  have K := Lib.hid (areLevels_any A n c Z true w1 ((HIN.out.up C1 (Nat.le_refl _)).more C1.size) ⟨fun _ => HL.out, fun _ => rfl⟩)
  go_wp2_with (go_at_call 95; refine K.out.mono ?_; rintro e w' ⟨rfl, rfl⟩)
  go_ret
  exact ⟨rfl, C1⟩
set_option maxHeartbeats 400000 in
theorem check_arg (p : Pn) (A : Option Addr) (n c : Nat) (Z : Nat → Int) (w : World) (hin : IntsIn A n Z w.heap.size w) (h : p.Ok) (hL : ¬ Lvs Z n) :
    Calls Try.prog 65 #[p.v, .slice A n c] w fun e w' => e = .returned (.int .i64 1) ∧ Below w.heap.size w w' := by
  have HIN := Lib.hid hin
  have HL := Lib.hid hL
  clear hin hL
  go_enter Try.func65, Try.ntmps65
  go_wp2_with fail
  refine (Check_t p _ h).mono ?_
  rintro e w1 ⟨rfl, hb⟩
  have C1 : Below w.heap.size w w1 := (box1 _ _).trans (hb.mono (by simp))
  have K := Lib.hid (areLevels_any A n c Z false w1 ((HIN.out.up C1 (Nat.le_refl _)).more C1.size) ⟨(fun e => by cases e), fun e => absurd e HL.out⟩)
  go_wp2_with (go_at_call 95; refine K.out.mono ?_; rintro e w' ⟨rfl, rfl⟩)
  go_ret
  exact ⟨rfl, C1⟩
set_option maxHeartbeats 400000 in
theorem checkList_bad (p : Pn) (A : Option Addr) (n c : Nat) (w : World) (h : ¬ p.Ok) :
    Calls Try.prog 77 #[p.v, .slice A n c] w fun e w' => e = .returned (.int .i64 30) ∧ Below w.heap.size w w' := by
  go_enter Try.func77, Try.ntmps77
  go_wp2_with fail
  refine (Check_f p _ h).mono ?_
  rintro e w1 ⟨rfl, hb⟩
  go_wp2_with fail
  go_ret
  exact ⟨rfl, (box1 _ _).trans (hb.mono (by simp))⟩
set_option maxHeartbeats 400000 in
theorem checkList_ok (p : Pn) (A : Option Addr) (n c : Nat) (Z : Nat → Int) (w : World) (hin : IntsIn A n Z w.heap.size w) (h : p.Ok) (hL : LsOk Z n) :
    Calls Try.prog 77 #[p.v, .slice A n c] w fun e w' => e = .returned (.int .i64 0) ∧ Below w.heap.size w w' := by
  have HIN := Lib.hid hin
  have HL := Lib.hid hL
  clear hin hL
  go_enter Try.func77, Try.ntmps77
  go_wp2_with fail
  refine (Check_t p _ h).mono ?_
  rintro e w1 ⟨rfl, hb⟩
  have C1 : Below w.heap.size w w1 := (box1 _ _).trans (hb.mono (by simp))
  have K := Lib.hid (isList_any A n c Z true w1 ((HIN.out.up C1 (Nat.le_refl _)).more C1.size) ⟨fun _ => HL.out, fun _ => rfl⟩)
  go_wp2_with (go_at_call 70; refine K.out.mono ?_; rintro e w' ⟨rfl, rfl⟩)
  go_ret
  exact ⟨rfl, C1⟩
set_option maxHeartbeats 400000 in
theorem checkList_arg (p : Pn) (A : Option Addr) (n c : Nat) (Z : Nat → Int) (w : World) (hin : IntsIn A n Z w.heap.size w) (h : p.Ok) (hL : ¬ LsOk Z n) :
    Calls Try.prog 77 #[p.v, .slice A n c] w fun e w' => e = .returned (.int .i64 1) ∧ Below w.heap.size w w' := by
  have HIN := Lib.hid hin
  have HL := Lib.hid hL
  clear hin hL
  go_enter Try.func77, Try.ntmps77
  go_wp2_with fail
  refine (Check_t p _ h).mono ?_
  rintro e w1 ⟨rfl, hb⟩
  have C1 : Below w.heap.size w w1 := (box1 _ _).trans (hb.mono (by simp))
  have K := Lib.hid (isList_any A n c Z false w1 ((HIN.out.up C1 (Nat.le_refl _)).more C1.size) ⟨(fun e => by cases e), fun e => absurd e HL.out⟩)
  go_wp2_with (go_at_call 70; refine K.out.mono ?_; rintro e w' ⟨rfl, rfl⟩)
  go_ret
  exact ⟨rfl, C1⟩
/-- a block's cells read as a list -/
theorem ints_of {l : List Int} {b : Nat} {w : World} (hb : b < w.heap.size) (hl : l.length ≤ 1000) (h : ∀ i z, l[i]? = some z → w.cell? ⟨b, i, none⟩ = some (.int .i64 z)) : IntsIn (some ⟨b, 0, none⟩) l.length (asZ l) w.heap.size w :=
  ⟨by omega, fun i hi => ⟨_, rfl, hb, by rw [Addr.add_lit, Nat.zero_add]; exact h i _ (by simp [asZ, hi])⟩⟩
end Go.Proofs.Ytkidhmajlpceeaa
