/- The specification's small functions. -/
import Derived.Test.YtkidhmajlpceeaaSwg
namespace Go.Proofs.Ytkidhmajlpceeaa
open Go.RowKit
set_option maxHeartbeats 400000 in
theorem within_any (n a b : Int) (w : World) :
    Calls Try.prog 74 #[.int .i64 n, .int .i64 a, .int .i64 b] w fun e w' => e = .returned (.bool (btw n a b)) ∧ w = w' := by
  by_cases h : a ≤ n
  · have h1 : decide (a ≤ n) = true := by simpa using h
    go_enter Try.func74, Try.ntmps74
    go_wp2
    go_ret
    exact ⟨by simp [btw, h], rfl⟩
  · have h1 : decide (a ≤ n) = false := by simpa using h
    go_enter Try.func74, Try.ntmps74
    go_wp2
    go_ret
    exact ⟨by simp [btw]; omega, rfl⟩
theorem within_is {n a b : Int} {G : Bool} (w : World) (h : G = true ↔ (a ≤ n ∧ n ≤ b)) :
    Calls Try.prog 74 #[.int .i64 n, .int .i64 a, .int .i64 b] w fun e w' => e = .returned (.bool G) ∧ w = w' := by
  have e : btw n a b = G := by
    unfold btw
    exact Bool.eq_iff_iff.2 ((decide_eq_true_iff).trans h.symm)
  rw [← e]
  exact within_any n a b w
theorem isLevel_is {x : Int} {G : Bool} (w : World) (h : G = true ↔ Lev x) :
    Calls Try.prog 66 #[.int .i64 x] w fun e w' => e = .returned (.bool G) ∧ w = w' := by
  have K := Lib.hid (within_is (n := x) (a := -50000) (b := 50000) (G := G) w h)
  clear h
  go_enter Try.func66, Try.ntmps66
  go_wp2_with fail
  refine K.out.mono ?_
  rintro e w1 ⟨rfl, rfl⟩
  go_wp2_with fail
  go_ret
  exact ⟨rfl, rfl⟩
theorem isLevel_t {x : Int} (w : World) (h : Lev x) : Calls Try.prog 66 #[.int .i64 x] w fun e w' => e = .returned (.bool true) ∧ w = w' := isLevel_is w ⟨fun _ => h, fun _ => rfl⟩
theorem isLevel_f {x : Int} (w : World) (h : ¬ Lev x) : Calls Try.prog 66 #[.int .i64 x] w fun e w' => e = .returned (.bool false) ∧ w = w' := isLevel_is w ⟨fun e => (by cases e), fun e => absurd e h⟩
def chkR (p : Pn) (E : Int) : Prop := (¬ p.Ok ∧ E = 30) ∨ p.Ok ∧ E = 0
theorem chkR_ex (p : Pn) : ∃ E, chkR p E := by
  by_cases h : p.Ok
  · exact ⟨0, .inr ⟨h, rfl⟩⟩
  · exact ⟨30, .inl ⟨h, rfl⟩⟩
theorem chk_bad {p : Pn} {E : Int} (h : chkR p E) (hn : ¬ p.Ok) : E = 30 := by
  rcases h with ⟨_, e⟩ | ⟨h, _⟩
  · exact e
  · exact absurd h hn
theorem chk_ok {p : Pn} {E : Int} (h : chkR p E) (hn : p.Ok) : E = 0 := by
  rcases h with ⟨h, _⟩ | ⟨_, e⟩
  · exact absurd hn h
  · exact e
set_option maxRecDepth 100000 in
set_option maxHeartbeats 4000000 in
theorem RCheck_any (p : Pn) (E : Int) (w : World) (hE : chkR p E) :
    Calls Try.prog 28 #[p.v] w fun e w' => e = .returned (.int .i64 E) ∧ Below w.heap.size w w' := by
  by_cases hb : 0 ≤ p.b ∧ p.b ≤ 8
  · by_cases hlo : -200 ≤ p.lo
    · by_cases hlh : p.lo ≤ p.hi
      · by_cases hhi : p.hi ≤ 200
        · by_cases hsp : p.hi - p.lo ≤ 40
          · by_cases hr : 0 ≤ p.r ∧ p.r ≤ 12000
            · obtain rfl := chk_ok hE ⟨hb, ⟨hlo, by omega⟩, ⟨hlh, hhi⟩, hsp, hr⟩
              have KB := Lib.hid fun W => within_is (n := p.b) (a := 0) (b := 8) (G := true) W ⟨fun _ => hb, fun _ => rfl⟩
              have dlo : decide (p.lo < -200) = false := decide_eq_false (by omega)
              have dlh : decide (p.hi < p.lo) = false := decide_eq_false (by omega)
              have dhi : decide (200 < p.hi) = false := decide_eq_false (by omega)
              have dsp : decide (40 < p.hi - p.lo) = false := decide_eq_false (by omega)
              have wsp : IntKind.i64.wrap (p.hi - p.lo) = p.hi - p.lo := IntWalk.i64_in _ (by omega)
              have KR := Lib.hid fun W => within_is (n := p.r) (a := 0) (b := 12000) (G := true) W ⟨fun _ => hr, fun _ => rfl⟩
              clear hE hb hlo hlh hhi hsp hr
              go_enter Try.func28, Try.ntmps28
              go_wp2_with fail
              refine (KB.out _).mono ?_
              rintro e w' ⟨rfl, rfl⟩
              go_wp2_with fail
              refine (KR.out _).mono ?_
              rintro e w' ⟨rfl, rfl⟩
              go_wp2_with fail
              go_ret
              exact ⟨rfl, box1 _ _⟩
            · obtain rfl := chk_bad hE (fun h => hr h.r)
              have KB := Lib.hid fun W => within_is (n := p.b) (a := 0) (b := 8) (G := true) W ⟨fun _ => hb, fun _ => rfl⟩
              have dlo : decide (p.lo < -200) = false := decide_eq_false (by omega)
              have dlh : decide (p.hi < p.lo) = false := decide_eq_false (by omega)
              have dhi : decide (200 < p.hi) = false := decide_eq_false (by omega)
              have dsp : decide (40 < p.hi - p.lo) = false := decide_eq_false (by omega)
              have wsp : IntKind.i64.wrap (p.hi - p.lo) = p.hi - p.lo := IntWalk.i64_in _ (by omega)
              have KR := Lib.hid fun W => within_is (n := p.r) (a := 0) (b := 12000) (G := false) W ⟨fun e => (by cases e), fun e => absurd e hr⟩
              clear hE hb hlo hlh hhi hsp hr
              go_enter Try.func28, Try.ntmps28
              go_wp2_with fail
              refine (KB.out _).mono ?_
              rintro e w' ⟨rfl, rfl⟩
              go_wp2_with fail
              refine (KR.out _).mono ?_
              rintro e w' ⟨rfl, rfl⟩
              go_wp2_with fail
              go_ret
              exact ⟨rfl, box1 _ _⟩
          · obtain rfl := chk_bad hE (fun h => hsp h.sp)
            have KB := Lib.hid fun W => within_is (n := p.b) (a := 0) (b := 8) (G := true) W ⟨fun _ => hb, fun _ => rfl⟩
            have dlo : decide (p.lo < -200) = false := decide_eq_false (by omega)
            have dlh : decide (p.hi < p.lo) = false := decide_eq_false (by omega)
            have dhi : decide (200 < p.hi) = false := decide_eq_false (by omega)
            have dsp : decide (40 < p.hi - p.lo) = true := decide_eq_true (by omega)
            have wsp : IntKind.i64.wrap (p.hi - p.lo) = p.hi - p.lo := IntWalk.i64_in _ (by omega)
            clear hE hb hlo hlh hhi hsp
            go_enter Try.func28, Try.ntmps28
            go_wp2_with fail
            refine (KB.out _).mono ?_
            rintro e w' ⟨rfl, rfl⟩
            go_wp2_with fail
            go_ret
            exact ⟨rfl, box1 _ _⟩
        · obtain rfl := chk_bad hE (fun h => hhi h.hi.2)
          have KB := Lib.hid fun W => within_is (n := p.b) (a := 0) (b := 8) (G := true) W ⟨fun _ => hb, fun _ => rfl⟩
          have dlo : decide (p.lo < -200) = false := decide_eq_false (by omega)
          have dlh : decide (p.hi < p.lo) = false := decide_eq_false (by omega)
          have dhi : decide (200 < p.hi) = true := decide_eq_true (by omega)
          clear hE hb hlo hlh hhi
          go_enter Try.func28, Try.ntmps28
          go_wp2_with fail
          refine (KB.out _).mono ?_
          rintro e w' ⟨rfl, rfl⟩
          go_wp2_with fail
          go_ret
          exact ⟨rfl, box1 _ _⟩
      · obtain rfl := chk_bad hE (fun h => hlh h.hi.1)
        have KB := Lib.hid fun W => within_is (n := p.b) (a := 0) (b := 8) (G := true) W ⟨fun _ => hb, fun _ => rfl⟩
        have dlo : decide (p.lo < -200) = false := decide_eq_false (by omega)
        have dlh : decide (p.hi < p.lo) = true := decide_eq_true (by omega)
        clear hE hb hlo hlh
        go_enter Try.func28, Try.ntmps28
        go_wp2_with fail
        refine (KB.out _).mono ?_
        rintro e w' ⟨rfl, rfl⟩
        go_wp2_with fail
        go_ret
        exact ⟨rfl, box1 _ _⟩
    · obtain rfl := chk_bad hE (fun h => hlo h.lo.1)
      have KB := Lib.hid fun W => within_is (n := p.b) (a := 0) (b := 8) (G := true) W ⟨fun _ => hb, fun _ => rfl⟩
      have dlo : decide (p.lo < -200) = true := decide_eq_true (by omega)
      clear hE hb hlo
      go_enter Try.func28, Try.ntmps28
      go_wp2_with fail
      refine (KB.out _).mono ?_
      rintro e w' ⟨rfl, rfl⟩
      go_wp2_with fail
      go_ret
      exact ⟨rfl, box1 _ _⟩
  · obtain rfl := chk_bad hE (fun h => hb h.b)
    have KB := Lib.hid fun W => within_is (n := p.b) (a := 0) (b := 8) (G := false) W ⟨fun e => (by cases e), fun e => absurd e hb⟩
    clear hE hb
    go_enter Try.func28, Try.ntmps28
    go_wp2_with fail
    refine (KB.out _).mono ?_
    rintro e w' ⟨rfl, rfl⟩
    go_wp2_with fail
    go_ret
    exact ⟨rfl, box1 _ _⟩
set_option maxHeartbeats 1000000 in
theorem levels_is (A : Option Addr) (n c : Nat) (Z : Nat → Int) (G : Bool) (w : World) (hin : IntsIn A n Z w.heap.size w) (hG : G = true ↔ LsOk Z n) :
    Calls Try.prog 72 #[.slice A n c] w fun e w' => e = .returned (.bool G) ∧ w = w' := by
  have HIN := Lib.hid hin
  have hn := hin.1
  obtain ⟨j, j1, j2, j3⟩ : ∃ j, j ≤ n ∧ Lvs Z j ∧ (j < n → ¬ Lev (Z j)) := by
    rcases lvs_or Z n with h | ⟨k, h1, h2, h3⟩
    · exact ⟨n, Nat.le_refl _, h, fun h => absurd h (by omega)⟩
    · exact ⟨k, by omega, h2, fun _ => h3⟩
  have J2 := Lib.hid j2
  have J3 := Lib.hid j3
  have HG := Lib.hid hG
  clear hin j2 j3 hG
  go_enter Try.func72, Try.ntmps72
  go_wp2_with fail
  go_loopw [3] (fun i wr => ∃ k : Nat, k ≤ j ∧ i = .int .i64 (k : Int) ∧ wr = w) (fun i _ => n - (intOf i).toNat)
  case atStart => exact ⟨0, Nat.zero_le _, rfl, rfl⟩
  case round =>
    obtain ⟨k, hk, rfl, rfl⟩ := hrel
    have hk0 : (0 : Int) ≤ (k : Int) := by omega
    by_cases hlt : k < n
    · obtain ⟨a, rfl, _, c0⟩ := HIN.out.2 k hlt
      have hki : (k : Int) < (n : Int) := by omega
      by_cases hkj : k < j
      · have K := Lib.hid fun W => isLevel_t W (J2.out k hkj)
        go_wp2_with (go_at_call 66; refine (K.out _).mono ?_; rintro e w' ⟨rfl, rfl⟩)
        go_roundw
        case rel => exact ⟨k + 1, by omega, by go_num, trivial⟩
        case measure => simp [intOf]; omega
      · obtain rfl : k = j := by omega
        have hbad := J3.out hlt
        have K := Lib.hid fun W => isLevel_f W hbad
        obtain rfl : G = false := by
          cases G with
          | false => rfl
          | true => exact absurd ((HG.out.1 rfl).2.2 k hlt) hbad
        clear hbad
        go_wp2_with (go_at_call 66; refine (K.out _).mono ?_; rintro e w' ⟨rfl, rfl⟩)
        go_ret
        exact ⟨rfl, rfl⟩
    · have hki : (n : Int) ≤ (k : Int) := by omega
      have hjn : j = n := by omega
      have hkn : k = n := by omega
      have K := Lib.hid fun W => within_is (n := (n : Int)) (a := 1) (b := 401) (G := G) W ⟨fun e => by have h := HG.out.1 e; exact ⟨by have := h.1; omega, by have := h.2.1; omega⟩, fun e => HG.out.2 ⟨by omega, by omega, by rw [← hjn]; exact J2.out⟩⟩
      clear hjn hkn
      go_wp2_with (go_at_call 74; refine (K.out _).mono ?_; rintro e w' ⟨rfl, rfl⟩)
      go_ret
      exact ⟨rfl, rfl⟩
end Go.Proofs.Ytkidhmajlpceeaa
