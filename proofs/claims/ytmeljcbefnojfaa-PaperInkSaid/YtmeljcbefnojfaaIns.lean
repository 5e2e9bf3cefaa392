import Derived.Test.YtmeljcbefnojfaaBase
import Derived.Deep.AppendLies
namespace Go.Proofs.Ytmeljcbefnojfaa
open Go.RowKit
/-- what an append gives -/
def Rep (base : Nat) (w : World) (row : Option Nat) (n : Nat) (xs : List Value) (e : Ending) (w' : World) : Prop :=
  ∃ g cap, e = .returned (.slice (some ⟨g, 0, none⟩) n cap) ∧ w'.ownsRow base 23 2 (.slice (some ⟨g, 0, none⟩) n cap) n xs ∧ w.grownBy w' row ∧ (row = some g ∨ g = w.heap.size) ∧ g < w'.heap.size
theorem Try.infoSpan : (Try.prog.info? 23).map (fun i => (i.zero, i.size, i.bytes)) = some (some (.agg #[.int .i64 0, .int .i64 0]), 2, 16) := by kernel_rfl
set_option maxHeartbeats 1000000 in
/-- slices.Insert of one element at the end of nil -/
theorem Insert_nil (base bv : Nat) (a b : Int) (w : World) (hbase : base ≤ w.heap.size)
    (h0 : w.cell? ⟨bv, 0, none⟩ = some (.int .i64 a)) (h1 : w.cell? ⟨bv, 1, none⟩ = some (.int .i64 b)) :
    Calls Try.prog 143 #[.slice none 0 0, .int .i64 0, .slice (some ⟨bv, 0, none⟩) 1 1] w fun e w' => Rep base w none 1 [.int .i64 a, .int .i64 b] e w' := by
  obtain ⟨i0, hi0, hz0, hz1, hz2⟩ := info_parts Try.infoSpan
  have hnews : ∀ j u, ([.int .i64 a, .int .i64 b] : List Value)[j]? = some u → w.cell? ((⟨bv, 0, none⟩ : Addr).add j) = some u := by
    intro j u hj
    match j with
    | 0 => simp at hj; subst hj; exact h0
    | 1 => simp at hj; subst hj; exact h1
    | j + 2 => simp at hj
  have HN := Lib.hid hnews
  clear hnews h0 h1
  go_enter Try.func143, Try.ntmps143
  go_wp2_with ((at_builtin; refine wpList_append_lies _ rfl _ _ 52 rfl base 23 i0 (.agg #[.int .i64 0, .int .i64 0]) 2 16 Try.underlying52 hi0 hz0 hz1 hz2 rfl (by decide) (.slice none 0 0) 0 [] rfl (World.ownsRow_nil w base _ 2) ⟨bv, 0, none⟩ 1 1 [.int .i64 a, .int .i64 b] rfl rfl HN.out (by simp [Value.oneCell']) (by decide) (by unfold maxLen; omega) (by omega) hbase w.heap.size rfl ?_; intro g' cap' w1 hown hgrow hat hlt))
  go_wp2_with fail
  go_ret
  exact ⟨_, _, rfl, hown, hgrow, hat, hlt⟩
/-- slices.Insert of one element at the end of a row of one's own -/
theorem Insert_end (base bv g cap n : Nat) (xs : List Value) (a b : Int) (w : World) (hbase : base ≤ w.heap.size) (hn : n ≤ 1000)
    (hown : w.ownsRow base 23 2 (.slice (some ⟨g, 0, none⟩) n cap) n xs) (hcap : n ≤ cap) (hcm : cap ≤ maxLen)
    (h0 : w.cell? ⟨bv, 0, none⟩ = some (.int .i64 a)) (h1 : w.cell? ⟨bv, 1, none⟩ = some (.int .i64 b)) :
    Calls Try.prog 143 #[.slice (some ⟨g, 0, none⟩) n cap, .int .i64 n, .slice (some ⟨bv, 0, none⟩) 1 1] w fun e w' => Rep base w (some g) (n + 1) (xs ++ [.int .i64 a, .int .i64 b]) e w' := by
  obtain ⟨i0, hi0, hz0, hz1, hz2⟩ := info_parts Try.infoSpan
  have hnews : ∀ j u, ([.int .i64 a, .int .i64 b] : List Value)[j]? = some u → w.cell? ((⟨bv, 0, none⟩ : Addr).add j) = some u := by
    intro j u hj
    match j with
    | 0 => simp at hj; subst hj; exact h0
    | 1 => simp at hj; subst hj; exact h1
    | j + 2 => simp at hj
  have HN := Lib.hid hnews
  have HO := Lib.hid hown
  clear hnews h0 h1 hown
  unfold maxLen at hcm
  have hc2 : (n : Int) ≤ cap := by omega
  have hc3 : (cap : Int) ≤ 9223372036854775807 := by omega
  by_cases hcn : cap = n
  · subst hcn
    go_enter Try.func143, Try.ntmps143
    go_wp2_with ((at_builtin; refine wpList_append_lies _ rfl _ _ 52 rfl base 23 i0 (.agg #[.int .i64 0, .int .i64 0]) 2 16 Try.underlying52 hi0 hz0 hz1 hz2 rfl (by decide) (.slice (some ⟨g, 0, none⟩) cap cap) cap xs rfl HO.out ⟨bv, 0, none⟩ 1 1 [.int .i64 a, .int .i64 b] rfl rfl HN.out (by simp [Value.oneCell']) (by decide) (by unfold maxLen; omega) (by omega) hbase w.heap.size rfl ?_; intro g' cap' w1 hown hgrow hat hlt))
    go_wp2_with fail
    go_ret
    exact ⟨_, _, rfl, hown, hgrow, hat, hlt⟩
  · have hcl : (n : Int) < cap := by omega
    go_enter Try.func143, Try.ntmps143
    go_wp2_with ((at_builtin; refine wpList_append_lies _ rfl _ _ 52 rfl base 23 i0 (.agg #[.int .i64 0, .int .i64 0]) 2 16 Try.underlying52 hi0 hz0 hz1 hz2 rfl (by decide) (.slice (some ⟨g, 0, none⟩) n cap) n xs rfl HO.out ⟨bv, 0, none⟩ 1 1 [.int .i64 a, .int .i64 b] rfl rfl HN.out (by simp [Value.oneCell']) (by decide) (by unfold maxLen; omega) (by omega) hbase w.heap.size rfl ?_; intro g' cap' w1 hown hgrow hat hlt))
    go_wp2_with fail
    go_ret
    exact ⟨_, _, rfl, hown, hgrow, hat, hlt⟩
set_option maxRecDepth 100000 in
set_option maxHeartbeats 1000000 in
theorem Replace_nil (base bv : Nat) (a b : Int) (w : World) (hbase : base ≤ w.heap.size)
    (h0 : w.cell? ⟨bv, 0, none⟩ = some (.int .i64 a)) (h1 : w.cell? ⟨bv, 1, none⟩ = some (.int .i64 b)) :
    Calls Try.prog 133 #[.slice none 0 0, .int .i64 0, .int .i64 0, .slice (some ⟨bv, 0, none⟩) 1 1] w fun e w' => Rep base w none 1 [.int .i64 a, .int .i64 b] e w' := by
  have H := Lib.hid (Insert_nil base bv a b w hbase h0 h1)
  clear h0 h1
  go_enter Try.func133, Try.ntmps133
  go_wp2_with fail
  refine H.out.mono ?_
  rintro e w' ⟨g', cap', rfl, hown, hgrow, hat, hlt⟩
  go_wp2_with fail
  go_ret
  exact ⟨_, _, rfl, hown, hgrow, hat, hlt⟩
set_option maxRecDepth 100000 in
set_option maxHeartbeats 1000000 in
theorem Replace_app (base bv g cap n : Nat) (xs : List Value) (a b : Int) (w : World) (hbase : base ≤ w.heap.size) (hn : n ≤ 1000)
    (hown : w.ownsRow base 23 2 (.slice (some ⟨g, 0, none⟩) n cap) n xs) (hcap : n ≤ cap) (hcm : cap ≤ maxLen)
    (h0 : w.cell? ⟨bv, 0, none⟩ = some (.int .i64 a)) (h1 : w.cell? ⟨bv, 1, none⟩ = some (.int .i64 b)) :
    Calls Try.prog 133 #[.slice (some ⟨g, 0, none⟩) n cap, .int .i64 n, .int .i64 n, .slice (some ⟨bv, 0, none⟩) 1 1] w fun e w' => Rep base w (some g) (n + 1) (xs ++ [.int .i64 a, .int .i64 b]) e w' := by
  have H := Lib.hid (Insert_end base bv g cap n xs a b w hbase hn hown hcap hcm h0 h1)
  clear h0 h1 hown
  unfold maxLen at hcm
  have hc2 : (n : Int) ≤ cap := by omega
  have hc3 : (cap : Int) ≤ 9223372036854775807 := by omega
  by_cases hcn : cap = n
  · subst hcn
    go_enter Try.func133, Try.ntmps133
    go_wp2_with fail
    refine H.out.mono ?_
    rintro e w' ⟨g', cap', rfl, hown, hgrow, hat, hlt⟩
    go_wp2_with fail
    go_ret
    exact ⟨_, _, rfl, hown, hgrow, hat, hlt⟩
  · have hcl : (n : Int) < cap := by omega
    go_enter Try.func133, Try.ntmps133
    go_wp2_with fail
    refine H.out.mono ?_
    rintro e w' ⟨g', cap', rfl, hown, hgrow, hat, hlt⟩
    go_wp2_with fail
    go_ret
    exact ⟨_, _, rfl, hown, hgrow, hat, hlt⟩
set_option maxRecDepth 100000 in
set_option maxHeartbeats 1000000 in
/-- one element in the place of one -/
theorem Replace_one (base bv g cap : Nat) (xs : List Value) (a b : Int) (w : World) (hbase : base ≤ w.heap.size)
    (hown : w.ownsRow base 23 2 (.slice (some ⟨g, 0, none⟩) 1 cap) 1 xs) (hcap : 1 ≤ cap) (hcm : cap ≤ maxLen)
    (h0 : w.cell? ⟨bv, 0, none⟩ = some (.int .i64 a)) (h1 : w.cell? ⟨bv, 1, none⟩ = some (.int .i64 b)) :
    Calls Try.prog 133 #[.slice (some ⟨g, 0, none⟩) 1 cap, .int .i64 0, .int .i64 1, .slice (some ⟨bv, 0, none⟩) 1 1] w fun e w' => Rep base w (some g) 1 [.int .i64 a, .int .i64 b] e w' := by
  obtain ⟨i0, hi0, hz0, hz1, hz2⟩ := info_parts Try.infoSpan
  have hown0 : w.ownsRow base 23 2 (.slice (some ⟨g, 0, none⟩) 0 cap) 0 [] := by
    obtain ⟨_, h | ⟨g', cap', cur, e1, e2, e3, e4, e5, e6, e7⟩⟩ := hown
    · cases h.1
    · cases e1
      exact ⟨rfl, .inr ⟨g, cap, cur, rfl, e2, e3, Nat.zero_le _, e5, e6, by simp⟩⟩
  have hnews : ∀ j u, ([.int .i64 a, .int .i64 b] : List Value)[j]? = some u → w.cell? ((⟨bv, 0, none⟩ : Addr).add j) = some u := by
    intro j u hj
    match j with
    | 0 => simp at hj; subst hj; exact h0
    | 1 => simp at hj; subst hj; exact h1
    | j + 2 => simp at hj
  have HN := Lib.hid hnews
  have HO := Lib.hid hown0
  clear hnews h0 h1 hown hown0
  unfold maxLen at hcm
  have hc2 : (1 : Int) ≤ cap := by omega
  have hc3 : (cap : Int) ≤ 9223372036854775807 := by omega
  go_enter Try.func133, Try.ntmps133
  go_wp2_with ((at_builtin; refine wpList_append_lies _ rfl _ _ 52 rfl base 23 i0 (.agg #[.int .i64 0, .int .i64 0]) 2 16 Try.underlying52 hi0 hz0 hz1 hz2 rfl (by decide) (.slice (some ⟨g, 0, none⟩) 0 cap) 0 [] rfl HO.out ⟨bv, 0, none⟩ 1 1 [.int .i64 a, .int .i64 b] rfl rfl HN.out (by simp [Value.oneCell']) (by decide) (by unfold maxLen; omega) (by omega) hbase w.heap.size rfl ?_; intro g' cap' w1 hown hgrow hat hlt))
  go_wp2_with fail
  go_ret
  exact ⟨_, _, rfl, hown, hgrow, hat, hlt⟩
end Go.Proofs.Ytmeljcbefnojfaa
namespace Go.Proofs.Ytmeljcbefnojfaa
open Go.RowKit
set_option maxHeartbeats 1000000 in
/-- sort.Search over a function that says whether k has been reached -/
theorem Search_any (g : Nat) (cb : Array Value) (n k : Nat) (w : World) (hk : k ≤ n) (hn : n ≤ 1000000000000) (eg : ∀ args w, (callFunc g args).run Try.prog w = .ok (.enter g args) w)
    (hf : ∀ (m i : Nat), i < n → Calls Try.prog g (#[.int .i64 i] ++ cb) (w.drewN m) fun e w' => e = .returned (.bool (decide (k ≤ i))) ∧ ∃ q, w' = w.drewN q) :
    Calls Try.prog 130 #[.int .i64 n, .func (.func g) #[] cb] w fun e w' => e = .returned (.int .i64 k) ∧ ∃ q, w' = w.drewN q := by
  have HF := Lib.hid hf
  clear hf
  go_enter Try.func130, Try.ntmps130
  go_wp2_with fail
  go_loopg [5, 6] n (fun kx s5 s6 wr => ∃ (lo hi q : Nat), s5 = .int .i64 lo ∧ s6 = .int .i64 hi ∧ lo ≤ k ∧ k ≤ hi ∧ hi ≤ n ∧ hi - lo ≤ kx ∧ wr = w.drewN q)
  case atStart => exact ⟨0, n, 0, rfl, rfl, Nat.zero_le _, hk, Nat.le_refl _, by omega, rfl⟩
  case round =>
    obtain ⟨lo, hi, q, rfl, rfl, h1, h2, h3, h4, rfl⟩ := hrel
    by_cases hlt : lo < hi
    · have hc := HF.out q ((lo + hi) / 2) (by omega)
      rw [show (((lo + hi) / 2 : Nat) : Int) = ((lo : Int) + (hi : Int)) / 2 by omega] at hc
      by_cases hp : k ≤ (lo + hi) / 2
      · rw [decide_eq_true hp] at hc
        have HC := Lib.hid hc
        clear hc
        go_wp2_with (go_at_fn g; refine HC.out.mono ?_; rintro e w' ⟨rfl, nq, rfl⟩)
        go_roundg ((lo + hi) / 2 - lo)
        case measure => omega
        case rel => exact ⟨lo, (lo + hi) / 2, nq, rfl, by rw [show ((lo : Int) + (hi : Int)) / 2 = (((lo + hi) / 2 : Nat) : Int) by omega], h1, hp, by omega, Nat.le_refl _, rfl⟩
      · rw [decide_eq_false hp] at hc
        have HC := Lib.hid hc
        clear hc
        go_wp2_with (go_at_fn g; refine HC.out.mono ?_; rintro e w' ⟨rfl, nq, rfl⟩)
        go_roundg (hi - ((lo + hi) / 2 + 1))
        case measure => omega
        case rel => exact ⟨(lo + hi) / 2 + 1, hi, nq, by rw [show ((lo : Int) + (hi : Int)) / 2 + 1 = (((lo + hi) / 2 + 1 : Nat) : Int) by omega], rfl, by omega, h2, h3, Nat.le_refl _, rfl⟩
    · obtain rfl : hi = k := by omega
      obtain rfl : lo = hi := by omega
      go_wp2_with fail
      go_ret
      exact ⟨rfl, q, rfl⟩
set_option maxHeartbeats 400000 in
theorem Search_none (f : Value) (n : Int) (w : World) (hn : n ≤ 0) :
    Calls Try.prog 130 #[.int .i64 n, f] w fun e w' => e = .returned (.int .i64 0) ∧ w = w' := by
  have hd : decide (0 < n) = false := by simp; omega
  go_enter Try.func130, Try.ntmps130
  go_wp2_with fail
  go_loop [5, 6] (fun i j => i = .int .i64 0 ∧ j = .int .i64 n) (fun _ _ => 0)
  case atStart => exact ⟨rfl, rfl⟩
  case round =>
    obtain ⟨rfl, rfl⟩ := hrel
    go_wp2_with fail
    go_ret
    exact ⟨rfl, rfl⟩
end Go.Proofs.Ytmeljcbefnojfaa
