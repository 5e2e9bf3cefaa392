import Derived.Test.YtmeljcbefnojfaaBase
import Derived.Deep.AppendLies
namespace Go.Proofs.Ytmeljcbefnojfaa
open Go.RowKit
/-- what an append gives -/
def Rep (base : Nat) (w : World) (row : Option Nat) (n : Nat) (xs : List Value) (e : Ending) (w' : World) : Prop :=
  ∃ g cap, e = .returned (.slice (some ⟨g, 0, none⟩) n cap) ∧ w'.ownsRow base 23 2 (.slice (some ⟨g, 0, none⟩) n cap) n xs ∧ w.grownBy w' row ∧ (row = some g ∨ g = w.heap.size) ∧ g < w'.heap.size
theorem Try.infoSpan : (Try.prog.info? 23).map (fun i => (i.zero, i.size, i.bytes)) = some (some (.agg #[.int .i64 0, .int .i64 0]), 2, 16) := by kernel_rfl
set_option maxHeartbeats 1000000 in
/-- slices.Insert of one element at the end of nil -/
theorem Insert_nil (base bv : Nat) (a b : Int) (w : World) (hbase : base ≤ w.heap.size)
    (h0 : w.cell? ⟨bv, 0, none⟩ = some (.int .i64 a)) (h1 : w.cell? ⟨bv, 1, none⟩ = some (.int .i64 b)) :
    Calls Try.prog 143 #[.slice none 0 0, .int .i64 0, .slice (some ⟨bv, 0, none⟩) 1 1] w fun e w' => Rep base w none 1 [.int .i64 a, .int .i64 b] e w' := by
  obtain ⟨i0, hi0, hz0, hz1, hz2⟩ := info_parts Try.infoSpan
  have hnews : ∀ j u, ([.int .i64 a, .int .i64 b] : List Value)[j]? = some u → w.cell? ((⟨bv, 0, none⟩ : Addr).add j) = some u := by
    intro j u hj
    match j with
    | 0 => simp at hj; subst hj; exact h0
    | 1 => simp at hj; subst hj; exact h1
    | j + 2 => simp at hj
  have HN := Lib.hid hnews
  clear hnews h0 h1
  go_enter Try.func143, Try.ntmps143
  go_wp2_with ((at_builtin; refine wpList_append_lies _ rfl _ _ 52 rfl base 23 i0 (.agg #[.int .i64 0, .int .i64 0]) 2 16 Try.underlying52 hi0 hz0 hz1 hz2 rfl (by decide) (.slice none 0 0) 0 [] rfl (World.ownsRow_nil w base _ 2) ⟨bv, 0, none⟩ 1 1 [.int .i64 a, .int .i64 b] rfl rfl HN.out (by simp [Value.oneCell']) (by decide) (by unfold maxLen; omega) (by omega) hbase w.heap.size rfl ?_; intro g' cap' w1 hown hgrow hat hlt))
  go_wp2_with fail
  go_ret
  exact ⟨_, _, rfl, hown, hgrow, hat, hlt⟩
/-- slices.Insert of one element at the end of a row of one's own -/
theorem Insert_end (base bv g cap n : Nat) (xs : List Value) (a b : Int) (w : World) (hbase : base ≤ w.heap.size) (hn : n ≤ 1000)
    (hown : w.ownsRow base 23 2 (.slice (some ⟨g, 0, none⟩) n cap) n xs) (hcap : n ≤ cap) (hcm : cap ≤ maxLen)
    (h0 : w.cell? ⟨bv, 0, none⟩ = some (.int .i64 a)) (h1 : w.cell? ⟨bv, 1, none⟩ = some (.int .i64 b)) :
    Calls Try.prog 143 #[.slice (some ⟨g, 0, none⟩) n cap, .int .i64 n, .slice (some ⟨bv, 0, none⟩) 1 1] w fun e w' => Rep base w (some g) (n + 1) (xs ++ [.int .i64 a, .int .i64 b]) e w' := by
  obtain ⟨i0, hi0, hz0, hz1, hz2⟩ := info_parts Try.infoSpan
  have hnews : ∀ j u, ([.int .i64 a, .int .i64 b] : List Value)[j]? = some u → w.cell? ((⟨bv, 0, none⟩ : Addr).add j) = some u := by
    intro j u hj
    match j with
    | 0 => simp at hj; subst hj; exact h0
    | 1 => simp at hj; subst hj; exact h1
    | j + 2 => simp at hj
  have HN := Lib.hid hnews
  have HO := Lib.hid hown
  clear hnews h0 h1 hown
  unfold maxLen at hcm
  have hc2 : (n : Int) ≤ cap := by omega
  have hc3 : (cap : Int) ≤ 9223372036854775807 := by omega
  by_cases hcn : cap = n
  · subst hcn
    go_enter Try.func143, Try.ntmps143
    go_wp2_with ((at_builtin; refine wpList_append_lies _ rfl _ _ 52 rfl base 23 i0 (.agg #[.int .i64 0, .int .i64 0]) 2 16 Try.underlying52 hi0 hz0 hz1 hz2 rfl (by decide) (.slice (some ⟨g, 0, none⟩) cap cap) cap xs rfl HO.out ⟨bv, 0, none⟩ 1 1 [.int .i64 a, .int .i64 b] rfl rfl HN.out (by simp [Value.oneCell']) (by decide) (by unfold maxLen; omega) (by omega) hbase w.heap.size rfl ?_; intro g' cap' w1 hown hgrow hat hlt))
    go_wp2_with fail
    go_ret
    exact ⟨_, _, rfl, hown, hgrow, hat, hlt⟩
  · have hcl : (n : Int) < cap := by omega
    go_enter Try.func143, Try.ntmps143
    go_wp2_with ((at_builtin; refine wpList_append_lies _ rfl _ _ 52 rfl base 23 i0 (.agg #[.int .i64 0, .int .i64 0]) 2 16 Try.underlying52 hi0 hz0 hz1 hz2 rfl (by decide) (.slice (some ⟨g, 0, none⟩) n cap) n xs rfl HO.out ⟨bv, 0, none⟩ 1 1 [.int .i64 a, .int .i64 b] rfl rfl HN.out (by simp [Value.oneCell']) (by decide) (by unfold maxLen; omega) (by omega) hbase w.heap.size rfl ?_; intro g' cap' w1 hown hgrow hat hlt))
    go_wp2_with fail
    go_ret
    exact ⟨_, _, rfl, hown, hgrow, hat, hlt⟩
set_option maxRecDepth 100000 in
set_option maxHeartbeats 1000000 in
theorem Replace_nil (base bv : Nat) (a b : Int) (w : World) (hbase : base ≤ w.heap.size)
    (h0 : w.cell? ⟨bv, 0, none⟩ = some (.int .i64 a)) (h1 : w.cell? ⟨bv, 1, none⟩ = some (.int .i64 b)) :
    Calls Try.prog 133 #[.slice none 0 0, .int .i64 0, .int .i64 0, .slice (some ⟨bv, 0, none⟩) 1 1] w fun e w' => Rep base w none 1 [.int .i64 a, .int .i64 b] e w' := by
  have H := Lib.hid (Insert_nil base bv a b w hbase h0 h1)
  clear h0 h1
  go_enter Try.func133, Try.ntmps133
  go_wp2_with fail
  refine H.out.mono ?_
  rintro e w' ⟨g', cap', rfl, hown, hgrow, hat, hlt⟩
  go_wp2_with fail
  go_ret
  exact ⟨_, _, rfl, hown, hgrow, hat, hlt⟩
set_option maxRecDepth 100000 in
set_option maxHeartbeats 1000000 in
theorem Replace_app (base bv g cap n : Nat) (xs : List Value) (a b : Int) (w : World) (hbase : base ≤ w.heap.size) (hn : n ≤ 1000)
    (hown : w.ownsRow base 23 2 (.slice (some ⟨g, 0, none⟩) n cap) n xs) (hcap : n ≤ cap) (hcm : cap ≤ maxLen)
    (h0 : w.cell? ⟨bv, 0, none⟩ = some (.int .i64 a)) (h1 : w.cell? ⟨bv, 1, none⟩ = some (.int .i64 b)) :
    Calls Try.prog 133 #[.slice (some ⟨g, 0, none⟩) n cap, .int .i64 n, .int .i64 n, .slice (some ⟨bv, 0, none⟩) 1 1] w fun e w' => Rep base w (some g) (n + 1) (xs ++ [.int .i64 a, .int .i64 b]) e w' := by
  have H := Lib.hid (Insert_end base bv g cap n xs a b w hbase hn hown hcap hcm h0 h1)
  clear h0 h1 hown
  unfold maxLen at hcm
  have hc2 : (n : Int) ≤ cap := by omega
  have hc3 : (cap : Int) ≤ 9223372036854775807 := by omega
  by_cases hcn : cap = n
  · subst hcn
    go_enter Try.func133, Try.ntmps133
    go_wp2_with fail
    refine H.out.mono ?_
    rintro e w' ⟨g', cap', rfl, hown, hgrow, hat, hlt⟩
    go_wp2_with fail
    go_ret
    exact ⟨_, _, rfl, hown, hgrow, hat, hlt⟩
  · have hcl : (n : Int) < cap := by omega
    go_enter Try.func133, Try.ntmps133
    go_wp2_with fail
    refine H.out.mono ?_
    rintro e w' ⟨g', cap', rfl, hown, hgrow, hat, hlt⟩
    go_wp2_with fail
    go_ret
    exact ⟨_, _, rfl, hown, hgrow, hat, hlt⟩
set_option maxRecDepth 100000 in
set_option maxHeartbeats 1000000 in
/-- one element in the place of one -/
theorem Replace_one (base bv g cap : Nat) (xs : List Value) (a b : Int) (w : World) (hbase : base ≤ w.heap.size)
    (hown : w.ownsRow base 23 2 (.slice (some ⟨g, 0, none⟩) 1 cap) 1 xs) (hcap : 1 ≤ cap) (hcm : cap ≤ maxLen)
    (h0 : w.cell? ⟨bv, 0, none⟩ = some (.int .i64 a)) (h1 : w.cell? ⟨bv, 1, none⟩ = some (.int .i64 b)) :
    Calls Try.prog 133 #[.slice (some ⟨g, 0, none⟩) 1 cap, .int .i64 0, .int .i64 1, .slice (some ⟨bv, 0, none⟩) 1 1] w fun e w' => Rep base w (some g) 1 [.int .i64 a, .int .i64 b] e w' := by
  obtain ⟨i0, hi0, hz0, hz1, hz2⟩ := info_parts Try.infoSpan
  have hown0 : w.ownsRow base 23 2 (.slice (some ⟨g, 0, none⟩) 0 cap) 0 [] := by
    obtain ⟨_, h | ⟨g', cap', cur, e1, e2, e3, e4, e5, e6, e7⟩⟩ := hown
    · cases h.1
    · cases e1
      exact ⟨rfl, .inr ⟨g, cap, cur, rfl, e2, e3, Nat.zero_le _, e5, e6, by simp⟩⟩
  have hnews : ∀ j u, ([.int .i64 a, .int .i64 b] : List Value)[j]? = some u → w.cell? ((⟨bv, 0, none⟩ : Addr).add j) = some u := by
    intro j u hj
    match j with
    | 0 => simp at hj; subst hj; exact h0
    | 1 => simp at hj; subst hj; exact h1
    | j + 2 => simp at hj
  have HN := Lib.hid hnews
  have HO := Lib.hid hown0
  clear hnews h0 h1 hown hown0
  unfold maxLen at hcm
  have hc2 : (1 : Int) ≤ cap := by omega
  have hc3 : (cap : Int) ≤ 9223372036854775807 := by omega
  go_enter Try.func133, Try.ntmps133
  go_wp2_with ((at_builtin; refine wpList_append_lies _ rfl _ _ 52 rfl base 23 i0 (.agg #[.int .i64 0, .int .i64 0]) 2 16 Try.underlying52 hi0 hz0 hz1 hz2 rfl (by decide) (.slice (some ⟨g, 0, none⟩) 0 cap) 0 [] rfl HO.out ⟨bv, 0, none⟩ 1 1 [.int .i64 a, .int .i64 b] rfl rfl HN.out (by simp [Value.oneCell']) (by decide) (by unfold maxLen; omega) (by omega) hbase w.heap.size rfl ?_; intro g' cap' w1 hown hgrow hat hlt))
  go_wp2_with fail
  go_ret
  exact ⟨_, _, rfl, hown, hgrow, hat, hlt⟩
end Go.Proofs.Ytmeljcbefnojfaa
