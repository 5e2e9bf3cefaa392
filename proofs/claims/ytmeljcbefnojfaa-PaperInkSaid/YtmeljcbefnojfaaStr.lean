import Derived.Test.YtmeljcbefnojfaaIns
import Derived.Test.YtmeljcbefnojfaaLev
namespace Go.Proofs.Ytmeljcbefnojfaa
open Go.RowKit
/-- what a function value says of numbers -/
def Tells (g : Nat) (cb : Array Value) (K lo hi : Int) (w : World) : Prop :=
  ∀ (W : World) (y : Int), Below w.heap.size w W → lo ≤ y → y ≤ hi → Calls Try.prog g (#[.int .i64 y] ++ cb) W fun e w' => e = .returned (.bool (decide (K ≤ y))) ∧ ∃ q, w' = W.drewN q
theorem Tells.up {g : Nat} {cb : Array Value} {K lo hi : Int} {w w1 : World} (h : Tells g cb K lo hi w) (hb : Below w.heap.size w w1) : Tells g cb K lo hi w1 :=
  fun W y hW h1 h2 => h W y (hb.trans (hW.mono hb.size)) h1 h2
set_option maxHeartbeats 1000000 in
theorem stretch1_any (bf bs g : Nat) (cb : Array Value) (K lo hi i : Int) (w W : World) (h : Tells g cb K lo hi w) (hb : Below w.heap.size w W) (eg : ∀ args w, (callFunc g args).run Try.prog w = .ok (.enter g args) w)
    (c0 : W.cell? ⟨bf, 0, none⟩ = some (.func (.func g) #[] cb)) (c1 : W.cell? ⟨bs, 0, none⟩ = some (.int .i64 lo)) (h0 : -1000000000 ≤ lo) (h00 : lo ≤ 1000000000) (h1 : 0 ≤ i) (h2 : lo + i ≤ hi) (h3 : hi ≤ 1000000000) :
    Calls Try.prog 141 #[.int .i64 i, .pointer (some ⟨bf, 0, none⟩), .pointer (some ⟨bs, 0, none⟩)] W fun e w' => e = .returned (.bool (decide (K ≤ lo + i))) ∧ ∃ q, w' = W.drewN q := by
  have H := Lib.hid (h W (lo + i) hb (by omega) h2)
  clear h hb
  go_enter Try.func141, Try.ntmps141
  go_wp2_with (go_at_fn g; refine H.out.mono ?_; rintro e w' ⟨rfl, nq, rfl⟩)
  go_ret
  exact ⟨rfl, nq, rfl⟩
set_option maxHeartbeats 1000000 in
theorem stretch2_any (bf bs g : Nat) (cb : Array Value) (K lo hi i : Int) (w W : World) (h : Tells g cb K lo hi w) (hb : Below w.heap.size w W) (eg : ∀ args w, (callFunc g args).run Try.prog w = .ok (.enter g args) w)
    (c0 : W.cell? ⟨bf, 0, none⟩ = some (.func (.func g) #[] cb)) (c1 : W.cell? ⟨bs, 0, none⟩ = some (.int .i64 lo)) (h0 : -1000000000 ≤ lo) (h00 : lo ≤ 1000000000) (h1 : 0 ≤ i) (h2 : lo + i ≤ hi) (h3 : hi ≤ 1000000000) :
    Calls Try.prog 142 #[.int .i64 i, .pointer (some ⟨bf, 0, none⟩), .pointer (some ⟨bs, 0, none⟩)] W fun e w' => e = .returned (.bool (decide (K ≤ lo + i))) ∧ ∃ q, w' = W.drewN q := by
  have H := Lib.hid (h W (lo + i) hb (by omega) h2)
  clear h hb
  go_enter Try.func142, Try.ntmps142
  go_wp2_with (go_at_fn g; refine H.out.mono ?_; rintro e w' ⟨rfl, nq, rfl⟩)
  go_ret
  exact ⟨rfl, nq, rfl⟩
theorem eg141 : ∀ args w, (callFunc 141 args).run Try.prog w = .ok (.enter 141 args) w := enters_of Try.func141 (by kernel_rfl) rfl
theorem eg142 : ∀ args w, (callFunc 142 args).run Try.prog w = .ok (.enter 142 args) w := enters_of Try.func142 (by kernel_rfl) rfl
set_option maxHeartbeats 1000000 in
theorem stretch_none (f1 f2 : Value) (lo hi : Int) (w : World) (h0 : -1000000000 ≤ lo) (h00 : lo ≤ 1000000000) (h3 : -1000000000 ≤ hi) (h4 : hi < lo) (o1 : f1.oneCell' = true) (o2 : f2.oneCell' = true) :
    Calls Try.prog 125 #[.agg #[.int .i64 lo, .int .i64 hi], f1, f2] w fun e w' => e = .returned (.agg #[.int .i64 lo, .int .i64 (lo - 1)]) ∧ Below w.heap.size w w' := by
  go_enter Try.func125, Try.ntmps125
  go_wp2_with fail
  refine (Search_none _ _ _ (by omega)).mono ?_
  rintro e w1 ⟨rfl, rfl⟩
  go_wp2_with fail
  refine (Search_none _ _ _ (by omega)).mono ?_
  rintro e w1 ⟨rfl, rfl⟩
  go_wp2_with fail
  refine bodyPost_ret (v := .agg #[.int .i64 lo, .int .i64 (lo - 1)]) ?_ rfl ⟨rfl, ?_⟩
  · simp [results, Try.results125, go_sem]
  · exact box4 _ _ _ _ _
set_option maxHeartbeats 2000000 in
theorem stretch_some (g1 g2 : Nat) (cb1 cb2 : Array Value) (K1 K2 lo hi : Int) (w : World) (h0 : 0 ≤ lo) (h3 : hi ≤ 1000000000) (h4 : lo ≤ hi)
    (eg1 : ∀ args w, (callFunc g1 args).run Try.prog w = .ok (.enter g1 args) w) (eg2 : ∀ args w, (callFunc g2 args).run Try.prog w = .ok (.enter g2 args) w)
    (t1 : Tells g1 cb1 K1 lo hi w) (t2 : Tells g2 cb2 K2 lo hi w) (hK1 : lo ≤ K1 ∧ K1 ≤ hi + 1) (hK2 : lo ≤ K2 ∧ K2 ≤ hi + 1) :
    Calls Try.prog 125 #[.agg #[.int .i64 lo, .int .i64 hi], .func (.func g1) #[] cb1, .func (.func g2) #[] cb2] w fun e w' => e = .returned (.agg #[.int .i64 K1, .int .i64 (K2 - 1)]) ∧ Below w.heap.size w w' := by
  obtain ⟨n, hn⟩ : ∃ n : Nat, (n : Int) = hi - lo + 1 := ⟨(hi - lo + 1).toNat, by omega⟩
  obtain ⟨k1, hk1⟩ : ∃ k : Nat, (k : Int) = K1 - lo := ⟨(K1 - lo).toNat, by omega⟩
  obtain ⟨k2, hk2⟩ : ∃ k : Nat, (k : Int) = K2 - lo := ⟨(K2 - lo).toNat, by omega⟩
  obtain ⟨W0, hW0⟩ : ∃ W0, W0 = (((w.alloc (.cells #[.int .i64 lo, .int .i64 hi] 23)).alloc (.cells #[.func (.func g1) #[] cb1] 83)).alloc (.cells #[.func (.func g2) #[] cb2] 83)).alloc (.cells #[.int .i64 0, .int .i64 0] 23) := ⟨_, rfl⟩
  have hB : Below w.heap.size w W0 := by rw [hW0]; exact box4 _ _ _ _ _
  have c0 : W0.cell? ⟨w.heap.size, 0, none⟩ = some (.int .i64 lo) := by rw [hW0]; go_simp
  have c1 : W0.cell? ⟨w.heap.size + 1, 0, none⟩ = some (.func (.func g1) #[] cb1) := by rw [hW0]; go_simp
  have c2 : W0.cell? ⟨w.heap.size + 1 + 1, 0, none⟩ = some (.func (.func g2) #[] cb2) := by rw [hW0]; go_simp
  have hS1 := Search_any 141 #[.pointer (some ⟨w.heap.size + 1, 0, none⟩), .pointer (some ⟨w.heap.size, 0, none⟩)] n k1 W0 (by omega) (by omega) eg141
    (fun m i hi' => by
      have := stretch1_any (w.heap.size + 1) w.heap.size g1 cb1 K1 lo hi i w (W0.drewN m) t1 (below_drewN hB m) eg1 c1 c0 (by omega) (by omega) (by omega) (by omega) h3
      refine this.mono fun e w' h => ⟨by rw [h.1]; simp only [decide_eq_decide, Ending.returned.injEq, Value.bool.injEq]; omega, ?_⟩
      obtain ⟨q, hq⟩ := h.2
      exact ⟨m + q, by rw [hq, World.drewN_drewN]⟩)
  have hS2 := fun q => Search_any 142 #[.pointer (some ⟨w.heap.size + 1 + 1, 0, none⟩), .pointer (some ⟨w.heap.size, 0, none⟩)] n k2 (W0.drewN q) (by omega) (by omega) eg142
    (fun m i hi' => by
      have := stretch2_any (w.heap.size + 1 + 1) w.heap.size g2 cb2 K2 lo hi i w ((W0.drewN q).drewN m) t2 (below_drewN (below_drewN hB q) m) eg2 c2 c0 (by omega) (by omega) (by omega) (by omega) h3
      refine this.mono fun e w' h => ⟨by rw [h.1]; simp only [decide_eq_decide, Ending.returned.injEq, Value.bool.injEq]; omega, ?_⟩
      obtain ⟨q, hq⟩ := h.2
      exact ⟨m + q, by rw [hq, World.drewN_drewN]⟩)
  rw [hn, hk1] at hS1
  rw [hn, hk2] at hS2
  have H1 := Lib.hid hS1
  have H2 := Lib.hid hS2
  have HW := Lib.hid hW0
  clear hS1 hS2 hn hk1 hk2 c0 c1 c2 hW0
  go_enter Try.func125, Try.ntmps125
  go_wp2_with fail
  rw [← HW.out]
  refine H1.out.mono ?_
  rintro e w1 ⟨rfl, q1, rfl⟩
  go_wp2_with fail
  refine (H2.out q1).mono ?_
  rintro e w1 ⟨rfl, q2, rfl⟩
  rw [HW.out]
  clear hB
  go_wp2_with fail
  refine bodyPost_ret (v := .agg #[.int .i64 (lo + (K1 - lo)), .int .i64 (lo + (K2 - lo) - 1)]) ?_ rfl ⟨?_, ?_⟩
  · simp [results, Try.results125, go_sem]
  · rw [spanv (by omega : lo + (K1 - lo) = K1) (by omega : lo + (K2 - lo) - 1 = K2 - 1)]
  · exact set1 (set1 (below_drewN (box4 _ _ _ _ _) _) (by omega) _ _) (by omega) _ _
end Go.Proofs.Ytmeljcbefnojfaa
