/- What the laws make themselves: moments of two lists. -/
import Derived.Test.YtkidhmajlpceeaaTnd
namespace Go.Proofs.Ytkidhmajlpceeaa
open Go.RowKit
theorem Try.infoMoment : (Try.prog.info? 27).map (fun i => (i.zero, i.size, i.bytes)) = some (some (.agg #[.int .i64 0, .int .i64 0]), 2, 16) := by kernel_rfl
/-- pairs, flat -/
def flatM (l : List (Int × Int)) : List Value := l.flatMap fun s => [.int .i64 s.1, .int .i64 s.2]
theorem flatM_snoc (l : List (Int × Int)) (s : Int × Int) : flatM (l ++ [s]) = flatM l ++ [.int .i64 s.1, .int .i64 s.2] := by simp [flatM]
theorem flatM_at : ∀ (l : List (Int × Int)) (i : Nat) (s : Int × Int), l[i]? = some s → (flatM l)[i * 2]? = some (.int .i64 s.1) ∧ (flatM l)[i * 2 + 1]? = some (.int .i64 s.2)
  | [], i, s, h => by simp at h
  | q :: l, 0, s, h => by simp at h; subst h; exact ⟨rfl, rfl⟩
  | q :: l, i + 1, s, h => by
    have := flatM_at l i s (by simpa using h)
    have e : flatM (q :: l) = .int .i64 q.1 :: .int .i64 q.2 :: flatM l := rfl
    rw [e, show (i + 1) * 2 = i * 2 + 1 + 1 by omega]
    exact this
theorem new2 (W : World) (t : TypeId) (x y : Int) : ∀ j u, ([.int .i64 x, .int .i64 y] : List Value)[j]? = some u → (W.alloc (.cells #[.int .i64 x, .int .i64 y] t)).cell? ((⟨W.heap.size, 0, none⟩ : Addr).add j) = some u := by
  intro j u hj
  rw [Addr.add_lit, Nat.zero_add]
  match j with
  | 0 => cases hj; go_simp
  | 1 => cases hj; go_simp
  | j + 2 => simp at hj
/-- a row of pairs of one's own -/
structure RowM (w : World) (t : TypeId) (F : Nat → Int × Int) (k : Nat) (v : Value) (wr : World) : Prop where
  below : Below w.heap.size w wr
  own : wr.ownsRow w.heap.size t 2 v k (flatM ((List.range k).map F))
theorem RowM.app {w wr W w1 : World} {t : TypeId} {F : Nat → Int × Int} {k : Nat} {v v' : Value} (h : RowM w t F k v wr) (hb : Below wr.heap.size wr W) (hg : W.grownBy w1 v.ownBlock)
    (h' : w1.ownsRow w.heap.size t 2 v' (k + 1) (flatM ((List.range k).map F) ++ [.int .i64 (F k).1, .int .i64 (F k).2])) : RowM w t F (k + 1) v' w1 := by
  have s0 := h.below.size
  have s1 := hb.size
  refine ⟨(h.below.trans (hb.mono s0)).grown hg (by omega) (fun r e => (own_block h.own e).1), ?_⟩
  rw [List.range_succ, List.map_append, List.map_cons, List.map_nil, flatM_snoc]
  exact h'
theorem RowM.read {w wr : World} {t : TypeId} {F : Nat → Int × Int} {k : Nat} {v : Value} (h : RowM w t F k v wr) (hk : k ≤ 1000) : ∃ A c, v = .slice A k c ∧ MosIn A k F wr.heap.size wr := by
  obtain ⟨h0, hx | ⟨g, cap, cur, e1, e2, e3, e4, e5, e6, e7⟩⟩ := id h.own
  · exact ⟨none, 0, by rw [hx.1, hx.2], by omega, fun i hi => by omega⟩
  · subst e1
    have hc := h.own.cells (g := g) rfl
    refine ⟨some ⟨g, 0, none⟩, cap, rfl, by omega, fun i hi => ⟨_, rfl, (Array.getElem?_eq_some_iff.1 e3).1, ?_⟩⟩
    obtain ⟨f1, f2⟩ := flatM_at ((List.range k).map F) i (F i) (by simp [hi])
    have a1 := hc _ _ f1
    have a2 := hc _ _ f2
    have ad : ∀ j, (⟨g, 0, none⟩ : Addr).add j = ⟨g, j, none⟩ := fun j => by rw [Addr.add_lit, Nat.zero_add]
    rw [ad] at a1 a2
    rw [ad]
    exact ⟨a1, a2⟩
def prF (Z Y : Nat → Int) (i : Nat) : Int × Int := (Z i, Y i)
set_option maxRecDepth 100000 in
set_option maxHeartbeats 2000000 in
theorem moments_any (A : Option Addr) (n c : Nat) (Z : Nat → Int) (B : Option Addr) (m d : Nat) (Y : Nat → Int) (w : World) (hin : IntsIn A n Z w.heap.size w) (hin2 : IntsIn B m Y w.heap.size w) (hn5 : n ≤ 1000) (_hm5 : m ≤ 1000) :
    Calls Try.prog 58 #[.slice A n c, .slice B m d] w fun e w' => ∃ A' c', e = .returned (.slice A' (min n m : Nat) c') ∧ MosIn A' (min n m) (prF Z Y) w'.heap.size w' ∧ Below w.heap.size w w' := by
  have HIN := Lib.hid hin
  have HIN2 := Lib.hid hin2
  clear hin hin2
  obtain ⟨i0, hi0, hz0, hz1, hz2⟩ := info_parts Try.infoMoment
  obtain ⟨N, hN⟩ : ∃ N, N = min n m := ⟨_, rfl⟩
  rw [← hN]
  have HN := Lib.hid hN
  have hNn : N ≤ n := by omega
  have hNm : N ≤ m := by omega
  clear hN
  go_enter Try.func58, Try.ntmps58
  go_wp2_with fail
  go_loopw [5, 6] (fun v i wr => ∃ k : Nat, k ≤ N ∧ i = .int .i64 k ∧ RowM w 27 (prF Z Y) k v wr) (fun _ i _ => N - (intOf i).toNat)
  case atStart => exact ⟨0, Nat.zero_le _, rfl, Below.refl _ _, World.ownsRow_nil _ _ _ _⟩
  case round =>
    obtain ⟨k, hk, rfl, hR⟩ := hrel
    obtain ⟨wo, rfl⟩ : ∃ wo : World, wo = wr := ⟨_, rfl⟩
    have HR := Lib.hid hR
    have hk0 : (0 : Int) ≤ (k : Int) := by omega
    have hsz := hR.below.size
    by_cases hlt : k < N
    · obtain ⟨a, rfl, _, c0⟩ := (HIN.out.up hR.below (Nat.le_refl _)).2 k (by omega)
      obtain ⟨a', rfl, _, c1⟩ := (HIN2.out.up hR.below (Nat.le_refl _)).2 k (by omega)
      have hki : (k : Int) < (n : Int) := by omega
      have hkj : (k : Int) < (m : Int) := by omega
      have hown := hR.own
      have e0 : prF Z Y k = (Z k, Y k) := rfl
      clear hR
      go_wp2_with fail
      go_region_law (refine step_append_own rfl (.tmp 19) (.tmp 29) 41 rfl w.heap.size 27 i0 (.agg #[.int .i64 0, .int .i64 0]) 2 16 Try.underlying41 hi0 hz0 hz1 hz2 rfl (by decide) _ k _ (by first | rfl | simp [Act.eval]) (hown.alloc _) ⟨wo.heap.size, 0, none⟩ 1 1 [.int .i64 (Z k), .int .i64 (Y k)] (by simp [Act.eval]) rfl (new2 wo _ _ _) (by simp [Value.oneCell']) (by unfold maxLen; omega) (by omega) (by first | (simp only [World.size_drew, World.size_alloc]; omega) | omega) ?_; intro v2 w2 hown2 hg2)
      all_goals
        have NN := Lib.hid (HR.out.app (by first | exact box1 _ _ | exact (box1 _ _).drew) hg2 hown2)
        clear hg2 hown2 hown
        go_wp2_with fail
        go_roundw
        case rel => exact ⟨k + 1, by omega, by go_num, NN.out⟩
        case measure => simp [intOf]; omega
    · obtain rfl : k = N := by omega
      obtain ⟨A', c', rfl, hr⟩ := hR.read (by omega)
      have HM := Lib.hid hr
      clear hr hR
      by_cases h2 : (k : Int) < m
      · have hki : (n : Int) ≤ (k : Int) := by have := HN.out; omega
        go_wp2_with fail
        go_ret
        exact ⟨_, _, rfl, HM.out, HR.out.below⟩
      · have hki : (m : Int) ≤ (k : Int) := by omega
        clear h2
        go_wp2_with fail
        go_ret
        exact ⟨_, _, rfl, HM.out, HR.out.below⟩
end Go.Proofs.Ytkidhmajlpceeaa
