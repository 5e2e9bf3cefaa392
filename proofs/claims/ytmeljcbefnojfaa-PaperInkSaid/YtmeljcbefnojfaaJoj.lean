import Derived.Test.YtmeljcbefnojfaaJoi
namespace Go.Proofs.Ytmeljcbefnojfaa
open Go.RowKit
set_option maxRecDepth 100000 in
set_option maxHeartbeats 2000000 in
theorem Join_row (l : List (Int × Int)) (x : Int × Int) (g o cap : Nat) (w : World) (hx : x.1 ≤ x.2) (hsx : Sm x) (hsl : ∀ q ∈ l, Sm q) (hn : l.length ≤ 1000000) (hc : l.length ≤ cap) (hcm : cap ≤ maxLen) (hg : g < w.heap.size)
    (h1 : ∀ i s, l[i]? = some s → w.cell? ⟨g, o + i * 2, none⟩ = some (.int .i64 s.1) ∧ w.cell? ⟨g, o + i * 2 + 1, none⟩ = some (.int .i64 s.2)) :
    Calls Try.prog 107 #[.slice (some ⟨g, o, none⟩) l.length cap, .agg #[.int .i64 x.1, .int .i64 x.2]] w (JPost w (joinL l x)) := by
  obtain ⟨i0, hi0, hz0, hz1, hz2⟩ := info_parts Try.infoSpan
  have ej : joinL l x = (if (jst l x).2.1 then (jst l x).1 else (jst l x).1 ++ [(jst l x).2.2]) := by unfold joinL; rw [if_neg (by omega)]
  obtain ⟨L, hL⟩ : ∃ L, L = joinL l x := ⟨_, rfl⟩
  rw [← hL]
  rw [ej] at hL
  have HL := Lib.hid hL
  clear ej hL
  have H1 := Lib.hid h1
  have HS := Lib.hid hsl
  clear h1 hsl
  generalize hnn : l.length = n at *
  have HN := Lib.hid hnn
  clear hnn
  unfold maxLen at hcm
  have hc2 : (n : Int) ≤ cap := by omega
  have hc3 : (cap : Int) ≤ 9223372036854775807 := by omega
  go_enter Try.func107, Try.ntmps107
  go_wp2_with fail
  go_loopw [5, 6, 7] (fun vo vp vi wr => ∃ k : Nat, k ≤ n ∧ vi = .int .i64 k ∧ JI w l x k vo vp wr) (fun _ _ vi _ => n - (intOf vi).toNat)
  case atStart =>
    refine ⟨0, Nat.zero_le _, rfl, rfl, ⟨box1 _ _, ?_, ?_, ?_⟩, World.ownsRow_nil _ _ _ 2, hsx, ?_⟩
    · unfold HasSp; go_simp; simp [jst]
    · go_simp
    · go_simp
    · simp [jst]
  case round =>
    obtain ⟨k, hk, rfl, hrp, hjc, hown, hsm, hlen⟩ := hrel
    by_cases hlt : k < n
    · have hq : l[k]? = some (l[k]'(by rw [HN.out]; exact hlt)) := List.getElem?_eq_getElem _
      generalize l[k]'(by rw [HN.out]; exact hlt) = q at hq
      obtain ⟨a0, a1⟩ := H1.out k q hq
      have hsq := HS.out q (List.mem_of_getElem? hq)
      have b0 := hjc.1.cell (p := ⟨g, o + k * 2, none⟩) hg |>.trans a0
      have b1 := hjc.1.cell (p := ⟨g, o + k * 2 + 1, none⟩) hg |>.trans a1
      clear a0 a1
      have HQ := Lib.hid hq
      clear hq
      generalize hst : jst (l.take k) x = st at *
      obtain ⟨out, put, y⟩ := st
      have HST := Lib.hid hst
      clear hst
      simp only at hrp hjc hown hsm hlen
      subst hrp
      obtain ⟨s1, s2, s3, s4⟩ := hsm
      obtain ⟨t1, t2, t3, t4⟩ := hsq
      have HSM : Sm y := ⟨s1, s2, s3, s4⟩
      have hki : (k : Int) < (n : Int) := by omega
      have hk0 : (0 : Int) ≤ (k : Int) := by omega
      obtain ⟨le1, le2⟩ := hlen
      obtain ⟨wo, rfl⟩ : ∃ wo : World, wo = wr := ⟨_, rfl⟩
      obtain ⟨p0, p1⟩ := id hjc.2.1
      by_cases c1 : q.2 + 1 < y.1
      · have d1 : decide (q.2 + 1 < y.1) = true := by simpa using c1
        go_wp2_with fail
        go_quiet (fail)
        have hjq := hjc.drewN nq
        have hoq := own_up hown (below_drewN (Below.refl _ wo) nq)
        have e0 : (wo.drewN nq).cell? ⟨g, o + k * 2, none⟩ = some (.int .i64 q.1) := by go_simp
        have e1 : (wo.drewN nq).cell? ⟨g, o + k * 2 + 1, none⟩ = some (.int .i64 q.2) := by go_simp
        clear b0 b1 p0 p1 hown hjc
        generalize wo.drewN nq = wq at *
        have zq := hjq.lt
        go_wp2_with ((at_builtin; refine wpList_append_own _ rfl _ _ 52 rfl (w.heap.size + 1) 23 i0 (.agg #[.int .i64 0, .int .i64 0]) 2 16 Try.underlying52 hi0 hz0 hz1 hz2 rfl (by decide) _ out.length _ rfl (hoq.alloc _) ⟨wq.heap.size, 0, none⟩ 1 1 [.int .i64 q.1, .int .i64 q.2] rfl rfl (new2 wq q) (by simp [Value.oneCell']) (by skip; unfold maxLen; omega) (by skip; omega) (by simp only [World.size_alloc]; omega) ?_; intro v1 w1 hown1 hg1 _))
        have hJ := JI.app HST.out HQ.out c1 hjq hoq HSM ⟨le1, le2⟩ rfl hg1 hown1
        clear hjq hoq hown1 hg1 e0 e1
        go_wp2_with fail
        exact ⟨⟨k + 1, by omega, by go_num, hJ⟩, by simp [intOf]; omega⟩
      · have d1 : decide (q.2 + 1 < y.1) = false := by simpa using c1
        by_cases c2 : y.2 + 1 < q.1
        · have d2 : decide (y.2 + 1 < q.1) = true := by simpa using c2
          cases put
          · have hJe : jstep (out, false, y) q = (out ++ [y] ++ [q], true, y) := by simp only [jstep, if_neg c1, if_pos c2]; rfl
            have HJE := Lib.hid hJe
            clear hJe
            have le4 : out.length ≤ k := le2 rfl
            have LE3 := Lib.hid (show (out ++ [y]).length ≤ 1000001 by simp; omega)
            go_wp2_with fail
            go_quiet (fail)
            have hjq := hjc.drewN nq
            have hoq := own_up hown (below_drewN (Below.refl _ wo) nq)
            have e0 : (wo.drewN nq).cell? ⟨g, o + k * 2, none⟩ = some (.int .i64 q.1) := by go_simp
            have e1 : (wo.drewN nq).cell? ⟨g, o + k * 2 + 1, none⟩ = some (.int .i64 q.2) := by go_simp
            have r0 : (wo.drewN nq).cell? ⟨w.heap.size, 0, none⟩ = some (.int .i64 y.1) := by go_simp
            have r1 : (wo.drewN nq).cell? ⟨w.heap.size, 1, none⟩ = some (.int .i64 y.2) := by go_simp
            clear b0 b1 p0 p1 hown hjc
            generalize wo.drewN nq = wq at *
            go_wp2_with fail
            go_quiet (fail)
            have hjr := hjq.drewN nq
            have hor := own_up hoq (below_drewN (Below.refl _ wq) nq)
            have b0 : (wq.drewN nq).cell? ⟨g, o + k * 2, none⟩ = some (.int .i64 q.1) := by go_simp
            have b1 : (wq.drewN nq).cell? ⟨g, o + k * 2 + 1, none⟩ = some (.int .i64 q.2) := by go_simp
            have p0 : (wq.drewN nq).cell? ⟨w.heap.size, 0, none⟩ = some (.int .i64 y.1) := by go_simp
            have p1 : (wq.drewN nq).cell? ⟨w.heap.size, 1, none⟩ = some (.int .i64 y.2) := by go_simp
            clear e0 e1 r0 r1 hoq hjq
            generalize wq.drewN nq = ws at *
            have zs := hjr.lt
            go_wp2_with (first | (at_builtin; refine wpList_append_own _ rfl _ _ 52 rfl (w.heap.size + 1) 23 i0 (.agg #[.int .i64 0, .int .i64 0]) 2 16 Try.underlying52 hi0 hz0 hz1 hz2 rfl (by decide) _ out.length _ rfl (hor.alloc _) ⟨ws.heap.size, 0, none⟩ 1 1 [.int .i64 y.1, .int .i64 y.2] rfl rfl (new2 ws y) (by simp [Value.oneCell']) (by skip; unfold maxLen; omega) (by skip; omega) (by simp only [World.size_alloc]; omega) ?_; intro v1 w1 hown1 hg1 _; have j1 := hjr.grow hor hg1; have o1 := own_snoc hown1; have f0 := j1.1.cell (p := ⟨g, o + k * 2, none⟩) hg |>.trans (H1.out k q HQ.out).1; have f1 := j1.1.cell (p := ⟨g, o + k * 2 + 1, none⟩) hg |>.trans (H1.out k q HQ.out).2; have zw := j1.lt; clear hjr hor hown1 hg1 b0 b1 p0 p1) | (at_builtin; refine wpList_append_own _ rfl _ _ 52 rfl (w.heap.size + 1) 23 i0 (.agg #[.int .i64 0, .int .i64 0]) 2 16 Try.underlying52 hi0 hz0 hz1 hz2 rfl (by decide) _ (out ++ [y]).length _ rfl (o1.alloc _) ⟨w1.heap.size, 0, none⟩ 1 1 [.int .i64 q.1, .int .i64 q.2] rfl rfl (new2 w1 q) (by simp [Value.oneCell']) (by have := LE3.out; unfold maxLen; omega) (by have := LE3.out; omega) (by simp only [World.size_alloc]; omega) ?_; intro v2 w2 hown2 hg2 _))
            have hJ := JI.of HST.out HQ.out HJE.out (j1.grow o1 hg2) (own_snoc hown2) HSM ⟨by simp; omega, fun h => by cases h⟩
            clear o1 j1 hown2 hg2 f0 f1
            go_wp2_with fail
            exact ⟨⟨k + 1, by omega, by go_num, hJ⟩, by simp [intOf]; omega⟩
          · have hJe : jstep (out, true, y) q = (out ++ [q], true, y) := by simp only [jstep, if_neg c1, if_pos c2]; rfl
            have HJE := Lib.hid hJe
            clear hJe
            go_wp2_with fail
            go_quiet (fail)
            have hjq := hjc.drewN nq
            have hoq := own_up hown (below_drewN (Below.refl _ wo) nq)
            have e0 : (wo.drewN nq).cell? ⟨g, o + k * 2, none⟩ = some (.int .i64 q.1) := by go_simp
            have e1 : (wo.drewN nq).cell? ⟨g, o + k * 2 + 1, none⟩ = some (.int .i64 q.2) := by go_simp
            have r0 : (wo.drewN nq).cell? ⟨w.heap.size, 0, none⟩ = some (.int .i64 y.1) := by go_simp
            have r1 : (wo.drewN nq).cell? ⟨w.heap.size, 1, none⟩ = some (.int .i64 y.2) := by go_simp
            clear b0 b1 p0 p1 hown hjc
            generalize wo.drewN nq = wq at *
            go_wp2_with fail
            go_quiet (fail)
            have hjr := hjq.drewN nq
            have hor := own_up hoq (below_drewN (Below.refl _ wq) nq)
            have b0 : (wq.drewN nq).cell? ⟨g, o + k * 2, none⟩ = some (.int .i64 q.1) := by go_simp
            have b1 : (wq.drewN nq).cell? ⟨g, o + k * 2 + 1, none⟩ = some (.int .i64 q.2) := by go_simp
            have p0 : (wq.drewN nq).cell? ⟨w.heap.size, 0, none⟩ = some (.int .i64 y.1) := by go_simp
            have p1 : (wq.drewN nq).cell? ⟨w.heap.size, 1, none⟩ = some (.int .i64 y.2) := by go_simp
            clear e0 e1 r0 r1 hoq hjq
            generalize wq.drewN nq = ws at *
            have zs := hjr.lt
            go_wp2_with ((at_builtin; refine wpList_append_own _ rfl _ _ 52 rfl (w.heap.size + 1) 23 i0 (.agg #[.int .i64 0, .int .i64 0]) 2 16 Try.underlying52 hi0 hz0 hz1 hz2 rfl (by decide) _ out.length _ rfl (hor.alloc _) ⟨ws.heap.size, 0, none⟩ 1 1 [.int .i64 q.1, .int .i64 q.2] rfl rfl (new2 ws q) (by simp [Value.oneCell']) (by skip; unfold maxLen; omega) (by skip; omega) (by simp only [World.size_alloc]; omega) ?_; intro v2 w2 hown2 hg2 _))
            have hJ := JI.of HST.out HQ.out HJE.out (hjr.grow hor hg2) (own_snoc hown2) HSM ⟨by simp; omega, fun h => by cases h⟩
            clear hor hjr hown2 hg2
            clear b0 b1 p0 p1
            go_wp2_with fail
            exact ⟨⟨k + 1, by omega, by go_num, hJ⟩, by simp [intOf]; omega⟩
        · have d2 : decide (y.2 + 1 < q.1) = false := by simpa using c2
          have hJe : jstep (out, put, y) q = (out, put, min y.1 q.1, max y.2 q.2) := by simp only [jstep, if_neg c1, if_neg c2]
          have HJE := Lib.hid hJe
          clear hJe
          go_wp2_with fail
          go_quiet (fail)
          have hjq := hjc.drewN nq
          have hoq := own_up hown (below_drewN (Below.refl _ wo) nq)
          have e0 : (wo.drewN nq).cell? ⟨g, o + k * 2, none⟩ = some (.int .i64 q.1) := by go_simp
          have e1 : (wo.drewN nq).cell? ⟨g, o + k * 2 + 1, none⟩ = some (.int .i64 q.2) := by go_simp
          have r0 : (wo.drewN nq).cell? ⟨w.heap.size, 0, none⟩ = some (.int .i64 y.1) := by go_simp
          have r1 : (wo.drewN nq).cell? ⟨w.heap.size, 1, none⟩ = some (.int .i64 y.2) := by go_simp
          clear b0 b1 p0 p1 hown hjc
          generalize wo.drewN nq = wq at *
          go_wp2_with fail
          go_quiet (fail)
          have hjr := hjq.drewN nq
          have hor := own_up hoq (below_drewN (Below.refl _ wq) nq)
          have b0 : (wq.drewN nq).cell? ⟨g, o + k * 2, none⟩ = some (.int .i64 q.1) := by go_simp
          have b1 : (wq.drewN nq).cell? ⟨g, o + k * 2 + 1, none⟩ = some (.int .i64 q.2) := by go_simp
          have p0 : (wq.drewN nq).cell? ⟨w.heap.size, 0, none⟩ = some (.int .i64 y.1) := by go_simp
          have p1 : (wq.drewN nq).cell? ⟨w.heap.size, 1, none⟩ = some (.int .i64 y.2) := by go_simp
          clear e0 e1 r0 r1 hoq hjq
          generalize wq.drewN nq = ws at *
          have zs := hjr.lt
          go_wp2_with fail
          refine still_tail 17 (by kernel_rfl) (by kernel_rfl) ?_
          simp only [List.take_succ_cons, List.take_zero, List.drop_succ_cons, List.drop_zero]
          repeat still_step
          refine wpStill_nil ?_
          have fz0 := hjr.2.2.1
          have fz1 := hjr.2.2.2
          go_wp2_with fail
          have hJ : JI w l x (k + 1) u5 (.bool put) ((ws.drew.setCell ⟨w.heap.size, 0, none⟩ (.int .i64 (min y.1 q.1))).setCell ⟨w.heap.size, 1, none⟩ (.int .i64 (max y.2 q.2))) := by
            refine JI.of HST.out HQ.out HJE.out ⟨set1 (set1 hjr.1.drew (Nat.le_refl _) _ _) (Nat.le_refl _) _ _, ⟨by go_simp, by go_simp⟩, by go_simp, by go_simp⟩ ?_ ⟨by show -1000000000000 ≤ min y.1 q.1; omega, by show min y.1 q.1 ≤ 1000000000000; omega, by show -1000000000000 ≤ max y.2 q.2; omega, by show max y.2 q.2 ≤ 1000000000000; omega⟩ ⟨by omega, fun h => by have := le2 h; omega⟩
            exact own_set (own_set hor.drew (Nat.lt_succ_self _) _ _) (Nat.lt_succ_self _) _ _
          exact ⟨⟨k + 1, by omega, by go_num, hJ⟩, by simp [intOf]; omega⟩
    · obtain rfl : k = n := by omega
      have hall : l.take k = l := List.take_of_length_le (by rw [HN.out]; exact Nat.le_refl _)
      rw [hall] at hrp hjc hown hsm hlen
      generalize hst : jst l x = st at *
      obtain ⟨out, put, y⟩ := st
      have HLL := HL.out
      try rw [hst] at HLL
      simp only at hrp hjc hown hsm hlen HLL
      have HL2 := Lib.hid HLL
      clear hall hst HLL HL
      subst hrp
      obtain ⟨le1, le2⟩ := hlen
      obtain ⟨p0, p1⟩ := id hjc.2.1
      obtain ⟨wo, rfl⟩ : ∃ wo : World, wo = wr := ⟨_, rfl⟩
      have zq := hjc.lt
      cases put
      · go_wp2_with ((at_builtin; refine wpList_append_own _ rfl _ _ 52 rfl (w.heap.size + 1) 23 i0 (.agg #[.int .i64 0, .int .i64 0]) 2 16 Try.underlying52 hi0 hz0 hz1 hz2 rfl (by decide) _ out.length _ rfl (hown.alloc _) ⟨wo.heap.size, 0, none⟩ 1 1 [.int .i64 y.1, .int .i64 y.2] rfl rfl (new2 wo y) (by simp [Value.oneCell']) (by skip; unfold maxLen; omega) (by skip; omega) (by simp only [World.size_alloc]; omega) ?_; intro v1 w1 hown1 hg1 _))
        have hj1 := hjc.grow hown hg1
        go_wp2_with fail
        go_ret
        rw [HL2.out]
        exact ⟨_, rfl, hj1.1, own_snoc hown1⟩
      · go_wp2_with fail
        go_ret
        rw [HL2.out]
        exact ⟨_, rfl, hjc.1, hown⟩
set_option maxRecDepth 100000 in
set_option maxHeartbeats 2000000 in
theorem Join_nil (x : Int × Int) (w : World) (hx : x.1 ≤ x.2) :
    Calls Try.prog 107 #[.slice none 0 0, .agg #[.int .i64 x.1, .int .i64 x.2]] w (JPost w [x]) := by
  obtain ⟨i0, hi0, hz0, hz1, hz2⟩ := info_parts Try.infoSpan
  obtain ⟨L, hL⟩ : ∃ L, L = [x] := ⟨_, rfl⟩
  rw [← hL]
  have HL := Lib.hid hL
  clear hL
  go_enter Try.func107, Try.ntmps107
  go_wp2_with fail
  go_loopw [5, 6, 7] (fun vo vp vi wr => vi = .int .i64 0 ∧ vo = .slice none 0 0 ∧ vp = .bool false ∧ JC w x wr) (fun _ _ _ _ => 0)
  case atStart =>
    refine ⟨rfl, rfl, rfl, box1 _ _, ?_, ?_, ?_⟩
    · unfold HasSp; go_simp
    · go_simp
    · go_simp
  case round =>
    obtain ⟨rfl, rfl, rfl, hjc⟩ := hrel
    obtain ⟨p0, p1⟩ := id hjc.2.1
    obtain ⟨wo, rfl⟩ : ∃ wo : World, wo = wr := ⟨_, rfl⟩
    have zq := hjc.lt
    go_wp2_with ((at_builtin; refine wpList_append_own _ rfl _ _ 52 rfl (w.heap.size + 1) 23 i0 (.agg #[.int .i64 0, .int .i64 0]) 2 16 Try.underlying52 hi0 hz0 hz1 hz2 rfl (by decide) _ 0 _ rfl ((World.ownsRow_nil wo (w.heap.size + 1) _ 2).alloc _) ⟨wo.heap.size, 0, none⟩ 1 1 [.int .i64 x.1, .int .i64 x.2] rfl rfl (new2 wo x) (by simp [Value.oneCell']) (by skip; unfold maxLen; omega) (by skip; omega) (by simp only [World.size_alloc]; omega) ?_; intro v1 w1 hown1 hg1 _))
    have hj1 := hjc.grow (World.ownsRow_nil wo (w.heap.size + 1) _ 2) hg1
    go_wp2_with fail
    go_ret
    rw [HL.out]
    exact ⟨_, rfl, hj1.1, own_snoc (l := []) hown1⟩
/-- an empty span leaves the set -/
theorem Join_none (v : Value) (a b : Int) (w : World) (hx : b < a) (_hv : v.oneCell' = true) :
    Calls Try.prog 107 #[v, .agg #[.int .i64 a, .int .i64 b]] w fun e w' => e = .returned v ∧ Below w.heap.size w w' := by
  go_enter Try.func107, Try.ntmps107
  go_wp2_with fail
  go_ret
  exact ⟨rfl, box1 _ _⟩
end Go.Proofs.Ytmeljcbefnojfaa
