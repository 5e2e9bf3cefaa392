/- The specification's Pairs and Contradiction. -/
import Derived.Test.YtpikaohodieeaaaRco
namespace Go.Proofs.Ytpikaohodieeaaa
open Go.RowKit
set_option linter.unusedSimpArgs false
set_option linter.unusedVariables false
attribute [local go_sem] Oper.semAt_some
theorem RlS.up0 {x : List Int} {v : Array Value} {W W' : World} (h : RlS 0 x v (fun _ => False) W) (hb : Below W.heap.size W W') : RlS 0 x v (fun _ => False) W' := h.grow (grown_of_below hb) (fun r e => by cases e)
theorem LsR.up0 {w W W' : World} {L : List (List Int)} {v : Value} (h : LsR 0 w L v W) (hb : Below W.heap.size W W') : LsR 0 w L v W' := by
  obtain ⟨h1, vs, h2, h3⟩ := h
  exact ⟨nextB h1 hb, vs, own_keep h2 hb, fun i x hx => by obtain ⟨u, e1, e2⟩ := h3 i x hx; exact ⟨u, e1, e2.up0 hb⟩⟩
theorem newS (W : World) (ob : Obj) (s : Value) : ∀ j u, ([s] : List Value)[j]? = some u → ((W.alloc ob).alloc (.cells #[s] 29)).cell? ((⟨W.heap.size + 1, 0, none⟩ : Addr).add j) = some u := fun j u hj => by
  match j, hj with
  | 0, hj =>
    cases hj
    rw [Addr.add_lit]
    go_simp
  | j + 1, hj => simp at hj
theorem lit_RlS {wo : World} {x : List Int} (hx : x.length ≤ 1000) : RlS 0 x #[.slice (some ⟨wo.heap.size, 0, none⟩) x.length x.length] (fun _ => False) (wo.alloc (.cells (intsZ x).toArray 3)) :=
  ⟨_, _, rfl, fun i hi => by
    have hl := lit_ints wo x hx
    obtain ⟨a, e, _, hc⟩ := hl.2 i hi
    cases e
    rw [Addr.add_lit, Nat.zero_add] at hc
    exact ⟨wo.heap.size, rfl, by rw [World.size_alloc]; omega, id, Nat.zero_le _, hc, ⟨_, _, World.alloc_heap_new wo _⟩, Nat.le_refl _⟩⟩
/-- one more list behind the others -/
theorem ls_app {w wo w5 : World} {L : List (List Int)} {v v' : Value} {vs : List Value} {x : List Int} (hb : Below w.heap.size w wo) (hown : wo.ownsRow w.heap.size 29 1 v L.length vs) (hrows : ∀ (i : Nat) (x : List Int), L[i]? = some x → ∃ u, vs[i]? = some u ∧ RlS 0 x #[u] (fun _ => False) wo) (hx : x.length ≤ 1000)
    (hg : ((wo.alloc (.cells (intsZ x).toArray 3)).alloc (.cells #[.slice (some ⟨wo.heap.size, 0, none⟩) x.length x.length] 29)).grownBy w5 v.ownBlock) (hown2 : w5.ownsRow w.heap.size 29 1 v' (L.length + 1) (vs ++ [.slice (some ⟨wo.heap.size, 0, none⟩) x.length x.length])) : LsR 0 w (L ++ [x]) v' w5 := by
  have hbA : Below wo.heap.size wo ((wo.alloc (.cells (intsZ x).toArray 3)).alloc (.cells #[.slice (some ⟨wo.heap.size, 0, none⟩) x.length x.length] 29)) := box2 _ _ _
  have hownA := own_keep hown hbA
  have hne : ∀ b, isInts ((wo.alloc (.cells (intsZ x).toArray 3)).alloc (.cells #[.slice (some ⟨wo.heap.size, 0, none⟩) x.length x.length] 29)) b → ¬ False → some b ≠ v.ownBlock := fun b hi _ e => by
    obtain ⟨_, cur, hc⟩ := own_obj hownA e.symm
    have := hi.type hc
    exact absurd this (by decide)
  have hlen : vs.length = L.length := by have := hown.1; omega
  refine ⟨(nextB hb hbA).grown hg (nextB hb hbA).size (fun r e => (own_block hownA e).1), vs ++ [.slice (some ⟨wo.heap.size, 0, none⟩) x.length x.length], by rw [List.length_append, List.length_singleton]; exact hown2, fun i y hi => ?_⟩
  by_cases hlt : i < L.length
  · rw [List.getElem?_append_left hlt] at hi
    obtain ⟨u, e1, e2⟩ := hrows i y hi
    exact ⟨u, by rw [List.getElem?_append_left (by omega)]; exact e1, (e2.up0 hbA).row hg hne (fun r h => h.elim)⟩
  · have hi2 : i = L.length := by
      have := (List.getElem?_eq_some_iff.1 hi).1
      rw [List.length_append, List.length_singleton] at this
      omega
    subst hi2
    rw [List.getElem?_append_right (Nat.le_refl _), Nat.sub_self] at hi
    simp at hi
    subst hi
    refine ⟨.slice (some ⟨wo.heap.size, 0, none⟩) x.length x.length, by rw [List.getElem?_append_right (by omega), hlen, Nat.sub_self]; rfl, ?_⟩
    exact ((lit_RlS hx).up0 (box1 _ _)).row hg hne (fun r h => h.elim)
theorem sgL_next (al : Nat → Bool) (i : Nat) : sgL al (i + 1) = sgL al i ++ if al i = true then [] else [[(i : Int)]] := by
  unfold sgL
  rw [List.range_succ, List.filter_append, List.map_append]
  cases h : al i <;> simp [h]
theorem sgL_lenle (al : Nat → Bool) (i : Nat) : (sgL al i).length ≤ i := by
  unfold sgL
  rw [List.length_map]
  have := List.length_filter_le (fun j => !al j) (List.range i)
  rw [List.length_range] at this
  exact this
theorem rowP_len (i j : Nat) : (rowP i j).length ≤ j := by unfold rowP; rw [List.length_map, List.length_range]; omega
theorem bef_len (m i j : Nat) (hj : j ≤ m) : (bef m i j).length ≤ (i + 1) * m := by
  unfold bef
  rw [List.length_append]
  have h2 := rowP_len i j
  have h1 : ((List.range i).flatMap fun a => rowP a m).length ≤ i * m := by
    clear h2 hj
    induction i with
    | zero => simp
    | succ i ih =>
      rw [List.range_succ, List.flatMap_append, List.length_append]
      have := rowP_len i m
      simp only [List.flatMap_cons, List.flatMap_nil, List.append_nil]
      rw [Nat.add_mul, Nat.one_mul]
      omega
  rw [Nat.add_mul, Nat.one_mul]
  omega
theorem bef_step (al : Nat → Bool) (pr : Nat → Nat → Bool) (m i k : Nat) (h : i < k) : (bef m i (k + 1)).filter (pass al pr) = (bef m i k).filter (pass al pr) ++ if (al i && (al k && !pr i k)) = true then [[(i : Int), (k : Int)]] else [] := by
  rw [bef_k m i k h, List.filter_append]
  congr 1
  have e : pass al pr [(i : Int), (k : Int)] = (al i && (al k && !pr i k)) := by unfold pass; simp
  rw [List.filter_cons, e]
  simp
/-- there is no minimal contradiction if and only if all marks can be kept -/
theorem con_none {d : Drm} {m : Nat} {F : Nat → Int × Int × Int} {L : List (List Int)} (h : ConR d m F L) : (∃ T, Rdg d.n (gapF d) m F T) ↔ L = [] := by
  have hZ : ∀ i, i < m → 0 ≤ (fun i : Nat => (i : Int)) i ∧ (fun i : Nat => (i : Int)) i < m := fun i hi => by simp only; omega
  obtain ⟨e1, e2⟩ := pkL_len_ok (F := F) hZ
  have hs := set_math h hZ
  rw [e1] at hs
  constructor
  · rintro ⟨T, hT⟩
    have hn := hs.1 ⟨T, hT.congrF fun i hi => by rw [e2 i hi]; rfl⟩
    cases hL : L with
    | nil => rfl
    | cons x t =>
      refine absurd ⟨x, by rw [hL]; simp, fun y hy => ?_⟩ hn
      have hx : x ∈ L := by rw [hL]; simp
      obtain ⟨R0, al, pr, rfl, _⟩ := h
      rcases con_mem.1 hx with ⟨_, rfl⟩ | ⟨_, ⟨i, k1, k2, rfl⟩ | ⟨i, j, k1, k2, k3, k4, k5, rfl⟩⟩
      · cases hy
      · simp at hy; exact ⟨i, k1, hy.symm⟩
      · simp at hy
        rcases hy with hy | hy
        · exact ⟨i, by omega, hy.symm⟩
        · exact ⟨j, k2, hy.symm⟩
  · intro hL
    obtain ⟨T, hT⟩ := hs.2 fun ⟨x, hx, _⟩ => by rw [hL] at hx; cases hx
    exact ⟨T, hT.congrF fun i hi => by rw [e2 i hi]; rfl⟩
theorem asZ_1 (i : Nat) {m : Nat} (h : i < m) : ∀ j, j < 1 → 0 ≤ asZ [(i : Int)] j ∧ asZ [(i : Int)] j < m := fun j hj => by
  obtain rfl : j = 0 := by omega
  show 0 ≤ (i : Int) ∧ (i : Int) < m
  omega
theorem asZ_2 (i k : Nat) {m : Nat} (h : i < m) (h2 : k < m) : ∀ j, j < 2 → 0 ≤ asZ [(i : Int), (k : Int)] j ∧ asZ [(i : Int), (k : Int)] j < m := fun j hj => by
  rcases (show j = 0 ∨ j = 1 by omega) with rfl | rfl
  · show 0 ≤ (i : Int) ∧ (i : Int) < m; omega
  · show 0 ≤ (k : Int) ∧ (k : Int) < m; omega
theorem one_eq (F : Nat → Int × Int × Int) (i j : Nat) (hj : j < 1) : F (asZ [(i : Int)] j).toNat = one3 F i j := by
  obtain rfl : j = 0 := by omega
  show F ((i : Int)).toNat = F i
  rw [Int.toNat_natCast]
theorem one_iff {g : Nat} {G : Nat → Int × Int} {F : Nat → Int × Int × Int} (i : Nat) : (∃ T, Rdg g G 1 (fun j => F (asZ [(i : Int)] j).toNat) T) ↔ ∃ T, Rdg g G 1 (one3 F i) T :=
  ⟨fun ⟨T, h⟩ => ⟨T, h.congrF fun j hj => one_eq F i j hj⟩, fun ⟨T, h⟩ => ⟨T, h.congrF fun j hj => (one_eq F i j hj).symm⟩⟩
theorem two_eq (F : Nat → Int × Int × Int) (i k j : Nat) (hj : j < 2) : F (asZ [(i : Int), (k : Int)] j).toNat = two3 F i k j := by
  rcases (show j = 0 ∨ j = 1 by omega) with rfl | rfl
  · show F ((i : Int)).toNat = F i; rw [Int.toNat_natCast]
  · show F ((k : Int)).toNat = F k; rw [Int.toNat_natCast]
theorem two_iff {g : Nat} {G : Nat → Int × Int} {F : Nat → Int × Int × Int} (i k : Nat) : (∃ T, Rdg g G 2 (fun j => F (asZ [(i : Int), (k : Int)] j).toNat) T) ↔ ∃ T, Rdg g G 2 (two3 F i k) T :=
  ⟨fun ⟨T, h⟩ => ⟨T, h.congrF fun j hj => two_eq F i k j hj⟩, fun ⟨T, h⟩ => ⟨T, h.congrF fun j hj => (two_eq F i k j hj).symm⟩⟩
set_option maxRecDepth 100000 in
set_option maxHeartbeats 4000000 in
theorem RPairs_any (d : Drm) (MA : Option Addr) (m mc : Nat) (F : Nat → Int × Int × Int) (L : List (List Int)) (E : Int) (w : World) (hin : DrIn d w.heap.size w) (hm : TrsIn MA m F w.heap.size w) (hE : PaR d m F L E) :
    Calls Try.prog 60 #[d.v, .slice MA m mc] w fun e w' => ∃ A c, e = .returned (.tuple #[.slice A L.length c, .int .i64 E]) ∧ LssIn A L w' ∧ Below w.heap.size w w' := by
  have DD : Hid (∀ W, Below w.heap.size w W → DrIn d W.heap.size W) := Lib.hid fun W h => (hin.up h (Nat.le_refl _)).more h.size
  have MM : Hid (∀ W, Below w.heap.size w W → TrsIn MA m F W.heap.size W) := Lib.hid fun W h => (hm.up h (Nat.le_refl _)).more h.size
  obtain ⟨w1, hw1⟩ : ∃ w1 : World, w1 = w.alloc (drO d) := ⟨_, rfl⟩
  have B1 : Below w.heap.size w w1 := by rw [hw1]; exact box1 _ _
  have P1 : HasDr d w.heap.size w1 := by rw [hw1]; exact dr_new w d
  have D := Lib.hid B1
  have P := Lib.hid P1
  have HW := Lib.hid hw1
  have KF := Lib.hid fun R E (h : FeR d m F R E) => RFeasible_any d MA m mc F R E w1 (DD.out w1 B1) (MM.out w1 B1) h
  clear hin hm B1 P1 hw1
  obtain ⟨x0, x1⟩ := P.out
  have lnil : ∀ W, LssIn none [] W := fun W => ⟨by simp, fun i x h => by simp at h⟩
  have LNIL := Lib.hid lnil
  clear lnil
  rcases hE with ⟨hE, rfl, hC⟩ | ⟨hd, hk, hP, hE⟩
  · have hne : ¬ E = 0 := by omega
    have hn2 : (E != 0) = true := by simpa using hne
    have K2 := Lib.hid (KF.out false E (.inl ⟨hE, rfl, hC⟩))
    clear hE hne hC
    go_enter Try.func60, Try.ntmps60
    go_wp2_with fail
    rw [← HW.out]
    refine K2.out.mono ?_
    rintro e w2 ⟨rfl, hb2⟩
    have D := Lib.hid (nextB D.out hb2)
    have P := Lib.hid (P.out.up hb2)
    clear hb2 x0 x1
    obtain ⟨x0, x1⟩ := P.out
    go_wp2_with fail
    go_ret2
    exact ⟨none, 0, by simp, LNIL.out _, D.out⟩
  · obtain ⟨R, hR⟩ := bool_of (∃ T, Rdg d.n (gapF d) m F T)
    have K2 := Lib.hid (KF.out R 0 (.inr ⟨rfl, hd, hk, hR⟩))
    have hRL := hR.trans (con_none hP)
    by_cases hL : L = []
    · obtain rfl : R = true := hRL.2 hL
      subst hL
      obtain rfl : E = 3 := by simpa using hE
      clear hE hd hk hP hR hRL
      go_enter Try.func60, Try.ntmps60
      go_wp2_with fail
      rw [← HW.out]
      refine K2.out.mono ?_
      rintro e w2 ⟨rfl, hb2⟩
      have D := Lib.hid (nextB D.out hb2)
      have P := Lib.hid (P.out.up hb2)
      clear hb2 x0 x1
      obtain ⟨x0, x1⟩ := P.out
      go_wp2_with fail
      go_ret2
      exact ⟨none, 0, by simp, LNIL.out _, D.out⟩
    · obtain rfl : R = false := by
        cases R with
        | false => rfl
        | true => exact absurd (hRL.1 rfl) hL
      have hL0 : ¬ L.length = 0 := fun h => hL (List.length_eq_zero_iff.1 h)
      rw [if_neg hL0] at hE
      subst hE
      have hm64 := hk.1
      have hLx : ∀ x, x ∈ L → x.length ≤ 1000 := fun x hx => by
        obtain ⟨r0, al, pr, e, _⟩ := hP
        have := con_two r0 al pr m x (by rw [← e]; exact hx)
        omega
      have hLl : L.length ≤ 100000 := by
        obtain ⟨r0, al, pr, e, _⟩ := hP
        have h1 := con_max r0 al pr m
        rw [← e] at h1
        have h2 : m * m ≤ 64 * 64 := Nat.mul_le_mul hm64 hm64
        omega
      have HLX := Lib.hid (And.intro hLx hLl)
      obtain ⟨R0, al, pr, rfl, h0, h1, h2⟩ := hP
      have KT0 : Hid (∀ W, Below w.heap.size w W → Calls Try.prog 106 #[d.v, .slice none 0 0, .slice none 0 0] W fun e w' => e = .returned (.bool R0) ∧ Below W.heap.size W w') := Lib.hid fun W h => Rtogether_any d none 0 0 F none 0 0 (fun _ => 0) R0 W (DD.out W h) ⟨by omega, fun i hi => absurd hi (by omega)⟩ (ints_nil _ _ _) hd (fun i hi => absurd hi (by omega)) (by omega) (fun i hi => absurd hi (by omega)) (h0.trans ⟨fun ⟨T, hT⟩ => ⟨T, hT.tick, hT.gap, fun i hi => absurd hi (by omega)⟩, fun ⟨T, hT⟩ => ⟨T, hT.tick, hT.gap, fun i hi => absurd hi (by omega)⟩⟩)
      have KT1 : Hid (∀ i, i < m → ∀ W A c, Below w.heap.size w W → IntsIn A 1 (asZ [(i : Int)]) W.heap.size W → Calls Try.prog 106 #[d.v, .slice MA m mc, .slice A 1 c] W fun e w' => e = .returned (.bool (al i)) ∧ Below W.heap.size W w') := Lib.hid fun i hi W A c h hA => Rtogether_any d MA m mc F A 1 c _ (al i) W (DD.out W h) (MM.out W h) hA hd hk.2 (by omega) (asZ_1 i hi) ((h1 i hi).trans (one_iff i).symm)
      have KT2 : Hid (∀ i k, i < m → k < m → ∀ W A c, Below w.heap.size w W → IntsIn A 2 (asZ [(i : Int), (k : Int)]) W.heap.size W → Calls Try.prog 106 #[d.v, .slice MA m mc, .slice A 2 c] W fun e w' => e = .returned (.bool (pr i k)) ∧ Below W.heap.size W w') := Lib.hid fun i k hi hk' W A c h hA => Rtogether_any d MA m mc F A 2 c _ (pr i k) W (DD.out W h) (MM.out W h) hA hd hk.2 (by omega) (asZ_2 i k hi hk') ((h2 i k hi hk').trans (two_iff i k).symm)
      clear hd hk hR hRL hL hL0 h0 h1 h2 hLx hLl
      obtain ⟨i0, hi0, hz0, hz1, hz2⟩ := info_parts Try.infoInts
      go_enter Try.func60, Try.ntmps60
      go_wp2_with fail
      rw [← HW.out]
      refine K2.out.mono ?_
      rintro e w2 ⟨rfl, hb2⟩
      have D := Lib.hid (nextB D.out hb2)
      have P := Lib.hid (P.out.up hb2)
      clear hb2 x0 x1
      obtain ⟨x0, x1⟩ := P.out
      go_wp2_with fail
      refine (KT0.out _ D.out).mono ?_
      rintro e w3 ⟨rfl, hb3⟩
      have D := Lib.hid (nextB D.out hb3)
      have P := Lib.hid (P.out.up hb3)
      clear hb3 x0 x1
      obtain ⟨x0, x1⟩ := P.out
      cases R0 with
      | false =>
        go_wp2_with fail
        have HB2 := Lib.hid (nextB D.out (box2 w3 (.cells #[] 3) (.cells #[.slice (some ⟨w3.heap.size, 0, none⟩) 0 0] 29)))
        go_ret2
        refine ⟨some ⟨w3.heap.size + 1, 0, none⟩, 1, by simp [conL], ⟨by simp [conL], fun i x hx => ?_⟩, HB2.out⟩
        have hc : conL false al pr m = [[]] := rfl
        rw [hc] at hx
        match i, hx with
        | 0, hx =>
          cases hx
          refine ⟨_, some ⟨w3.heap.size, 0, none⟩, 0, rfl, by simp only [World.size_alloc]; omega, ?_, ⟨by simp, fun j hj => absurd hj (by simp)⟩⟩
          rw [Addr.add_lit]
          go_simp
        | i + 1, hx => simp at hx
      | true =>
        have hcon : conL true al pr m = sgL al m ++ (bef m m (m + 1)).filter (pass al pr) := by
          rw [bef_m]
          unfold conL prL
          rw [if_pos rfl, List.take_length]
        have HCON := Lib.hid hcon
        have D3 := Lib.hid D.out
        have P3 := Lib.hid P.out
        clear hcon
        go_wp2_with fail
        clear x0 x1
        go_loopw [8, 9] (fun v i wr => ∃ k : Nat, k ≤ m ∧ i = .int .i64 k ∧ LsR 0 w3 (sgL al k) v wr) (fun _ i _ => m - (intOf i).toNat)
        case atStart => exact ⟨0, Nat.zero_le _, rfl, LsR.nil (Below.refl _ _)⟩
        case round =>
          obtain ⟨i, hi, rfl, hL⟩ := hrel
          obtain ⟨w4, rfl⟩ : ∃ w4 : World, w4 = wr := ⟨_, rfl⟩
          obtain ⟨fA, fc, ef⟩ := hL.slice
          subst ef
          have HL := Lib.hid hL
          have D := Lib.hid (nextB D3.out hL.1)
          have P := Lib.hid (P3.out.up hL.1)
          clear hL
          obtain ⟨x0, x1⟩ := P.out
          have zP := P.out.lt
          have hi0' : (0 : Int) ≤ (i : Int) := by omega
          by_cases him : i < m
          · have hii : (i : Int) < (m : Int) := by omega
            have wi : IntKind.i64.wrap ((i : Int) + 1) = ((i + 1 : Nat) : Int) := by rw [show ((i : Int) + 1) = ((i + 1 : Nat) : Int) by omega]; exact IntWalk.i64_in _ (by omega)
            have WI := Lib.hid wi
            have HSG := Lib.hid (sgL_next al i)
            have hsl := sgL_lenle al i
            have KA := Lib.hid (KT1.out i him)
            generalize al i = ga at HSG KA
            clear wi
            cases ga with
            | true =>
              have HS1 : Hid (sgL al (i + 1) = sgL al i) := Lib.hid (by rw [HSG.out]; simp)
              go_wp2_with fail
              refine (KA.out _ _ _ (nextB D.out (box1 w4 _)) (lit_ints w4 [(i : Int)] (by simp))).mono ?_
              rintro e w5 ⟨rfl, hb5⟩
              have B5 := Lib.hid (nextB (box1 w4 (.cells (intsZ [(i : Int)]).toArray 3)) hb5)
              clear hb5 x0 x1
              have wi := WI.out
              go_wp2_with fail
              go_roundw
              case rel => exact ⟨i + 1, by omega, by first | rfl | go_num, by rw [HS1.out]; exact HL.out.up0 B5.out⟩
              case measure => (simp [intOf] <;> omega)
            | false =>
              have HS1 : Hid (sgL al (i + 1) = sgL al i ++ [[(i : Int)]]) := Lib.hid (by rw [HSG.out]; simp)
              go_wp2_with fail
              refine (KA.out _ _ _ (nextB D.out (box1 w4 _)) (lit_ints w4 [(i : Int)] (by simp))).mono ?_
              rintro e w5 ⟨rfl, hb5⟩
              have HL := Lib.hid (HL.out.up0 (nextB (box1 w4 (.cells (intsZ [(i : Int)]).toArray 3)) hb5))
              clear hb5 x0 x1
              obtain ⟨hbl, vs, hown, hrow⟩ := HL.out
              have HLB := Lib.hid hbl.size
              have HBL := Lib.hid hbl
              have HOWN := Lib.hid hown
              have HROW := Lib.hid hrow
              clear hbl hown hrow
              go_wp2_with (at_builtin; refine wpList_append_own _ rfl _ _ 68 rfl w3.heap.size 29 i0 (.slice none 0 0) 1 24 Try.underlying68 hi0 hz0 hz1 hz2 rfl (by decide) _ _ _ rfl ((HOWN.out.alloc _).alloc _) ⟨w5.heap.size + 1, 0, none⟩ 1 1 [.slice (some ⟨w5.heap.size, 0, none⟩) 1 1] rfl rfl (newS _ _ _) (by simp [Value.oneCell']) (by unfold maxLen; omega) (by omega) (by simp only [World.size_alloc]; have := HLB.out; omega) ?_; intro v8 wz hown8 hg8 _; have HN := Lib.hid (ls_app (x := [(i : Int)]) HBL.out HOWN.out HROW.out (by simp) hg8 hown8); obtain ⟨gg, cc, rfl⟩ := own_formh hown8; clear hown8 hg8)
              have wi := WI.out
              try go_wp2_with fail
              go_roundw
              case rel => exact ⟨i + 1, by omega, by first | rfl | go_num, by rw [HS1.out]; exact HN.out⟩
              case measure => (simp [intOf] <;> omega)
          · have him2 : i = m := by omega
            have hii : ¬ ((i : Int) < (m : Int)) := by omega
            subst him2
            have hfil : (bef i 0 1).filter (pass al pr) = [] := by rw [bef_0]; rfl
            have HL2 : Hid (LsR 0 w3 (sgL al i ++ (bef i 0 1).filter (pass al pr)) (.slice fA (sgL al i).length fc) w4) := Lib.hid (by rw [hfil, List.append_nil]; exact HL.out)
            clear hfil hi hi0' x0 x1 him HL D P
            go_wp2_with fail
            go_loopw [8, 10, 11] (fun v a _ wr => ∃ k : Nat, k ≤ i ∧ a = .int .i64 k ∧ LsR 0 w3 (sgL al i ++ (bef i k (k + 1)).filter (pass al pr)) v wr) (fun _ a _ _ => i - (intOf a).toNat)
            case atStart => exact ⟨0, Nat.zero_le _, rfl, HL2.out⟩
            case round =>
              obtain ⟨k, hk, rfl, hL⟩ := hrel
              obtain ⟨w5, rfl⟩ : ∃ w5 : World, w5 = wr := ⟨_, rfl⟩
              obtain ⟨Lb, hLb⟩ : ∃ Lb, Lb = sgL al i ++ (bef i k (k + 1)).filter (pass al pr) := ⟨_, rfl⟩
              rw [← hLb] at hL
              have HLB2 := Lib.hid hLb
              clear hLb
              obtain ⟨fB, fd, ef⟩ := hL.slice
              subst ef
              have HLo := Lib.hid hL
              have D5 := Lib.hid hL.1
              clear hL
              have hk0 : (0 : Int) ≤ (k : Int) := by omega
              by_cases hkm : k < i
              · have hki : (k : Int) < (i : Int) := by omega
                have wk : IntKind.i64.wrap ((k : Int) + 1) = ((k + 1 : Nat) : Int) := by rw [show ((k : Int) + 1) = ((k + 1 : Nat) : Int) by omega]; exact IntWalk.i64_in _ (by omega)
                have WK := Lib.hid wk
                go_wp2_with fail
                clear wk
                go_loopw [8, 11] (fun v b wr => ∃ j : Nat, k + 1 ≤ j ∧ j ≤ i ∧ b = .int .i64 j ∧ LsR 0 w3 (sgL al i ++ (bef i k j).filter (pass al pr)) v wr) (fun _ b _ => i - (intOf b).toNat)
                case atStart => exact ⟨k + 1, Nat.le_refl _, by omega, rfl, by rw [← HLB2.out]; exact HLo.out⟩
                case round =>
                  obtain ⟨j, hj1, hj, rfl, hL⟩ := hrel
                  obtain ⟨w6, rfl⟩ : ∃ w6 : World, w6 = wr := ⟨_, rfl⟩
                  obtain ⟨Lc, hLc⟩ : ∃ Lc, Lc = sgL al i ++ (bef i k j).filter (pass al pr) := ⟨_, rfl⟩
                  rw [← hLc] at hL
                  obtain ⟨fC, fe, ef⟩ := hL.slice
                  subst ef
                  have HL := Lib.hid hL
                  have D := Lib.hid (nextB D3.out hL.1)
                  have P := Lib.hid (P3.out.up hL.1)
                  clear hL
                  obtain ⟨x0, x1⟩ := P.out
                  have zP := P.out.lt
                  have hj0 : (0 : Int) ≤ (j : Int) := by omega
                  by_cases hjm : j < i
                  · have hji : (j : Int) < (i : Int) := by omega
                    have wj : IntKind.i64.wrap ((j : Int) + 1) = ((j + 1 : Nat) : Int) := by rw [show ((j : Int) + 1) = ((j + 1 : Nat) : Int) by omega]; exact IntWalk.i64_in _ (by omega)
                    have WJ := Lib.hid wj
                    have HBF := Lib.hid (bef_step al pr i k j (by omega))
                    have hbl1 : Lc.length ≤ 5000 := by
                      rw [hLc, List.length_append]
                      have h1 := sgL_lenle al i
                      have h2 := List.length_filter_le (pass al pr) (bef i k j)
                      have h3 := bef_len i k j (by omega)
                      have h4 : (k + 1) * i ≤ 64 * 64 := Nat.mul_le_mul (by omega) hm64
                      omega
                    have KA := Lib.hid (KT1.out k (by omega))
                    have KB := Lib.hid (KT1.out j hjm)
                    have KC := Lib.hid (KT2.out k j (by omega) hjm)
                    generalize al k = ga at HBF KA
                    generalize al j = gb at HBF KB
                    generalize pr k j = gc at HBF KC
                    have HLC := Lib.hid hLc
                    clear wj hLc
                    cases ga with
                    | false =>
                      have HS1 : Hid (sgL al i ++ (bef i k (j + 1)).filter (pass al pr) = Lc) := Lib.hid (by rw [HBF.out, HLC.out]; simp)
                      go_wp2_with fail
                      refine (KA.out _ _ _ (nextB D.out (box1 w6 _)) (lit_ints w6 [(k : Int)] (by simp))).mono ?_
                      rintro e w7 ⟨rfl, hbx⟩
                      have HL := Lib.hid (HL.out.up0 (nextB (box1 w6 (.cells (intsZ [(k : Int)]).toArray 3)) hbx))
                      have P := Lib.hid (P.out.up (nextB (box1 w6 (.cells (intsZ [(k : Int)]).toArray 3)) hbx))
                      have D := Lib.hid (nextB D.out (nextB (box1 w6 (.cells (intsZ [(k : Int)]).toArray 3)) hbx))
                      clear hbx x0 x1 zP
                      obtain ⟨x0, x1⟩ := P.out
                      have zP := P.out.lt
                      have wj := WJ.out
                      clear x0 x1
                      go_wp2_with fail
                      go_roundw
                      case rel => exact ⟨j + 1, by omega, by omega, by first | rfl | go_num, by rw [HS1.out]; exact HL.out⟩
                      case measure => (simp [intOf] <;> omega)
                    | true =>
                      cases gb with
                      | false =>
                        have HS1 : Hid (sgL al i ++ (bef i k (j + 1)).filter (pass al pr) = Lc) := Lib.hid (by rw [HBF.out, HLC.out]; simp)
                        go_wp2_with fail
                        refine (KA.out _ _ _ (nextB D.out (box1 w6 _)) (lit_ints w6 [(k : Int)] (by simp))).mono ?_
                        rintro e w7 ⟨rfl, hbx⟩
                        have HL := Lib.hid (HL.out.up0 (nextB (box1 w6 (.cells (intsZ [(k : Int)]).toArray 3)) hbx))
                        have P := Lib.hid (P.out.up (nextB (box1 w6 (.cells (intsZ [(k : Int)]).toArray 3)) hbx))
                        have D := Lib.hid (nextB D.out (nextB (box1 w6 (.cells (intsZ [(k : Int)]).toArray 3)) hbx))
                        clear hbx x0 x1 zP
                        obtain ⟨x0, x1⟩ := P.out
                        have zP := P.out.lt
                        go_wp2_with fail
                        refine (KB.out _ _ _ (nextB D.out (box1 w7 _)) (lit_ints w7 [(j : Int)] (by simp))).mono ?_
                        rintro e w8 ⟨rfl, hbx⟩
                        have HL := Lib.hid (HL.out.up0 (nextB (box1 w7 (.cells (intsZ [(j : Int)]).toArray 3)) hbx))
                        have P := Lib.hid (P.out.up (nextB (box1 w7 (.cells (intsZ [(j : Int)]).toArray 3)) hbx))
                        have D := Lib.hid (nextB D.out (nextB (box1 w7 (.cells (intsZ [(j : Int)]).toArray 3)) hbx))
                        clear hbx x0 x1 zP
                        obtain ⟨x0, x1⟩ := P.out
                        have zP := P.out.lt
                        have wj := WJ.out
                        clear x0 x1
                        go_wp2_with fail
                        go_roundw
                        case rel => exact ⟨j + 1, by omega, by omega, by first | rfl | go_num, by rw [HS1.out]; exact HL.out⟩
                        case measure => (simp [intOf] <;> omega)
                      | true =>
                        cases gc with
                        | true =>
                          have HS1 : Hid (sgL al i ++ (bef i k (j + 1)).filter (pass al pr) = Lc) := Lib.hid (by rw [HBF.out, HLC.out]; simp)
                          go_wp2_with fail
                          refine (KA.out _ _ _ (nextB D.out (box1 w6 _)) (lit_ints w6 [(k : Int)] (by simp))).mono ?_
                          rintro e w7 ⟨rfl, hbx⟩
                          have HL := Lib.hid (HL.out.up0 (nextB (box1 w6 (.cells (intsZ [(k : Int)]).toArray 3)) hbx))
                          have P := Lib.hid (P.out.up (nextB (box1 w6 (.cells (intsZ [(k : Int)]).toArray 3)) hbx))
                          have D := Lib.hid (nextB D.out (nextB (box1 w6 (.cells (intsZ [(k : Int)]).toArray 3)) hbx))
                          clear hbx x0 x1 zP
                          obtain ⟨x0, x1⟩ := P.out
                          have zP := P.out.lt
                          go_wp2_with fail
                          refine (KB.out _ _ _ (nextB D.out (box1 w7 _)) (lit_ints w7 [(j : Int)] (by simp))).mono ?_
                          rintro e w8 ⟨rfl, hbx⟩
                          have HL := Lib.hid (HL.out.up0 (nextB (box1 w7 (.cells (intsZ [(j : Int)]).toArray 3)) hbx))
                          have P := Lib.hid (P.out.up (nextB (box1 w7 (.cells (intsZ [(j : Int)]).toArray 3)) hbx))
                          have D := Lib.hid (nextB D.out (nextB (box1 w7 (.cells (intsZ [(j : Int)]).toArray 3)) hbx))
                          clear hbx x0 x1 zP
                          obtain ⟨x0, x1⟩ := P.out
                          have zP := P.out.lt
                          go_wp2_with fail
                          refine (KC.out _ _ _ (nextB D.out (box1 w8 _)) (lit_ints w8 [(k : Int), (j : Int)] (by simp))).mono ?_
                          rintro e w9 ⟨rfl, hbx⟩
                          have HL := Lib.hid (HL.out.up0 (nextB (box1 w8 (.cells (intsZ [(k : Int), (j : Int)]).toArray 3)) hbx))
                          have P := Lib.hid (P.out.up (nextB (box1 w8 (.cells (intsZ [(k : Int), (j : Int)]).toArray 3)) hbx))
                          have D := Lib.hid (nextB D.out (nextB (box1 w8 (.cells (intsZ [(k : Int), (j : Int)]).toArray 3)) hbx))
                          clear hbx x0 x1 zP
                          obtain ⟨x0, x1⟩ := P.out
                          have zP := P.out.lt
                          have wj := WJ.out
                          clear x0 x1
                          go_wp2_with fail
                          go_roundw
                          case rel => exact ⟨j + 1, by omega, by omega, by first | rfl | go_num, by rw [HS1.out]; exact HL.out⟩
                          case measure => (simp [intOf] <;> omega)
                        | false =>
                          have HS1 : Hid (sgL al i ++ (bef i k (j + 1)).filter (pass al pr) = Lc ++ [[(k : Int), (j : Int)]]) := Lib.hid (by rw [HBF.out, HLC.out, List.append_assoc]; simp)
                          go_wp2_with fail
                          refine (KA.out _ _ _ (nextB D.out (box1 w6 _)) (lit_ints w6 [(k : Int)] (by simp))).mono ?_
                          rintro e w7 ⟨rfl, hbx⟩
                          have HL := Lib.hid (HL.out.up0 (nextB (box1 w6 (.cells (intsZ [(k : Int)]).toArray 3)) hbx))
                          have P := Lib.hid (P.out.up (nextB (box1 w6 (.cells (intsZ [(k : Int)]).toArray 3)) hbx))
                          have D := Lib.hid (nextB D.out (nextB (box1 w6 (.cells (intsZ [(k : Int)]).toArray 3)) hbx))
                          clear hbx x0 x1 zP
                          obtain ⟨x0, x1⟩ := P.out
                          have zP := P.out.lt
                          go_wp2_with fail
                          refine (KB.out _ _ _ (nextB D.out (box1 w7 _)) (lit_ints w7 [(j : Int)] (by simp))).mono ?_
                          rintro e w8 ⟨rfl, hbx⟩
                          have HL := Lib.hid (HL.out.up0 (nextB (box1 w7 (.cells (intsZ [(j : Int)]).toArray 3)) hbx))
                          have P := Lib.hid (P.out.up (nextB (box1 w7 (.cells (intsZ [(j : Int)]).toArray 3)) hbx))
                          have D := Lib.hid (nextB D.out (nextB (box1 w7 (.cells (intsZ [(j : Int)]).toArray 3)) hbx))
                          clear hbx x0 x1 zP
                          obtain ⟨x0, x1⟩ := P.out
                          have zP := P.out.lt
                          go_wp2_with fail
                          refine (KC.out _ _ _ (nextB D.out (box1 w8 _)) (lit_ints w8 [(k : Int), (j : Int)] (by simp))).mono ?_
                          rintro e w9 ⟨rfl, hbx⟩
                          have HL := Lib.hid (HL.out.up0 (nextB (box1 w8 (.cells (intsZ [(k : Int), (j : Int)]).toArray 3)) hbx))
                          have P := Lib.hid (P.out.up (nextB (box1 w8 (.cells (intsZ [(k : Int), (j : Int)]).toArray 3)) hbx))
                          have D := Lib.hid (nextB D.out (nextB (box1 w8 (.cells (intsZ [(k : Int), (j : Int)]).toArray 3)) hbx))
                          clear hbx x0 x1 zP
                          obtain ⟨x0, x1⟩ := P.out
                          have zP := P.out.lt
                          clear x0 x1
                          obtain ⟨hbl, vs, hown, hrow⟩ := HL.out
                          have HLB := Lib.hid hbl.size
                          have HBL := Lib.hid hbl
                          have HOWN := Lib.hid hown
                          have HROW := Lib.hid hrow
                          clear hbl hown hrow
                          go_wp2_with (at_builtin; refine wpList_append_own _ rfl _ _ 68 rfl w3.heap.size 29 i0 (.slice none 0 0) 1 24 Try.underlying68 hi0 hz0 hz1 hz2 rfl (by decide) _ _ _ rfl ((HOWN.out.alloc _).alloc _) ⟨w9.heap.size + 1, 0, none⟩ 1 1 [.slice (some ⟨w9.heap.size, 0, none⟩) 2 2] rfl rfl (newS _ _ _) (by simp [Value.oneCell']) (by unfold maxLen; omega) (by omega) (by simp only [World.size_alloc]; have := HLB.out; omega) ?_; intro v8 wz hown8 hg8 _; have HN := Lib.hid (ls_app (x := [(k : Int), (j : Int)]) HBL.out HOWN.out HROW.out (by simp) hg8 hown8); obtain ⟨gg, cc, rfl⟩ := own_formh hown8; clear hown8 hg8)
                          have wj := WJ.out
                          try go_wp2_with fail
                          go_roundw
                          case rel => exact ⟨j + 1, by omega, by omega, by first | rfl | go_num, by rw [HS1.out]; exact HN.out⟩
                          case measure => (simp [intOf] <;> omega)
                  · have hjm2 : j = i := by omega
                    subst hjm2
                    have HLC := Lib.hid hLc
                    clear hLc
                    have hji : ¬ ((j : Int) < (j : Int)) := by omega
                    have wk := WK.out
                    clear x0 x1
                    go_wp2_with fail
                    go_roundw
                    case rel => exact ⟨k + 1, by omega, by first | rfl | go_num, by rw [← bef_i, ← HLC.out]; exact HL.out⟩
                    case measure => (simp [intOf] <;> omega)
              · have hkm2 : k = i := by omega
                subst hkm2
                have hki : ¬ ((k : Int) < (k : Int)) := by omega
                have HCB : Hid (conL true al pr k = Lb) := Lib.hid (by rw [HCON.out, ← HLB2.out])
                have HLS := Lib.hid (HLo.out.lss (by rw [← HCB.out]; exact HLX.out.1) (by rw [← HCB.out]; exact HLX.out.2))
                have DD5 := Lib.hid (nextB D3.out D5.out)
                go_wp2_with fail
                go_ret2
                first | exact ⟨fB, fd, by (rw [HCB.out]; first | done | rfl | simp), by rw [HCB.out]; exact HLS.out, DD5.out⟩ | exact ⟨fB, ⟨fd, by (rw [HCB.out]; first | done | rfl | simp)⟩, by rw [HCB.out]; exact HLS.out, DD5.out⟩
set_option maxRecDepth 100000 in
set_option maxHeartbeats 4000000 in
theorem RContradiction_any (d : Drm) (MA : Option Addr) (m mc : Nat) (F : Nat → Int × Int × Int) (x : List Int) (E : Int) (w : World) (hin : DrIn d w.heap.size w) (hm : TrsIn MA m F w.heap.size w) (hE : CtR d m F x E) :
    Calls Try.prog 58 #[d.v, .slice MA m mc] w fun e w' => ∃ A c, e = .returned (.tuple #[.slice A x.length c, .int .i64 E]) ∧ LiIn A x w' ∧ Below w.heap.size w w' := by
  obtain ⟨w1, hw1⟩ : ∃ w1 : World, w1 = w.alloc (drO d) := ⟨_, rfl⟩
  have B1 : Below w.heap.size w w1 := by rw [hw1]; exact box1 _ _
  have P1 : HasDr d w.heap.size w1 := by rw [hw1]; exact dr_new w d
  have D := Lib.hid B1
  have P := Lib.hid P1
  have HW := Lib.hid hw1
  obtain ⟨L, hL, hx⟩ : ∃ L, PaR d m F L E ∧ ((L = [] ∧ x = [] ∧ ¬ E = 0) ∨ (L[0]? = some x ∧ E = 0)) := by
    rcases hE with ⟨h1, h2, h3⟩ | ⟨h1, h2, L, h3, ⟨h4, h5, h6⟩ | ⟨h4, h5⟩⟩
    · exact ⟨[], .inl ⟨h1, rfl, h3⟩, .inl ⟨rfl, h2, by omega⟩⟩
    · exact ⟨L, .inr ⟨h1, h2, h3, by rw [h4]; exact h6⟩, .inl ⟨h4, h5, by omega⟩⟩
    · refine ⟨L, .inr ⟨h1, h2, h3, ?_⟩, .inr ⟨h4, h5⟩⟩
      have h0 : ¬ L.length = 0 := fun e => by rw [List.length_eq_zero_iff.1 e] at h4; simp at h4
      rw [if_neg h0]
      exact h5
  have K1 := Lib.hid (RPairs_any d MA m mc F L E w1 ((hin.up B1 (Nat.le_refl _)).more B1.size) ((hm.up B1 (Nat.le_refl _)).more B1.size) hL)
  clear hin hm hE hL B1 P1 hw1
  obtain ⟨x0, x1⟩ := P.out
  rcases hx with ⟨rfl, rfl, hne⟩ | ⟨hx, rfl⟩
  · have hn2 : (E != 0) = true := by simpa using hne
    clear hne
    go_enter Try.func58, Try.ntmps58
    go_wp2_with fail
    rw [← HW.out]
    refine K1.out.mono ?_
    rintro e w2 ⟨A, c, rfl, hl, hb2⟩
    clear hl
    have D := Lib.hid (nextB D.out hb2)
    have P := Lib.hid (P.out.up hb2)
    clear hb2 x0 x1
    obtain ⟨x0, x1⟩ := P.out
    go_wp2_with fail
    go_ret2
    first | exact ⟨none, 0, by simp, ⟨by simp, fun i hi => absurd hi (by simp)⟩, D.out⟩ | exact ⟨none, ⟨0, by simp⟩, ⟨by simp, fun i hi => absurd hi (by simp)⟩, D.out⟩
  · have hlen : 0 < L.length := (List.getElem?_eq_some_iff.1 hx).1
    have hlni : (0 : Int) < (L.length : Int) := by omega
    have HX := Lib.hid hx
    clear hx
    go_enter Try.func58, Try.ntmps58
    go_wp2_with fail
    rw [← HW.out]
    refine K1.out.mono ?_
    rintro e w2 ⟨A, c, rfl, hl, hb2⟩
    obtain ⟨a, A', c', rfl, _, hc, hli⟩ := hl.2 0 x HX.out
    have hc2 : w2.cell? a = some (.slice A' x.length c') := by rw [← add_zero a]; exact hc
    have HLI := Lib.hid hli
    clear hl hli hc
    have D := Lib.hid (nextB D.out hb2)
    have P := Lib.hid (P.out.up hb2)
    clear hb2 x0 x1
    obtain ⟨x0, x1⟩ := P.out
    generalize L.length = q at hlen hlni ⊢
    go_wp2_with fail
    go_ret2
    first | exact ⟨A', c', by simp, HLI.out, D.out⟩ | exact ⟨A', ⟨c', by simp⟩, HLI.out, D.out⟩
end Go.Proofs.Ytpikaohodieeaaa
