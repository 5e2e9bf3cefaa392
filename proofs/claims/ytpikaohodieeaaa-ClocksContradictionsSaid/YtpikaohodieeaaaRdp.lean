/- The specification's Drops. -/
import Derived.Test.YtpikaohodieeaaaRnx
namespace Go.Proofs.Ytpikaohodieeaaa
open Go.RowKit
set_option linter.unusedSimpArgs false
set_option linter.unusedVariables false
theorem ext_below (c : Nat) : ∀ (r lo : Nat) (s : List Int), s ∈ ext c r lo → ∀ y, y ∈ s → 0 ≤ y ∧ y < c
  | 0, lo, s, h, y, hy => by simp [ext] at h; subst h; cases hy
  | r + 1, lo, s, h, y, hy => by
    simp only [ext, List.mem_flatMap, List.mem_map, List.mem_range] at h
    obtain ⟨j, hj, t, ht, rfl⟩ := h
    rcases List.mem_cons.1 hy with rfl | hy
    · omega
    · exact ext_below c r _ t ht y hy
theorem mem_restL {l : List Int} {k : Nat} {y : Int} : y ∈ restL l k ↔ ∃ i : Nat, i < k ∧ y = i ∧ ∀ a, a < l.length → l.getD a 0 ≠ (i : Int) := by
  unfold restL
  simp only [List.mem_map, List.mem_filter, List.mem_range]
  constructor
  · rintro ⟨i, ⟨hi, h⟩, rfl⟩
    refine ⟨i, hi, rfl, fun a ha e => ?_⟩
    have h3 : ((List.range l.length).any fun a => l.getD a 0 == (i : Int)) = true := List.any_eq_true.2 ⟨a, List.mem_range.2 ha, by rw [e]; exact beq_self_eq_true _⟩
    rw [h3] at h
    cases h
  · rintro ⟨i, hi, rfl, h⟩
    refine ⟨i, ⟨hi, ?_⟩, rfl⟩
    cases h2 : (List.range l.length).any fun a => l.getD a 0 == (i : Int) with
    | false => rfl
    | true =>
      obtain ⟨a, ha, e⟩ := List.any_eq_true.1 h2
      exact absurd (eq_of_beq e) (h a (List.mem_range.1 ha))
theorem con_lt {d : Drm} {m : Nat} {F : Nat → Int × Int × Int} {L : List (List Int)} (h : ConR d m F L) {x : List Int} (hx : x ∈ L) {y : Int} (hy : y ∈ x) : ∃ i : Nat, i < m ∧ y = i := by
  obtain ⟨R0, al, pr, rfl, _⟩ := h
  rcases con_mem.1 hx with ⟨_, rfl⟩ | ⟨_, ⟨i, k1, k2, rfl⟩ | ⟨i, j, k1, k2, k3, k4, k5, rfl⟩⟩
  · cases hy
  · simp at hy; exact ⟨i, k1, hy⟩
  · simp at hy
    rcases hy with hy | hy
    · exact ⟨i, by omega, hy⟩
    · exact ⟨j, k2, hy⟩
theorem rest_in (s : List Int) (m : Nat) : ∀ i, i < (restL s m).length → 0 ≤ asZ (restL s m) i ∧ asZ (restL s m) i < m := fun i hi => by
  rw [asZ_at hi]
  obtain ⟨j, hj, e, _⟩ := mem_restL.1 (List.getElem_mem hi)
  omega
/-- what is left has a reading if and only if what is dropped meets every contradiction -/
theorem drp_math {d : Drm} {m : Nat} {F : Nat → Int × Int × Int} {P : List (List Int)} (h : ConR d m F P) (s : List Int) : (∃ T, Rdg d.n (gapF d) (restL s m).length (fun i => F (asZ (restL s m) i).toNat) T) ↔ ∀ x, x ∈ P → meets s x := by
  have hZ := rest_in s m
  obtain ⟨e1, e2⟩ := pkL_len_ok (F := F) hZ
  have hs := set_math h hZ
  rw [e1] at hs
  have hx : (∃ T, Rdg d.n (gapF d) (restL s m).length (fun i => F (asZ (restL s m) i).toNat) T) ↔ ∃ T, Rdg d.n (gapF d) (restL s m).length (lsF (pkL F m (asZ (restL s m)) (restL s m).length)) T :=
    ⟨fun ⟨T, hT⟩ => ⟨T, hT.congrF fun i hi => by rw [e2 i hi]⟩, fun ⟨T, hT⟩ => ⟨T, hT.congrF fun i hi => by rw [e2 i hi]⟩⟩
  rw [hx, hs]
  constructor
  · intro hno x hx
    by_cases hm : meets s x
    · exact hm
    · refine absurd ⟨x, hx, fun y hy => ?_⟩ hno
      have hr : y ∈ restL s m := by
        obtain ⟨i, hi, rfl⟩ := con_lt h hx hy
        refine mem_restL.2 ⟨i, hi, rfl, fun a ha e => hm ?_⟩
        obtain ⟨b, hb⟩ := List.getElem?_of_mem hy
        exact ⟨a, ha, b, (List.getElem?_eq_some_iff.1 hb).1, by rw [e, List.getD_eq_getElem?_getD, hb]; rfl⟩
      obtain ⟨i, hi⟩ := List.getElem?_of_mem hr
      have hlt := (List.getElem?_eq_some_iff.1 hi).1
      refine ⟨i, hlt, ?_⟩
      rw [asZ_at hlt]
      exact (List.getElem?_eq_some_iff.1 hi).2
  · rintro hall ⟨x, hx, hy⟩
    obtain ⟨a, ha, b, hb, e⟩ := hall x hx
    obtain ⟨i, hi, e2⟩ := hy (x.getD b 0) (by rw [List.getD_eq_getElem?_getD, List.getElem?_eq_getElem hb]; exact List.getElem_mem hb)
    rw [asZ_at hi] at e2
    obtain ⟨j, hj, e3, h4⟩ := mem_restL.1 (List.getElem_mem hi)
    exact h4 a ha (by rw [← e3, e2, e])
theorem runL_snoc (a : Int) (k : Nat) : runL a (k + 1) = runL a k ++ [a + (k : Int)] := by
  induction k generalizing a with
  | zero => simp [runL]
  | succ k ih =>
    show a :: runL (a + 1) (k + 1) = a :: (runL (a + 1) k ++ [a + ((k + 1 : Nat) : Int)])
    have e : a + 1 + (k : Int) = a + ((k + 1 : Nat) : Int) := by omega
    rw [ih (a + 1), e]
theorem fL_le {α : Type} (L : List α) (p : α → Bool) (q : Nat) : (fL L p q).length ≤ L.length := by
  unfold fL
  have h1 := List.length_filter_le p (L.take q)
  rw [List.length_take] at h1
  omega
/-- one more list, of an own block, behind the others -/
theorem row_RlS {w : World} {B : Nat} {l : List Int} {v : Value} (h : w.ownsRow B 3 1 v l.length (intsZ l)) (hl : l.length ≤ 1000) : RlS 0 l #[v] (fun _ => False) w := by
  obtain ⟨A, c, ev, hi⟩ := row_ints h hl
  obtain ⟨e1, ⟨e2, e3⟩ | ⟨b, cap, cur, e2, e3, e4, e5⟩⟩ := h
  · exact ⟨A, c, by rw [ev], fun i hi => absurd hi (by omega)⟩
  · subst e2
    cases ev
    exact ⟨_, _, rfl, fun i hl2 => by
      obtain ⟨a, e, _, hc⟩ := hi.2 i hl2
      cases e
      rw [Addr.add_lit, Nat.zero_add] at hc
      exact ⟨b, rfl, (Array.getElem?_eq_some_iff.1 e4).1, id, Nat.zero_le _, hc, ⟨_, _, e4⟩, e5.1⟩⟩
theorem keep_app2 {w wo w4 w5 : World} {n : Nat} {v u u' : Value} {vs : List Value} {y : List Int} (hown : wo.ownsRow w.heap.size 29 1 v n vs) (hb4 : Below wo.heap.size wo w4) (hg : (w4.alloc (.cells #[u] 29)).grownBy w5 v.ownBlock) (hy : RlS 0 y #[u'] (fun _ => False) wo) : RlS 0 y #[u'] (fun _ => False) w5 := by
  have hbA : Below wo.heap.size wo (w4.alloc (.cells #[u] 29)) := nextB hb4 (box1 _ _)
  have hownA := own_keep hown hbA
  exact (hy.up0 hbA).row hg (fun b hi _ e => by
    obtain ⟨_, cur, hc⟩ := own_obj hownA e.symm
    have := hi.type hc
    exact absurd this (by decide)) (fun r h => h.elim)
theorem ls_app2 {w wo w4 w5 : World} {L : List (List Int)} {v v' u : Value} {vs : List Value} {x : List Int} (hb : Below w.heap.size w wo) (hown : wo.ownsRow w.heap.size 29 1 v L.length vs) (hrows : ∀ (i : Nat) (x : List Int), L[i]? = some x → ∃ u, vs[i]? = some u ∧ RlS 0 x #[u] (fun _ => False) wo)
    (hb4 : Below wo.heap.size wo w4) (hu : RlS 0 x #[u] (fun _ => False) w4) (hg : (w4.alloc (.cells #[u] 29)).grownBy w5 v.ownBlock) (hown2 : w5.ownsRow w.heap.size 29 1 v' (L.length + 1) (vs ++ [u])) : LsR 0 w (L ++ [x]) v' w5 := by
  have hbA : Below wo.heap.size wo (w4.alloc (.cells #[u] 29)) := nextB hb4 (box1 _ _)
  have hownA := own_keep hown hbA
  have hne : ∀ b, isInts (w4.alloc (.cells #[u] 29)) b → ¬ False → some b ≠ v.ownBlock := fun b hi _ e => by
    obtain ⟨_, cur, hc⟩ := own_obj hownA e.symm
    have := hi.type hc
    exact absurd this (by decide)
  have hlen : vs.length = L.length := by have := hown.1; omega
  refine ⟨(nextB hb hbA).grown hg (nextB hb hbA).size (fun r e => (own_block hownA e).1), vs ++ [u], by rw [List.length_append, List.length_singleton]; exact hown2, fun i y hi => ?_⟩
  by_cases hlt : i < L.length
  · rw [List.getElem?_append_left hlt] at hi
    obtain ⟨u, e1, e2⟩ := hrows i y hi
    exact ⟨u, by rw [List.getElem?_append_left (by omega)]; exact e1, (e2.up0 hbA).row hg hne (fun r h => h.elim)⟩
  · have hi2 : i = L.length := by
      have := (List.getElem?_eq_some_iff.1 hi).1
      rw [List.length_append, List.length_singleton] at this
      omega
    subst hi2
    rw [List.getElem?_append_right (Nat.le_refl _), Nat.sub_self] at hi
    simp at hi
    subst hi
    refine ⟨u, by rw [List.getElem?_append_right (by omega), hlen, Nat.sub_self]; rfl, ?_⟩
    exact (hu.up0 (box1 _ _)).row hg hne (fun r h => h.elim)
theorem own_RlS {w : World} {B g cap : Nat} {s : List Int} (h : w.ownsRow B 3 1 (.slice (some ⟨g, 0, none⟩) s.length cap) s.length (rowI (fun i => s.getD i 0) s.length)) : RlS 0 s #[.slice (some ⟨g, 0, none⟩) s.length cap] (fun _ => False) w := by
  obtain ⟨h1, h2, h3⟩ := own_InR h
  refine ⟨_, _, rfl, fun i hi => ⟨g, rfl, h1.lt, id, Nat.zero_le _, h1.c i hi, ?_, h3⟩⟩
  obtain ⟨e1, ⟨e2, _⟩ | ⟨b, cap', cur, e2, e3, e4, e5⟩⟩ := h
  · cases e2
  · cases e2
    exact ⟨_, _, e4⟩
/-- a set's copy: a new block -/
theorem set_copy {wo : World} {A : Option Addr} {s : List Int} {c : Nat} (h : LiIn A s wo) (hs : s.length ≤ 100) : ∃ g cap V, (Builtin.append_ #[29, 29] 29 #[.slice (some ⟨wo.heap.size, 0, none⟩) 0 0, .slice A s.length c]).run Try.prog (wo.alloc (.cells #[] 3)) = .ok (.slice (some ⟨g, 0, none⟩) s.length cap) V ∧ Below wo.heap.size wo V ∧ RlS 0 s #[.slice (some ⟨g, 0, none⟩) s.length cap] (fun _ => False) V := by
  have hin : IntsIn A s.length (fun i => s.getD i 0) (wo.alloc (.cells #[] 3)).heap.size (wo.alloc (.cells #[] 3)) := (IntsIn.up h (box1 _ _) (Nat.le_refl _)).more (box1 _ _).size
  obtain ⟨v, V, hrun, hown, hg, hne, _⟩ := app_int (c := c) (own_empty wo 3 1) (by intro e; cases e) hin (by omega) (by simp) 29
  rw [Nat.zero_add, List.nil_append] at hown
  obtain ⟨g, cap, rfl⟩ := own_some hown hne
  exact ⟨g, cap, V, hrun, (box1 wo _).grown hg (by simp) (fun r e => (own_block (own_empty wo 3 1) e).1), own_RlS hown⟩
/-- what the specification's loops drop -/
theorem dL_len {P : List (List Int)} {m k : Nat} (hm : m ≤ 12) : (dL P m k).length ≤ 4096 := by
  unfold dL
  refine Nat.le_trans (List.length_filter_le _ _) (Nat.le_trans (ext_max m k 0) ?_)
  exact Nat.le_trans (Nat.pow_le_pow_right (by omega) (show m - 0 ≤ 12 by omega)) (by decide)
theorem newR (W : World) (s : Value) : ∀ j u, ([s] : List Value)[j]? = some u → (W.alloc (.cells #[s] 29)).cell? ((⟨W.heap.size, 0, none⟩ : Addr).add j) = some u := fun j u hj => by
  match j, hj with
  | 0, hj =>
    cases hj
    rw [Addr.add_lit]
    go_simp
  | j + 1, hj => simp at hj
set_option maxRecDepth 100000 in
set_option maxHeartbeats 4000000 in
theorem RDrops_any (d : Drm) (MA : Option Addr) (m mc : Nat) (F : Nat → Int × Int × Int) (L : List (List Int)) (E : Int) (w : World) (hin : DrIn d w.heap.size w) (hm : TrsIn MA m F w.heap.size w) (hE : DpR d m F L E) :
    Calls Try.prog 62 #[d.v, .slice MA m mc] w fun e w' => ∃ A c, e = .returned (.tuple #[.slice A L.length c, .int .i64 E]) ∧ LssIn A L w' ∧ Below w.heap.size w w' := by
  have DD : Hid (∀ W, Below w.heap.size w W → DrIn d W.heap.size W) := Lib.hid fun W h => (hin.up h (Nat.le_refl _)).more h.size
  have MM : Hid (∀ W, Below w.heap.size w W → TrsIn MA m F W.heap.size W) := Lib.hid fun W h => (hm.up h (Nat.le_refl _)).more h.size
  obtain ⟨w1, hw1⟩ : ∃ w1 : World, w1 = w.alloc (drO d) := ⟨_, rfl⟩
  have B1 : Below w.heap.size w w1 := by rw [hw1]; exact box1 _ _
  have P1 : HasDr d w.heap.size w1 := by rw [hw1]; exact dr_new w d
  have D := Lib.hid B1
  have P := Lib.hid P1
  have HW := Lib.hid hw1
  have K1 := Lib.hid fun E (h : ChR d m F E) => Rasked_any d MA m mc F E w1 (DD.out w1 B1) (MM.out w1 B1) h
  clear hin hm B1 P1 hw1
  obtain ⟨x0, x1⟩ := P.out
  have lnil : ∀ W, LssIn none [] W := fun W => ⟨by simp, fun i x h => by simp at h⟩
  have LNIL := Lib.hid lnil
  clear lnil
  rcases hE with ⟨hE, rfl, hC⟩ | ⟨hd, hk, hE⟩
  · have hne : ¬ E = 0 := by omega
    have hn2 : (E != 0) = true := by simpa using hne
    have K2 := Lib.hid (K1.out E hC)
    clear hE hne hC
    go_enter Try.func62, Try.ntmps62
    go_wp2_with fail
    rw [← HW.out]
    refine K2.out.mono ?_
    rintro e w2 ⟨rfl, hb2⟩
    have D := Lib.hid (nextB D.out hb2)
    have P := Lib.hid (P.out.up hb2)
    clear hb2 x0 x1
    obtain ⟨x0, x1⟩ := P.out
    go_wp2_with fail
    go_ret2
    exact ⟨none, 0, by simp, LNIL.out _, D.out⟩
  · have K2 := Lib.hid (K1.out 0 (.inr (.inr ⟨rfl, hd, hk⟩)))
    have KT0 : Hid (∀ R, (R = true ↔ ∃ T, Rdg d.n (gapF d) 0 F T) → ∀ W, Below w.heap.size w W → Calls Try.prog 106 #[d.v, .slice none 0 0, .slice none 0 0] W fun e w' => e = .returned (.bool R) ∧ Below W.heap.size W w') := Lib.hid fun R h0 W h => Rtogether_any d none 0 0 F none 0 0 (fun _ => 0) R W (DD.out W h) ⟨by omega, fun i hi => absurd hi (by omega)⟩ (ints_nil _ _ _) hd (fun i hi => absurd hi (by omega)) (by omega) (fun i hi => absurd hi (by omega)) (h0.trans ⟨fun ⟨T, hT⟩ => ⟨T, hT.tick, hT.gap, fun i hi => absurd hi (by omega)⟩, fun ⟨T, hT⟩ => ⟨T, hT.tick, hT.gap, fun i hi => absurd hi (by omega)⟩⟩)
    rcases hE with ⟨hm12, rfl, rfl⟩ | ⟨hm12, hno, rfl, rfl⟩ | ⟨hm12, hyes, rfl, hE⟩
    · have hmi : (12 : Int) < (m : Int) := by omega
      clear hd hk hm12
      go_enter Try.func62, Try.ntmps62
      go_wp2_with fail
      rw [← HW.out]
      refine K2.out.mono ?_
      rintro e w2 ⟨rfl, hb2⟩
      have D := Lib.hid (nextB D.out hb2)
      have P := Lib.hid (P.out.up hb2)
      clear hb2 x0 x1
      obtain ⟨x0, x1⟩ := P.out
      go_wp2_with fail
      go_ret2
      exact ⟨none, 0, by simp, LNIL.out _, D.out⟩
    · have hmi : ¬ (12 : Int) < (m : Int) := by omega
      have K3 := Lib.hid (KT0.out false ⟨fun h => (by cases h), fun h => absurd h hno⟩)
      clear hd hk hm12 hno
      go_enter Try.func62, Try.ntmps62
      go_wp2_with fail
      rw [← HW.out]
      refine K2.out.mono ?_
      rintro e w2 ⟨rfl, hb2⟩
      have D := Lib.hid (nextB D.out hb2)
      have P := Lib.hid (P.out.up hb2)
      clear hb2 x0 x1
      obtain ⟨x0, x1⟩ := P.out
      go_wp2_with fail
      refine (K3.out _ D.out).mono ?_
      rintro e w3 ⟨rfl, hb3⟩
      have D := Lib.hid (nextB D.out hb3)
      have P := Lib.hid (P.out.up hb3)
      clear hb3 x0 x1
      obtain ⟨x0, x1⟩ := P.out
      go_wp2_with fail
      go_ret2
      exact ⟨none, 0, by simp, LNIL.out _, D.out⟩
    · have hmi : ¬ (12 : Int) < (m : Int) := by omega
      have K3 := Lib.hid (KT0.out true ⟨fun _ => hyes, fun _ => rfl⟩)
      obtain ⟨Pc, k, hP, hkm, hLe, hLn, hmin⟩ := hE
      obtain ⟨p, hp⟩ : ∃ p : List Int → Bool, p = fun s => @decide (∀ x, x ∈ Pc → meets s x) (Classical.propDecidable _) := ⟨_, rfl⟩
      have hdl : ∀ j, dL Pc m j = (ext m j 0).filter p := fun j => by rw [hp]; rfl
      have KT : Hid (∀ t B c W, Below w.heap.size w W → LiIn B (restL t m) W → Calls Try.prog 106 #[d.v, .slice MA m mc, .slice B (restL t m).length c] W fun e w' => e = .returned (.bool (p t)) ∧ Below W.heap.size W w') := Lib.hid fun t B c W h hl => Rtogether_any d MA m mc F B _ c (asZ (restL t m)) (p t) W (DD.out W h) (MM.out W h) hl hd hk.2 (by have := restL_lenle t m; omega) (rest_in t m) (by rw [drp_math hP t, hp]; exact ⟨fun h => @of_decide_eq_true _ (Classical.propDecidable _) h, fun h => @decide_eq_true _ (Classical.propDecidable _) h⟩)
      have hLl : L.length ≤ 4096 := by rw [hLe]; exact dL_len hm12
      have hLx : ∀ x, x ∈ L → x.length ≤ 1000 := fun x hx => by
        rw [hLe, hdl] at hx
        have := ext_len m k 0 x (List.mem_filter.1 hx).1
        omega
      have HLX := Lib.hid (And.intro hLx hLl)
      have hL0 : ¬ L.length = 0 := fun h => hLn (List.length_eq_zero_iff.1 h)
      have HL0 := Lib.hid hL0
      have HFIN : Hid (∀ j, j ≤ k → ∀ v V W0, LsR 0 W0 ((ext m j 0).filter p) v V → ∃ Lj, LsR 0 W0 Lj v V ∧ ((j + 1 ≤ k ∧ Lj = []) ∨ (j + 1 = k + 1 ∧ Lj = L))) := Lib.hid fun j hj v V W0 h => by
        rw [← hdl] at h
        by_cases e : j < k
        · rw [hmin j e] at h
          exact ⟨[], h, .inl ⟨by omega, rfl⟩⟩
        · obtain rfl : j = k := by omega
          exact ⟨L, by rw [hLe]; exact h, .inr ⟨rfl, rfl⟩⟩
      clear hd hk hyes hP hLe hLn hmin hp hdl hLl hLx hL0
      obtain ⟨i0, hi0, hz0, hz1, hz2⟩ := info_parts Try.infoInts
      obtain ⟨j0, hj0, hy0, hy1, hy2⟩ := info_parts Try.infoInt
      go_enter Try.func62, Try.ntmps62
      go_wp2_with fail
      rw [← HW.out]
      refine K2.out.mono ?_
      rintro e w2 ⟨rfl, hb2⟩
      have D := Lib.hid (nextB D.out hb2)
      have P := Lib.hid (P.out.up hb2)
      clear hb2 x0 x1
      obtain ⟨x0, x1⟩ := P.out
      go_wp2_with fail
      refine (K3.out _ D.out).mono ?_
      rintro e w3 ⟨rfl, hb3⟩
      have D := Lib.hid (nextB D.out hb3)
      have P := Lib.hid (P.out.up hb3)
      clear hb3 x0 x1
      obtain ⟨x0, x1⟩ := P.out
      have D3 := Lib.hid D.out
      have P3 := Lib.hid P.out
      clear hmi
      go_wp2_with fail
      clear x0 x1
      go_loopw [7, 8, 9, 10, 11] (fun v b _ _ _ wr => ∃ (j : Nat) (Lj : List (List Int)), b = .int .i64 j ∧ LsR 0 w3 Lj v wr ∧ ((j ≤ k ∧ Lj = []) ∨ (j = k + 1 ∧ Lj = L))) (fun _ b _ _ _ _ => k + 1 - (intOf b).toNat)
      case atStart => exact ⟨0, [], rfl, LsR.nil (Below.refl _ _), .inl ⟨Nat.zero_le _, rfl⟩⟩
      case round =>
        obtain ⟨j, Lj, rfl, hL, hc⟩ := hrel
        obtain ⟨w4, rfl⟩ : ∃ w4 : World, w4 = wr := ⟨_, rfl⟩
        obtain ⟨fA, fc, ef⟩ := hL.slice
        rcases hc with ⟨hjk, rfl⟩ | ⟨hjk, hLj⟩
        · have ef2 : _ = Value.slice fA 0 fc := ef
          clear ef
          subst ef2
          have HL := Lib.hid hL
          clear hL
          have hj0' : (0 : Int) ≤ (j : Int) := by omega
          have wj : IntKind.i64.wrap ((j : Int) + 1) = ((j + 1 : Nat) : Int) := by rw [show ((j : Int) + 1) = ((j + 1 : Nat) : Int) by omega]; exact IntWalk.i64_in _ (by omega)
          have WJ := Lib.hid wj
          clear wj
          go_wp2_with fail
          go_loopw [9, 10] (fun v b wr => ∃ i : Nat, i ≤ j ∧ b = .int .i64 i ∧ RowZ w4 (runL 0 i) v wr) (fun _ b _ => j - (intOf b).toNat)
          case atStart => exact ⟨0, Nat.zero_le _, rfl, Below.refl _ _, World.ownsRow_nil _ _ _ _⟩
          case round =>
            obtain ⟨i, hi, rfl, hR⟩ := hrel
            obtain ⟨wo, rfl⟩ : ∃ wo : World, wo = wr := ⟨_, rfl⟩
            obtain ⟨sA, sc, ef⟩ := own_form00 hR.own
            subst ef
            have HR := Lib.hid hR
            have hs := hR.below.size
            have hrl : (runL 0 i).length ≤ i := Nat.le_of_eq (runL_len 0 i)
            clear hR
            have hi0' : (0 : Int) ≤ (i : Int) := by omega
            by_cases hij : i < j
            · have hii : (i : Int) < (j : Int) := by omega
              have wi : IntKind.i64.wrap ((i : Int) + 1) = ((i + 1 : Nat) : Int) := by rw [show ((i : Int) + 1) = ((i + 1 : Nat) : Int) by omega]; exact IntWalk.i64_in _ (by omega)
              have WI := Lib.hid wi
              have HSN : Hid (runL 0 (i + 1) = runL 0 i ++ [(i : Int)]) := Lib.hid (by rw [runL_snoc, Int.zero_add])
              have HOWN := Lib.hid HR.out.own
              generalize runL 0 i = Ls at HR HSN HOWN hrl ⊢
              clear wi
              go_wp2_with (at_builtin; refine wpList_append_own _ rfl _ _ 29 rfl w4.heap.size 3 j0 (.int .i64 0) 1 8 Try.underlying29 hj0 hy0 hy1 hy2 rfl (by decide) _ _ _ rfl (HOWN.out.alloc _) ⟨wo.heap.size, 0, none⟩ 1 1 [.int .i64 (i : Int)] rfl rfl (new1 _ _) (by simp [Value.oneCell']) (by unfold maxLen; omega) (by omega) (by simp only [World.size_alloc]; omega) ?_; intro v8 w8 hown8 hg8 _; have HN8 := Lib.hid (RowZ.app HR.out hg8 hown8); obtain ⟨g8, cc8, rfl⟩ := own_formh hown8; clear hown8 hg8)
              have wi := WI.out
              try go_wp2_with fail
              go_roundw
              case rel => exact ⟨i + 1, by omega, by first | rfl | go_num, by rw [HSN.out]; exact HN8.out⟩
              case measure => (simp [intOf] <;> omega)
            · have hij2 : i = j := by omega
              have hii : ¬ ((i : Int) < (j : Int)) := by omega
              obtain ⟨B, qc, ev, hli⟩ := row_ints HR.out.own (by omega)
              have hli2 : LiIn sA (runL 0 j) wo := by cases ev; rw [hij2] at hli; exact hli
              have HRS0 : Hid (RlS 0 (runL 0 j) #[.slice sA (runL 0 j).length sc] (fun _ => False) wo) := Lib.hid (by have h := row_RlS HR.out.own (by omega); rw [hij2] at h; exact h)
              clear hli2
              have HL4 := Lib.hid (HL.out.up0 HR.out.below)
              clear hli ev
              rw [hij2]
              clear hij2 hii hij hi hi0' hrl hs HR
              obtain ⟨X, hX⟩ : ∃ X, X = ext m j 0 := ⟨_, rfl⟩
              have hit := itr_ext (c := m) j 0 (by omega)
              rw [← hX] at hit
              obtain ⟨hat, hitn⟩ := hit.at
              have HAT : Hid (X[0]? = some (runL 0 j)) := Lib.hid hat
              have HIT := Lib.hid hitn
              have HXL : Hid (∀ s, s ∈ X → s.length = j) := Lib.hid (by rw [hX]; exact ext_len m j 0)
              have HXB : Hid (∀ s, s ∈ X → ∀ y, y ∈ s → 0 ≤ y ∧ y < m) := Lib.hid (by rw [hX]; exact ext_below m j 0)
              have hXm : X.length ≤ 4096 := by
                rw [hX]
                exact Nat.le_trans (ext_max m j 0) (Nat.le_trans (Nat.pow_le_pow_right (by omega) (show m - 0 ≤ 12 by omega)) (by decide))
              have HFJ : Hid (∀ v V, LsR 0 w3 (X.filter p) v V → ∃ Lj, LsR 0 w3 Lj v V ∧ ((j + 1 ≤ k ∧ Lj = []) ∨ (j + 1 = k + 1 ∧ Lj = L))) := Lib.hid fun v V h => HFIN.out j hjk v V w3 (by rw [← hX]; exact h)
              clear hX hit hat hitn
              go_wp2_with fail
              go_loopg [7, 9, 11] X.length (fun gn v s v11 wr => (∃ (q : Nat) (t : List Int) (A : Option Addr) (c : Nat), X[q]? = some t ∧ gn = X.length - q ∧ v11 = .bool true ∧ s = .slice A t.length c ∧ RlS 0 t #[s] (fun _ => False) wr ∧ LsR 0 w3 (fL X p q) v wr) ∨ (gn = 0 ∧ v11 = .bool false ∧ (∃ A n c, s = .slice A n c) ∧ LsR 0 w3 (X.filter p) v wr))
              case atStart => exact .inl ⟨0, runL 0 j, sA, sc, HAT.out, rfl, rfl, rfl, HRS0.out, HL4.out⟩
              case round =>
                obtain ⟨W5, rfl⟩ : ∃ W5 : World, W5 = wr := ⟨_, rfl⟩
                rcases hrel with ⟨q, s, A, sc, hs, hgk, rfl, rfl, hli, hL5⟩ | ⟨hgk, rfl, ⟨A, n, c, rfl⟩, hL5⟩
                · have hq := (List.getElem?_eq_some_iff.1 hs).1
                  obtain ⟨fA, fc, ef⟩ := hL5.slice
                  subst ef
                  have HS := Lib.hid hs
                  have HRS := Lib.hid hli
                  have HLI := Lib.hid (hli.li (by have := HXL.out s (List.mem_of_getElem? hs); omega)).2
                  have HL5 := Lib.hid hL5
                  clear hs hli hL5 HL4 HRS0
                  obtain ⟨hbl, vs, hown, hrow⟩ := HL5.out
                  have HLB := Lib.hid hbl.size
                  have HBL := Lib.hid hbl
                  have HOWN := Lib.hid hown
                  have HROW := Lib.hid hrow
                  clear hbl hown hrow
                  have D := Lib.hid (nextB D3.out HBL.out)
                  have P := Lib.hid (P3.out.up HBL.out)
                  obtain ⟨x0, x1⟩ := P.out
                  have zP := P.out.lt
                  have HPT := Lib.hid (fun h : p s = true => fL_t (p := p) HS.out h)
                  have HPF := Lib.hid (fun h : p s = false => fL_f (p := p) HS.out h)
                  have HNX : Hid (nx m s = X[q + 1]?) := Lib.hid (HIT.out q s HS.out)
                  have HNONE : Hid (nx m s = none → fL X p (q + 1) = X.filter p) := Lib.hid fun h => by
                    rw [HNX.out, List.getElem?_eq_none_iff] at h
                    rw [show q + 1 = X.length by omega]
                    exact fL_all X p
                  have HSM := Lib.hid (List.mem_of_getElem? HS.out)
                  have hsl : s.length ≤ 12 := by have := HXL.out s HSM.out; omega
                  have HSB : Hid (∀ i, i < s.length → 0 ≤ s.getD i 0 ∧ s.getD i 0 ≤ 1000) := Lib.hid fun i hi => by
                    have h := HXB.out s HSM.out (s.getD i 0) (by rw [List.getD_eq_getElem?_getD, List.getElem?_eq_getElem hi]; exact List.getElem_mem hi)
                    omega
                  have hfl := fL_le X p q
                  obtain ⟨Lq, hLq⟩ : ∃ Lq, Lq = fL X p q := ⟨_, rfl⟩
                  rw [← hLq] at HL5 HPT HPF HOWN HROW hfl
                  rw [← hLq]
                  have KT := Lib.hid fun t B k W (h : Below w.heap.size w W) (hl : LiIn B (restL t m) W) => KT.out t B k W h hl
                  have KTs := Lib.hid fun B k W (h : Below w.heap.size w W) (hl : LiIn B (restL s m) W) => KT.out s B k W h hl
                  clear hLq KT
                  generalize p s = g0 at HPT HPF KTs
                  go_wp2_with fail
                  refine wp_region_M [] (fun w' => w'.cell? ⟨w.heap.size, 0, none⟩ = some (.slice d.RA d.n d.rc) ∧ w'.cell? ⟨w.heap.size, 1, none⟩ = some (.slice d.SA d.m d.sc)) (by kernel_rfl) (by kernel_rfl) (by (try dsimp only); (repeat' apply And.intro); all_goals first | assumption | (go_simp; done)) (fun hT0 => ?_)
                  refine M_take (v := ?_) 0 rfl (by kernel_rfl) (by assumption) (fun _ _ _ h => h) (Or.inl ⟨by rfl, ?_⟩) ?_
                  rotate_left
                  · (intro w hSw; (try dsimp only at hSw); go_simp; (try with_reducible rfl))
                  (try simp only [Act.put, List.setIfInBounds_toArray, List.set_cons_zero, List.set_cons_succ])
                  refine M_take (v := ?_) 1 rfl (by kernel_rfl) (by assumption) (fun _ _ _ h => h) (Or.inl ⟨by rfl, ?_⟩) ?_
                  rotate_left
                  · (intro w hSw; (try dsimp only at hSw); go_simp; (try with_reducible rfl))
                  (try simp only [Act.put, List.setIfInBounds_toArray, List.set_cons_zero, List.set_cons_succ])
                  refine M_take (v := ?_) 2 rfl (by kernel_rfl) (by assumption) (fun _ _ _ h => h) (Or.inl ⟨by rfl, ?_⟩) ?_
                  rotate_left
                  · (intro w hSw; (try dsimp only at hSw); go_simp; (try with_reducible rfl))
                  (try simp only [Act.put, List.setIfInBounds_toArray, List.set_cons_zero, List.set_cons_succ])
                  refine M_take (v := ?_) 3 rfl (by kernel_rfl) (by assumption) (fun _ _ _ h => h) (Or.inl ⟨by rfl, ?_⟩) ?_
                  rotate_left
                  · (intro w hSw; (try dsimp only at hSw); go_simp; (try with_reducible rfl))
                  (try simp only [Act.put, List.setIfInBounds_toArray, List.set_cons_zero, List.set_cons_succ])
                  refine M_take (v := ?_) 4 rfl (by kernel_rfl) (by assumption) (fun _ _ _ h => h) (Or.inl ⟨by rfl, ?_⟩) ?_
                  rotate_left
                  · (intro w hSw; (try dsimp only at hSw); go_simp; (try with_reducible rfl))
                  (try simp only [Act.put, List.setIfInBounds_toArray, List.set_cons_zero, List.set_cons_succ])
                  refine M_step 5 rfl (by kernel_rfl) (fun K hK => ?_)
                  go_simp
                  go_at_call 108
                  refine (Rrest_any A sc s m W5.drew (HLI.out.up (Below.refl _ _).drew) (by omega)).mono ?_
                  rintro e w7 ⟨B7, k7, rfl, hm7, hb7⟩
                  have B7' := Lib.hid (show Below W5.heap.size W5 w7 from nextB (Below.refl _ _).drew hb7)
                  have M7 := Lib.hid hm7
                  have hT7 : (fun w' => w'.cell? ⟨w.heap.size, 0, none⟩ = some (.slice d.RA d.n d.rc) ∧ w'.cell? ⟨w.heap.size, 1, none⟩ = some (.slice d.SA d.m d.sc)) w7 := P.out.up B7'.out
                  clear hb7 hm7
                  refine hK.out _ _ (fun _ => hT7) ?_
                  clear hK K
                  (try simp only [Act.put, List.setIfInBounds_toArray, List.set_cons_zero, List.set_cons_succ])
                  refine M_step 6 rfl (by kernel_rfl) (fun K hK => ?_)
                  go_simp
                  go_at_call 106
                  refine (KTs.out B7 k7 w7 (nextB D.out B7'.out) M7.out).mono ?_
                  rintro e w8 ⟨rfl, hb8⟩
                  have HB8 := Lib.hid (nextB B7'.out hb8)
                  have hT8 : (fun w' => w'.cell? ⟨w.heap.size, 0, none⟩ = some (.slice d.RA d.n d.rc) ∧ w'.cell? ⟨w.heap.size, 1, none⟩ = some (.slice d.SA d.m d.sc)) w8 := P.out.up HB8.out
                  clear hb8
                  refine hK.out _ _ (fun _ => hT8) ?_
                  clear hK K
                  (try simp only [Act.put, List.setIfInBounds_toArray, List.set_cons_zero, List.set_cons_succ])
                  refine M_done (by kernel_rfl) ?_ _
                  clear hT0 hT7 hT8
                  have HL8 := Lib.hid (HL5.out.up0 HB8.out)
                  have HLI := Lib.hid (HLI.out.up HB8.out)
                  have HRS := Lib.hid (HRS.out.up0 HB8.out)
                  cases g0 with
                  | false =>
                    have HEQ := Lib.hid (HPF.out rfl)
                    clear x0 x1
                    go_wp2_with fail
                    refine (Rnext_any A sc s m _ (HRS.out.li (by omega)).2 (by omega) HSB.out (by omega)).mono ?_
                    rintro e w9 ⟨hb9, ⟨hnx, rfl⟩ | ⟨s', b9, cap9', hnx, rfl, hrs9⟩⟩
                    · have HEND := Lib.hid (HNONE.out hnx)
                      have HLS := Lib.hid (HL8.out.up0 hb9)
                      clear hb9 hnx
                      try go_wp2_with fail
                      go_roundg 0
                      case rel => exact .inr ⟨rfl, by first | rfl | go_num, ⟨none, 0, 0, by first | rfl | go_num⟩, by rw [← HEND.out, HEQ.out]; exact HLS.out⟩
                      case measure => omega
                    · have HS' := Lib.hid ((HNX.out).symm.trans hnx)
                      have HRS9 := Lib.hid hrs9
                      have HLS := Lib.hid (HL8.out.up0 hb9)
                      clear hb9 hnx hrs9
                      try go_wp2_with fail
                      go_roundg (X.length - (q + 1))
                      case rel => exact .inl ⟨q + 1, s', some ⟨b9, 0, none⟩, cap9', HS'.out, rfl, by first | rfl | go_num, by first | rfl | go_num, HRS9.out, by rw [HEQ.out]; exact HLS.out⟩
                      case measure => omega
                  | true =>
                    have HEQ := Lib.hid (HPT.out rfl)
                    obtain ⟨g9, cap9, V9, hrun, hvb, hrl⟩ := set_copy (c := sc) HLI.out (by omega)
                    have HRUN := Lib.hid hrun
                    have HVB := Lib.hid hvb
                    have HRL := Lib.hid hrl
                    obtain ⟨hbl, vs, hown, hrow⟩ := HL8.out
                    have HLB := Lib.hid hbl.size
                    have HBL := Lib.hid hbl
                    have HOWN := Lib.hid hown
                    have HROW := Lib.hid hrow
                    clear hbl hown hrow hrun hvb hrl x0 x1
                    go_wp2_with (first | (at_builtin; refine Lib.wpList_append_run _ rfl _ _ _ _ rfl _ _ rfl rfl _ _ HRUN.out ?_) | (at_builtin; refine wpList_append_own _ rfl _ _ 68 rfl w3.heap.size 29 i0 (.slice none 0 0) 1 24 Try.underlying68 hi0 hz0 hz1 hz2 rfl (by decide) _ _ _ rfl ((own_keep HOWN.out HVB.out).alloc _) ⟨V9.heap.size, 0, none⟩ 1 1 [.slice (some ⟨g9, 0, none⟩) s.length cap9] rfl rfl (newR _ _) (by simp [Value.oneCell']) (by unfold maxLen; omega) (by omega) (by simp only [World.size_alloc]; have := HLB.out; have := HVB.out.size; omega) ?_; intro v8 wz hown8 hg8 _; have HK := Lib.hid (keep_app2 HOWN.out HVB.out hg8 HRS.out); have HN := Lib.hid (ls_app2 (x := s) HBL.out HOWN.out HROW.out HVB.out HRL.out hg8 hown8); obtain ⟨gg, cc, rfl⟩ := own_formh hown8; clear hown8 hg8))
                    refine (Rnext_any A sc s m _ (HK.out.li (by omega)).2 (by omega) HSB.out (by omega)).mono ?_
                    rintro e w9 ⟨hb9, ⟨hnx, rfl⟩ | ⟨s', b9, cap9', hnx, rfl, hrs9⟩⟩
                    · have HEND := Lib.hid (HNONE.out hnx)
                      have HLS := Lib.hid (HN.out.up0 hb9)
                      clear hb9 hnx
                      try go_wp2_with fail
                      go_roundg 0
                      case rel => exact .inr ⟨rfl, by first | rfl | go_num, ⟨none, 0, 0, by first | rfl | go_num⟩, by rw [← HEND.out, HEQ.out]; exact HLS.out⟩
                      case measure => omega
                    · have HS' := Lib.hid ((HNX.out).symm.trans hnx)
                      have HRS9 := Lib.hid hrs9
                      have HLS := Lib.hid (HN.out.up0 hb9)
                      clear hb9 hnx hrs9
                      try go_wp2_with fail
                      go_roundg (X.length - (q + 1))
                      case rel => exact .inl ⟨q + 1, s', some ⟨b9, 0, none⟩, cap9', HS'.out, rfl, by first | rfl | go_num, by first | rfl | go_num, HRS9.out, by rw [HEQ.out]; exact HLS.out⟩
                      case measure => omega
                · obtain ⟨Lj, hLj, hcj⟩ := HFJ.out _ _ hL5
                  obtain ⟨fA, fc, ef⟩ := hL5.slice
                  subst ef
                  have HLj := Lib.hid hLj
                  have HCJ := Lib.hid hcj
                  clear hL5 hLj hcj hgk
                  have wj := WJ.out
                  go_wp2_with fail
                  go_roundw
                  case rel => exact ⟨j + 1, Lj, by first | rfl | go_num, HLj.out, HCJ.out⟩
                  case measure => (simp [intOf] <;> omega)
        · subst ef
          have HL := Lib.hid hL
          clear hL
          subst hLj
          have hl0 := HL0.out
          have hli : ((Lj.length : Int) == 0) = false := by simpa using (by omega : ¬ (Lj.length : Int) = 0)
          have HLS := Lib.hid (HL.out.lss HLX.out.1 (by have := HLX.out.2; omega))
          have HBB := Lib.hid (nextB D3.out HL.out.1)
          clear hjk
          go_wp2_with fail
          go_ret2
          first | exact ⟨fA, fc, by simp, HLS.out, HBB.out⟩ | exact ⟨fA, fc, rfl, HLS.out, HBB.out⟩
end Go.Proofs.Ytpikaohodieeaaa
