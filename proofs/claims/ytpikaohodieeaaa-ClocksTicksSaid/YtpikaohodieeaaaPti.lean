/- ClocksTicks' law. -/
import Derived.Test.YtpikaohodieeaaaCnm
namespace Go.Proofs.Ytpikaohodieeaaa
open Go.RowKit
set_option linter.unusedSimpArgs false
set_option linter.unusedVariables false
theorem rdR_in {d : Drm} {m : Nat} {F : Nat → Int × Int × Int} {vd : Bool} {E : Int} {S S1 : Nat → Int × Int} (h : RdR d m F vd E S) (hn : ¬ E = 0) (hd : DrOk d) (hk : MksOk d m F) (he : Ends d.n (Rdg d.n (gapF d) m F) S1) : vd = false ∧ E = 1 := by
  rcases h with ⟨h, h2⟩ | ⟨h1, h2, ⟨h, e⟩ | ⟨_, _, h⟩ | ⟨h3, h, h4⟩⟩
  · rcases h2 with ⟨_, h2⟩ | ⟨_, _, h2⟩ | ⟨h2, _⟩
    · exact absurd hd h2
    · exact absurd hk h2
    · exact absurd h2 hn
  · exact ⟨h, e⟩
  · exact absurd he.lo (h _)
  · exact absurd h hn
/-- With has a reading just where the tick is one of the span -/
theorem rwR_iff {d : Drm} {m : Nat} {F : Nat → Int × Int × Int} {E : Int} {S Sw : Nat → Int × Int} {a : Nat} {t : Int} (hd : DrOk d) (hk : MksOk d m F) (he : Ends d.n (Rdg d.n (gapF d) m F) S) (ha : a ≤ d.n) (h : RwR d m F (a : Int) t E Sw) : E = 0 ↔ (S a).1 ≤ t ∧ t ≤ (S a).2 := by
  have hg := gpOk hd
  constructor
  · rintro rfl
    rcases h with ⟨h, _⟩ | ⟨_, _, _, _, ⟨h, _⟩ | ⟨_, h⟩⟩
    · exact absurd rfl h
    · omega
    · have h1 := rdg_cat.1 h.lo
      have h2 := h1.2 0 (by omega)
      have h3 := he.all _ h1.1 a ha
      unfold hasP at h2
      rw [Int.toNat_natCast] at h2
      simp only at h2 h3
      omega
  · intro ht
    by_cases hz : E = 0
    · exact hz
    · exfalso
      have b1 := he.lo.tick a (by omega)
      have b2 := he.hi.tick a (by omega)
      obtain ⟨T, hT, hTa⟩ := he.one (fun i hi => (hg.2.2 i hi).2.1) (mkOk_of hk) ha ht
      rcases h with ⟨_, vd, S1, hv, h⟩ | ⟨_, _, _, _, ⟨_, h⟩ | ⟨h, _⟩⟩
      · have := (rdR_in h hz hd hk he).1
        have h2 := hv.2 ⟨by omega, by omega⟩
        rw [this] at h2
        cases h2
      · refine h T (rdg_cat.2 ⟨hT, fun j _ => ?_⟩)
        unfold hasP
        rw [Int.toNat_natCast]
        simp only
        omega
      · exact hz h
/-- what With returns -/
theorem rwR_at {d : Drm} {m : Nat} {F : Nat → Int × Int × Int} {Sw : Nat → Int × Int} {a : Nat} {t : Int} (h : RwR d m F (a : Int) t 0 Sw) : Rdg d.n (gapF d) m F (fun i => (Sw i).1) ∧ (Sw a).1 = t ∧ ∀ U, Rdg d.n (gapF d) m F U → U a = t → ∀ i, i ≤ d.n → (Sw i).1 ≤ U i := by
  rcases h with ⟨h, _⟩ | ⟨_, _, _, _, ⟨h, _⟩ | ⟨_, h⟩⟩
  · exact absurd rfl h
  · omega
  · have h1 := rdg_cat.1 h.lo
    have h2 := h1.2 0 (by omega)
    unfold hasP at h2
    rw [Int.toNat_natCast] at h2
    simp only at h2
    refine ⟨h1.1, by omega, fun U hU hUa i hi => (h.all U (rdg_cat.2 ⟨hU, fun j _ => ?_⟩) i hi).1⟩
    unfold hasP
    rw [Int.toNat_natCast]
    simp only
    omega
theorem rwR_ahead {d : Drm} {m : Nat} {F : Nat → Int × Int × Int} {Sw Sx : Nat → Int × Int} {a : Nat} {t : Int} (ha : a ≤ d.n) (h : RwR d m F (a : Int) t 0 Sw) (h2 : RwR d m F (a : Int) (t + 1) 0 Sx) : ∀ i, i ≤ d.n → (Sw i).1 ≤ (Sx i).1 := fun i hi => by
  obtain ⟨h1, h3, h4⟩ := rwR_at h
  obtain ⟨k1, k3, k4⟩ := rwR_at h2
  have := h4 _ (Rdg.min h1 k1) (by simp only [h3, k3]; omega) i hi
  omega
theorem with_ok (d : Drm) (MA : Option Addr) (m mc : Nat) (F : Nat → Int × Int × Int) (a t : Int) (E : Int) (S : Nat → Int × Int) (w : World) (hin : DrIn d w.heap.size w) (hm : TrsIn MA m F w.heap.size w) (hE : RwR d m F a t E S) :
    Calls Try.prog 44 #[d.v, .slice MA m mc, .int .i64 a, .int .i64 t] w fun e w' => ∃ A q k, e = .returned (.tuple #[.slice A q k, .int .i64 E]) ∧ (E = 0 → q = d.n + 1) ∧ LiR A q (fun i => (S i).1) w' ∧ Below w.heap.size w w' := by
  refine (With_any d MA m mc F a t E S w hin hm hE).mono ?_
  rintro e w' ⟨A, q, k, rfl, hq, hi, hb⟩
  exact ⟨A, q, k, rfl, fun h => by rw [if_pos h] at hq; exact hq, hi, hb⟩
set_option maxRecDepth 100000 in
set_option maxHeartbeats 4000000 in
theorem ticks_law (c : Clo) (x : Aks) (w : World) (hc : ClIn c w.heap.size w) (hx : AkIn x w.heap.size w) :
    Calls Try.prog 11 #[c.v, x.v] w fun e w' => e = .returned (.bool true) ∧ Below w.heap.size w w' := by
  have CC : Hid (∀ W, Below w.heap.size w W → ClIn c W.heap.size W) := Lib.hid fun W h => (hc.up h (Nat.le_refl _)).more h.size
  have AA : Hid (∀ W, Below w.heap.size w W → AkIn x W.heap.size W) := Lib.hid fun W h => (hx.up h (Nat.le_refl _)).more h.size
  obtain ⟨G, hG⟩ := few_ex c
  have HG := Lib.hid hG
  clear hc hG hx
  go_enter Try.func11, Try.ntmps11
  go_wp2_with fail
  refine (awake_any _).mono ?_
  rintro e w2 ⟨rfl, hb⟩
  have D := Lib.hid (nextB (w2b_below c x w) hb)
  have C : Hid (HasCl c w.heap.size w2) := Lib.hid ((w2b_cl c x w).up hb)
  have X : Hid (HasAk x (w.heap.size + 1) w2) := Lib.hid ((w2b_ak c x w).up hb)
  clear hb
  obtain ⟨c0, c1, c2⟩ := C.out
  have zC := C.out.lt
  have x0 : w2.cell? ⟨w.heap.size + 1, 0, none⟩ = some (.int .i64 x.A) := X.out.c 0 _ rfl
  have x2 : w2.cell? ⟨w.heap.size + 1, 2, none⟩ = some (.int .i64 x.t) := X.out.c 2 _ rfl
  have zX := X.out.lt
  go_wp2_with fail
  refine (few_any c G _ HG.out).mono ?_
  rintro e w3 ⟨rfl, hb⟩
  have J := Lib.hid (hb)
  have D := Lib.hid (nextB D.out J.out)
  clear c0 c1 c2 zC x0 x2 zX
  have C := Lib.hid (C.out.up J.out)
  have X := Lib.hid (X.out.up J.out)
  clear hb
  obtain ⟨c0, c1, c2⟩ := C.out
  have zC := C.out.lt
  have x0 : w3.cell? ⟨w.heap.size + 1, 0, none⟩ = some (.int .i64 x.A) := X.out.c 0 _ rfl
  have x2 : w3.cell? ⟨w.heap.size + 1, 2, none⟩ = some (.int .i64 x.t) := X.out.c 2 _ rfl
  have zX := X.out.lt
  cases G with
  | false =>
    go_wp2_with fail
    go_ret
    exact ⟨rfl, D.out⟩
  | true =>
    have hfew : Few c := HG.out.1 rfl
    have HFEW := Lib.hid hfew
    clear hfew
    by_cases hm20 : c.m ≤ 20
    · have dm1 : decide (20 < c.m) = false := decide_eq_false (by omega)
      have dm2 : decide ((20 : Int) < (c.m : Int)) = false := decide_eq_false (by omega)
      have HM20 := Lib.hid hm20
      clear hm20 HG HFEW
      obtain ⟨vd, hv⟩ := bool_of (0 ≤ x.A ∧ x.A ≤ c.d.n)
      obtain ⟨E, S, hE⟩ := rdR_ex c.d c.m c.F vd
      obtain ⟨t2, ht2⟩ : ∃ t2, IntKind.i64.wrap (x.t + 1) = t2 := ⟨_, rfl⟩
      obtain ⟨Ew, Sw, hw⟩ := rwR_ex c.d c.m c.F x.A x.t
      obtain ⟨Ex, Sx, hx⟩ := rwR_ex c.d c.m c.F x.A t2
      obtain ⟨⟨s1, s2⟩, hs⟩ : ∃ s : Int × Int, (if E = 0 then S x.A.toNat else (0, 0)) = s := ⟨_, rfl⟩
      have K1 := Lib.hid fun W h => Span_any c.d c.MA c.m c.mc c.F x.A vd E S W (CC.out W h).1 (CC.out W h).2 hv hE
      rw [hs] at K1
      have K2 := Lib.hid fun W h => with_ok c.d c.MA c.m c.mc c.F x.A x.t Ew Sw W (CC.out W h).1 (CC.out W h).2 hw
      have K3 := Lib.hid fun W h => with_ok c.d c.MA c.m c.mc c.F x.A t2 Ex Sx W (CC.out W h).1 (CC.out W h).2 hx
      have HV := Lib.hid hv
      have HE := Lib.hid hE
      have HS := Lib.hid hs
      have HW := Lib.hid hw
      have HX := Lib.hid hx
      have HT2 := Lib.hid ht2
      clear hv hE hs hw hx
      go_wp2_with fail
      refine (K1.out _ D.out).mono ?_
      rintro e w4 ⟨rfl, hb⟩
      have J := Lib.hid (hb)
      have D := Lib.hid (nextB D.out J.out)
      clear c0 c1 c2 zC x0 x2 zX
      have C := Lib.hid (C.out.up J.out)
      have X := Lib.hid (X.out.up J.out)
      clear hb
      obtain ⟨c0, c1, c2⟩ := C.out
      have zC := C.out.lt
      have x0 : w4.cell? ⟨w.heap.size + 1, 0, none⟩ = some (.int .i64 x.A) := X.out.c 0 _ rfl
      have x2 : w4.cell? ⟨w.heap.size + 1, 2, none⟩ = some (.int .i64 x.t) := X.out.c 2 _ rfl
      have zX := X.out.lt
      go_wp2_with fail
      refine (K2.out _ (nextB D.out (box1 w4 _))).mono ?_
      rintro e w5 ⟨A1, q1, k1, rfl, hq, hi, hb⟩
      have J := Lib.hid (nextB (box1 w4 _) hb)
      have D := Lib.hid (nextB D.out J.out)
      clear c0 c1 c2 zC x0 x2 zX
      have C := Lib.hid (C.out.up J.out)
      have X := Lib.hid (X.out.up J.out)
      have L := Lib.hid (((Bt.new w4 31 (s1) (s2))).up hb)
      have I1 := Lib.hid hi
      have Q1 := Lib.hid hq
      clear hi hq
      clear hb
      obtain ⟨c0, c1, c2⟩ := C.out
      have zC := C.out.lt
      have x0 : w5.cell? ⟨w.heap.size + 1, 0, none⟩ = some (.int .i64 x.A) := X.out.c 0 _ rfl
      have x2 : w5.cell? ⟨w.heap.size + 1, 2, none⟩ = some (.int .i64 x.t) := X.out.c 2 _ rfl
      have zX := X.out.lt
      obtain ⟨l0, l1, l2, l3⟩ := L.out
      have zL := L.out.lt
      go_wp2_with fail
      refine (K3.out _ D.out).mono ?_
      rintro e w6 ⟨A2, q2, k2, rfl, hq, hi, hb⟩
      have J := Lib.hid (hb)
      have D := Lib.hid (nextB D.out J.out)
      clear c0 c1 c2 zC x0 x2 zX l0 l1 l2 l3 zL
      have C := Lib.hid (C.out.up J.out)
      have X := Lib.hid (X.out.up J.out)
      have L := Lib.hid (L.out.up J.out)
      have I1 := Lib.hid (I1.out.up J.out)
      have I2 := Lib.hid hi
      have Q2 := Lib.hid hq
      clear hi hq
      clear hb
      obtain ⟨c0, c1, c2⟩ := C.out
      have zC := C.out.lt
      have x0 : w6.cell? ⟨w.heap.size + 1, 0, none⟩ = some (.int .i64 x.A) := X.out.c 0 _ rfl
      have x2 : w6.cell? ⟨w.heap.size + 1, 2, none⟩ = some (.int .i64 x.t) := X.out.c 2 _ rfl
      have zX := X.out.lt
      obtain ⟨l0, l1, l2, l3⟩ := L.out
      have zL := L.out.lt
      by_cases hz : E = 0
      · subst hz
        obtain ⟨hvt, hd, hk, he⟩ := rdR_0 HE.out
        obtain ⟨hA0, hA1⟩ := HV.out.1 hvt
        obtain ⟨a, ha⟩ : ∃ a : Nat, x.A = (a : Int) := ⟨x.A.toNat, by omega⟩
        have han : a ≤ c.d.n := by omega
        have hS : S a = (s1, s2) := by have h := HS.out; rw [if_pos rfl, ha, Int.toNat_natCast] at h; exact h
        have hwi := rwR_iff hd hk he han (by have h := HW.out; rw [ha] at h; exact h)
        rw [hS] at hwi
        simp only at hwi
        have b1 := he.lo.tick a (by omega)
        have b2 := he.hi.tick a (by omega)
        rw [hS] at b1 b2
        simp only at b1 b2
        obtain ⟨G1, hG1⟩ := bool_of (CanP c 1 (fun _ => (x.A, x.t, x.t)))
        have hG2 : G1 = true ↔ s1 ≤ x.t ∧ x.t ≤ s2 := by
          rw [hG1, canP_iff hd hk (by have := HM20.out; omega)]
          constructor
          · rintro ⟨_, T, hT, h⟩
            have h := h 0 (by omega)
            have h3 := he.all T hT a han
            rw [hS] at h3
            unfold hasP at h
            rw [ha, Int.toNat_natCast] at h
            simp only at h h3
            omega
          · intro h
            refine ⟨fun j _ => ⟨⟨by simp only; omega, by simp only; omega⟩, ?_⟩, ?_⟩
            · unfold isS; simp only; omega
            · obtain ⟨T, hT, hTa⟩ := he.one (fun i hi => ((gpOk hd).2.2 i hi).2.1) (mkOk_of hk) han (by rw [hS]; exact h)
              refine ⟨T, hT, fun j _ => ?_⟩
              unfold hasP
              rw [ha, Int.toNat_natCast]
              simp only
              omega
        have KC := Lib.hid fun ad qc W (h : Below w.heap.size w W) hq => can_any c ad 1 qc (fun _ => (x.A, x.t, x.t)) G1 W (CC.out W h) hq (by have := HM20.out; omega) (by omega) (by omega) hG1
        have HA := Lib.hid ha
        have HANn : Hid (a ≤ c.d.n ∧ c.d.n < 200 ∧ DrOk c.d ∧ MksOk c.d c.m c.F) := Lib.hid ⟨han, hd.n2, hd, hk⟩
        clear hvt he hA0 hA1 hS hG1 hd hk ha han
        by_cases hw0 : Ew = 0
        · have han : a ≤ c.d.n := HANn.out.1
          subst hw0
          obtain ⟨hs1, hs2⟩ := hwi.1 rfl
          obtain rfl : G1 = true := hG2.2 ⟨hs1, hs2⟩
          have ht : t2 = x.t + 1 := by rw [← HT2.out]; exact IntWalk.i64_in _ (by omega)
          have hq : q1 = c.d.n + 1 := Q1.out rfl
          subst hq
          obtain ⟨r1, r2, r3⟩ := rwR_at (by have h := HW.out; rw [HA.out] at h; exact h)
          have KIs := Lib.hid fun W (h : Below w.heap.size w W) hi => is_any c A1 (c.d.n + 1) k1 _ true W (CC.out W h) hi ⟨fun _ => ⟨HANn.out.2.2.1, HANn.out.2.2.2, rfl, r1⟩, fun _ => rfl⟩
          obtain ⟨al, rfl, _, _⟩ := I1.out.2 a (by omega)
          have KL : Hid (∀ W, LiR (some al) (c.d.n + 1) (fun i => (Sw i).1) W → W.cell? (al.add a) = some (.int .i64 x.t)) := Lib.hid fun W h => by
            obtain ⟨a', e', _, h3⟩ := h.2 a (by omega)
            cases e'
            rw [show (fun i => (Sw i).1) a = x.t from r2] at h3
            exact h3
          have KAh : Hid (Ex = 0 → AhR (c.d.n + 1) (fun i => (Sw i).1) q2 (fun i => (Sx i).1)) := Lib.hid fun h => ⟨(Q2.out h).symm, fun i hi => by
            have h1 := HW.out
            have h2 := HX.out
            rw [HA.out] at h1 h2
            rw [ht, h] at h2
            exact rwR_ahead HANn.out.1 h1 h2 i (by omega)⟩
          have d1 : decide (s1 ≤ x.t) = true := decide_eq_true hs1
          have d2 : decide (x.t ≤ s2) = true := decide_eq_true hs2
          have ht2 := HT2.out
          clear hwi hG2 hs1 hs2 ht r1 r2 r3 b1 b2 ht2
          go_wp2_with fail
          refine wp_region_M [] (fun w' => w'.cell? ⟨w.heap.size, 0, none⟩ = some (.slice c.d.RA c.d.n c.d.rc) ∧ w'.cell? ⟨w.heap.size, 1, none⟩ = some (.slice c.d.SA c.d.m c.d.sc) ∧ w'.cell? ⟨w.heap.size, 2, none⟩ = some (.slice c.MA c.m c.mc) ∧ w'.cell? ⟨w.heap.size + 1, 0, none⟩ = some (.int .i64 x.A) ∧ w'.cell? ⟨w.heap.size + 1, 2, none⟩ = some (.int .i64 x.t) ∧ w'.cell? ⟨w4.heap.size, 0, none⟩ = some (.int .i64 s1) ∧ w'.cell? ⟨w4.heap.size, 1, none⟩ = some (.int .i64 s2)) (by kernel_rfl) (by kernel_rfl) (by (try dsimp only); (repeat' apply And.intro); all_goals first | assumption | (go_simp; done)) (fun hT0 => ?_)
          refine M_take (v := ?_) 0 rfl (by kernel_rfl) (by assumption) (fun _ _ _ h => h) (Or.inl ⟨by rfl, ?_⟩) ?_
          rotate_left
          · (intro w hSw; (try dsimp only at hSw); go_simp; (try with_reducible rfl))
          (try simp only [Act.put, List.setIfInBounds_toArray, List.set_cons_zero, List.set_cons_succ])
          refine M_take (v := ?_) 1 rfl (by kernel_rfl) (by assumption) (fun _ _ _ h => h) (Or.inl ⟨by rfl, ?_⟩) ?_
          rotate_left
          · (intro w hSw; (try dsimp only at hSw); go_simp; (try with_reducible rfl))
          (try simp only [Act.put, List.setIfInBounds_toArray, List.set_cons_zero, List.set_cons_succ])
          refine M_take (v := ?_) 2 rfl (by kernel_rfl) (by assumption) (fun _ _ _ h => h) (Or.inl ⟨by rfl, ?_⟩) ?_
          rotate_left
          · (intro w hSw; (try dsimp only at hSw); go_simp; (try with_reducible rfl))
          (try simp only [Act.put, List.setIfInBounds_toArray, List.set_cons_zero, List.set_cons_succ])
          refine M_take (v := ?_) 3 rfl (by kernel_rfl) (by assumption) (fun _ _ _ h => h) (Or.inl ⟨by rfl, ?_⟩) ?_
          rotate_left
          · (intro w hSw; (try dsimp only at hSw); go_simp; (try with_reducible rfl))
          (try simp only [Act.put, List.setIfInBounds_toArray, List.set_cons_zero, List.set_cons_succ])
          refine M_take (v := ?_) 4 rfl (by kernel_rfl) (by assumption) (fun _ _ _ h => h) (Or.inl ⟨by rfl, ?_⟩) ?_
          rotate_left
          · (intro w hSw; (try dsimp only at hSw); go_simp; (try with_reducible rfl))
          (try simp only [Act.put, List.setIfInBounds_toArray, List.set_cons_zero, List.set_cons_succ])
          refine M_take (v := ?_) 5 rfl (by kernel_rfl) (by assumption) (fun _ _ _ h => h) (Or.inl ⟨by rfl, ?_⟩) ?_
          rotate_left
          · (intro w hSw; (try dsimp only at hSw); go_simp; (try with_reducible rfl))
          (try simp only [Act.put, List.setIfInBounds_toArray, List.set_cons_zero, List.set_cons_succ])
          refine M_take (v := ?_) 6 rfl (by kernel_rfl) (by assumption) (fun _ _ _ h => h) (Or.inl ⟨by rfl, ?_⟩) ?_
          rotate_left
          · (intro w hSw; (try dsimp only at hSw); go_simp; (try with_reducible rfl))
          (try simp only [Act.put, List.setIfInBounds_toArray, List.set_cons_zero, List.set_cons_succ])
          refine M_take (v := ?_) 7 rfl (by kernel_rfl) (by assumption) (fun _ _ _ h => h) (Or.inl ⟨by rfl, ?_⟩) ?_
          rotate_left
          · (intro w hSw; (try dsimp only at hSw); go_simp; (try with_reducible rfl))
          (try simp only [Act.put, List.setIfInBounds_toArray, List.set_cons_zero, List.set_cons_succ])
          refine M_take (v := ?_) 8 rfl (by kernel_rfl) (by assumption) (fun _ _ _ h => h) (Or.inl ⟨by rfl, ?_⟩) ?_
          rotate_left
          · (intro w hSw; (try dsimp only at hSw); go_simp; (try with_reducible rfl))
          (try simp only [Act.put, List.setIfInBounds_toArray, List.set_cons_zero, List.set_cons_succ])
          refine M_take (v := ?_) 9 rfl (by kernel_rfl) (by assumption) (fun _ _ _ h => h) (Or.inl ⟨by rfl, ?_⟩) ?_
          rotate_left
          · (intro w hSw; (try dsimp only at hSw); go_simp; (try with_reducible rfl))
          (try simp only [Act.put, List.setIfInBounds_toArray, List.set_cons_zero, List.set_cons_succ])
          refine M_take (v := ?_) 10 rfl (by kernel_rfl) (by assumption) (fun _ _ _ h => h) (Or.inl ⟨by rfl, ?_⟩) ?_
          rotate_left
          · (intro w hSw; (try dsimp only at hSw); go_simp; (try with_reducible rfl))
          (try simp only [Act.put, List.setIfInBounds_toArray, List.set_cons_zero, List.set_cons_succ])
          refine M_take (v := ?_) 11 rfl (by kernel_rfl) (by assumption) (fun _ _ _ h => h) (Or.inl ⟨by rfl, ?_⟩) ?_
          rotate_left
          · (intro w hSw; (try dsimp only at hSw); go_simp; (try with_reducible rfl))
          (try simp only [Act.put, List.setIfInBounds_toArray, List.set_cons_zero, List.set_cons_succ])
          refine M_take (v := ?_) 12 rfl (by kernel_rfl) (by assumption) (fun _ _ _ h => h) (Or.inl ⟨by rfl, ?_⟩) ?_
          rotate_left
          · (intro w hSw; (try dsimp only at hSw); go_simp; (try with_reducible rfl))
          (try simp only [Act.put, List.setIfInBounds_toArray, List.set_cons_zero, List.set_cons_succ])
          refine M_take (v := ?_) 13 rfl (by kernel_rfl) (by assumption) (fun _ _ _ h => h) (Or.inl ⟨by rfl, ?_⟩) ?_
          rotate_left
          · (intro w hSw; (try dsimp only at hSw); go_simp; (try with_reducible rfl))
          (try simp only [Act.put, List.setIfInBounds_toArray, List.set_cons_zero, List.set_cons_succ])
          refine M_take (v := ?_) 14 rfl (by kernel_rfl) (by assumption) (fun _ _ _ h => h) (Or.inl ⟨by rfl, ?_⟩) ?_
          rotate_left
          · (intro w hSw; (try dsimp only at hSw); go_simp; (try with_reducible rfl))
          (try simp only [Act.put, List.setIfInBounds_toArray, List.set_cons_zero, List.set_cons_succ])
          refine M_take (v := ?_) 15 rfl (by kernel_rfl) (by assumption) (fun _ _ _ h => h) (Or.inl ⟨by rfl, ?_⟩) ?_
          rotate_left
          · (intro w hSw; (try dsimp only at hSw); go_simp; (try with_reducible rfl))
          (try simp only [Act.put, List.setIfInBounds_toArray, List.set_cons_zero, List.set_cons_succ])
          refine M_take (v := ?_) 16 rfl (by kernel_rfl) (by assumption) (fun _ _ _ h => h) (Or.inl ⟨by rfl, ?_⟩) ?_
          rotate_left
          · (intro w hSw; (try dsimp only at hSw); go_simp; (try with_reducible rfl))
          (try simp only [Act.put, List.setIfInBounds_toArray, List.set_cons_zero, List.set_cons_succ])
          refine M_take (v := ?_) 17 rfl (by kernel_rfl) (by assumption) (fun _ _ _ h => h) (Or.inl ⟨by rfl, ?_⟩) ?_
          rotate_left
          · (intro w hSw; (try dsimp only at hSw); go_simp; (try with_reducible rfl))
          (try simp only [Act.put, List.setIfInBounds_toArray, List.set_cons_zero, List.set_cons_succ])
          refine M_take (v := ?_) 18 rfl (by kernel_rfl) (by assumption) (fun _ _ _ h => h) (Or.inl ⟨by rfl, ?_⟩) ?_
          rotate_left
          · (intro w hSw; (try dsimp only at hSw); go_simp; (try with_reducible rfl))
          (try simp only [Act.put, List.setIfInBounds_toArray, List.set_cons_zero, List.set_cons_succ])
          refine M_take (v := ?_) 19 rfl (by kernel_rfl) (by assumption) (fun _ _ _ h => h) (Or.inl ⟨by rfl, ?_⟩) ?_
          rotate_left
          · (intro w hSw; (try dsimp only at hSw); go_simp; (try with_reducible rfl))
          (try simp only [Act.put, List.setIfInBounds_toArray, List.set_cons_zero, List.set_cons_succ])
          refine M_take (v := ?_) 20 rfl (by kernel_rfl) (by assumption) (fun _ _ _ h => h) (Or.inl ⟨by rfl, ?_⟩) ?_
          rotate_left
          · (intro w hSw; (try dsimp only at hSw); go_simp; (try with_reducible rfl))
          (try simp only [Act.put, List.setIfInBounds_toArray, List.set_cons_zero, List.set_cons_succ])
          refine M_take (v := ?_) 21 rfl (by kernel_rfl) (by assumption) (fun _ _ _ h => h) (Or.inl ⟨by rfl, ?_⟩) ?_
          rotate_left
          · (intro w hSw; (try dsimp only at hSw); go_simp; (try with_reducible rfl))
          (try simp only [Act.put, List.setIfInBounds_toArray, List.set_cons_zero, List.set_cons_succ])
          refine M_take (v := ?_) 22 rfl (by kernel_rfl) (by assumption) (fun _ _ _ h => h) (Or.inl ⟨by rfl, ?_⟩) ?_
          rotate_left
          · (intro w hSw; (try dsimp only at hSw); go_simp; (try with_reducible rfl))
          (try simp only [Act.put, List.setIfInBounds_toArray, List.set_cons_zero, List.set_cons_succ])
          refine M_step 23 rfl (by kernel_rfl) (fun K hK => ?_)
          go_simp
          go_at_call 68
          refine (one_any x.A x.t _).mono ?_
          rintro e wA ⟨rfl, hbA⟩
          have HBA := Lib.hid (show Below w6.heap.size w6 wA from nextB (Below.refl _ _).drew hbA)
          have hTA : (fun w' => w'.cell? ⟨w.heap.size, 0, none⟩ = some (.slice c.d.RA c.d.n c.d.rc) ∧ w'.cell? ⟨w.heap.size, 1, none⟩ = some (.slice c.d.SA c.d.m c.d.sc) ∧ w'.cell? ⟨w.heap.size, 2, none⟩ = some (.slice c.MA c.m c.mc) ∧ w'.cell? ⟨w.heap.size + 1, 0, none⟩ = some (.int .i64 x.A) ∧ w'.cell? ⟨w.heap.size + 1, 2, none⟩ = some (.int .i64 x.t) ∧ w'.cell? ⟨w4.heap.size, 0, none⟩ = some (.int .i64 s1) ∧ w'.cell? ⟨w4.heap.size, 1, none⟩ = some (.int .i64 s2)) wA := ⟨(HBA.out.cell (World.block_lt_of_cell? _ _ c0)).trans c0, (HBA.out.cell (World.block_lt_of_cell? _ _ c1)).trans c1, (HBA.out.cell (World.block_lt_of_cell? _ _ c2)).trans c2, (HBA.out.cell (World.block_lt_of_cell? _ _ x0)).trans x0, (HBA.out.cell (World.block_lt_of_cell? _ _ x2)).trans x2, (HBA.out.cell (World.block_lt_of_cell? _ _ l0)).trans l0, (HBA.out.cell (World.block_lt_of_cell? _ _ l1)).trans l1⟩
          clear hbA
          refine hK.out _ _ (fun _ => hTA) ?_
          clear hK K
          (try simp only [Act.put, List.setIfInBounds_toArray, List.set_cons_zero, List.set_cons_succ])
          refine M_step 24 rfl (by kernel_rfl) (fun K hK => ?_)
          go_simp
          have HBB := Lib.hid (show Below w6.heap.size w6 (wA.alloc (.cells #[.int .i64 x.A, .int .i64 x.t, .int .i64 x.t] 33)) from nextB HBA.out (box1 wA _))
          have hTB : (fun w' => w'.cell? ⟨w.heap.size, 0, none⟩ = some (.slice c.d.RA c.d.n c.d.rc) ∧ w'.cell? ⟨w.heap.size, 1, none⟩ = some (.slice c.d.SA c.d.m c.d.sc) ∧ w'.cell? ⟨w.heap.size, 2, none⟩ = some (.slice c.MA c.m c.mc) ∧ w'.cell? ⟨w.heap.size + 1, 0, none⟩ = some (.int .i64 x.A) ∧ w'.cell? ⟨w.heap.size + 1, 2, none⟩ = some (.int .i64 x.t) ∧ w'.cell? ⟨w4.heap.size, 0, none⟩ = some (.int .i64 s1) ∧ w'.cell? ⟨w4.heap.size, 1, none⟩ = some (.int .i64 s2)) (wA.alloc (.cells #[.int .i64 x.A, .int .i64 x.t, .int .i64 x.t] 33)) := ⟨(HBB.out.cell (World.block_lt_of_cell? _ _ c0)).trans c0, (HBB.out.cell (World.block_lt_of_cell? _ _ c1)).trans c1, (HBB.out.cell (World.block_lt_of_cell? _ _ c2)).trans c2, (HBB.out.cell (World.block_lt_of_cell? _ _ x0)).trans x0, (HBB.out.cell (World.block_lt_of_cell? _ _ x2)).trans x2, (HBB.out.cell (World.block_lt_of_cell? _ _ l0)).trans l0, (HBB.out.cell (World.block_lt_of_cell? _ _ l1)).trans l1⟩
          refine hK.out _ _ (fun _ => hTB) ?_
          clear hK K
          (try simp only [Act.put, List.setIfInBounds_toArray, List.set_cons_zero, List.set_cons_succ])
          refine M_step 25 rfl (by kernel_rfl) (fun K hK => ?_)
          go_simp
          go_at_call 67
          refine (KC.out _ _ _ (nextB D.out HBB.out) (trs_one (tr3_new wA (x.A, x.t, x.t) _))).mono ?_
          rintro e wC ⟨rfl, hbC⟩
          have HBC := Lib.hid (show Below w6.heap.size w6 wC from nextB HBB.out hbC)
          have hTC : (fun w' => w'.cell? ⟨w.heap.size, 0, none⟩ = some (.slice c.d.RA c.d.n c.d.rc) ∧ w'.cell? ⟨w.heap.size, 1, none⟩ = some (.slice c.d.SA c.d.m c.d.sc) ∧ w'.cell? ⟨w.heap.size, 2, none⟩ = some (.slice c.MA c.m c.mc) ∧ w'.cell? ⟨w.heap.size + 1, 0, none⟩ = some (.int .i64 x.A) ∧ w'.cell? ⟨w.heap.size + 1, 2, none⟩ = some (.int .i64 x.t) ∧ w'.cell? ⟨w4.heap.size, 0, none⟩ = some (.int .i64 s1) ∧ w'.cell? ⟨w4.heap.size, 1, none⟩ = some (.int .i64 s2)) wC := ⟨(HBC.out.cell (World.block_lt_of_cell? _ _ c0)).trans c0, (HBC.out.cell (World.block_lt_of_cell? _ _ c1)).trans c1, (HBC.out.cell (World.block_lt_of_cell? _ _ c2)).trans c2, (HBC.out.cell (World.block_lt_of_cell? _ _ x0)).trans x0, (HBC.out.cell (World.block_lt_of_cell? _ _ x2)).trans x2, (HBC.out.cell (World.block_lt_of_cell? _ _ l0)).trans l0, (HBC.out.cell (World.block_lt_of_cell? _ _ l1)).trans l1⟩
          clear hbC
          refine hK.out _ _ (fun _ => hTC) ?_
          clear hK K
          (try simp only [Act.put, List.setIfInBounds_toArray, List.set_cons_zero, List.set_cons_succ])
          refine M_take (v := ?_) 26 rfl (by kernel_rfl) (by assumption) (fun _ _ _ h => h) (Or.inl ⟨by rfl, ?_⟩) ?_
          rotate_left
          · (intro w hSw; (try dsimp only at hSw); go_simp; (try with_reducible rfl))
          (try simp only [Act.put, List.setIfInBounds_toArray, List.set_cons_zero, List.set_cons_succ])
          refine M_take (v := ?_) 27 rfl (by kernel_rfl) (by assumption) (fun _ _ _ h => h) (Or.inl ⟨by rfl, ?_⟩) ?_
          rotate_left
          · (intro w hSw; (try dsimp only at hSw); go_simp; (try with_reducible rfl))
          (try simp only [Act.put, List.setIfInBounds_toArray, List.set_cons_zero, List.set_cons_succ])
          refine M_done (by kernel_rfl) ?_ _
          obtain ⟨w7, hwC⟩ : ∃ W : World, W = wC := ⟨_, rfl⟩
          rw [← hwC] at HBC hTC ⊢
          clear hwC
          have J := HBC
          have D := Lib.hid (nextB D.out J.out)
          clear hT0 hTA hTB hTC
          clear c0 c1 c2 zC x0 x2 zX l0 l1 l2 l3 zL
          have C := Lib.hid (C.out.up J.out)
          have X := Lib.hid (X.out.up J.out)
          have L := Lib.hid (L.out.up J.out)
          have I1 := Lib.hid (I1.out.up J.out)
          have I2 := Lib.hid (I2.out.up J.out)
          obtain ⟨c0, c1, c2⟩ := C.out
          have zC := C.out.lt
          have x0 : w7.cell? ⟨w.heap.size + 1, 0, none⟩ = some (.int .i64 x.A) := X.out.c 0 _ rfl
          have x2 : w7.cell? ⟨w.heap.size + 1, 2, none⟩ = some (.int .i64 x.t) := X.out.c 2 _ rfl
          have zX := X.out.lt
          obtain ⟨l0, l1, l2, l3⟩ := L.out
          have zL := L.out.lt
          have cl := KL.out _ I1.out
          have hxa : (0 : Int) ≤ (a : Int) := by omega
          have hxb : (a : Int) < (c.d.n : Int) + 1 := by have := HANn.out; omega
          have hxb2 : a < c.d.n + 1 := by have := HANn.out; omega
          rw [HA.out] at x0
          go_wp2_with fail
          refine wp_region_M [] (fun w' => w'.cell? ⟨w.heap.size, 0, none⟩ = some (.slice c.d.RA c.d.n c.d.rc) ∧ w'.cell? ⟨w.heap.size, 1, none⟩ = some (.slice c.d.SA c.d.m c.d.sc) ∧ w'.cell? ⟨w.heap.size, 2, none⟩ = some (.slice c.MA c.m c.mc) ∧ w'.cell? ⟨w.heap.size + 1, 0, none⟩ = some (.int .i64 (a : Int)) ∧ w'.cell? ⟨w.heap.size + 1, 2, none⟩ = some (.int .i64 x.t) ∧ w'.cell? (al.add a) = some (.int .i64 x.t)) (by kernel_rfl) (by kernel_rfl) (by (try dsimp only); (repeat' apply And.intro); all_goals first | assumption | (go_simp; done)) (fun hT0 => ?_)
          refine M_take (v := ?_) 0 rfl (by kernel_rfl) (by assumption) (fun _ _ _ h => h) (Or.inl ⟨by rfl, ?_⟩) ?_
          rotate_left
          · (intro w hSw; (try dsimp only at hSw); go_simp; (try with_reducible rfl))
          (try simp only [Act.put, List.setIfInBounds_toArray, List.set_cons_zero, List.set_cons_succ])
          refine M_take (v := ?_) 1 rfl (by kernel_rfl) (by assumption) (fun _ _ _ h => h) (Or.inl ⟨by rfl, ?_⟩) ?_
          rotate_left
          · (intro w hSw; (try dsimp only at hSw); go_simp; (try with_reducible rfl))
          (try simp only [Act.put, List.setIfInBounds_toArray, List.set_cons_zero, List.set_cons_succ])
          refine M_take (v := ?_) 2 rfl (by kernel_rfl) (by assumption) (fun _ _ _ h => h) (Or.inl ⟨by rfl, ?_⟩) ?_
          rotate_left
          · (intro w hSw; (try dsimp only at hSw); go_simp; (try with_reducible rfl))
          (try simp only [Act.put, List.setIfInBounds_toArray, List.set_cons_zero, List.set_cons_succ])
          refine M_take (v := ?_) 3 rfl (by kernel_rfl) (by assumption) (fun _ _ _ h => h) (Or.inl ⟨by rfl, ?_⟩) ?_
          rotate_left
          · (intro w hSw; (try dsimp only at hSw); go_simp; (try with_reducible rfl))
          (try simp only [Act.put, List.setIfInBounds_toArray, List.set_cons_zero, List.set_cons_succ])
          refine M_take (v := ?_) 4 rfl (by kernel_rfl) (by assumption) (fun _ _ _ h => h) (Or.inl ⟨by rfl, ?_⟩) ?_
          rotate_left
          · (intro w hSw; (try dsimp only at hSw); go_simp; (try with_reducible rfl))
          (try simp only [Act.put, List.setIfInBounds_toArray, List.set_cons_zero, List.set_cons_succ])
          refine M_step 5 rfl (by kernel_rfl) (fun K hK => ?_)
          go_simp
          go_at_call 64
          refine (KIs.out _ (nextB D.out (Below.refl _ _).drew) (I1.out.up (Below.refl _ _).drew)).mono ?_
          rintro e wA ⟨rfl, hbA⟩
          have HBA := Lib.hid (show Below w7.heap.size w7 wA from nextB (Below.refl _ _).drew hbA)
          have hTA : (fun w' => w'.cell? ⟨w.heap.size, 0, none⟩ = some (.slice c.d.RA c.d.n c.d.rc) ∧ w'.cell? ⟨w.heap.size, 1, none⟩ = some (.slice c.d.SA c.d.m c.d.sc) ∧ w'.cell? ⟨w.heap.size, 2, none⟩ = some (.slice c.MA c.m c.mc) ∧ w'.cell? ⟨w.heap.size + 1, 0, none⟩ = some (.int .i64 (a : Int)) ∧ w'.cell? ⟨w.heap.size + 1, 2, none⟩ = some (.int .i64 x.t) ∧ w'.cell? (al.add a) = some (.int .i64 x.t)) wA := ⟨(HBA.out.cell (World.block_lt_of_cell? _ _ c0)).trans c0, (HBA.out.cell (World.block_lt_of_cell? _ _ c1)).trans c1, (HBA.out.cell (World.block_lt_of_cell? _ _ c2)).trans c2, (HBA.out.cell (World.block_lt_of_cell? _ _ x0)).trans x0, (HBA.out.cell (World.block_lt_of_cell? _ _ x2)).trans x2, (HBA.out.cell (World.block_lt_of_cell? _ _ cl)).trans cl⟩
          clear hbA
          refine hK.out _ _ (fun _ => hTA) ?_
          clear hK K
          (try simp only [Act.put, List.setIfInBounds_toArray, List.set_cons_zero, List.set_cons_succ])
          refine M_take (v := ?_) 6 rfl (by kernel_rfl) (by assumption) (fun _ _ _ h => h) (Or.inl ⟨by rfl, ?_⟩) ?_
          rotate_left
          · (intro w hSw; (try dsimp only at hSw); go_simp; (try with_reducible rfl))
          (try simp only [Act.put, List.setIfInBounds_toArray, List.set_cons_zero, List.set_cons_succ])
          refine M_take (v := ?_) 7 rfl (by kernel_rfl) (by assumption) (fun _ _ _ h => h) (Or.inl ⟨by rfl, ?_⟩) ?_
          rotate_left
          · (intro w hSw; (try dsimp only at hSw); go_simp; (try with_reducible rfl))
          (try simp only [Act.put, List.setIfInBounds_toArray, List.set_cons_zero, List.set_cons_succ])
          refine M_take (v := ?_) 8 rfl (by kernel_rfl) (by assumption) (fun _ _ _ h => h) (Or.inl ⟨by rfl, ?_⟩) ?_
          rotate_left
          · (intro w hSw; (try dsimp only at hSw); go_simp; (try with_reducible rfl))
          (try simp only [Act.put, List.setIfInBounds_toArray, List.set_cons_zero, List.set_cons_succ])
          refine M_take (v := ?_) 9 rfl (by kernel_rfl) (by assumption) (fun _ _ _ h => h) (Or.inl ⟨by rfl, ?_⟩) ?_
          rotate_left
          · (intro w hSw; (try dsimp only at hSw); go_simp; (try with_reducible rfl))
          (try simp only [Act.put, List.setIfInBounds_toArray, List.set_cons_zero, List.set_cons_succ])
          refine M_take (v := ?_) 10 rfl (by kernel_rfl) (by assumption) (fun _ _ _ h => h) (Or.inl ⟨by rfl, ?_⟩) ?_
          rotate_left
          · (intro w hSw; (try dsimp only at hSw); go_simp; (try with_reducible rfl))
          (try simp only [Act.put, List.setIfInBounds_toArray, List.set_cons_zero, List.set_cons_succ])
          refine M_take (v := ?_) 11 rfl (by kernel_rfl) (by assumption) (fun _ _ _ h => h) (Or.inl ⟨by rfl, ?_⟩) ?_
          rotate_left
          · (intro w hSw; (try dsimp only at hSw); go_simp; (try with_reducible rfl))
          (try simp only [Act.put, List.setIfInBounds_toArray, List.set_cons_zero, List.set_cons_succ])
          refine M_take (v := ?_) 12 rfl (by kernel_rfl) (by assumption) (fun _ _ _ h => h) (Or.inl ⟨by rfl, ?_⟩) ?_
          rotate_left
          · (intro w hSw; (try dsimp only at hSw); go_simp; (try with_reducible rfl))
          (try simp only [Act.put, List.setIfInBounds_toArray, List.set_cons_zero, List.set_cons_succ])
          refine M_take (v := ?_) 13 rfl (by kernel_rfl) (by assumption) (fun _ _ _ h => h) (Or.inl ⟨by rfl, ?_⟩) ?_
          rotate_left
          · (intro w hSw; (try dsimp only at hSw); go_simp; (try with_reducible rfl))
          (try simp only [Act.put, List.setIfInBounds_toArray, List.set_cons_zero, List.set_cons_succ])
          refine M_take (v := ?_) 14 rfl (by kernel_rfl) (by assumption) (fun _ _ _ h => h) (Or.inl ⟨by rfl, ?_⟩) ?_
          rotate_left
          · (intro w hSw; (try dsimp only at hSw); go_simp; (try with_reducible rfl))
          (try simp only [Act.put, List.setIfInBounds_toArray, List.set_cons_zero, List.set_cons_succ])
          refine M_take (v := ?_) 15 rfl (by kernel_rfl) (by assumption) (fun _ _ _ h => h) (Or.inl ⟨by rfl, ?_⟩) ?_
          rotate_left
          · (intro w hSw; (try dsimp only at hSw); go_simp; (try with_reducible rfl))
          (try simp only [Act.put, List.setIfInBounds_toArray, List.set_cons_zero, List.set_cons_succ])
          refine M_take (v := ?_) 16 rfl (by kernel_rfl) (by assumption) (fun _ _ _ h => h) (Or.inl ⟨by rfl, ?_⟩) ?_
          rotate_left
          · (intro w hSw; (try dsimp only at hSw); go_simp; (try with_reducible rfl))
          (try simp only [Act.put, List.setIfInBounds_toArray, List.set_cons_zero, List.set_cons_succ])
          refine M_take (v := ?_) 17 rfl (by kernel_rfl) (by assumption) (fun _ _ _ h => h) (Or.inl ⟨by rfl, ?_⟩) ?_
          rotate_left
          · (intro w hSw; (try dsimp only at hSw); go_simp; (try with_reducible rfl))
          (try simp only [Act.put, List.setIfInBounds_toArray, List.set_cons_zero, List.set_cons_succ])
          refine M_done (by kernel_rfl) ?_ _
          obtain ⟨w8, hwC⟩ : ∃ W : World, W = wA := ⟨_, rfl⟩
          rw [← hwC] at HBA hTA ⊢
          clear hwC
          have J := HBA
          have D := Lib.hid (nextB D.out J.out)
          clear hT0 hTA cl
          clear c0 c1 c2 zC x0 x2 zX l0 l1 l2 l3 zL
          have C := Lib.hid (C.out.up J.out)
          have X := Lib.hid (X.out.up J.out)
          have L := Lib.hid (L.out.up J.out)
          have I1 := Lib.hid (I1.out.up J.out)
          have I2 := Lib.hid (I2.out.up J.out)
          obtain ⟨c0, c1, c2⟩ := C.out
          have zC := C.out.lt
          have x0 : w8.cell? ⟨w.heap.size + 1, 0, none⟩ = some (.int .i64 x.A) := X.out.c 0 _ rfl
          have x2 : w8.cell? ⟨w.heap.size + 1, 2, none⟩ = some (.int .i64 x.t) := X.out.c 2 _ rfl
          have zX := X.out.lt
          obtain ⟨l0, l1, l2, l3⟩ := L.out
          have zL := L.out.lt
          by_cases hx0 : Ex = 0
          · subst hx0
            go_wp2_with fail
            refine (ahead_any _ _ _ _ k1 k2 _ _ true _ I1.out I2.out ⟨fun _ => KAh.out (by first | rfl | trivial), fun _ => rfl⟩).mono ?_
            rintro e w9 ⟨rfl, hb⟩
            have J := Lib.hid (hb)
            have D := Lib.hid (nextB D.out J.out)
            clear c0 c1 c2 zC x0 x2 zX l0 l1 l2 l3 zL
            have C := Lib.hid (C.out.up J.out)
            have X := Lib.hid (X.out.up J.out)
            have L := Lib.hid (L.out.up J.out)
            have I1 := Lib.hid (I1.out.up J.out)
            have I2 := Lib.hid (I2.out.up J.out)
            clear hb
            obtain ⟨c0, c1, c2⟩ := C.out
            have zC := C.out.lt
            have x0 : w9.cell? ⟨w.heap.size + 1, 0, none⟩ = some (.int .i64 x.A) := X.out.c 0 _ rfl
            have x2 : w9.cell? ⟨w.heap.size + 1, 2, none⟩ = some (.int .i64 x.t) := X.out.c 2 _ rfl
            have zX := X.out.lt
            obtain ⟨l0, l1, l2, l3⟩ := L.out
            have zL := L.out.lt
            go_wp2_with fail
            go_ret
            exact ⟨rfl, D.out⟩
          · have hn2 : (Ex == 0) = false := by simpa using hx0
            have hn3 : (Ex != 0) = true := by simpa using hx0
            go_wp2_with fail
            go_ret
            exact ⟨rfl, D.out⟩
        · have hn1 : (Ew == 0) = false := by simpa using hw0
          have hn2 : (Ew != 0) = true := by simpa using hw0
          have hno : ¬ (s1 ≤ x.t ∧ x.t ≤ s2) := fun h => hw0 (hwi.2 h)
          obtain rfl : G1 = false := by
            cases G1 with
            | false => rfl
            | true => exact absurd (hG2.1 rfl) hno
          clear hwi hG2
          by_cases hs1 : s1 ≤ x.t
          · have d1 : decide (s1 ≤ x.t) = true := decide_eq_true hs1
            have d2 : decide (x.t ≤ s2) = false := decide_eq_false (fun h => hno ⟨hs1, h⟩)
            clear hno hs1 b1 b2 hw0
            go_wp2_with fail
            refine wp_region_M [] (fun w' => w'.cell? ⟨w.heap.size, 0, none⟩ = some (.slice c.d.RA c.d.n c.d.rc) ∧ w'.cell? ⟨w.heap.size, 1, none⟩ = some (.slice c.d.SA c.d.m c.d.sc) ∧ w'.cell? ⟨w.heap.size, 2, none⟩ = some (.slice c.MA c.m c.mc) ∧ w'.cell? ⟨w.heap.size + 1, 0, none⟩ = some (.int .i64 x.A) ∧ w'.cell? ⟨w.heap.size + 1, 2, none⟩ = some (.int .i64 x.t) ∧ w'.cell? ⟨w4.heap.size, 0, none⟩ = some (.int .i64 s1) ∧ w'.cell? ⟨w4.heap.size, 1, none⟩ = some (.int .i64 s2)) (by kernel_rfl) (by kernel_rfl) (by (try dsimp only); (repeat' apply And.intro); all_goals first | assumption | (go_simp; done)) (fun hT0 => ?_)
            refine M_take (v := ?_) 0 rfl (by kernel_rfl) (by assumption) (fun _ _ _ h => h) (Or.inl ⟨by rfl, ?_⟩) ?_
            rotate_left
            · (intro w hSw; (try dsimp only at hSw); go_simp; (try with_reducible rfl))
            (try simp only [Act.put, List.setIfInBounds_toArray, List.set_cons_zero, List.set_cons_succ])
            refine M_take (v := ?_) 1 rfl (by kernel_rfl) (by assumption) (fun _ _ _ h => h) (Or.inl ⟨by rfl, ?_⟩) ?_
            rotate_left
            · (intro w hSw; (try dsimp only at hSw); go_simp; (try with_reducible rfl))
            (try simp only [Act.put, List.setIfInBounds_toArray, List.set_cons_zero, List.set_cons_succ])
            refine M_take (v := ?_) 2 rfl (by kernel_rfl) (by assumption) (fun _ _ _ h => h) (Or.inl ⟨by rfl, ?_⟩) ?_
            rotate_left
            · (intro w hSw; (try dsimp only at hSw); go_simp; (try with_reducible rfl))
            (try simp only [Act.put, List.setIfInBounds_toArray, List.set_cons_zero, List.set_cons_succ])
            refine M_take (v := ?_) 3 rfl (by kernel_rfl) (by assumption) (fun _ _ _ h => h) (Or.inl ⟨by rfl, ?_⟩) ?_
            rotate_left
            · (intro w hSw; (try dsimp only at hSw); go_simp; (try with_reducible rfl))
            (try simp only [Act.put, List.setIfInBounds_toArray, List.set_cons_zero, List.set_cons_succ])
            refine M_take (v := ?_) 4 rfl (by kernel_rfl) (by assumption) (fun _ _ _ h => h) (Or.inl ⟨by rfl, ?_⟩) ?_
            rotate_left
            · (intro w hSw; (try dsimp only at hSw); go_simp; (try with_reducible rfl))
            (try simp only [Act.put, List.setIfInBounds_toArray, List.set_cons_zero, List.set_cons_succ])
            refine M_take (v := ?_) 5 rfl (by kernel_rfl) (by assumption) (fun _ _ _ h => h) (Or.inl ⟨by rfl, ?_⟩) ?_
            rotate_left
            · (intro w hSw; (try dsimp only at hSw); go_simp; (try with_reducible rfl))
            (try simp only [Act.put, List.setIfInBounds_toArray, List.set_cons_zero, List.set_cons_succ])
            refine M_take (v := ?_) 6 rfl (by kernel_rfl) (by assumption) (fun _ _ _ h => h) (Or.inl ⟨by rfl, ?_⟩) ?_
            rotate_left
            · (intro w hSw; (try dsimp only at hSw); go_simp; (try with_reducible rfl))
            (try simp only [Act.put, List.setIfInBounds_toArray, List.set_cons_zero, List.set_cons_succ])
            refine M_take (v := ?_) 7 rfl (by kernel_rfl) (by assumption) (fun _ _ _ h => h) (Or.inl ⟨by rfl, ?_⟩) ?_
            rotate_left
            · (intro w hSw; (try dsimp only at hSw); go_simp; (try with_reducible rfl))
            (try simp only [Act.put, List.setIfInBounds_toArray, List.set_cons_zero, List.set_cons_succ])
            refine M_take (v := ?_) 8 rfl (by kernel_rfl) (by assumption) (fun _ _ _ h => h) (Or.inl ⟨by rfl, ?_⟩) ?_
            rotate_left
            · (intro w hSw; (try dsimp only at hSw); go_simp; (try with_reducible rfl))
            (try simp only [Act.put, List.setIfInBounds_toArray, List.set_cons_zero, List.set_cons_succ])
            refine M_take (v := ?_) 9 rfl (by kernel_rfl) (by assumption) (fun _ _ _ h => h) (Or.inl ⟨by rfl, ?_⟩) ?_
            rotate_left
            · (intro w hSw; (try dsimp only at hSw); go_simp; (try with_reducible rfl))
            (try simp only [Act.put, List.setIfInBounds_toArray, List.set_cons_zero, List.set_cons_succ])
            refine M_take (v := ?_) 10 rfl (by kernel_rfl) (by assumption) (fun _ _ _ h => h) (Or.inl ⟨by rfl, ?_⟩) ?_
            rotate_left
            · (intro w hSw; (try dsimp only at hSw); go_simp; (try with_reducible rfl))
            (try simp only [Act.put, List.setIfInBounds_toArray, List.set_cons_zero, List.set_cons_succ])
            refine M_take (v := ?_) 11 rfl (by kernel_rfl) (by assumption) (fun _ _ _ h => h) (Or.inl ⟨by rfl, ?_⟩) ?_
            rotate_left
            · (intro w hSw; (try dsimp only at hSw); go_simp; (try with_reducible rfl))
            (try simp only [Act.put, List.setIfInBounds_toArray, List.set_cons_zero, List.set_cons_succ])
            refine M_take (v := ?_) 12 rfl (by kernel_rfl) (by assumption) (fun _ _ _ h => h) (Or.inl ⟨by rfl, ?_⟩) ?_
            rotate_left
            · (intro w hSw; (try dsimp only at hSw); go_simp; (try with_reducible rfl))
            (try simp only [Act.put, List.setIfInBounds_toArray, List.set_cons_zero, List.set_cons_succ])
            refine M_take (v := ?_) 13 rfl (by kernel_rfl) (by assumption) (fun _ _ _ h => h) (Or.inl ⟨by rfl, ?_⟩) ?_
            rotate_left
            · (intro w hSw; (try dsimp only at hSw); go_simp; (try with_reducible rfl))
            (try simp only [Act.put, List.setIfInBounds_toArray, List.set_cons_zero, List.set_cons_succ])
            refine M_take (v := ?_) 14 rfl (by kernel_rfl) (by assumption) (fun _ _ _ h => h) (Or.inl ⟨by rfl, ?_⟩) ?_
            rotate_left
            · (intro w hSw; (try dsimp only at hSw); go_simp; (try with_reducible rfl))
            (try simp only [Act.put, List.setIfInBounds_toArray, List.set_cons_zero, List.set_cons_succ])
            refine M_take (v := ?_) 15 rfl (by kernel_rfl) (by assumption) (fun _ _ _ h => h) (Or.inl ⟨by rfl, ?_⟩) ?_
            rotate_left
            · (intro w hSw; (try dsimp only at hSw); go_simp; (try with_reducible rfl))
            (try simp only [Act.put, List.setIfInBounds_toArray, List.set_cons_zero, List.set_cons_succ])
            refine M_take (v := ?_) 16 rfl (by kernel_rfl) (by assumption) (fun _ _ _ h => h) (Or.inl ⟨by rfl, ?_⟩) ?_
            rotate_left
            · (intro w hSw; (try dsimp only at hSw); go_simp; (try with_reducible rfl))
            (try simp only [Act.put, List.setIfInBounds_toArray, List.set_cons_zero, List.set_cons_succ])
            refine M_take (v := ?_) 17 rfl (by kernel_rfl) (by assumption) (fun _ _ _ h => h) (Or.inl ⟨by rfl, ?_⟩) ?_
            rotate_left
            · (intro w hSw; (try dsimp only at hSw); go_simp; (try with_reducible rfl))
            (try simp only [Act.put, List.setIfInBounds_toArray, List.set_cons_zero, List.set_cons_succ])
            refine M_take (v := ?_) 18 rfl (by kernel_rfl) (by assumption) (fun _ _ _ h => h) (Or.inl ⟨by rfl, ?_⟩) ?_
            rotate_left
            · (intro w hSw; (try dsimp only at hSw); go_simp; (try with_reducible rfl))
            (try simp only [Act.put, List.setIfInBounds_toArray, List.set_cons_zero, List.set_cons_succ])
            refine M_take (v := ?_) 19 rfl (by kernel_rfl) (by assumption) (fun _ _ _ h => h) (Or.inl ⟨by rfl, ?_⟩) ?_
            rotate_left
            · (intro w hSw; (try dsimp only at hSw); go_simp; (try with_reducible rfl))
            (try simp only [Act.put, List.setIfInBounds_toArray, List.set_cons_zero, List.set_cons_succ])
            refine M_take (v := ?_) 20 rfl (by kernel_rfl) (by assumption) (fun _ _ _ h => h) (Or.inl ⟨by rfl, ?_⟩) ?_
            rotate_left
            · (intro w hSw; (try dsimp only at hSw); go_simp; (try with_reducible rfl))
            (try simp only [Act.put, List.setIfInBounds_toArray, List.set_cons_zero, List.set_cons_succ])
            refine M_take (v := ?_) 21 rfl (by kernel_rfl) (by assumption) (fun _ _ _ h => h) (Or.inl ⟨by rfl, ?_⟩) ?_
            rotate_left
            · (intro w hSw; (try dsimp only at hSw); go_simp; (try with_reducible rfl))
            (try simp only [Act.put, List.setIfInBounds_toArray, List.set_cons_zero, List.set_cons_succ])
            refine M_take (v := ?_) 22 rfl (by kernel_rfl) (by assumption) (fun _ _ _ h => h) (Or.inl ⟨by rfl, ?_⟩) ?_
            rotate_left
            · (intro w hSw; (try dsimp only at hSw); go_simp; (try with_reducible rfl))
            (try simp only [Act.put, List.setIfInBounds_toArray, List.set_cons_zero, List.set_cons_succ])
            refine M_step 23 rfl (by kernel_rfl) (fun K hK => ?_)
            go_simp
            go_at_call 68
            refine (one_any x.A x.t _).mono ?_
            rintro e wA ⟨rfl, hbA⟩
            have HBA := Lib.hid (show Below w6.heap.size w6 wA from nextB (Below.refl _ _).drew hbA)
            have hTA : (fun w' => w'.cell? ⟨w.heap.size, 0, none⟩ = some (.slice c.d.RA c.d.n c.d.rc) ∧ w'.cell? ⟨w.heap.size, 1, none⟩ = some (.slice c.d.SA c.d.m c.d.sc) ∧ w'.cell? ⟨w.heap.size, 2, none⟩ = some (.slice c.MA c.m c.mc) ∧ w'.cell? ⟨w.heap.size + 1, 0, none⟩ = some (.int .i64 x.A) ∧ w'.cell? ⟨w.heap.size + 1, 2, none⟩ = some (.int .i64 x.t) ∧ w'.cell? ⟨w4.heap.size, 0, none⟩ = some (.int .i64 s1) ∧ w'.cell? ⟨w4.heap.size, 1, none⟩ = some (.int .i64 s2)) wA := ⟨(HBA.out.cell (World.block_lt_of_cell? _ _ c0)).trans c0, (HBA.out.cell (World.block_lt_of_cell? _ _ c1)).trans c1, (HBA.out.cell (World.block_lt_of_cell? _ _ c2)).trans c2, (HBA.out.cell (World.block_lt_of_cell? _ _ x0)).trans x0, (HBA.out.cell (World.block_lt_of_cell? _ _ x2)).trans x2, (HBA.out.cell (World.block_lt_of_cell? _ _ l0)).trans l0, (HBA.out.cell (World.block_lt_of_cell? _ _ l1)).trans l1⟩
            clear hbA
            refine hK.out _ _ (fun _ => hTA) ?_
            clear hK K
            (try simp only [Act.put, List.setIfInBounds_toArray, List.set_cons_zero, List.set_cons_succ])
            refine M_step 24 rfl (by kernel_rfl) (fun K hK => ?_)
            go_simp
            have HBB := Lib.hid (show Below w6.heap.size w6 (wA.alloc (.cells #[.int .i64 x.A, .int .i64 x.t, .int .i64 x.t] 33)) from nextB HBA.out (box1 wA _))
            have hTB : (fun w' => w'.cell? ⟨w.heap.size, 0, none⟩ = some (.slice c.d.RA c.d.n c.d.rc) ∧ w'.cell? ⟨w.heap.size, 1, none⟩ = some (.slice c.d.SA c.d.m c.d.sc) ∧ w'.cell? ⟨w.heap.size, 2, none⟩ = some (.slice c.MA c.m c.mc) ∧ w'.cell? ⟨w.heap.size + 1, 0, none⟩ = some (.int .i64 x.A) ∧ w'.cell? ⟨w.heap.size + 1, 2, none⟩ = some (.int .i64 x.t) ∧ w'.cell? ⟨w4.heap.size, 0, none⟩ = some (.int .i64 s1) ∧ w'.cell? ⟨w4.heap.size, 1, none⟩ = some (.int .i64 s2)) (wA.alloc (.cells #[.int .i64 x.A, .int .i64 x.t, .int .i64 x.t] 33)) := ⟨(HBB.out.cell (World.block_lt_of_cell? _ _ c0)).trans c0, (HBB.out.cell (World.block_lt_of_cell? _ _ c1)).trans c1, (HBB.out.cell (World.block_lt_of_cell? _ _ c2)).trans c2, (HBB.out.cell (World.block_lt_of_cell? _ _ x0)).trans x0, (HBB.out.cell (World.block_lt_of_cell? _ _ x2)).trans x2, (HBB.out.cell (World.block_lt_of_cell? _ _ l0)).trans l0, (HBB.out.cell (World.block_lt_of_cell? _ _ l1)).trans l1⟩
            refine hK.out _ _ (fun _ => hTB) ?_
            clear hK K
            (try simp only [Act.put, List.setIfInBounds_toArray, List.set_cons_zero, List.set_cons_succ])
            refine M_step 25 rfl (by kernel_rfl) (fun K hK => ?_)
            go_simp
            go_at_call 67
            refine (KC.out _ _ _ (nextB D.out HBB.out) (trs_one (tr3_new wA (x.A, x.t, x.t) _))).mono ?_
            rintro e wC ⟨rfl, hbC⟩
            have HBC := Lib.hid (show Below w6.heap.size w6 wC from nextB HBB.out hbC)
            have hTC : (fun w' => w'.cell? ⟨w.heap.size, 0, none⟩ = some (.slice c.d.RA c.d.n c.d.rc) ∧ w'.cell? ⟨w.heap.size, 1, none⟩ = some (.slice c.d.SA c.d.m c.d.sc) ∧ w'.cell? ⟨w.heap.size, 2, none⟩ = some (.slice c.MA c.m c.mc) ∧ w'.cell? ⟨w.heap.size + 1, 0, none⟩ = some (.int .i64 x.A) ∧ w'.cell? ⟨w.heap.size + 1, 2, none⟩ = some (.int .i64 x.t) ∧ w'.cell? ⟨w4.heap.size, 0, none⟩ = some (.int .i64 s1) ∧ w'.cell? ⟨w4.heap.size, 1, none⟩ = some (.int .i64 s2)) wC := ⟨(HBC.out.cell (World.block_lt_of_cell? _ _ c0)).trans c0, (HBC.out.cell (World.block_lt_of_cell? _ _ c1)).trans c1, (HBC.out.cell (World.block_lt_of_cell? _ _ c2)).trans c2, (HBC.out.cell (World.block_lt_of_cell? _ _ x0)).trans x0, (HBC.out.cell (World.block_lt_of_cell? _ _ x2)).trans x2, (HBC.out.cell (World.block_lt_of_cell? _ _ l0)).trans l0, (HBC.out.cell (World.block_lt_of_cell? _ _ l1)).trans l1⟩
            clear hbC
            refine hK.out _ _ (fun _ => hTC) ?_
            clear hK K
            (try simp only [Act.put, List.setIfInBounds_toArray, List.set_cons_zero, List.set_cons_succ])
            refine M_take (v := ?_) 26 rfl (by kernel_rfl) (by assumption) (fun _ _ _ h => h) (Or.inl ⟨by rfl, ?_⟩) ?_
            rotate_left
            · (intro w hSw; (try dsimp only at hSw); go_simp; (try with_reducible rfl))
            (try simp only [Act.put, List.setIfInBounds_toArray, List.set_cons_zero, List.set_cons_succ])
            refine M_take (v := ?_) 27 rfl (by kernel_rfl) (by assumption) (fun _ _ _ h => h) (Or.inl ⟨by rfl, ?_⟩) ?_
            rotate_left
            · (intro w hSw; (try dsimp only at hSw); go_simp; (try with_reducible rfl))
            (try simp only [Act.put, List.setIfInBounds_toArray, List.set_cons_zero, List.set_cons_succ])
            refine M_done (by kernel_rfl) ?_ _
            obtain ⟨w7, hwC⟩ : ∃ W : World, W = wC := ⟨_, rfl⟩
            rw [← hwC] at HBC hTC ⊢
            clear hwC
            have J := HBC
            have D := Lib.hid (nextB D.out J.out)
            clear hT0 hTA hTB hTC
            clear c0 c1 c2 zC x0 x2 zX l0 l1 l2 l3 zL
            have C := Lib.hid (C.out.up J.out)
            have X := Lib.hid (X.out.up J.out)
            have L := Lib.hid (L.out.up J.out)
            have I1 := Lib.hid (I1.out.up J.out)
            have I2 := Lib.hid (I2.out.up J.out)
            obtain ⟨c0, c1, c2⟩ := C.out
            have zC := C.out.lt
            have x0 : w7.cell? ⟨w.heap.size + 1, 0, none⟩ = some (.int .i64 x.A) := X.out.c 0 _ rfl
            have x2 : w7.cell? ⟨w.heap.size + 1, 2, none⟩ = some (.int .i64 x.t) := X.out.c 2 _ rfl
            have zX := X.out.lt
            obtain ⟨l0, l1, l2, l3⟩ := L.out
            have zL := L.out.lt
            go_wp2_with fail
            refine wp_region_M [] (fun w' => w'.cell? ⟨w.heap.size, 0, none⟩ = some (.slice c.d.RA c.d.n c.d.rc) ∧ w'.cell? ⟨w.heap.size, 1, none⟩ = some (.slice c.d.SA c.d.m c.d.sc) ∧ w'.cell? ⟨w.heap.size, 2, none⟩ = some (.slice c.MA c.m c.mc)) (by kernel_rfl) (by kernel_rfl) (by (try dsimp only); (repeat' apply And.intro); all_goals first | assumption | (go_simp; done)) (fun hT0 => ?_)
            refine M_take (v := ?_) 0 rfl (by kernel_rfl) (by assumption) (fun _ _ _ h => h) (Or.inl ⟨by rfl, ?_⟩) ?_
            rotate_left
            · (intro w hSw; (try dsimp only at hSw); go_simp; (try with_reducible rfl))
            (try simp only [Act.put, List.setIfInBounds_toArray, List.set_cons_zero, List.set_cons_succ])
            refine M_take (v := ?_) 1 rfl (by kernel_rfl) (by assumption) (fun _ _ _ h => h) (Or.inl ⟨by rfl, ?_⟩) ?_
            rotate_left
            · (intro w hSw; (try dsimp only at hSw); go_simp; (try with_reducible rfl))
            (try simp only [Act.put, List.setIfInBounds_toArray, List.set_cons_zero, List.set_cons_succ])
            refine M_take (v := ?_) 2 rfl (by kernel_rfl) (by assumption) (fun _ _ _ h => h) (Or.inl ⟨by rfl, ?_⟩) ?_
            rotate_left
            · (intro w hSw; (try dsimp only at hSw); go_simp; (try with_reducible rfl))
            (try simp only [Act.put, List.setIfInBounds_toArray, List.set_cons_zero, List.set_cons_succ])
            refine M_take 3 rfl (by kernel_rfl) (by assumption) (fun _ _ _ h => h) (Or.inr ⟨by rfl, rfl⟩) ?_
            (try simp only [Act.put, List.setIfInBounds_toArray, List.set_cons_zero, List.set_cons_succ])
            refine M_take 4 rfl (by kernel_rfl) (by assumption) (fun _ _ _ h => h) (Or.inr ⟨by rfl, rfl⟩) ?_
            (try simp only [Act.put, List.setIfInBounds_toArray, List.set_cons_zero, List.set_cons_succ])
            refine M_take 5 rfl (by kernel_rfl) (by assumption) (fun _ _ _ h => h) (Or.inr ⟨by rfl, rfl⟩) ?_
            (try simp only [Act.put, List.setIfInBounds_toArray, List.set_cons_zero, List.set_cons_succ])
            refine M_take 6 rfl (by kernel_rfl) (by assumption) (fun _ _ _ h => h) (Or.inr ⟨by rfl, rfl⟩) ?_
            (try simp only [Act.put, List.setIfInBounds_toArray, List.set_cons_zero, List.set_cons_succ])
            refine M_take 7 rfl (by kernel_rfl) (by assumption) (fun _ _ _ h => h) (Or.inr ⟨by rfl, rfl⟩) ?_
            (try simp only [Act.put, List.setIfInBounds_toArray, List.set_cons_zero, List.set_cons_succ])
            refine M_take 8 rfl (by kernel_rfl) (by assumption) (fun _ _ _ h => h) (Or.inr ⟨by rfl, rfl⟩) ?_
            (try simp only [Act.put, List.setIfInBounds_toArray, List.set_cons_zero, List.set_cons_succ])
            refine M_take 9 rfl (by kernel_rfl) (by assumption) (fun _ _ _ h => h) (Or.inr ⟨by rfl, rfl⟩) ?_
            (try simp only [Act.put, List.setIfInBounds_toArray, List.set_cons_zero, List.set_cons_succ])
            refine M_take 10 rfl (by kernel_rfl) (by assumption) (fun _ _ _ h => h) (Or.inr ⟨by rfl, rfl⟩) ?_
            (try simp only [Act.put, List.setIfInBounds_toArray, List.set_cons_zero, List.set_cons_succ])
            refine M_take 11 rfl (by kernel_rfl) (by assumption) (fun _ _ _ h => h) (Or.inr ⟨by rfl, rfl⟩) ?_
            (try simp only [Act.put, List.setIfInBounds_toArray, List.set_cons_zero, List.set_cons_succ])
            refine M_take 12 rfl (by kernel_rfl) (by assumption) (fun _ _ _ h => h) (Or.inr ⟨by rfl, rfl⟩) ?_
            (try simp only [Act.put, List.setIfInBounds_toArray, List.set_cons_zero, List.set_cons_succ])
            refine M_take 13 rfl (by kernel_rfl) (by assumption) (fun _ _ _ h => h) (Or.inr ⟨by rfl, rfl⟩) ?_
            (try simp only [Act.put, List.setIfInBounds_toArray, List.set_cons_zero, List.set_cons_succ])
            refine M_take 14 rfl (by kernel_rfl) (by assumption) (fun _ _ _ h => h) (Or.inr ⟨by rfl, rfl⟩) ?_
            (try simp only [Act.put, List.setIfInBounds_toArray, List.set_cons_zero, List.set_cons_succ])
            refine M_take 15 rfl (by kernel_rfl) (by assumption) (fun _ _ _ h => h) (Or.inr ⟨by rfl, rfl⟩) ?_
            (try simp only [Act.put, List.setIfInBounds_toArray, List.set_cons_zero, List.set_cons_succ])
            refine M_take 16 rfl (by kernel_rfl) (by assumption) (fun _ _ _ h => h) (Or.inr ⟨by rfl, rfl⟩) ?_
            (try simp only [Act.put, List.setIfInBounds_toArray, List.set_cons_zero, List.set_cons_succ])
            refine M_take (v := ?_) 17 rfl (by kernel_rfl) (by assumption) (fun _ _ _ h => h) (Or.inl ⟨by rfl, ?_⟩) ?_
            rotate_left
            · (intro w hSw; (try dsimp only at hSw); go_simp; (try with_reducible rfl))
            (try simp only [Act.put, List.setIfInBounds_toArray, List.set_cons_zero, List.set_cons_succ])
            refine M_done (by kernel_rfl) ?_ _
            clear hT0
            have D := Lib.hid (nextB D.out (Below.refl w7.heap.size w7).drew)
            go_wp2_with fail
            go_ret
            exact ⟨rfl, D.out⟩
          · have d1 : decide (s1 ≤ x.t) = false := decide_eq_false hs1
            clear hno hs1 b1 b2 hw0
            go_wp2_with fail
            refine wp_region_M [] (fun w' => w'.cell? ⟨w.heap.size, 0, none⟩ = some (.slice c.d.RA c.d.n c.d.rc) ∧ w'.cell? ⟨w.heap.size, 1, none⟩ = some (.slice c.d.SA c.d.m c.d.sc) ∧ w'.cell? ⟨w.heap.size, 2, none⟩ = some (.slice c.MA c.m c.mc) ∧ w'.cell? ⟨w.heap.size + 1, 0, none⟩ = some (.int .i64 x.A) ∧ w'.cell? ⟨w.heap.size + 1, 2, none⟩ = some (.int .i64 x.t) ∧ w'.cell? ⟨w4.heap.size, 0, none⟩ = some (.int .i64 s1) ∧ w'.cell? ⟨w4.heap.size, 1, none⟩ = some (.int .i64 s2)) (by kernel_rfl) (by kernel_rfl) (by (try dsimp only); (repeat' apply And.intro); all_goals first | assumption | (go_simp; done)) (fun hT0 => ?_)
            refine M_take (v := ?_) 0 rfl (by kernel_rfl) (by assumption) (fun _ _ _ h => h) (Or.inl ⟨by rfl, ?_⟩) ?_
            rotate_left
            · (intro w hSw; (try dsimp only at hSw); go_simp; (try with_reducible rfl))
            (try simp only [Act.put, List.setIfInBounds_toArray, List.set_cons_zero, List.set_cons_succ])
            refine M_take (v := ?_) 1 rfl (by kernel_rfl) (by assumption) (fun _ _ _ h => h) (Or.inl ⟨by rfl, ?_⟩) ?_
            rotate_left
            · (intro w hSw; (try dsimp only at hSw); go_simp; (try with_reducible rfl))
            (try simp only [Act.put, List.setIfInBounds_toArray, List.set_cons_zero, List.set_cons_succ])
            refine M_take (v := ?_) 2 rfl (by kernel_rfl) (by assumption) (fun _ _ _ h => h) (Or.inl ⟨by rfl, ?_⟩) ?_
            rotate_left
            · (intro w hSw; (try dsimp only at hSw); go_simp; (try with_reducible rfl))
            (try simp only [Act.put, List.setIfInBounds_toArray, List.set_cons_zero, List.set_cons_succ])
            refine M_take (v := ?_) 3 rfl (by kernel_rfl) (by assumption) (fun _ _ _ h => h) (Or.inl ⟨by rfl, ?_⟩) ?_
            rotate_left
            · (intro w hSw; (try dsimp only at hSw); go_simp; (try with_reducible rfl))
            (try simp only [Act.put, List.setIfInBounds_toArray, List.set_cons_zero, List.set_cons_succ])
            refine M_take (v := ?_) 4 rfl (by kernel_rfl) (by assumption) (fun _ _ _ h => h) (Or.inl ⟨by rfl, ?_⟩) ?_
            rotate_left
            · (intro w hSw; (try dsimp only at hSw); go_simp; (try with_reducible rfl))
            (try simp only [Act.put, List.setIfInBounds_toArray, List.set_cons_zero, List.set_cons_succ])
            refine M_take (v := ?_) 5 rfl (by kernel_rfl) (by assumption) (fun _ _ _ h => h) (Or.inl ⟨by rfl, ?_⟩) ?_
            rotate_left
            · (intro w hSw; (try dsimp only at hSw); go_simp; (try with_reducible rfl))
            (try simp only [Act.put, List.setIfInBounds_toArray, List.set_cons_zero, List.set_cons_succ])
            refine M_take (v := ?_) 6 rfl (by kernel_rfl) (by assumption) (fun _ _ _ h => h) (Or.inl ⟨by rfl, ?_⟩) ?_
            rotate_left
            · (intro w hSw; (try dsimp only at hSw); go_simp; (try with_reducible rfl))
            (try simp only [Act.put, List.setIfInBounds_toArray, List.set_cons_zero, List.set_cons_succ])
            refine M_take (v := ?_) 7 rfl (by kernel_rfl) (by assumption) (fun _ _ _ h => h) (Or.inl ⟨by rfl, ?_⟩) ?_
            rotate_left
            · (intro w hSw; (try dsimp only at hSw); go_simp; (try with_reducible rfl))
            (try simp only [Act.put, List.setIfInBounds_toArray, List.set_cons_zero, List.set_cons_succ])
            refine M_take 8 rfl (by kernel_rfl) (by assumption) (fun _ _ _ h => h) (Or.inr ⟨by rfl, rfl⟩) ?_
            (try simp only [Act.put, List.setIfInBounds_toArray, List.set_cons_zero, List.set_cons_succ])
            refine M_take 9 rfl (by kernel_rfl) (by assumption) (fun _ _ _ h => h) (Or.inr ⟨by rfl, rfl⟩) ?_
            (try simp only [Act.put, List.setIfInBounds_toArray, List.set_cons_zero, List.set_cons_succ])
            refine M_take 10 rfl (by kernel_rfl) (by assumption) (fun _ _ _ h => h) (Or.inr ⟨by rfl, rfl⟩) ?_
            (try simp only [Act.put, List.setIfInBounds_toArray, List.set_cons_zero, List.set_cons_succ])
            refine M_take 11 rfl (by kernel_rfl) (by assumption) (fun _ _ _ h => h) (Or.inr ⟨by rfl, rfl⟩) ?_
            (try simp only [Act.put, List.setIfInBounds_toArray, List.set_cons_zero, List.set_cons_succ])
            refine M_take 12 rfl (by kernel_rfl) (by assumption) (fun _ _ _ h => h) (Or.inr ⟨by rfl, rfl⟩) ?_
            (try simp only [Act.put, List.setIfInBounds_toArray, List.set_cons_zero, List.set_cons_succ])
            refine M_take (v := ?_) 13 rfl (by kernel_rfl) (by assumption) (fun _ _ _ h => h) (Or.inl ⟨by rfl, ?_⟩) ?_
            rotate_left
            · (intro w hSw; (try dsimp only at hSw); go_simp; (try with_reducible rfl))
            (try simp only [Act.put, List.setIfInBounds_toArray, List.set_cons_zero, List.set_cons_succ])
            refine M_take (v := ?_) 14 rfl (by kernel_rfl) (by assumption) (fun _ _ _ h => h) (Or.inl ⟨by rfl, ?_⟩) ?_
            rotate_left
            · (intro w hSw; (try dsimp only at hSw); go_simp; (try with_reducible rfl))
            (try simp only [Act.put, List.setIfInBounds_toArray, List.set_cons_zero, List.set_cons_succ])
            refine M_take (v := ?_) 15 rfl (by kernel_rfl) (by assumption) (fun _ _ _ h => h) (Or.inl ⟨by rfl, ?_⟩) ?_
            rotate_left
            · (intro w hSw; (try dsimp only at hSw); go_simp; (try with_reducible rfl))
            (try simp only [Act.put, List.setIfInBounds_toArray, List.set_cons_zero, List.set_cons_succ])
            refine M_take (v := ?_) 16 rfl (by kernel_rfl) (by assumption) (fun _ _ _ h => h) (Or.inl ⟨by rfl, ?_⟩) ?_
            rotate_left
            · (intro w hSw; (try dsimp only at hSw); go_simp; (try with_reducible rfl))
            (try simp only [Act.put, List.setIfInBounds_toArray, List.set_cons_zero, List.set_cons_succ])
            refine M_take (v := ?_) 17 rfl (by kernel_rfl) (by assumption) (fun _ _ _ h => h) (Or.inl ⟨by rfl, ?_⟩) ?_
            rotate_left
            · (intro w hSw; (try dsimp only at hSw); go_simp; (try with_reducible rfl))
            (try simp only [Act.put, List.setIfInBounds_toArray, List.set_cons_zero, List.set_cons_succ])
            refine M_take (v := ?_) 18 rfl (by kernel_rfl) (by assumption) (fun _ _ _ h => h) (Or.inl ⟨by rfl, ?_⟩) ?_
            rotate_left
            · (intro w hSw; (try dsimp only at hSw); go_simp; (try with_reducible rfl))
            (try simp only [Act.put, List.setIfInBounds_toArray, List.set_cons_zero, List.set_cons_succ])
            refine M_take (v := ?_) 19 rfl (by kernel_rfl) (by assumption) (fun _ _ _ h => h) (Or.inl ⟨by rfl, ?_⟩) ?_
            rotate_left
            · (intro w hSw; (try dsimp only at hSw); go_simp; (try with_reducible rfl))
            (try simp only [Act.put, List.setIfInBounds_toArray, List.set_cons_zero, List.set_cons_succ])
            refine M_take (v := ?_) 20 rfl (by kernel_rfl) (by assumption) (fun _ _ _ h => h) (Or.inl ⟨by rfl, ?_⟩) ?_
            rotate_left
            · (intro w hSw; (try dsimp only at hSw); go_simp; (try with_reducible rfl))
            (try simp only [Act.put, List.setIfInBounds_toArray, List.set_cons_zero, List.set_cons_succ])
            refine M_take (v := ?_) 21 rfl (by kernel_rfl) (by assumption) (fun _ _ _ h => h) (Or.inl ⟨by rfl, ?_⟩) ?_
            rotate_left
            · (intro w hSw; (try dsimp only at hSw); go_simp; (try with_reducible rfl))
            (try simp only [Act.put, List.setIfInBounds_toArray, List.set_cons_zero, List.set_cons_succ])
            refine M_take (v := ?_) 22 rfl (by kernel_rfl) (by assumption) (fun _ _ _ h => h) (Or.inl ⟨by rfl, ?_⟩) ?_
            rotate_left
            · (intro w hSw; (try dsimp only at hSw); go_simp; (try with_reducible rfl))
            (try simp only [Act.put, List.setIfInBounds_toArray, List.set_cons_zero, List.set_cons_succ])
            refine M_step 23 rfl (by kernel_rfl) (fun K hK => ?_)
            go_simp
            go_at_call 68
            refine (one_any x.A x.t _).mono ?_
            rintro e wA ⟨rfl, hbA⟩
            have HBA := Lib.hid (show Below w6.heap.size w6 wA from nextB (Below.refl _ _).drew hbA)
            have hTA : (fun w' => w'.cell? ⟨w.heap.size, 0, none⟩ = some (.slice c.d.RA c.d.n c.d.rc) ∧ w'.cell? ⟨w.heap.size, 1, none⟩ = some (.slice c.d.SA c.d.m c.d.sc) ∧ w'.cell? ⟨w.heap.size, 2, none⟩ = some (.slice c.MA c.m c.mc) ∧ w'.cell? ⟨w.heap.size + 1, 0, none⟩ = some (.int .i64 x.A) ∧ w'.cell? ⟨w.heap.size + 1, 2, none⟩ = some (.int .i64 x.t) ∧ w'.cell? ⟨w4.heap.size, 0, none⟩ = some (.int .i64 s1) ∧ w'.cell? ⟨w4.heap.size, 1, none⟩ = some (.int .i64 s2)) wA := ⟨(HBA.out.cell (World.block_lt_of_cell? _ _ c0)).trans c0, (HBA.out.cell (World.block_lt_of_cell? _ _ c1)).trans c1, (HBA.out.cell (World.block_lt_of_cell? _ _ c2)).trans c2, (HBA.out.cell (World.block_lt_of_cell? _ _ x0)).trans x0, (HBA.out.cell (World.block_lt_of_cell? _ _ x2)).trans x2, (HBA.out.cell (World.block_lt_of_cell? _ _ l0)).trans l0, (HBA.out.cell (World.block_lt_of_cell? _ _ l1)).trans l1⟩
            clear hbA
            refine hK.out _ _ (fun _ => hTA) ?_
            clear hK K
            (try simp only [Act.put, List.setIfInBounds_toArray, List.set_cons_zero, List.set_cons_succ])
            refine M_step 24 rfl (by kernel_rfl) (fun K hK => ?_)
            go_simp
            have HBB := Lib.hid (show Below w6.heap.size w6 (wA.alloc (.cells #[.int .i64 x.A, .int .i64 x.t, .int .i64 x.t] 33)) from nextB HBA.out (box1 wA _))
            have hTB : (fun w' => w'.cell? ⟨w.heap.size, 0, none⟩ = some (.slice c.d.RA c.d.n c.d.rc) ∧ w'.cell? ⟨w.heap.size, 1, none⟩ = some (.slice c.d.SA c.d.m c.d.sc) ∧ w'.cell? ⟨w.heap.size, 2, none⟩ = some (.slice c.MA c.m c.mc) ∧ w'.cell? ⟨w.heap.size + 1, 0, none⟩ = some (.int .i64 x.A) ∧ w'.cell? ⟨w.heap.size + 1, 2, none⟩ = some (.int .i64 x.t) ∧ w'.cell? ⟨w4.heap.size, 0, none⟩ = some (.int .i64 s1) ∧ w'.cell? ⟨w4.heap.size, 1, none⟩ = some (.int .i64 s2)) (wA.alloc (.cells #[.int .i64 x.A, .int .i64 x.t, .int .i64 x.t] 33)) := ⟨(HBB.out.cell (World.block_lt_of_cell? _ _ c0)).trans c0, (HBB.out.cell (World.block_lt_of_cell? _ _ c1)).trans c1, (HBB.out.cell (World.block_lt_of_cell? _ _ c2)).trans c2, (HBB.out.cell (World.block_lt_of_cell? _ _ x0)).trans x0, (HBB.out.cell (World.block_lt_of_cell? _ _ x2)).trans x2, (HBB.out.cell (World.block_lt_of_cell? _ _ l0)).trans l0, (HBB.out.cell (World.block_lt_of_cell? _ _ l1)).trans l1⟩
            refine hK.out _ _ (fun _ => hTB) ?_
            clear hK K
            (try simp only [Act.put, List.setIfInBounds_toArray, List.set_cons_zero, List.set_cons_succ])
            refine M_step 25 rfl (by kernel_rfl) (fun K hK => ?_)
            go_simp
            go_at_call 67
            refine (KC.out _ _ _ (nextB D.out HBB.out) (trs_one (tr3_new wA (x.A, x.t, x.t) _))).mono ?_
            rintro e wC ⟨rfl, hbC⟩
            have HBC := Lib.hid (show Below w6.heap.size w6 wC from nextB HBB.out hbC)
            have hTC : (fun w' => w'.cell? ⟨w.heap.size, 0, none⟩ = some (.slice c.d.RA c.d.n c.d.rc) ∧ w'.cell? ⟨w.heap.size, 1, none⟩ = some (.slice c.d.SA c.d.m c.d.sc) ∧ w'.cell? ⟨w.heap.size, 2, none⟩ = some (.slice c.MA c.m c.mc) ∧ w'.cell? ⟨w.heap.size + 1, 0, none⟩ = some (.int .i64 x.A) ∧ w'.cell? ⟨w.heap.size + 1, 2, none⟩ = some (.int .i64 x.t) ∧ w'.cell? ⟨w4.heap.size, 0, none⟩ = some (.int .i64 s1) ∧ w'.cell? ⟨w4.heap.size, 1, none⟩ = some (.int .i64 s2)) wC := ⟨(HBC.out.cell (World.block_lt_of_cell? _ _ c0)).trans c0, (HBC.out.cell (World.block_lt_of_cell? _ _ c1)).trans c1, (HBC.out.cell (World.block_lt_of_cell? _ _ c2)).trans c2, (HBC.out.cell (World.block_lt_of_cell? _ _ x0)).trans x0, (HBC.out.cell (World.block_lt_of_cell? _ _ x2)).trans x2, (HBC.out.cell (World.block_lt_of_cell? _ _ l0)).trans l0, (HBC.out.cell (World.block_lt_of_cell? _ _ l1)).trans l1⟩
            clear hbC
            refine hK.out _ _ (fun _ => hTC) ?_
            clear hK K
            (try simp only [Act.put, List.setIfInBounds_toArray, List.set_cons_zero, List.set_cons_succ])
            refine M_take (v := ?_) 26 rfl (by kernel_rfl) (by assumption) (fun _ _ _ h => h) (Or.inl ⟨by rfl, ?_⟩) ?_
            rotate_left
            · (intro w hSw; (try dsimp only at hSw); go_simp; (try with_reducible rfl))
            (try simp only [Act.put, List.setIfInBounds_toArray, List.set_cons_zero, List.set_cons_succ])
            refine M_take (v := ?_) 27 rfl (by kernel_rfl) (by assumption) (fun _ _ _ h => h) (Or.inl ⟨by rfl, ?_⟩) ?_
            rotate_left
            · (intro w hSw; (try dsimp only at hSw); go_simp; (try with_reducible rfl))
            (try simp only [Act.put, List.setIfInBounds_toArray, List.set_cons_zero, List.set_cons_succ])
            refine M_done (by kernel_rfl) ?_ _
            obtain ⟨w7, hwC⟩ : ∃ W : World, W = wC := ⟨_, rfl⟩
            rw [← hwC] at HBC hTC ⊢
            clear hwC
            have J := HBC
            have D := Lib.hid (nextB D.out J.out)
            clear hT0 hTA hTB hTC
            clear c0 c1 c2 zC x0 x2 zX l0 l1 l2 l3 zL
            have C := Lib.hid (C.out.up J.out)
            have X := Lib.hid (X.out.up J.out)
            have L := Lib.hid (L.out.up J.out)
            have I1 := Lib.hid (I1.out.up J.out)
            have I2 := Lib.hid (I2.out.up J.out)
            obtain ⟨c0, c1, c2⟩ := C.out
            have zC := C.out.lt
            have x0 : w7.cell? ⟨w.heap.size + 1, 0, none⟩ = some (.int .i64 x.A) := X.out.c 0 _ rfl
            have x2 : w7.cell? ⟨w.heap.size + 1, 2, none⟩ = some (.int .i64 x.t) := X.out.c 2 _ rfl
            have zX := X.out.lt
            obtain ⟨l0, l1, l2, l3⟩ := L.out
            have zL := L.out.lt
            go_wp2_with fail
            refine wp_region_M [] (fun w' => w'.cell? ⟨w.heap.size, 0, none⟩ = some (.slice c.d.RA c.d.n c.d.rc) ∧ w'.cell? ⟨w.heap.size, 1, none⟩ = some (.slice c.d.SA c.d.m c.d.sc) ∧ w'.cell? ⟨w.heap.size, 2, none⟩ = some (.slice c.MA c.m c.mc)) (by kernel_rfl) (by kernel_rfl) (by (try dsimp only); (repeat' apply And.intro); all_goals first | assumption | (go_simp; done)) (fun hT0 => ?_)
            refine M_take (v := ?_) 0 rfl (by kernel_rfl) (by assumption) (fun _ _ _ h => h) (Or.inl ⟨by rfl, ?_⟩) ?_
            rotate_left
            · (intro w hSw; (try dsimp only at hSw); go_simp; (try with_reducible rfl))
            (try simp only [Act.put, List.setIfInBounds_toArray, List.set_cons_zero, List.set_cons_succ])
            refine M_take (v := ?_) 1 rfl (by kernel_rfl) (by assumption) (fun _ _ _ h => h) (Or.inl ⟨by rfl, ?_⟩) ?_
            rotate_left
            · (intro w hSw; (try dsimp only at hSw); go_simp; (try with_reducible rfl))
            (try simp only [Act.put, List.setIfInBounds_toArray, List.set_cons_zero, List.set_cons_succ])
            refine M_take (v := ?_) 2 rfl (by kernel_rfl) (by assumption) (fun _ _ _ h => h) (Or.inl ⟨by rfl, ?_⟩) ?_
            rotate_left
            · (intro w hSw; (try dsimp only at hSw); go_simp; (try with_reducible rfl))
            (try simp only [Act.put, List.setIfInBounds_toArray, List.set_cons_zero, List.set_cons_succ])
            refine M_take 3 rfl (by kernel_rfl) (by assumption) (fun _ _ _ h => h) (Or.inr ⟨by rfl, rfl⟩) ?_
            (try simp only [Act.put, List.setIfInBounds_toArray, List.set_cons_zero, List.set_cons_succ])
            refine M_take 4 rfl (by kernel_rfl) (by assumption) (fun _ _ _ h => h) (Or.inr ⟨by rfl, rfl⟩) ?_
            (try simp only [Act.put, List.setIfInBounds_toArray, List.set_cons_zero, List.set_cons_succ])
            refine M_take 5 rfl (by kernel_rfl) (by assumption) (fun _ _ _ h => h) (Or.inr ⟨by rfl, rfl⟩) ?_
            (try simp only [Act.put, List.setIfInBounds_toArray, List.set_cons_zero, List.set_cons_succ])
            refine M_take 6 rfl (by kernel_rfl) (by assumption) (fun _ _ _ h => h) (Or.inr ⟨by rfl, rfl⟩) ?_
            (try simp only [Act.put, List.setIfInBounds_toArray, List.set_cons_zero, List.set_cons_succ])
            refine M_take 7 rfl (by kernel_rfl) (by assumption) (fun _ _ _ h => h) (Or.inr ⟨by rfl, rfl⟩) ?_
            (try simp only [Act.put, List.setIfInBounds_toArray, List.set_cons_zero, List.set_cons_succ])
            refine M_take 8 rfl (by kernel_rfl) (by assumption) (fun _ _ _ h => h) (Or.inr ⟨by rfl, rfl⟩) ?_
            (try simp only [Act.put, List.setIfInBounds_toArray, List.set_cons_zero, List.set_cons_succ])
            refine M_take 9 rfl (by kernel_rfl) (by assumption) (fun _ _ _ h => h) (Or.inr ⟨by rfl, rfl⟩) ?_
            (try simp only [Act.put, List.setIfInBounds_toArray, List.set_cons_zero, List.set_cons_succ])
            refine M_take 10 rfl (by kernel_rfl) (by assumption) (fun _ _ _ h => h) (Or.inr ⟨by rfl, rfl⟩) ?_
            (try simp only [Act.put, List.setIfInBounds_toArray, List.set_cons_zero, List.set_cons_succ])
            refine M_take 11 rfl (by kernel_rfl) (by assumption) (fun _ _ _ h => h) (Or.inr ⟨by rfl, rfl⟩) ?_
            (try simp only [Act.put, List.setIfInBounds_toArray, List.set_cons_zero, List.set_cons_succ])
            refine M_take 12 rfl (by kernel_rfl) (by assumption) (fun _ _ _ h => h) (Or.inr ⟨by rfl, rfl⟩) ?_
            (try simp only [Act.put, List.setIfInBounds_toArray, List.set_cons_zero, List.set_cons_succ])
            refine M_take 13 rfl (by kernel_rfl) (by assumption) (fun _ _ _ h => h) (Or.inr ⟨by rfl, rfl⟩) ?_
            (try simp only [Act.put, List.setIfInBounds_toArray, List.set_cons_zero, List.set_cons_succ])
            refine M_take 14 rfl (by kernel_rfl) (by assumption) (fun _ _ _ h => h) (Or.inr ⟨by rfl, rfl⟩) ?_
            (try simp only [Act.put, List.setIfInBounds_toArray, List.set_cons_zero, List.set_cons_succ])
            refine M_take 15 rfl (by kernel_rfl) (by assumption) (fun _ _ _ h => h) (Or.inr ⟨by rfl, rfl⟩) ?_
            (try simp only [Act.put, List.setIfInBounds_toArray, List.set_cons_zero, List.set_cons_succ])
            refine M_take 16 rfl (by kernel_rfl) (by assumption) (fun _ _ _ h => h) (Or.inr ⟨by rfl, rfl⟩) ?_
            (try simp only [Act.put, List.setIfInBounds_toArray, List.set_cons_zero, List.set_cons_succ])
            refine M_take (v := ?_) 17 rfl (by kernel_rfl) (by assumption) (fun _ _ _ h => h) (Or.inl ⟨by rfl, ?_⟩) ?_
            rotate_left
            · (intro w hSw; (try dsimp only at hSw); go_simp; (try with_reducible rfl))
            (try simp only [Act.put, List.setIfInBounds_toArray, List.set_cons_zero, List.set_cons_succ])
            refine M_done (by kernel_rfl) ?_ _
            clear hT0
            have D := Lib.hid (nextB D.out (Below.refl w7.heap.size w7).drew)
            go_wp2_with fail
            go_ret
            exact ⟨rfl, D.out⟩
      · have hn1 : (E != 0) = true := by simpa using hz
        have hw0 : ¬ Ew = 0 := fun h => by
          have hw := HW.out
          rw [h] at hw
          rcases hw with ⟨h, _⟩ | ⟨hd, hk, ⟨hA, _⟩, ⟨S1, h1⟩, _⟩
          · exact h rfl
          · have h2 := (rdR_in HE.out hz hd hk h1).1
            have h3 := HV.out.2 hA
            rw [h2] at h3
            cases h3
        have hn2 : (Ew != 0) = true := by simpa using hw0
        clear hw0 hz
        go_wp2_with fail
        go_ret
        exact ⟨rfl, D.out⟩
    · have dm1 : decide (20 < c.m) = true := decide_eq_true (by omega)
      have dm2 : decide ((20 : Int) < (c.m : Int)) = true := decide_eq_true (by omega)
      clear hm20
      go_wp2_with fail
      go_ret
      exact ⟨rfl, D.out⟩
end Go.Proofs.Ytpikaohodieeaaa
