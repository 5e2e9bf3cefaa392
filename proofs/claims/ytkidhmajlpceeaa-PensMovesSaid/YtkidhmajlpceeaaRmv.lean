/- The specification's Moves. -/
import Derived.Test.YtkidhmajlpceeaaRf2
namespace Go.Proofs.Ytkidhmajlpceeaa
open Go.RowKit
/-- how many edges there are up to an offset -/
def cntE (p : Pn) (o : Int) (j : Nat) : Nat := (min (-p.b + j) (mv1 p o + 1) - mv0 p o).toNat
theorem cnt_zero {p : Pn} {o : Int} (h : p.Ok) (ho : -p.b ≤ o ∧ o ≤ p.b) : cntE p o 0 = 0 := by
  have := mv_bd h ho
  unfold cntE
  omega
theorem cnt_in {p : Pn} {o : Int} {j : Nat} (h1 : mv0 p o ≤ -p.b + j) (h2 : -p.b + j ≤ mv1 p o) : cntE p o (j + 1) = cntE p o j + 1 ∧ edgeF p o (cntE p o j) = (-p.b + j + p.b, chg p o (-p.b + j)) := by
  have e : mv0 p o + ((cntE p o j : Nat) : Int) = -p.b + j := by unfold cntE; omega
  refine ⟨by unfold cntE; omega, ?_⟩
  unfold edgeF
  rw [e]
theorem cnt_out {p : Pn} {o : Int} {j : Nat} (h0 : mv0 p o ≤ mv1 p o + 1) (h : ¬ (mv0 p o ≤ -p.b + j ∧ -p.b + j ≤ mv1 p o)) : cntE p o (j + 1) = cntE p o j := by unfold cntE; omega
theorem cnt_all {p : Pn} {o : Int} {j : Nat} (h : p.Ok) (ho : -p.b ≤ o ∧ o ≤ p.b) (hj : (j : Int) = 2 * p.b + 1) : cntE p o j = mvN p o := by
  have := mv_bd h ho
  unfold cntE mvN
  omega
theorem MvI.keep {w wr w1 : World} {p : Pn} {o : Int} {k : Nat} {v : Value} (h : MvI w p o k v wr) (hb : Below wr.heap.size wr w1) : MvI w p o k v w1 :=
  ⟨h.below.trans (hb.mono h.below.size), own_keep h.own hb, h.pn.up hb h.pn.lt⟩
set_option maxRecDepth 100000 in
set_option maxHeartbeats 4000000 in
theorem RMoves_any (p : Pn) (o : Int) (E : Int) (w : World) (hE : movR p o E) :
    Calls Try.prog 31 #[p.v, .int .i64 o] w fun e w' => EPost w (mvN p o) (edgeF p o) E e w' := by
  rcases hE with ⟨h, rfl⟩ | ⟨h, hE⟩
  · have KC := Lib.hid fun W => RCheck_any p 30 W (.inl ⟨h, rfl⟩)
    clear h
    go_enter Try.func31, Try.ntmps31
    go_wp2_with fail
    refine (KC.out _).mono ?_
    rintro e w1 ⟨rfl, hb⟩
    go_wp2_with fail
    go_ret2
    exact ⟨fun e => by simp at e, fun _ => ⟨rfl, nextB (box1 _ _) hb⟩⟩
  · have KC := Lib.hid fun W => RCheck_any p 0 W (.inr ⟨h, rfl⟩)
    have hbb := h.b
    have hrr := h.r
    obtain ⟨b1, b2⟩ := hbb
    obtain ⟨q1, q2⟩ := hrr
    have wb : IntKind.i64.wrap (-p.b) = -p.b := IntWalk.i64_in _ (by omega)
    rcases hE with ⟨ho, rfl⟩ | ⟨ho, rfl⟩
    · have KW := Lib.hid fun W => within_is (n := o) (a := -p.b) (b := p.b) (G := false) W ⟨fun e => (by cases e), fun e => absurd e ho⟩
      clear h ho
      go_enter Try.func31, Try.ntmps31
      go_wp2_with fail
      refine (KC.out _).mono ?_
      rintro e w1 ⟨rfl, hb⟩
      have C1 := Lib.hid (nextB (box1 w _) hb)
      have P1 := Lib.hid ((pn_new w p.b p.lo p.hi p.r).up hb (by simp))
      obtain ⟨x0, x1, x2, x3⟩ := P1.out
      clear hb
      go_wp2_with fail
      refine (KW.out _).mono ?_
      rintro e w' ⟨rfl, rfl⟩
      go_wp2_with fail
      go_ret2
      exact ⟨fun e => by simp at e, fun _ => ⟨rfl, C1.out⟩⟩
    · have KW := Lib.hid fun W => within_is (n := o) (a := -p.b) (b := p.b) (G := true) W ⟨fun _ => ho, fun _ => rfl⟩
      have hmb := mv_bd h ho
      have hc0 := cnt_zero h ho
      have HCA : Hid (∀ j : Nat, (j : Int) = 2 * p.b + 1 → cntE p o j = mvN p o) := Lib.hid fun j hj => cnt_all h ho hj
      have e0 : mv0 p o = max (-p.b) (o - p.r) := rfl
      have e1 : mv1 p o = min p.b (o + p.r) := rfl
      have HMV := Lib.hid (And.intro e0 (And.intro e1 hmb))
      have HO := Lib.hid ho
      have KG : Hid (∀ (t : Int) (G : Bool) (W : World), (G = true ↔ (-p.r ≤ t - o ∧ t - o ≤ p.r)) → Calls Try.prog 74 #[.int .i64 (t - o), .int .i64 (-p.r), .int .i64 p.r] W fun e w' => e = .returned (.bool G) ∧ W = w') := Lib.hid fun t G W hG => within_is W hG
      obtain ⟨o1, o2⟩ := ho
      obtain ⟨i0, hi0, hz0, hz1, hz2⟩ := info_parts Try.infoEdge
      have HWr : Hid (∀ x : Int, -1000000 ≤ x → x ≤ 1000000 → IntKind.i64.wrap x = x) := Lib.hid fun x h1 h2 => IntWalk.i64_in _ (by omega)
      have hN17 : mvN p o ≤ 17 := by unfold mvN; omega
      clear h hmb e0 e1
      go_enter Try.func31, Try.ntmps31
      go_wp2_with fail
      refine (KC.out _).mono ?_
      rintro e w1 ⟨rfl, hb⟩
      have C1 := Lib.hid (nextB (box1 w _) hb)
      have P1 := Lib.hid ((pn_new w p.b p.lo p.hi p.r).up hb (by simp))
      have hI0 : MvI w p o 0 (.slice none 0 0) w1 := ⟨C1.out, World.ownsRow_nil _ _ _ _, P1.out⟩
      have HI0 := Lib.hid hI0
      obtain ⟨x0, x1, x2, x3⟩ := P1.out
      clear hb hI0 KC
      go_wp2_with fail
      refine (KW.out _).mono ?_
      rintro e w' ⟨rfl, rfl⟩
      go_wp2_with fail
      go_loopw [6, 7, 8] (fun v t _ wr => ∃ (vv : Value) (j : Nat), vv = v ∧ (j : Int) ≤ 2 * p.b + 1 ∧ t = .int .i64 (-p.b + j) ∧ MvI w p o (cntE p o j) vv wr) (fun _ t _ _ => (p.b + 1 - intOf t).toNat)
      case atStart => exact ⟨_, 0, rfl, by omega, by simp, by rw [hc0]; exact HI0.out⟩
      case round =>
        obtain ⟨vv, j, hvv, hj, rfl, hI⟩ := hrel
        obtain ⟨wo, rfl⟩ : ∃ wo : World, wo = wr := ⟨_, rfl⟩
        have HV := Lib.hid hvv
        have HI := Lib.hid hI
        have zp := hI.pn.lt
        have hsz := hI.below.size
        have hcn : cntE p o j ≤ 17 := by unfold cntE; have := HMV.out.2.2; omega
        clear x0 x1 x2 x3 hvv HI0
        obtain ⟨x0, x1, x2, x3⟩ := hI.pn
        clear hI
        by_cases hlt : (j : Int) < 2 * p.b + 1
        · have HBX := Lib.hid fun (W : World) (h : Below wo.heap.size wo W) => HI.out.keep h
          obtain ⟨t, ht⟩ : ∃ t : Int, t = -p.b + j := ⟨_, rfl⟩
          have hin : (mv0 p o ≤ -p.b + j ∧ -p.b + j ≤ mv1 p o) ∨ ¬ (mv0 p o ≤ -p.b + j ∧ -p.b + j ≤ mv1 p o) := Classical.em _
          have hin2 : (mv0 p o ≤ t ∧ t ≤ mv1 p o ∧ cntE p o (j + 1) = cntE p o j + 1 ∧ edgeF p o (cntE p o j) = (t + p.b, chg p o t)) ∨ (¬ (mv0 p o ≤ t ∧ t ≤ mv1 p o) ∧ cntE p o (j + 1) = cntE p o j) := by
            rcases hin with h | h
            · obtain ⟨c1, c2⟩ := cnt_in h.1 h.2
              exact .inl ⟨by omega, by omega, c1, by rw [ht]; exact c2⟩
            · exact .inr ⟨by rw [ht]; exact h, cnt_out (by have := HMV.out.2.2; omega) h⟩
          have hnx : -p.b + ((j + 1 : Nat) : Int) = t + 1 := by omega
          have HNX := Lib.hid hnx
          have hj2 : ((j + 1 : Nat) : Int) ≤ 2 * p.b + 1 := by omega
          have hmm := HMV.out
          rw [← ht]
          have hle : t ≤ p.b := by omega
          have hge : -p.b ≤ t := by omega
          have wt1 : IntKind.i64.wrap (t + p.b) = t + p.b := HWr.out _ (by omega) (by omega)
          have wt2 : IntKind.i64.wrap (t - o) = t - o := HWr.out _ (by omega) (by omega)
          have wt3 : IntKind.i64.wrap (-p.r) = -p.r := HWr.out _ (by omega) (by omega)
          have wt4 : IntKind.i64.wrap (p.r - p.b) = p.r - p.b := HWr.out _ (by omega) (by omega)
          have wt5 : IntKind.i64.wrap (p.r - p.b + o) = p.r - p.b + o := HWr.out _ (by omega) (by omega)
          have wt6 : IntKind.i64.wrap (-p.r + p.b) = -p.r + p.b := HWr.out _ (by omega) (by omega)
          have wt7 : IntKind.i64.wrap (-p.r + p.b + o) = -p.r + p.b + o := HWr.out _ (by omega) (by omega)
          have wt8 : IntKind.i64.wrap (t + 1) = t + 1 := HWr.out _ (by omega) (by omega)
          generalize hc1 : cntE p o (j + 1) = c1 at *
          have HC1 := Lib.hid hc1
          clear hc1
          generalize cntE p o j = c0 at *
          have HJ2 := Lib.hid hj2
          clear hin hnx hj2 hlt hj ht
          by_cases tb : t = p.b
          · have d1 : (t == p.b) = true := by simpa using tb
            by_cases tn : t = -p.b
            · have d2 : (t == -p.b) = true := by simpa using tn
              have hb0 : p.b = 0 := by omega
              have ech : chg p o t = (-p.r + p.b + o, p.r - p.b + o) := by unfold chg; rw [if_pos tn, if_pos tb]
              rcases hin2 with ⟨m1, m2, hcc, hee⟩ | ⟨hno, hcc⟩
              · rw [ech] at hee
                have HCC := Lib.hid hcc
                have g1 : decide (-p.r + p.b + o ≤ p.r - p.b + o) = true := decide_eq_true (by omega)
                have g1' : decide (-p.r + p.b ≤ p.r - p.b) = true := decide_eq_true (by omega)
                have g2 : decide (-p.r + p.b + o ≤ 0) = true := decide_eq_true (by omega)
                have g3 : decide (0 ≤ p.r - p.b + o) = true := decide_eq_true (by omega)
                by_cases r0 : p.r - p.b + o = 0
                · have K := Lib.hid fun W => KG.out t true W ⟨fun _ => ⟨by omega, by omega⟩, fun _ => rfl⟩
                  have r1 : (-p.r + p.b + o == 0) = true := by simpa using (by omega : -p.r + p.b + o = 0)
                  have r2 : (p.r - p.b + o == 0) = true := by simpa using (r0)
                  clear m1 m2 hmm tb tn ech hcc r0 hb0
                  go_wp2_with fail
                  refine (K.out _).mono ?_
                  rintro e w' ⟨rfl, rfl⟩
                  go_upto_region 15 with fail
                  have hown := (HI.out.keep (box1 wo (.cells #[.int .i64 (-p.r + p.b + o), .int .i64 (p.r - p.b + o)] 23))).own
                  have hst := fun w2 v' (hg : (((wo.alloc (.cells #[.int .i64 (-p.r + p.b + o), .int .i64 (p.r - p.b + o)] 23))).alloc (.cells #[.int .i64 (t + p.b), .int .i64 (-p.r + p.b + o), .int .i64 (p.r - p.b + o)] 66)).grownBy w2 vv.ownBlock) hw => HI.out.step (w2 := w2) (v' := v') (box1 wo (.cells #[.int .i64 (-p.r + p.b + o), .int .i64 (p.r - p.b + o)] 23)) hg hw
                  rw [hee] at hst
                  rw [HV.out] at hown hst
                  have HST := Lib.hid hst
                  clear hst hee
                  go_wp2_with (at_builtin; refine wpList_append_own _ rfl _ _ 42 rfl (w.heap.size + 1) 66 i0 (.agg #[.int .i64 0, .int .i64 0, .int .i64 0]) 3 24 Try.underlying42 hi0 hz0 hz1 hz2 rfl (by decide) _ c0 _ rfl (hown.alloc _) ⟨wo.heap.size + 1, 0, none⟩ 1 1 [.int .i64 (t + p.b), .int .i64 (-p.r + p.b + o), .int .i64 (p.r - p.b + o)] rfl rfl (by have h := new3 (wo.alloc (.cells #[.int .i64 (-p.r + p.b + o), .int .i64 (p.r - p.b + o)] 23)) (t + p.b) (-p.r + p.b + o) (p.r - p.b + o); rwa [World.size_alloc] at h) (by simp [Value.oneCell']) (by unfold maxLen; omega) (by omega) (by simp only [World.size_alloc]; omega) ?_; intro v8 w8 hown8 hg8 _; have HN8 := Lib.hid (HST.out _ _ hg8 hown8); clear hown hown8 hg8)
                  go_roundw
                  case rel => exact ⟨_, j + 1, rfl, HJ2.out, by rw [HNX.out], by rw [HC1.out, HCC.out]; exact HN8.out⟩
                  case measure => simp [intOf]; omega
                · have r1 : (-p.r + p.b + o == 0) = false := by simpa using (by omega : ¬ -p.r + p.b + o = 0)
                  have r2 : (p.r - p.b + o == 0) = false := by simpa using (r0)
                  clear m1 m2 hmm tb tn ech hcc r0 hb0
                  go_upto_region 15 with fail
                  have hown := (HI.out.keep (box1 wo (.cells #[.int .i64 (-p.r + p.b + o), .int .i64 (p.r - p.b + o)] 23))).own
                  have hst := fun w2 v' (hg : (((wo.alloc (.cells #[.int .i64 (-p.r + p.b + o), .int .i64 (p.r - p.b + o)] 23))).alloc (.cells #[.int .i64 (t + p.b), .int .i64 (-p.r + p.b + o), .int .i64 (p.r - p.b + o)] 66)).grownBy w2 vv.ownBlock) hw => HI.out.step (w2 := w2) (v' := v') (box1 wo (.cells #[.int .i64 (-p.r + p.b + o), .int .i64 (p.r - p.b + o)] 23)) hg hw
                  rw [hee] at hst
                  rw [HV.out] at hown hst
                  have HST := Lib.hid hst
                  clear hst hee
                  go_wp2_with (at_builtin; refine wpList_append_own _ rfl _ _ 42 rfl (w.heap.size + 1) 66 i0 (.agg #[.int .i64 0, .int .i64 0, .int .i64 0]) 3 24 Try.underlying42 hi0 hz0 hz1 hz2 rfl (by decide) _ c0 _ rfl (hown.alloc _) ⟨wo.heap.size + 1, 0, none⟩ 1 1 [.int .i64 (t + p.b), .int .i64 (-p.r + p.b + o), .int .i64 (p.r - p.b + o)] rfl rfl (by have h := new3 (wo.alloc (.cells #[.int .i64 (-p.r + p.b + o), .int .i64 (p.r - p.b + o)] 23)) (t + p.b) (-p.r + p.b + o) (p.r - p.b + o); rwa [World.size_alloc] at h) (by simp [Value.oneCell']) (by unfold maxLen; omega) (by omega) (by simp only [World.size_alloc]; omega) ?_; intro v8 w8 hown8 hg8 _; have HN8 := Lib.hid (HST.out _ _ hg8 hown8); clear hown hown8 hg8)
                  go_roundw
                  case rel => exact ⟨_, j + 1, rfl, HJ2.out, by rw [HNX.out], by rw [HC1.out, HCC.out]; exact HN8.out⟩
                  case measure => simp [intOf]; omega
              · exact absurd ⟨by omega, by omega⟩ hno
            · have d2 : (t == -p.b) = false := by simpa using tn
              have ech : chg p o t = (0, p.r - p.b + o) := by unfold chg; rw [if_neg tn, if_pos tb]
              rcases hin2 with ⟨m1, m2, hcc, hee⟩ | ⟨hno, hcc⟩
              · rw [ech] at hee
                have HCC := Lib.hid hcc
                have g3 : decide (0 ≤ p.r - p.b + o) = true := decide_eq_true (by omega)
                by_cases r0 : p.r - p.b + o = 0
                · have K := Lib.hid fun W => KG.out t true W ⟨fun _ => ⟨by omega, by omega⟩, fun _ => rfl⟩
                  have r2 : (p.r - p.b + o == 0) = true := by simpa using (r0)
                  clear m1 m2 hmm tb tn ech hcc r0
                  go_wp2_with fail
                  refine (K.out _).mono ?_
                  rintro e w' ⟨rfl, rfl⟩
                  go_upto_region 15 with fail
                  have hown := (HI.out.keep (box1 wo (.cells #[.int .i64 (0), .int .i64 (p.r - p.b + o)] 23))).own
                  have hst := fun w2 v' (hg : (((wo.alloc (.cells #[.int .i64 (0), .int .i64 (p.r - p.b + o)] 23))).alloc (.cells #[.int .i64 (t + p.b), .int .i64 (0), .int .i64 (p.r - p.b + o)] 66)).grownBy w2 vv.ownBlock) hw => HI.out.step (w2 := w2) (v' := v') (box1 wo (.cells #[.int .i64 (0), .int .i64 (p.r - p.b + o)] 23)) hg hw
                  rw [hee] at hst
                  rw [HV.out] at hown hst
                  have HST := Lib.hid hst
                  clear hst hee
                  go_wp2_with (at_builtin; refine wpList_append_own _ rfl _ _ 42 rfl (w.heap.size + 1) 66 i0 (.agg #[.int .i64 0, .int .i64 0, .int .i64 0]) 3 24 Try.underlying42 hi0 hz0 hz1 hz2 rfl (by decide) _ c0 _ rfl (hown.alloc _) ⟨wo.heap.size + 1, 0, none⟩ 1 1 [.int .i64 (t + p.b), .int .i64 (0), .int .i64 (p.r - p.b + o)] rfl rfl (by have h := new3 (wo.alloc (.cells #[.int .i64 (0), .int .i64 (p.r - p.b + o)] 23)) (t + p.b) (0) (p.r - p.b + o); rwa [World.size_alloc] at h) (by simp [Value.oneCell']) (by unfold maxLen; omega) (by omega) (by simp only [World.size_alloc]; omega) ?_; intro v8 w8 hown8 hg8 _; have HN8 := Lib.hid (HST.out _ _ hg8 hown8); clear hown hown8 hg8)
                  go_roundw
                  case rel => exact ⟨_, j + 1, rfl, HJ2.out, by rw [HNX.out], by rw [HC1.out, HCC.out]; exact HN8.out⟩
                  case measure => simp [intOf]; omega
                · have r2 : (p.r - p.b + o == 0) = false := by simpa using (r0)
                  clear m1 m2 hmm tb tn ech hcc r0
                  go_upto_region 15 with fail
                  have hown := (HI.out.keep (box1 wo (.cells #[.int .i64 (0), .int .i64 (p.r - p.b + o)] 23))).own
                  have hst := fun w2 v' (hg : (((wo.alloc (.cells #[.int .i64 (0), .int .i64 (p.r - p.b + o)] 23))).alloc (.cells #[.int .i64 (t + p.b), .int .i64 (0), .int .i64 (p.r - p.b + o)] 66)).grownBy w2 vv.ownBlock) hw => HI.out.step (w2 := w2) (v' := v') (box1 wo (.cells #[.int .i64 (0), .int .i64 (p.r - p.b + o)] 23)) hg hw
                  rw [hee] at hst
                  rw [HV.out] at hown hst
                  have HST := Lib.hid hst
                  clear hst hee
                  go_wp2_with (at_builtin; refine wpList_append_own _ rfl _ _ 42 rfl (w.heap.size + 1) 66 i0 (.agg #[.int .i64 0, .int .i64 0, .int .i64 0]) 3 24 Try.underlying42 hi0 hz0 hz1 hz2 rfl (by decide) _ c0 _ rfl (hown.alloc _) ⟨wo.heap.size + 1, 0, none⟩ 1 1 [.int .i64 (t + p.b), .int .i64 (0), .int .i64 (p.r - p.b + o)] rfl rfl (by have h := new3 (wo.alloc (.cells #[.int .i64 (0), .int .i64 (p.r - p.b + o)] 23)) (t + p.b) (0) (p.r - p.b + o); rwa [World.size_alloc] at h) (by simp [Value.oneCell']) (by unfold maxLen; omega) (by omega) (by simp only [World.size_alloc]; omega) ?_; intro v8 w8 hown8 hg8 _; have HN8 := Lib.hid (HST.out _ _ hg8 hown8); clear hown hown8 hg8)
                  go_roundw
                  case rel => exact ⟨_, j + 1, rfl, HJ2.out, by rw [HNX.out], by rw [HC1.out, HCC.out]; exact HN8.out⟩
                  case measure => simp [intOf]; omega
              · have HCC := Lib.hid hcc
                have g3 : decide (0 ≤ p.r - p.b + o) = false := decide_eq_false (by intro h; exact hno ⟨by omega, by omega⟩)
                clear hno hmm tb tn ech hcc
                go_wp2_with fail
                go_roundw
                case rel => exact ⟨_, j + 1, HV.out, HJ2.out, by rw [HNX.out], by rw [HC1.out, HCC.out]; exact HBX.out _ (box1 _ _)⟩
                case measure => simp [intOf]; omega
          · have d1 : (t == p.b) = false := by simpa using tb
            by_cases tn : t = -p.b
            · have d2 : (t == -p.b) = true := by simpa using tn
              have ech : chg p o t = (-p.r + p.b + o, 0) := by unfold chg; rw [if_pos tn, if_neg tb]
              rcases hin2 with ⟨m1, m2, hcc, hee⟩ | ⟨hno, hcc⟩
              · rw [ech] at hee
                have HCC := Lib.hid hcc
                have g2 : decide (-p.r + p.b + o ≤ 0) = true := decide_eq_true (by omega)
                by_cases r0 : -p.r + p.b + o = 0
                · have K := Lib.hid fun W => KG.out t true W ⟨fun _ => ⟨by omega, by omega⟩, fun _ => rfl⟩
                  have r1 : (-p.r + p.b + o == 0) = true := by simpa using (r0)
                  clear m1 m2 hmm tb tn ech hcc r0
                  go_wp2_with fail
                  refine (K.out _).mono ?_
                  rintro e w' ⟨rfl, rfl⟩
                  go_upto_region 15 with fail
                  have hown := (HI.out.keep (box1 wo (.cells #[.int .i64 (-p.r + p.b + o), .int .i64 (0)] 23))).own
                  have hst := fun w2 v' (hg : (((wo.alloc (.cells #[.int .i64 (-p.r + p.b + o), .int .i64 (0)] 23))).alloc (.cells #[.int .i64 (t + p.b), .int .i64 (-p.r + p.b + o), .int .i64 (0)] 66)).grownBy w2 vv.ownBlock) hw => HI.out.step (w2 := w2) (v' := v') (box1 wo (.cells #[.int .i64 (-p.r + p.b + o), .int .i64 (0)] 23)) hg hw
                  rw [hee] at hst
                  rw [HV.out] at hown hst
                  have HST := Lib.hid hst
                  clear hst hee
                  go_wp2_with (at_builtin; refine wpList_append_own _ rfl _ _ 42 rfl (w.heap.size + 1) 66 i0 (.agg #[.int .i64 0, .int .i64 0, .int .i64 0]) 3 24 Try.underlying42 hi0 hz0 hz1 hz2 rfl (by decide) _ c0 _ rfl (hown.alloc _) ⟨wo.heap.size + 1, 0, none⟩ 1 1 [.int .i64 (t + p.b), .int .i64 (-p.r + p.b + o), .int .i64 (0)] rfl rfl (by have h := new3 (wo.alloc (.cells #[.int .i64 (-p.r + p.b + o), .int .i64 (0)] 23)) (t + p.b) (-p.r + p.b + o) (0); rwa [World.size_alloc] at h) (by simp [Value.oneCell']) (by unfold maxLen; omega) (by omega) (by simp only [World.size_alloc]; omega) ?_; intro v8 w8 hown8 hg8 _; have HN8 := Lib.hid (HST.out _ _ hg8 hown8); clear hown hown8 hg8)
                  go_roundw
                  case rel => exact ⟨_, j + 1, rfl, HJ2.out, by rw [HNX.out], by rw [HC1.out, HCC.out]; exact HN8.out⟩
                  case measure => simp [intOf]; omega
                · have r1 : (-p.r + p.b + o == 0) = false := by simpa using (r0)
                  clear m1 m2 hmm tb tn ech hcc r0
                  go_upto_region 15 with fail
                  have hown := (HI.out.keep (box1 wo (.cells #[.int .i64 (-p.r + p.b + o), .int .i64 (0)] 23))).own
                  have hst := fun w2 v' (hg : (((wo.alloc (.cells #[.int .i64 (-p.r + p.b + o), .int .i64 (0)] 23))).alloc (.cells #[.int .i64 (t + p.b), .int .i64 (-p.r + p.b + o), .int .i64 (0)] 66)).grownBy w2 vv.ownBlock) hw => HI.out.step (w2 := w2) (v' := v') (box1 wo (.cells #[.int .i64 (-p.r + p.b + o), .int .i64 (0)] 23)) hg hw
                  rw [hee] at hst
                  rw [HV.out] at hown hst
                  have HST := Lib.hid hst
                  clear hst hee
                  go_wp2_with (at_builtin; refine wpList_append_own _ rfl _ _ 42 rfl (w.heap.size + 1) 66 i0 (.agg #[.int .i64 0, .int .i64 0, .int .i64 0]) 3 24 Try.underlying42 hi0 hz0 hz1 hz2 rfl (by decide) _ c0 _ rfl (hown.alloc _) ⟨wo.heap.size + 1, 0, none⟩ 1 1 [.int .i64 (t + p.b), .int .i64 (-p.r + p.b + o), .int .i64 (0)] rfl rfl (by have h := new3 (wo.alloc (.cells #[.int .i64 (-p.r + p.b + o), .int .i64 (0)] 23)) (t + p.b) (-p.r + p.b + o) (0); rwa [World.size_alloc] at h) (by simp [Value.oneCell']) (by unfold maxLen; omega) (by omega) (by simp only [World.size_alloc]; omega) ?_; intro v8 w8 hown8 hg8 _; have HN8 := Lib.hid (HST.out _ _ hg8 hown8); clear hown hown8 hg8)
                  go_roundw
                  case rel => exact ⟨_, j + 1, rfl, HJ2.out, by rw [HNX.out], by rw [HC1.out, HCC.out]; exact HN8.out⟩
                  case measure => simp [intOf]; omega
              · have HCC := Lib.hid hcc
                have g2 : decide (-p.r + p.b + o ≤ 0) = false := decide_eq_false (by intro h; exact hno ⟨by omega, by omega⟩)
                clear hno hmm tb tn ech hcc
                go_wp2_with fail
                go_roundw
                case rel => exact ⟨_, j + 1, HV.out, HJ2.out, by rw [HNX.out], by rw [HC1.out, HCC.out]; exact HBX.out _ (box1 _ _)⟩
                case measure => simp [intOf]; omega
            · have d2 : (t == -p.b) = false := by simpa using tn
              have ech : chg p o t = (0, 0) := by unfold chg; rw [if_neg tn, if_neg tb]
              rcases hin2 with ⟨m1, m2, hcc, hee⟩ | ⟨hno, hcc⟩
              · rw [ech] at hee
                have HCC := Lib.hid hcc
                have K := Lib.hid fun W => KG.out t true W ⟨fun _ => ⟨by omega, by omega⟩, fun _ => rfl⟩
                clear m1 m2 hmm tb tn ech hcc
                go_wp2_with fail
                refine (K.out _).mono ?_
                rintro e w' ⟨rfl, rfl⟩
                go_upto_region 15 with fail
                have hown := (HI.out.keep (box1 wo (.cells #[.int .i64 (0), .int .i64 (0)] 23))).own
                have hst := fun w2 v' (hg : (((wo.alloc (.cells #[.int .i64 (0), .int .i64 (0)] 23))).alloc (.cells #[.int .i64 (t + p.b), .int .i64 (0), .int .i64 (0)] 66)).grownBy w2 vv.ownBlock) hw => HI.out.step (w2 := w2) (v' := v') (box1 wo (.cells #[.int .i64 (0), .int .i64 (0)] 23)) hg hw
                rw [hee] at hst
                rw [HV.out] at hown hst
                have HST := Lib.hid hst
                clear hst hee
                go_wp2_with (at_builtin; refine wpList_append_own _ rfl _ _ 42 rfl (w.heap.size + 1) 66 i0 (.agg #[.int .i64 0, .int .i64 0, .int .i64 0]) 3 24 Try.underlying42 hi0 hz0 hz1 hz2 rfl (by decide) _ c0 _ rfl (hown.alloc _) ⟨wo.heap.size + 1, 0, none⟩ 1 1 [.int .i64 (t + p.b), .int .i64 (0), .int .i64 (0)] rfl rfl (by have h := new3 (wo.alloc (.cells #[.int .i64 (0), .int .i64 (0)] 23)) (t + p.b) (0) (0); rwa [World.size_alloc] at h) (by simp [Value.oneCell']) (by unfold maxLen; omega) (by omega) (by simp only [World.size_alloc]; omega) ?_; intro v8 w8 hown8 hg8 _; have HN8 := Lib.hid (HST.out _ _ hg8 hown8); clear hown hown8 hg8)
                go_roundw
                case rel => exact ⟨_, j + 1, rfl, HJ2.out, by rw [HNX.out], by rw [HC1.out, HCC.out]; exact HN8.out⟩
                case measure => simp [intOf]; omega
              · have K := Lib.hid fun W => KG.out t false W ⟨fun e => (by cases e), fun e => absurd ⟨by obtain ⟨u1, u2⟩ := e; omega, by obtain ⟨u1, u2⟩ := e; omega⟩ hno⟩
                have HCC := Lib.hid hcc
                clear hno hmm tb tn ech hcc
                go_wp2_with fail
                refine (K.out _).mono ?_
                rintro e w' ⟨rfl, rfl⟩
                go_wp2_with fail
                go_roundw
                case rel => exact ⟨_, j + 1, HV.out, HJ2.out, by rw [HNX.out], by rw [HC1.out, HCC.out]; exact HBX.out _ (box1 _ _)⟩
                case measure => simp [intOf]; omega
        · have hki : p.b < -p.b + (j : Int) := by omega
          have hjj : (j : Int) = 2 * p.b + 1 := by omega
          rw [HCA.out j hjj] at HI
          have hI := HI.out
          obtain ⟨A, c, hv, hr⟩ := row_eds hI.own (by omega)
          have HR := Lib.hid hr
          have HB := Lib.hid hI.below
          have hvv2 := HV.out
          rw [hv] at hvv2
          subst hvv2
          clear hI hr hv hlt hjj
          go_wp2_with fail
          go_ret2
          exact ⟨fun _ => ⟨_, _, rfl, HR.out, HB.out⟩, fun e => by simp at e⟩
end Go.Proofs.Ytkidhmajlpceeaa
