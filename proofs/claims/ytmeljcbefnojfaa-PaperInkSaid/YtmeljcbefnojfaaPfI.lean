/- The law PaperInk returns true for every paper, every list of points and every list of blots, and leaves its arguments as they were; no condition. -/
import Derived.Test.YtmeljcbefnojfaaTcm
import Derived.Test.YtmeljcbefnojfaaRng
import Derived.Test.YtmeljcbefnojfaaPlc
namespace Go.Proofs.Ytmeljcbefnojfaa
open Go.RowKit
theorem row0_rd {w w' : World} {v : Value} {l : List (Int × Int)} (h : Row0 w w' v l) : RdS v l w' := by
  rcases h with ⟨rfl, rfl⟩ | ⟨h0, g, cap, rfl, h1, h2, h3, h4, h5⟩
  · exact RdS.nil _
  · refine ⟨some ⟨g, 0, none⟩, cap, rfl, h3, h4, .inr h0, fun i s hs => ⟨g, 0, rfl, h2, ?_⟩⟩
    rw [Nat.zero_add]
    exact h5 i s hs
/-- what the specification's means returns: what Means does -/
theorem rmeans_any (p : Pap) (t : Pt) (c : Int) (L : List (Int × Int)) (h1 : p.Ok) (h2 : t.Ok) (hc : 0 ≤ c ∧ c ≤ p.cols - 1) (hL : HtsL p t c L) (W : World) : Calls Try.prog 100 #[p.v, t.v, .int .i64 c] W (RdPost W (meansOf p L)) := by
  have hhi : hHi p t ≤ p.height := by unfold hHi; omega
  have hlo := acr_le h1 h2
  have ex : ∃ K1 K2 K3 K4, Ends p t c K1 K2 K3 K4 ∧ L = two K1 (K2 - 1) K3 (K4 - 1) := by
    rcases hL with ⟨hh, rfl⟩ | ⟨hh, K1, K2, K3, K4, hE, rfl⟩
    · refine ⟨hLo p t, hLo p t, max (hLo p t) (midOf p + 1), max (hLo p t) (midOf p + 1), ⟨.inl ⟨by omega, rfl, rfl⟩, .inl ⟨by omega, rfl, rfl⟩⟩, ?_⟩
      unfold two
      rw [if_neg (by omega), if_neg (by omega)]
      rfl
    · exact ⟨K1, K2, K3, K4, hE, rfl⟩
  obtain ⟨K1, K2, K3, K4, hE, rfl⟩ := ex
  obtain ⟨g1, g2⟩ := fk_low hE.below
  obtain ⟨J1, J2, g3, g4, j1, j2⟩ := high_ex h1 hlo.1 hhi hE.above
  have hord : K1 ≤ K2 - 1 → K3 ≤ K4 - 1 → K2 - 1 < K3 := by
    intro f1 f2
    have e1 := (sc_below hE.below (K2 - 1)).1 ⟨f1, Int.le_refl _⟩
    have e2 := (sc_above hE.above K3).1 ⟨Int.le_refl _, f2⟩
    omega
  have hm := means_two h1 hord
  have hll : meansOf p (two K1 (K2 - 1) K3 (K4 - 1)) = if K1 ≤ K2 - 1 then (if p.height - (J2 - 1) ≤ p.height - J1 then joinL [(lev p K1, lev p (K2 - 1))] (lev p (p.height - (J2 - 1)), lev p (p.height - J1)) else [(lev p K1, lev p (K2 - 1))]) else (if p.height - (J2 - 1) ≤ p.height - J1 then [(lev p (p.height - (J2 - 1)), lev p (p.height - J1))] else []) := by
    rw [hm]
    by_cases f2 : K3 ≤ K4 - 1
    · obtain ⟨x1, x2⟩ := j1 f2
      rw [x1, x2]
      simp only [if_pos f2]
      by_cases f1 : K1 ≤ K2 - 1
      · have f3 := hord f1 f2
        rw [if_pos f1, if_pos f1, joinL_one (lev_mono h1 (by omega)) (lev_mono h1 (by omega)) (lev_mono h1 f2)]
      · rw [if_neg f1, if_neg f1]
    · have x := j2 f2
      simp only [if_neg f2, if_neg (show ¬ p.height - (J2 - 1) ≤ p.height - J1 by omega)]
  exact (rmeans_core p t c K1 K2 J1 J2 _ W h1 h2 hc g1 g2 g3 g4 hll).mono fun e w' ⟨v, he, hb, hr⟩ => ⟨v, he, hb, row0_rd hr⟩
/-- the columns of a point, as the specification tells them -/
def rLo (p : Pap) (t : Pt) : Int := if hLo p t ≤ p.height then cLo p t else 1
def rHi (p : Pap) (t : Pt) : Int := if hLo p t ≤ p.height then cHi p t else 0
theorem rcolumns_any (p : Pap) (t : Pt) (W : World) (h : p.Ok) (ht : t.Ok) : Calls Try.prog 87 #[p.v, t.v] W fun e w' => e = .returned (.agg #[.int .i64 (rLo p t), .int .i64 (rHi p t)]) ∧ Below W.heap.size W w' := by
  unfold rLo rHi
  by_cases hh : hLo p t ≤ p.height
  · rw [if_pos hh, if_pos hh]; exact rcolumns_some p t W h ht hh
  · rw [if_neg hh, if_neg hh]; exact rcolumns_none p t W h ht (by omega)
theorem rLo_iff {p : Pap} {t : Pt} {c : Int} : (rLo p t ≤ c ∧ c ≤ rHi p t) ↔ (ColSome p t ∧ cLo p t ≤ c ∧ c ≤ cHi p t) := by
  unfold rLo rHi ColSome
  by_cases hh : hLo p t ≤ p.height
  · rw [if_pos hh, if_pos hh]
    constructor
    · rintro ⟨a, b⟩; exact ⟨⟨hh, by omega⟩, a, b⟩
    · rintro ⟨_, a, b⟩; exact ⟨a, b⟩
  · rw [if_neg hh, if_neg hh]
    constructor
    · rintro ⟨a, b⟩; omega
    · rintro ⟨⟨a, _⟩, _⟩; omega
/-- what the specification's Ink returns: what package paper's does -/
theorem RInk_any (p : Pap) (A B : Option Addr) (n c m d : Nat) (Z : Nat → Pt) (ZB : Nat → Int) (E : Int) (w : World) (hn : n ≤ 400 ∨ 2000 < n) (hA : PtsIn A n Z w.heap.size w) (hB : IntsIn B m ZB w.heap.size w) (hE : inkR p n Z m ZB E) :
    Calls Try.prog 54 #[p.v, .slice A n c, .slice B m d] w (ShP p.cols.toNat (inkC p (blt ZB m) Z n) E w) := by
  rcases hE with ⟨h, rfl⟩ | ⟨h, hE⟩
  · exact RInk_e1 p A B n c m d _ _ w (Lib.hid fun W => rck_no p W h)
  · have K1 : Hid (∀ W, Calls Try.prog 28 #[p.v] W fun e w' => e = .returned (.int .i64 0) ∧ Below W.heap.size W w') := Lib.hid fun W => rck_ok p W h
    obtain ⟨j, hj⟩ := firstBad_ex Z n
    have K2 : Hid (∀ W, Below w.heap.size w W → Calls Try.prog 22 #[.slice A n c] W fun e w' => e = .returned (.tuple #[.int .i64 (ctE n j), .int .i64 (ctI n j)]) ∧ Below W.heap.size W w') := Lib.hid fun W hW => RCheckTrace_any A n c Z j W ((hA.up hW (Nat.le_refl _)).more hW.size) hj
    rcases hE with ⟨h2, rfl⟩ | ⟨h2, hE⟩
    · have e : ctE n j = 2 := by unfold ctE; rw [if_pos h2]
      have := RInk_e2 p A B n c m d p.cols.toNat (ctE n j) (ctI n j) (inkC p (blt ZB m) Z n) w K1 K2 (by rw [e]; decide)
      rw [e] at this
      exact this
    · rcases hE with ⟨h3, rfl⟩ | ⟨h3, hE⟩
      · have hjn : j < n := by
          rcases Nat.lt_or_ge j n with a | a
          · exact a
          · exact absurd (fun i hi => hj.1 i (by omega)) h3
        have e : ctE n j = 11 := by unfold ctE; rw [if_neg (by omega), if_pos hjn]
        have := RInk_e2 p A B n c m d p.cols.toNat (ctE n j) (ctI n j) (inkC p (blt ZB m) Z n) w K1 K2 (by rw [e]; decide)
        rw [e] at this
        exact this
      · have hjn : ¬ j < n := fun a => hj.2.1 a (h3 j a)
        have e1 : ctE n j = 0 := by unfold ctE; rw [if_neg (by omega), if_neg hjn]
        have e2 : ctI n j = 0 := by unfold ctI; rw [if_neg (by omega), if_neg hjn]
        rw [e1, e2] at K2
        have hc := h.cols
        have hN : ((p.cols.toNat : Nat) : Int) = p.cols := by omega
        rcases hE with ⟨h4, rfl⟩ | ⟨h4, hE⟩
        · have bad : ∃ jb, jb < m ∧ BlotsOk p.cols ZB jb ∧ ¬ (lastB ZB jb + 1 ≤ ZB jb ∧ ZB jb ≤ p.cols - 1) := by
            clear hB
            induction m with
            | zero => exact absurd (fun i hi => absurd hi (by omega)) h4
            | succ m ih =>
              by_cases hm : BlotsOk p.cols ZB m
              · by_cases hx : lastB ZB m + 1 ≤ ZB m ∧ ZB m ≤ p.cols - 1
                · exact absurd (fun i hi => (Nat.lt_succ_iff_lt_or_eq.1 hi).elim (hm i) (fun e => e ▸ hx)) h4
                · exact ⟨m, by omega, hm, hx⟩
              · obtain ⟨jb, a, b, c⟩ := ih hm
                exact ⟨jb, by omega, b, c⟩
          obtain ⟨jb, b1, b2, b3⟩ := bad
          exact RInk_e3 p A B n c m d p.cols.toNat ZB _ w hN (by omega) hB jb b1 b2 b3 K1 K2
        · refine RInk_ok p A B n c m d p.cols.toNat Z ZB E (inkC p (blt ZB m) Z) (fun i k => meansOf p (hts p (Z i) k)) (fun i => rLo p (Z i)) (fun i => rHi p (Z i)) w hN (by omega) (by omega) hA hB h4 K1 K2
            (Lib.hid fun i hi W => rcolumns_any p (Z i) W h (h3 i hi))
            (Lib.hid fun i hi => ?_)
            (Lib.hid fun i k hi hk W => rmeans_any p (Z i) k _ h (h3 i hi) ⟨by omega, by omega⟩ (hts_is h (h3 i hi) k) W)
            (Lib.hid fun i k hi hk => ⟨(means_okl h (h3 i hi) (hts_is h (h3 i hi) k)).2, (means_okl h (h3 i hi) (hts_is h (h3 i hi) k)).1⟩)
            (Lib.hid fun c => rfl) (Lib.hid fun i c hi => ?_) (Lib.hid fun i c hi => ⟨inkC_srt h i (fun q hq => h3 q (by omega)) c, inkC_len h i (fun q hq => h3 q (by omega)) c, inkC_rng h (fun q hq => h3 q (by omega)) c⟩) hE
          · unfold rLo rHi
            by_cases hh : hLo p (Z i) ≤ p.height
            · rw [if_pos hh, if_pos hh]
              unfold cLo cHi colLo colHi
              exact ⟨by omega, by omega⟩
            · rw [if_neg hh, if_neg hh]
              exact ⟨by omega, by omega⟩
          · have hL := hts_is h (h3 i hi) c
            have e : putAll (inkC p (blt ZB m) Z i c) (meansOf p (hts p (Z i) c)) = putAll (inkC p (blt ZB m) Z i c) (levH p (hts p (Z i) c)) :=
              putAll_means (means_levH h (h3 i hi) hL) (fun q hq => ((means_okl h (h3 i hi) hL).1 q hq).1) (fun q hq => ((levH_okl h (h3 i hi) hL).1 q hq).1) (inkC_srt h i (fun q hq => h3 q (by omega)) c)
            have e2 : (rLo p (Z i) ≤ (c : Int) ∧ (c : Int) ≤ rHi p (Z i) ∧ blt ZB m c = false) ↔ (ColSome p (Z i) ∧ cLo p (Z i) ≤ c ∧ (c : Int) ≤ cHi p (Z i) ∧ blt ZB m c = false) := by
              rw [← and_assoc, rLo_iff]
              constructor
              · rintro ⟨⟨a, b, d⟩, f⟩; exact ⟨a, b, d, f⟩
              · rintro ⟨a, b, d, f⟩; exact ⟨⟨a, b, d⟩, f⟩
            rw [e]
            by_cases hs : ColSome p (Z i)
            · have e3 : inkC p (blt ZB m) Z (i + 1) = trcL p (hts p (Z i)) (blt ZB m) (inkC p (blt ZB m) Z i) (cLo p (Z i)) (cHi p (Z i)) := by rw [inkC, if_pos hs]
              rw [e3]
              unfold trcL
              by_cases hx : cLo p (Z i) ≤ (c : Int) ∧ (c : Int) ≤ cHi p (Z i) ∧ blt ZB m c = false
              · rw [if_pos hx, if_pos (e2.2 ⟨hs, hx⟩)]
              · rw [if_neg hx, if_neg (fun g => hx (e2.1 g).2)]
            · have e3 : inkC p (blt ZB m) Z (i + 1) = inkC p (blt ZB m) Z i := by rw [inkC, if_neg hs]
              rw [e3, if_neg (fun g => hs (e2.1 g).1)]
/-- few points, or too many -/
def FewB (n : Nat) (w : World) (e : Ending) (w' : World) : Prop := ∃ b, e = .returned (.bool b) ∧ (b = true → n ≤ 400 ∨ 2000 < n) ∧ Below w.heap.size w w'
theorem fewB_mk {n : Nat} {w : World} {b : Bool} (h : b = true → n ≤ 400 ∨ 2000 < n) : FewB n w (.returned (.bool b)) w := ⟨b, rfl, h, Below.refl _ _⟩
set_option maxHeartbeats 400000 in
theorem few_sp (A B : Option Addr) (n c m d : Nat) (w : World) (hn : (n : Int) ≤ 9223372036854775807) (_hm : (m : Int) ≤ 9223372036854775807) :
    Calls Try.prog 19 #[.slice A n c, .slice B m d] w (FewB n w) := by
  go_enter Try.func19, Try.ntmps19
  go_wp2_with fail
  all_goals (go_ret; refine fewB_mk fun h => ?_; first | omega | (simp at h; done) | (simp at h; omega))
end Go.Proofs.Ytmeljcbefnojfaa
namespace Go.Proofs.Ytmeljcbefnojfaa
open Go.ChangeShapes Go.WideShapes Go.ChangeAt Go.RowKit
attribute [local go_sem] Oper.semAt_some
set_option maxRecDepth 100000 in
set_option maxHeartbeats 4000000 in
theorem ink_core (p : Pap) (A B : Option Addr) (n c m d N : Nat) (E : Int) (L : Nat → List (Int × Int)) (w : World)
    (KF : Hid (∀ W, Calls Try.prog 19 #[.slice A n c, .slice B m d] W (FewB n W)))
    (K1 : Hid ((n ≤ 400 ∨ 2000 < n) → ∀ W, Below w.heap.size w W → Calls Try.prog 53 #[p.v, .slice A n c, .slice B m d] W (ShM N L E W)))
    (K2 : Hid ((n ≤ 400 ∨ 2000 < n) → ∀ W, Below w.heap.size w W → Calls Try.prog 54 #[p.v, .slice A n c, .slice B m d] W (ShP N L E W))) :
    Calls Try.prog 7 #[p.v, .slice A n c, .slice B m d] w fun e w' => e = .returned (.bool true) ∧ Below w.heap.size w w' := by
  go_enter Try.func7, Try.ntmps7
  go_wp2_with fail
  refine (awake_any _).mono ?_
  rintro e w1 ⟨rfl, hb1⟩
  have C1 : Below w.heap.size w w1 := (box1 w _).trans (hb1.mono (by simp only [World.size_alloc]; omega))
  have P1 : HasPap p w.heap.size w1 := HasPap.up (by unfold HasPap; go_simp) hb1 (by simp only [World.size_alloc]; omega)
  clear hb1
  go_wp2_with fail
  refine (KF.out _).mono ?_
  rintro e w2 ⟨b, rfl, hbf, hb2⟩
  have C2 : Below w.heap.size w w2 := C1.trans (hb2.mono C1.size)
  have HBF := Lib.hid hbf
  have P2 := Lib.hid (P1.up hb2 P1.block)
  clear hb2 C1 hbf P1
  cases b with
  | false =>
    go_wp2_with fail
    go_ret
    exact ⟨rfl, C2⟩
  | true =>
    have hn := HBF.out rfl
    have K1 := Lib.hid (K1.out hn)
    have K2 := Lib.hid (K2.out hn)
    clear HBF hn
    have hP2 := P2.out
    have zp2 : w.heap.size < w2.heap.size := hP2.block
    unfold HasPap at hP2
    obtain ⟨p0, p1, p2, p3, p4, p5, p6, p7, p8, p9⟩ := hP2
    go_wp2_with fail
    refine (K1.out _ C2).mono ?_
    rintro e w3 ⟨A1, k1, c1, rfl, hb3, H1⟩
    have C3 : Below w.heap.size w w3 := C2.trans (hb3.mono C2.size)
    have HC3 := Lib.hid C3
    have P3 := Lib.hid (P2.out.up hb3 P2.out.block)
    clear hb3 C2 C3 p0 p1 p2 p3 p4 p5 p6 p7 p8 p9 zp2 P2
    have hP3 := P3.out
    have zp3 : w.heap.size < w3.heap.size := hP3.block
    unfold HasPap at hP3
    obtain ⟨p0, p1, p2, p3, p4, p5, p6, p7, p8, p9⟩ := hP3
    go_wp2_with fail
    refine (K2.out _ (HC3.out.alloc HC3.out.size _)).mono ?_
    rintro e w4 ⟨A2, k2, c2, rfl, hb4, H2⟩
    have hx4 := low_cell (b := w3.heap.size) (o := 0) (v := .slice A1 k1 c1) hb4 (by simp only [World.size_alloc]; omega) (by go_simp)
    have zx4 : w3.heap.size < w4.heap.size := World.block_lt_of_cell? _ _ hx4
    have D4 : Below w3.heap.size w3 w4 := (box1 w3 _).trans (hb4.mono (box1 w3 _).size)
    have HC4 := Lib.hid (HC3.out.trans (D4.mono HC3.out.size))
    have KS : Hid (∀ W, Below w4.heap.size w4 W → Calls Try.prog 55 #[.slice A1 k1 c1, .slice A2 k2 c2] W fun e w' => e = .returned (.bool true) ∧ Below W.heap.size W w') := Lib.hid fun W hW =>
      shq_same ((H1.out.shq.up D4).up hW) (H2.out.up hW) fun _ _ _ => rfl
    clear hb4 D4 H1 H2 K1 K2 p0 p1 p2 p3 p4 p5 p6 p7 p8 p9 zp3 P3
    go_wp2_with fail
    refine (KS.out _ (box1 _ _)).mono ?_
    rintro e w6 ⟨rfl, hb6⟩
    have hB6 := HC4.out.trans (((box1 w4 _).trans (hb6.mono (box1 w4 _).size)).mono HC4.out.size)
    clear hb6
    go_wp2_with fail
    go_ret
    exact ⟨rfl, hB6⟩
theorem ink_law (p : Pap) (A : Option Addr) (n c : Nat) (Z : Nat → Pt) (B : Option Addr) (m d : Nat) (ZB : Nat → Int) (w : World) (ha : PtsIn A n Z w.heap.size w) (hb : IntsIn B m ZB w.heap.size w) :
    Calls Try.prog 7 #[p.v, .slice A n c, .slice B m d] w fun e w' => e = .returned (.bool true) ∧ Below w.heap.size w w' := by
  obtain ⟨E, hE⟩ := inkR_ex p n Z m ZB
  exact ink_core p A B n c m d p.cols.toNat E (inkC p (blt ZB m) Z n) w
    (Lib.hid fun W => few_sp A B n c m d W ha.1 hb.1)
    (Lib.hid fun hn W hW => Ink_any p A B n c m d Z ZB E W hn ((ha.up hW (Nat.le_refl _)).more hW.size) ((hb.up hW (Nat.le_refl _)).more hW.size) hE)
    (Lib.hid fun hn W hW => RInk_any p A B n c m d Z ZB E W hn ((ha.up hW (Nat.le_refl _)).more hW.size) ((hb.up hW (Nat.le_refl _)).more hW.size) hE)
theorem inks.own : ownKnob Try.prog.godebug = none := by kernel_rfl
set_option maxRecDepth 100000 in
set_option maxHeartbeats 1000000 in
theorem inks_lifted (os : Os) (started : os.Started) (H : Type) (enc : TypeId × Value → H) :
    ReturnsInHanded {} Try.checked os 7 .any (Rows.paperInkSpec.pre6 enc Try.prog Try.f7 Rows.paperInkRow.domain false) (Rows.paperInkSpec.post enc Try.prog Try.f7 false true false false) := by
  refine returnsInHanded_of_change (C := Try.checked) inks.own started (by kernel_rfl) Try.func7
    (ChangeSpec.witness6 (enc := enc) (C := Try.checked) false ⟨#[], #[.agg #[.int .i64 0, .int .i64 0, .int .i64 0, .int .i64 0, .int .i64 0, .int .i64 0, .int .i64 0, .int .i64 0, .int .i64 0, .int .i64 0], .slice none 0 0, .slice none 0 0], []⟩ 8 (by kernel_rfl) (by kernel_rfl) (by kernel_rfl) (by kernel_rfl)) ?_
  intro W base args ds gs before hval0 hW hcnd _
  have hval : ∀ (j : Nat) t v, Try.f7.params[j]? = some t → args[j]? = some v → Value.okWide Try.prog W .any base t v := hval0
  have hW' := hW
  obtain ⟨p, q, hA0, hV, rfl, hfz, hnd⟩ := hW
  have hA : DataW.TrodAll enc Try.prog W 0 (fun _ => true) true Try.f7.params.toList args.toList ds p := hA0
  rw [Try.params7] at hA hval
  obtain ⟨v0, v1, v2, d0, d1, d2, p0, p1, p2, rfl, rfl, rfl, h0, h1, h2⟩ := trodAll_three hA
  obtain ⟨rfl, rfl⟩ := trodVars_none hV
  have hlt := fun x hx => hW'.lt x hx
  simp only [List.append_nil, List.mem_append] at hlt
  have k0 := h0
  have k1 := h1
  have k2 := h2
  obtain ⟨a, rfl, _, _, _⟩ := open_paper (hval 0 25 v0 rfl rfl) h0
  obtain ⟨bA, bn, bc, bP, rfl, bh⟩ := open_trace (hval 1 26 v1 rfl rfl) h1
  obtain ⟨cA, cn, cc, cP, rfl, ch⟩ := open_intl (hval 2 36 v2 rfl rfl) h2
  clear hA0 hval0
  simp only [List.append_nil] at hW'
  refine (ink_law a bA bn bc bP cA cn cc cP W bh ch).mono fun e W' ⟨he, hw⟩ => ?_
  subst he
  exact ⟨_, rfl, [d0, d1, d2], [], _, [], p0 ++ (p1 ++ (p2)), [], hW', trodAll_mk1 (shut_bool Try.underlying4 true), trodAll_mk3 (Below.trod Try.laidOut (by kernel_rfl) (of_decide_eq_true (by kernel_rfl)) k0 hw (fun x hx => hlt x (by simp [hx]))) (Below.trod Try.laidOut (by kernel_rfl) (of_decide_eq_true (by kernel_rfl)) k1 hw (fun x hx => hlt x (by simp [hx]))) (Below.trod Try.laidOut (by kernel_rfl) (of_decide_eq_true (by kernel_rfl)) k2 hw (fun x hx => hlt x (by simp [hx]))), rfl, hw.frame _, fun h => by cases h⟩
theorem inks_holds : Rows.PaperInkSaid :=
  OpenClaim.holds_of_wide 7 Try.f7 rfl rfl rfl rfl rfl rfl rfl ⟨rfl, rfl, rfl, rfl, rfl⟩ rfl rfl rfl rfl rfl (by kernel_rfl) Try.func7 (by kernel_rfl)
    (of_decide_eq_true (by kernel_rfl)) (by unfold Func.isWrapper; first | (rw [if_pos (by decide +kernel)]; kernel_rfl) | (rw [if_neg (by decide +kernel)]; exact ⟨rfl, rfl⟩))
    (fun os started H enc _ => inks_lifted os started H enc)
end Go.Proofs.Ytmeljcbefnojfaa
