/- ClocksStops' law. -/
import Derived.Test.YtpikaohodieeaaaWin
namespace Go.Proofs.Ytpikaohodieeaaa
open Go.RowKit
set_option linter.unusedSimpArgs false
set_option linter.unusedVariables false
def BeL (w0 w : World) : Prop := Below w0.heap.size w0 w
theorem BeL.up {w0 w w' : World} (h : BeL w0 w) (hb : Below w.heap.size w w') : BeL w0 w' := nextB h hb
theorem gap_wnd (d : Drm) (p : Int × Int × Int) (RA : Option Addr) (rc : Nat) (SA : Option Addr) (sc : Nat) (i : Nat) : gapF (wnd d p RA rc SA sc) i = if p.1 = i then addS (gapF d i) p.2 else gapF d i := by
  have h : ∀ k, k ≤ d.m → gapK (wnd d p RA rc SA sc) k i = gapK d k i := by
    intro k
    induction k with
    | zero => intro _; rfl
    | succ k ih =>
      intro hk
      have e : (wnd d p RA rc SA sc).S k = d.S k := by show catF d.m d.S (fun _ => p) k = d.S k; unfold catF; rw [if_pos (by omega)]
      show (if ((wnd d p RA rc SA sc).S k).1 = i then addS (gapK (wnd d p RA rc SA sc) k i) ((wnd d p RA rc SA sc).S k).2 else gapK (wnd d p RA rc SA sc) k i) = _
      rw [e, ih (by omega)]
      rfl
  have e : (wnd d p RA rc SA sc).S d.m = p := by show catF d.m d.S (fun _ => p) d.m = p; unfold catF; rw [if_neg (by omega)]
  show (if ((wnd d p RA rc SA sc).S d.m).1 = i then addS (gapK (wnd d p RA rc SA sc) d.m i) ((wnd d p RA rc SA sc).S d.m).2 else gapK (wnd d p RA rc SA sc) d.m i) = _
  rw [e, h d.m (Nat.le_refl _)]
theorem lastP_anti {Z Y : Nat → Int} {x : Int} : ∀ n : Nat, (∀ i, i < n → Z i ≤ Y i) → lastP Y x n ≤ lastP Z x n ∧ lastP Y x n < n
  | 0, _ => by simp [lastP]
  | n + 1, h => by
    obtain ⟨h1, h2⟩ := lastP_anti (x := x) n (fun i hi => h i (by omega))
    have h3 := h n (by omega)
    unfold lastP
    split
    · rw [if_pos (by omega)]; omega
    · split <;> omega
/-- a reading stays one with a further stop of none to some ticks -/
theorem rdg_wnd {d : Drm} {m : Nat} {F : Nat → Int × Int × Int} {T : Nat → Int} {col most : Int} {RA : Option Addr} {rc : Nat} {SA : Option Addr} {sc : Nat} (hm : 0 ≤ most) (h : Rdg d.n (gapF d) m F T) : Rdg (wnd d (col, 0, most) RA rc SA sc).n (gapF (wnd d (col, 0, most) RA rc SA sc)) m F T :=
  ⟨h.tick, fun i hi => by
    have := h.gap i hi
    rw [gap_wnd]
    unfold hasP at *
    split
    · simp only [addS]; omega
    · exact this, h.mark⟩
/-- what Stops asks of two clocks of which the second one has all readings of the first one -/
theorem stops_math {d d' : Drm} {m : Nat} {F : Nat → Int × Int × Int} {S S' : Nat → Int × Int} (hn : d'.n = d.n) (hd : DrOk d) (hd' : DrOk d') (hk : MksOk d m F) (hk' : MksOk d' m F) (h : ∀ T, Rdg d.n (gapF d) m F T → Rdg d'.n (gapF d') m F T) (he : Ends d.n (Rdg d.n (gapF d) m F) S) (he' : Ends d'.n (Rdg d'.n (gapF d') m F) S') :
    (∀ a b, a ≤ d.n → b ≤ d.n → (apS (gapF d') S' a b).1 ≤ (apS (gapF d) S a b).1 ∧ (apS (gapF d) S a b).2 ≤ (apS (gapF d') S' a b).2) ∧
    (∀ x, lastP (fun i => (S' i).2) x (d'.n + 1) ≤ lastP (fun i => (S i).2) x (d.n + 1) ∧ lastP (fun i => (S i).1) x (d.n + 1) ≤ lastP (fun i => (S' i).1) x (d'.n + 1)) := by
  have g := gpOk hd
  have g' := gpOk hd'
  refine ⟨fun a b ha hb => ?_, fun x => ?_⟩
  · have e1 := fun y => he.diff (fun i hi => (g.2.2 i hi).2.1) (mkOk_of hk) ha hb y
    have e2 := fun y => he'.diff (fun i hi => (g'.2.2 i hi).2.1) (mkOk_of hk') (a := a) (b := b) (by omega) (by omega) y
    have hne := apS_ne he ha hb
    obtain ⟨T, hT, k1⟩ := (e1 _).2 ⟨Int.le_refl _, hne⟩
    obtain ⟨U, hU, k2⟩ := (e1 _).2 ⟨hne, Int.le_refl _⟩
    have p1 := (e2 _).1 ⟨T, h T hT, k1⟩
    have p2 := (e2 _).1 ⟨U, h U hU, k2⟩
    exact ⟨p1.1, p2.2⟩
  · rw [hn]
    exact ⟨(lastP_anti (d.n + 1) fun i hi => (he'.all _ (h _ he.hi) i (by omega)).2).1, (lastP_anti (d.n + 1) fun i hi => (he'.all _ (h _ he.lo) i (by omega)).1).1⟩
set_option maxRecDepth 100000 in
set_option maxHeartbeats 40000000 in
theorem stops_law (c : Clo) (x : Aks) (col most : Int) (w : World) (hc : ClIn c w.heap.size w) (hx : AkIn x w.heap.size w) :
    Calls Try.prog 17 #[c.v, x.v, .int .i64 col, .int .i64 most] w fun e w' => e = .returned (.bool true) ∧ Below w.heap.size w w' := by
  have CC : Hid (∀ W, Below w.heap.size w W → ClIn c W.heap.size W) := Lib.hid fun W h => (hc.up h (Nat.le_refl _)).more h.size
  have AA : Hid (∀ W, Below w.heap.size w W → AkIn x W.heap.size W) := Lib.hid fun W h => (hx.up h (Nat.le_refl _)).more h.size
  obtain ⟨G, hG⟩ := few_ex c
  have HG := Lib.hid hG
  clear hc hG hx
  go_enter Try.func17, Try.ntmps17
  go_wp2_with fail
  refine (awake_any _).mono ?_
  rintro e w2 ⟨rfl, hb⟩
  have D := Lib.hid (nextB (w2b_below c x w) hb)
  have C : Hid (HasCl c w.heap.size w2) := Lib.hid ((w2b_cl c x w).up hb)
  have X : Hid (HasAk x (w.heap.size + 1) w2) := Lib.hid ((w2b_ak c x w).up hb)
  clear hb
  obtain ⟨c0, c1, c2⟩ := C.out
  have zC := C.out.lt
  have x0 : w2.cell? ⟨w.heap.size + 1, 0, none⟩ = some (.int .i64 x.A) := X.out.c 0 _ rfl
  have x1 : w2.cell? ⟨w.heap.size + 1, 1, none⟩ = some (.int .i64 x.B) := X.out.c 1 _ rfl
  have x2 : w2.cell? ⟨w.heap.size + 1, 2, none⟩ = some (.int .i64 x.t) := X.out.c 2 _ rfl
  have x3 : w2.cell? ⟨w.heap.size + 1, 3, none⟩ = some (.slice x.A1 x.n1 x.c1) := X.out.c 3 _ rfl
  have x4 : w2.cell? ⟨w.heap.size + 1, 4, none⟩ = some (.slice x.A2 x.n2 x.c2) := X.out.c 4 _ rfl
  have x5 : w2.cell? ⟨w.heap.size + 1, 5, none⟩ = some (.slice x.A3 x.n3 x.c3) := X.out.c 5 _ rfl
  have x6 : w2.cell? ⟨w.heap.size + 1, 6, none⟩ = some (.int .i64 x.f.1) := X.out.c 6 _ rfl
  have x7 : w2.cell? ⟨w.heap.size + 1, 7, none⟩ = some (.int .i64 x.f.2.1) := X.out.c 7 _ rfl
  have x8 : w2.cell? ⟨w.heap.size + 1, 8, none⟩ = some (.int .i64 x.f.2.2) := X.out.c 8 _ rfl
  have x9 : w2.cell? ⟨w.heap.size + 1, 9, none⟩ = some (.int .i64 x.s.1) := X.out.c 9 _ rfl
  have x10 : w2.cell? ⟨w.heap.size + 1, 10, none⟩ = some (.int .i64 x.s.2.1) := X.out.c 10 _ rfl
  have x11 : w2.cell? ⟨w.heap.size + 1, 11, none⟩ = some (.int .i64 x.s.2.2) := X.out.c 11 _ rfl
  have x12 : w2.cell? ⟨w.heap.size + 1, 12, none⟩ = some (.int .i64 x.p.1) := X.out.c 12 _ rfl
  have x13 : w2.cell? ⟨w.heap.size + 1, 13, none⟩ = some (.int .i64 x.p.2.1) := X.out.c 13 _ rfl
  have x14 : w2.cell? ⟨w.heap.size + 1, 14, none⟩ = some (.int .i64 x.p.2.2) := X.out.c 14 _ rfl
  have zX := X.out.lt
  go_wp2_with fail
  refine (few_any c G _ HG.out).mono ?_
  rintro e w3 ⟨rfl, hb⟩
  have J := Lib.hid (hb)
  have D := Lib.hid (nextB D.out J.out)
  clear c0 c1 c2 zC x0 x1 x2 x3 x4 x5 x6 x7 x8 x9 x10 x11 x12 x13 x14 zX
  have C := Lib.hid (C.out.up J.out)
  have X := Lib.hid (X.out.up J.out)
  clear hb
  obtain ⟨c0, c1, c2⟩ := C.out
  have zC := C.out.lt
  have x0 : w3.cell? ⟨w.heap.size + 1, 0, none⟩ = some (.int .i64 x.A) := X.out.c 0 _ rfl
  have x1 : w3.cell? ⟨w.heap.size + 1, 1, none⟩ = some (.int .i64 x.B) := X.out.c 1 _ rfl
  have x2 : w3.cell? ⟨w.heap.size + 1, 2, none⟩ = some (.int .i64 x.t) := X.out.c 2 _ rfl
  have x3 : w3.cell? ⟨w.heap.size + 1, 3, none⟩ = some (.slice x.A1 x.n1 x.c1) := X.out.c 3 _ rfl
  have x4 : w3.cell? ⟨w.heap.size + 1, 4, none⟩ = some (.slice x.A2 x.n2 x.c2) := X.out.c 4 _ rfl
  have x5 : w3.cell? ⟨w.heap.size + 1, 5, none⟩ = some (.slice x.A3 x.n3 x.c3) := X.out.c 5 _ rfl
  have x6 : w3.cell? ⟨w.heap.size + 1, 6, none⟩ = some (.int .i64 x.f.1) := X.out.c 6 _ rfl
  have x7 : w3.cell? ⟨w.heap.size + 1, 7, none⟩ = some (.int .i64 x.f.2.1) := X.out.c 7 _ rfl
  have x8 : w3.cell? ⟨w.heap.size + 1, 8, none⟩ = some (.int .i64 x.f.2.2) := X.out.c 8 _ rfl
  have x9 : w3.cell? ⟨w.heap.size + 1, 9, none⟩ = some (.int .i64 x.s.1) := X.out.c 9 _ rfl
  have x10 : w3.cell? ⟨w.heap.size + 1, 10, none⟩ = some (.int .i64 x.s.2.1) := X.out.c 10 _ rfl
  have x11 : w3.cell? ⟨w.heap.size + 1, 11, none⟩ = some (.int .i64 x.s.2.2) := X.out.c 11 _ rfl
  have x12 : w3.cell? ⟨w.heap.size + 1, 12, none⟩ = some (.int .i64 x.p.1) := X.out.c 12 _ rfl
  have x13 : w3.cell? ⟨w.heap.size + 1, 13, none⟩ = some (.int .i64 x.p.2.1) := X.out.c 13 _ rfl
  have x14 : w3.cell? ⟨w.heap.size + 1, 14, none⟩ = some (.int .i64 x.p.2.2) := X.out.c 14 _ rfl
  have zX := X.out.lt
  cases G with
  | false =>
    go_wp2_with fail
    go_ret
    exact ⟨rfl, D.out⟩
  | true =>
    clear HG
    obtain ⟨L, hL⟩ := bool_of (Light x)
    go_wp2_with fail
    refine (light_any x L _ hL).mono ?_
    rintro e w4 ⟨rfl, hb⟩
    have J := Lib.hid (hb)
    have D := Lib.hid (nextB D.out J.out)
    clear c0 c1 c2 zC x0 x1 x2 x3 x4 x5 x6 x7 x8 x9 x10 x11 x12 x13 x14 zX
    have C := Lib.hid (C.out.up J.out)
    have X := Lib.hid (X.out.up J.out)
    clear hb
    obtain ⟨c0, c1, c2⟩ := C.out
    have zC := C.out.lt
    have x0 : w4.cell? ⟨w.heap.size + 1, 0, none⟩ = some (.int .i64 x.A) := X.out.c 0 _ rfl
    have x1 : w4.cell? ⟨w.heap.size + 1, 1, none⟩ = some (.int .i64 x.B) := X.out.c 1 _ rfl
    have x2 : w4.cell? ⟨w.heap.size + 1, 2, none⟩ = some (.int .i64 x.t) := X.out.c 2 _ rfl
    have x3 : w4.cell? ⟨w.heap.size + 1, 3, none⟩ = some (.slice x.A1 x.n1 x.c1) := X.out.c 3 _ rfl
    have zX := X.out.lt
    clear hL
    cases L with
    | false =>
      go_wp2_with fail
      go_ret
      exact ⟨rfl, D.out⟩
    | true =>
      obtain ⟨Ew, hEw⟩ := wnR_ex c.d (col, 0, most)
      have HEW := Lib.hid hEw
      have KW := Lib.hid fun W h => Wind_any c.d (col, 0, most) Ew W (CC.out W h).1 hEw
      clear hEw
      go_wp2_with fail
      refine (KW.out _ D.out).mono ?_
      rintro e w5 ⟨hb, ⟨hne, rfl⟩ | ⟨rfl, RA, rc, SA, sc, rfl, hdr⟩⟩
      · have hn1 : (Ew != 0) = true := by simpa using hne
        clear hne
        have J := Lib.hid hb
        have D := Lib.hid (nextB D.out J.out)
        clear c0 c1 c2 zC x0 x1 x2 x3 zX
        have C := Lib.hid (C.out.up J.out)
        have X := Lib.hid (X.out.up J.out)
        clear hb
        obtain ⟨c0, c1, c2⟩ := C.out
        have zC := C.out.lt
        have x0 : w5.cell? ⟨w.heap.size + 1, 0, none⟩ = some (.int .i64 x.A) := X.out.c 0 _ rfl
        have x1 : w5.cell? ⟨w.heap.size + 1, 1, none⟩ = some (.int .i64 x.B) := X.out.c 1 _ rfl
        have x2 : w5.cell? ⟨w.heap.size + 1, 2, none⟩ = some (.int .i64 x.t) := X.out.c 2 _ rfl
        have x3 : w5.cell? ⟨w.heap.size + 1, 3, none⟩ = some (.slice x.A1 x.n1 x.c1) := X.out.c 3 _ rfl
        have zX := X.out.lt
        go_wp2_with fail
        go_ret
        exact ⟨rfl, (nextB D.out (box1 w5 _))⟩
      · have J := Lib.hid hb
        have D := Lib.hid (nextB D.out J.out)
        clear c0 c1 c2 zC x0 x1 x2 x3 zX
        have C := Lib.hid (C.out.up J.out)
        have X := Lib.hid (X.out.up J.out)
        clear hb
        obtain ⟨c0, c1, c2⟩ := C.out
        have zC := C.out.lt
        have x0 : w5.cell? ⟨w.heap.size + 1, 0, none⟩ = some (.int .i64 x.A) := X.out.c 0 _ rfl
        have x1 : w5.cell? ⟨w.heap.size + 1, 1, none⟩ = some (.int .i64 x.B) := X.out.c 1 _ rfl
        have x2 : w5.cell? ⟨w.heap.size + 1, 2, none⟩ = some (.int .i64 x.t) := X.out.c 2 _ rfl
        have x3 : w5.cell? ⟨w.heap.size + 1, 3, none⟩ = some (.slice x.A1 x.n1 x.c1) := X.out.c 3 _ rfl
        have zX := X.out.lt
        obtain ⟨hd, h16, hwok⟩ : DrOk c.d ∧ ¬ c.d.m = 16 ∧ WOk c.d (col, 0, most) := by
          rcases HEW.out with ⟨h, _⟩ | ⟨h, _⟩ | ⟨h, _⟩ | ⟨_, h⟩
          · omega
          · omega
          · omega
          · exact h
        obtain ⟨d', hd'e⟩ : ∃ d' : Drm, d' = wnd c.d (col, 0, most) RA rc SA sc := ⟨_, rfl⟩
        have hok' : DrOk d' := by rw [hd'e]; exact (wok_iff _ _ _ _ _ _).2 hwok
        have hn' : d'.n = c.d.n := by rw [hd'e]
        have hmost : 0 ≤ most := by
          have h := hwok.stops c.d.m (by show c.d.m < c.d.m + 1; omega)
          unfold stopOk isS at h
          have e : (wnd c.d (col, 0, most) none 0 none 0).S c.d.m = (col, 0, most) := by show catF c.d.m c.d.S (fun _ => (col, 0, most)) c.d.m = _; unfold catF; rw [if_neg (by omega)]
          rw [e] at h
          simp only at h
          omega
        have hsub : ∀ T, Rdg c.d.n (gapF c.d) c.m c.F T → Rdg d'.n (gapF d') c.m c.F T := fun T hT => by rw [hd'e]; exact rdg_wnd hmost hT
        have hkk : MksOk c.d c.m c.F → MksOk d' c.m c.F := fun h => ⟨h.1, fun i hi => by have := h.2 i hi; unfold mkOk at *; rw [hn']; exact this⟩
        rw [← hd'e] at hdr ⊢
        obtain ⟨c', hc'⟩ : ∃ c' : Clo, c' = ⟨d', c.MA, c.m, c.mc, c.F⟩ := ⟨_, rfl⟩
        have hcin : ∀ V, Below w5.heap.size w5 V → ClIn c' V.heap.size V := fun V h => by rw [hc']; exact ⟨(hdr.up h (Nat.le_refl _)).more h.size, (CC.out V (nextB D.out h)).2⟩
        have CW := Lib.hid hcin
        obtain ⟨G1, hG1⟩ := bool_of (IsR c x.n1 x.Z1)
        have HSUB : Hid (IsR c x.n1 x.Z1 → IsR c' x.n1 x.Z1) := Lib.hid fun h => by rw [hc']; exact ⟨hok', hkk h.2.1, by rw [h.2.2.1]; show c.d.n + 1 = d'.n + 1; rw [hn'], hsub _ h.2.2.2⟩
        have HG1 := Lib.hid hG1
        have KI := Lib.hid fun A n k T G V h ht hG => is_any c A n k T G V (CC.out V h) ht hG
        have KI2 := Lib.hid fun A n k T G V h ht hG => is_any c' A n k T G V (CW.out V h) ht hG
        have hcv : c'.v = .agg #[.slice d'.RA d'.n d'.rc, .slice d'.SA d'.m d'.sc, .slice c.MA c.m c.mc] := by rw [hc']
        rw [hcv] at KI2
        obtain ⟨vd, hv⟩ := bool_of ((0 ≤ x.A ∧ x.A ≤ c.d.n) ∧ 0 ≤ x.B ∧ x.B ≤ c.d.n)
        obtain ⟨E1, S1, hE1⟩ := rdR_ex c.d c.m c.F vd
        obtain ⟨E2, S2, hE2⟩ := rdR_ex d' c.m c.F vd
        have hv' : vd = true ↔ (0 ≤ x.A ∧ x.A ≤ d'.n) ∧ 0 ≤ x.B ∧ x.B ≤ d'.n := by rw [hn']; exact hv
        obtain ⟨vt, ht⟩ := bool_of (0 ≤ x.t ∧ x.t ≤ 400)
        obtain ⟨E3, S3, hE3⟩ := rdR_ex c.d c.m c.F vt
        obtain ⟨E4, S4, hE4⟩ := rdR_ex d' c.m c.F vt
        have hall : ∀ {vd : Bool} {E E' : Int} {S S' : Nat → Int × Int}, RdR c.d c.m c.F vd E S → RdR d' c.m c.F vd E' S' → E = 0 → E' = 0 ∧ vd = true ∧ Ends c.d.n (Rdg c.d.n (gapF c.d) c.m c.F) S ∧ Ends d'.n (Rdg d'.n (gapF d') c.m c.F) S' ∧ MksOk c.d c.m c.F := by
          intro vd E E' S S' h1 h2 h0
          subst h0
          obtain ⟨rfl, _, hk, he⟩ := rdR_0 h1
          by_cases hz : E' = 0
          · subst hz
            obtain ⟨_, _, _, he'⟩ := rdR_0 h2
            exact ⟨rfl, rfl, he, he', hk⟩
          · exact absurd ⟨hok', hkk hk, _, hsub _ he.lo⟩ (rdR_none h2 hz)
        obtain ⟨⟨a1, a2⟩, ha⟩ : ∃ s : Int × Int, (if E1 = 0 then apS (gapF c.d) S1 x.A.toNat x.B.toNat else (0, 0)) = s := ⟨_, rfl⟩
        obtain ⟨⟨b1, b2⟩, hb⟩ : ∃ s : Int × Int, (if E2 = 0 then apS (gapF d') S2 x.A.toNat x.B.toNat else (0, 0)) = s := ⟨_, rfl⟩
        obtain ⟨⟨s1, s2⟩, hs⟩ : ∃ s : Int × Int, (if E3 = 0 then (lastP (fun i => (S3 i).2) x.t (c.d.n + 1), lastP (fun i => (S3 i).1) x.t (c.d.n + 1)) else (0, 0)) = s := ⟨_, rfl⟩
        obtain ⟨⟨t1, t2⟩, htt⟩ : ∃ s : Int × Int, (if E4 = 0 then (lastP (fun i => (S4 i).2) x.t (d'.n + 1), lastP (fun i => (S4 i).1) x.t (d'.n + 1)) else (0, 0)) = s := ⟨_, rfl⟩
        have HAB : Hid (E1 = 0 → E2 = 0 ∧ b1 ≤ a1 ∧ a2 ≤ b2) := Lib.hid fun h => by
          obtain ⟨k1, k2, k3, k4, k5⟩ := hall hE1 hE2 h
          have hr := hv.1 k2
          rw [if_pos h] at ha
          rw [if_pos k1] at hb
          have := (stops_math hn' hd hok' k5 (hkk k5) hsub k3 k4).1 x.A.toNat x.B.toNat (by omega) (by omega)
          rw [ha, hb] at this
          exact ⟨k1, this⟩
        have HST : Hid (E3 = 0 → E4 = 0 ∧ t1 ≤ s1 ∧ s2 ≤ t2) := Lib.hid fun h => by
          obtain ⟨k1, k2, k3, k4, k5⟩ := hall hE3 hE4 h
          rw [if_pos h] at hs
          rw [if_pos k1] at htt
          have := (stops_math hn' hd hok' k5 (hkk k5) hsub k3 k4).2 x.t
          injection hs with q1 q2
          injection htt with q3 q4
          rw [q1, q2, q3, q4] at this
          exact ⟨k1, this⟩
        have K1 := Lib.hid fun V h => Between_any c.d c.MA c.m c.mc c.F x.A x.B vd E1 S1 V (CC.out V h).1 (CC.out V h).2 hv hE1
        rw [ha] at K1
        have K2 := Lib.hid fun V h (h0 : Below w.heap.size w V) => Between_any d' c.MA c.m c.mc c.F x.A x.B vd E2 S2 V ((by have k := (CW.out V h).1; rw [hc'] at k; exact k) : DrIn d' V.heap.size V) (CC.out V h0).2 hv' hE2
        rw [hb] at K2
        have K3 := Lib.hid fun V h => At_any c.d c.MA c.m c.mc c.F x.t vt E3 S3 V (CC.out V h).1 (CC.out V h).2 ht hE3
        rw [hs] at K3
        have K4 := Lib.hid fun V h (h0 : Below w.heap.size w V) => At_any d' c.MA c.m c.mc c.F x.t vt E4 S4 V ((by have k := (CW.out V h).1; rw [hc'] at k; exact k) : DrIn d' V.heap.size V) (CC.out V h0).2 ht hE4
        rw [htt] at K4
        obtain ⟨r1, hr1⟩ : ∃ r, d'.RA = r := ⟨_, rfl⟩
        obtain ⟨r2, hr2⟩ : ∃ r, d'.n = r := ⟨_, rfl⟩
        have HC' := Lib.hid hc'
        clear hcv hd h16 hwok hd'e hok' hn' hmost hsub hkk hdr hcin hG1 hv hE1 hE2 hv' ht hE3 hE4 hall ha hb hs htt hr1 hr2
        go_wp2_with fail
        obtain ⟨w6, hw6⟩ : ∃ V : World, V = (w5.alloc (.cells #[.slice d'.RA d'.n d'.rc, .slice d'.SA d'.m d'.sc] 25)).alloc (.cells #[.slice d'.RA d'.n d'.rc, .slice d'.SA d'.m d'.sc, .slice c.MA c.m c.mc] 28) := ⟨_, rfl⟩
        have hbV : Below w5.heap.size w5 w6 := by rw [hw6]; exact box2 _ _ _
        have N : Hid (HasDr d' w5.heap.size w6) := Lib.hid (by rw [hw6]; exact (dr_new _ d').up (box1 _ _))
        have M : Hid (HasCl c' (w5.heap.size + 1) w6) := Lib.hid (by rw [hw6]; have k := cl_new (w5.alloc (drO d')) c'; rw [World.size_alloc] at k; simp only [cloO, drO, HC'.out] at k ⊢; exact k)
        have Q : Hid (BeL w5 w6) := Lib.hid hbV
        try rw [← hw6]
        clear hw6
        have D := Lib.hid (nextB D.out hbV)
        have C := Lib.hid (C.out.up hbV)
        have X := Lib.hid (X.out.up hbV)
        clear hbV c0 c1 c2 zC x0 x1 x2 x3 zX
        obtain ⟨c0, c1, c2⟩ := C.out
        have zC := C.out.lt
        have x0 : w6.cell? ⟨w.heap.size + 1, 0, none⟩ = some (.int .i64 x.A) := X.out.c 0 _ rfl
        have x1 : w6.cell? ⟨w.heap.size + 1, 1, none⟩ = some (.int .i64 x.B) := X.out.c 1 _ rfl
        have x2 : w6.cell? ⟨w.heap.size + 1, 2, none⟩ = some (.int .i64 x.t) := X.out.c 2 _ rfl
        have x3 : w6.cell? ⟨w.heap.size + 1, 3, none⟩ = some (.slice x.A1 x.n1 x.c1) := X.out.c 3 _ rfl
        have zX := X.out.lt
        obtain ⟨n0, n1⟩ := N.out
        have zN := N.out.lt
        obtain ⟨m0, m1, m2⟩ := M.out
        have zM := M.out.lt
        skip
        refine (KI.out x.A1 x.n1 x.c1 x.Z1 G1 _ D.out (AA.out _ D.out).1 HG1.out).mono ?_
        rintro e w7 ⟨rfl, hb⟩
        have J := Lib.hid (hb)
        have D := Lib.hid (nextB D.out J.out)
        clear c0 c1 c2 zC x0 x1 x2 x3 zX n0 n1 zN m0 m1 m2 zM
        have C := Lib.hid (C.out.up J.out)
        have X := Lib.hid (X.out.up J.out)
        have N := Lib.hid (N.out.up J.out)
        have M := Lib.hid (M.out.up J.out)
        have Q := Lib.hid (Q.out.up J.out)
        clear hb
        obtain ⟨c0, c1, c2⟩ := C.out
        have zC := C.out.lt
        have x0 : w7.cell? ⟨w.heap.size + 1, 0, none⟩ = some (.int .i64 x.A) := X.out.c 0 _ rfl
        have x1 : w7.cell? ⟨w.heap.size + 1, 1, none⟩ = some (.int .i64 x.B) := X.out.c 1 _ rfl
        have x2 : w7.cell? ⟨w.heap.size + 1, 2, none⟩ = some (.int .i64 x.t) := X.out.c 2 _ rfl
        have x3 : w7.cell? ⟨w.heap.size + 1, 3, none⟩ = some (.slice x.A1 x.n1 x.c1) := X.out.c 3 _ rfl
        have zX := X.out.lt
        obtain ⟨n0, n1⟩ := N.out
        have zN := N.out.lt
        obtain ⟨m0, m1, m2⟩ := M.out
        have zM := M.out.lt
        cases G1 with
        | false =>
          go_wp2_with fail
          refine (K1.out _ D.out).mono ?_
          rintro e w8 ⟨rfl, hb⟩
          have J := Lib.hid (hb)
          have D := Lib.hid (nextB D.out J.out)
          clear c0 c1 c2 zC x0 x1 x2 x3 zX n0 n1 zN m0 m1 m2 zM
          have C := Lib.hid (C.out.up J.out)
          have X := Lib.hid (X.out.up J.out)
          have N := Lib.hid (N.out.up J.out)
          have M := Lib.hid (M.out.up J.out)
          have Q := Lib.hid (Q.out.up J.out)
          clear hb
          obtain ⟨c0, c1, c2⟩ := C.out
          have zC := C.out.lt
          have x0 : w8.cell? ⟨w.heap.size + 1, 0, none⟩ = some (.int .i64 x.A) := X.out.c 0 _ rfl
          have x1 : w8.cell? ⟨w.heap.size + 1, 1, none⟩ = some (.int .i64 x.B) := X.out.c 1 _ rfl
          have x2 : w8.cell? ⟨w.heap.size + 1, 2, none⟩ = some (.int .i64 x.t) := X.out.c 2 _ rfl
          have x3 : w8.cell? ⟨w.heap.size + 1, 3, none⟩ = some (.slice x.A1 x.n1 x.c1) := X.out.c 3 _ rfl
          have zX := X.out.lt
          obtain ⟨n0, n1⟩ := N.out
          have zN := N.out.lt
          obtain ⟨m0, m1, m2⟩ := M.out
          have zM := M.out.lt
          go_wp2_with fail
          refine (K2.out _ (nextB Q.out (box1 w8 _)) (nextB D.out (box1 w8 _))).mono ?_
          rintro e w9 ⟨rfl, hb⟩
          have J := Lib.hid (nextB (box1 w8 _) hb)
          have D := Lib.hid (nextB D.out J.out)
          clear c0 c1 c2 zC x0 x1 x2 x3 zX n0 n1 zN m0 m1 m2 zM
          have C := Lib.hid (C.out.up J.out)
          have X := Lib.hid (X.out.up J.out)
          have N := Lib.hid (N.out.up J.out)
          have M := Lib.hid (M.out.up J.out)
          have Q := Lib.hid (Q.out.up J.out)
          have U := Lib.hid (((Bt.new w8 31 (a1) (a2))).up hb)
          clear hb
          obtain ⟨c0, c1, c2⟩ := C.out
          have zC := C.out.lt
          have x0 : w9.cell? ⟨w.heap.size + 1, 0, none⟩ = some (.int .i64 x.A) := X.out.c 0 _ rfl
          have x1 : w9.cell? ⟨w.heap.size + 1, 1, none⟩ = some (.int .i64 x.B) := X.out.c 1 _ rfl
          have x2 : w9.cell? ⟨w.heap.size + 1, 2, none⟩ = some (.int .i64 x.t) := X.out.c 2 _ rfl
          have x3 : w9.cell? ⟨w.heap.size + 1, 3, none⟩ = some (.slice x.A1 x.n1 x.c1) := X.out.c 3 _ rfl
          have zX := X.out.lt
          obtain ⟨n0, n1⟩ := N.out
          have zN := N.out.lt
          obtain ⟨m0, m1, m2⟩ := M.out
          have zM := M.out.lt
          obtain ⟨u0, u1, u2, u3⟩ := U.out
          have zU := U.out.lt
          go_wp2_with fail
          refine (K3.out _ (nextB D.out (box1 w9 _))).mono ?_
          rintro e w10 ⟨rfl, hb⟩
          have J := Lib.hid (nextB (box1 w9 _) hb)
          have D := Lib.hid (nextB D.out J.out)
          clear c0 c1 c2 zC x0 x1 x2 x3 zX n0 n1 zN m0 m1 m2 zM u0 u1 u2 u3 zU
          have C := Lib.hid (C.out.up J.out)
          have X := Lib.hid (X.out.up J.out)
          have N := Lib.hid (N.out.up J.out)
          have M := Lib.hid (M.out.up J.out)
          have Q := Lib.hid (Q.out.up J.out)
          have U := Lib.hid (U.out.up J.out)
          have V := Lib.hid (((Bt.new w9 31 (b1) (b2))).up hb)
          clear hb
          obtain ⟨c0, c1, c2⟩ := C.out
          have zC := C.out.lt
          have x0 : w10.cell? ⟨w.heap.size + 1, 0, none⟩ = some (.int .i64 x.A) := X.out.c 0 _ rfl
          have x1 : w10.cell? ⟨w.heap.size + 1, 1, none⟩ = some (.int .i64 x.B) := X.out.c 1 _ rfl
          have x2 : w10.cell? ⟨w.heap.size + 1, 2, none⟩ = some (.int .i64 x.t) := X.out.c 2 _ rfl
          have x3 : w10.cell? ⟨w.heap.size + 1, 3, none⟩ = some (.slice x.A1 x.n1 x.c1) := X.out.c 3 _ rfl
          have zX := X.out.lt
          obtain ⟨n0, n1⟩ := N.out
          have zN := N.out.lt
          obtain ⟨m0, m1, m2⟩ := M.out
          have zM := M.out.lt
          obtain ⟨u0, u1, u2, u3⟩ := U.out
          have zU := U.out.lt
          obtain ⟨v0, v1, v2, v3⟩ := V.out
          have zV := V.out.lt
          go_wp2_with fail
          refine (K4.out _ (nextB Q.out (box1 w10 _)) (nextB D.out (box1 w10 _))).mono ?_
          rintro e w11 ⟨rfl, hb⟩
          have J := Lib.hid (nextB (box1 w10 _) hb)
          have D := Lib.hid (nextB D.out J.out)
          clear c0 c1 c2 zC x0 x1 x2 x3 zX n0 n1 zN m0 m1 m2 zM u0 u1 u2 u3 zU v0 v1 v2 v3 zV
          have C := Lib.hid (C.out.up J.out)
          have X := Lib.hid (X.out.up J.out)
          have N := Lib.hid (N.out.up J.out)
          have M := Lib.hid (M.out.up J.out)
          have Q := Lib.hid (Q.out.up J.out)
          have U := Lib.hid (U.out.up J.out)
          have V := Lib.hid (V.out.up J.out)
          have Y := Lib.hid (((Bt.new w10 31 (s1) (s2))).up hb)
          clear hb
          obtain ⟨c0, c1, c2⟩ := C.out
          have zC := C.out.lt
          have x0 : w11.cell? ⟨w.heap.size + 1, 0, none⟩ = some (.int .i64 x.A) := X.out.c 0 _ rfl
          have x1 : w11.cell? ⟨w.heap.size + 1, 1, none⟩ = some (.int .i64 x.B) := X.out.c 1 _ rfl
          have x2 : w11.cell? ⟨w.heap.size + 1, 2, none⟩ = some (.int .i64 x.t) := X.out.c 2 _ rfl
          have x3 : w11.cell? ⟨w.heap.size + 1, 3, none⟩ = some (.slice x.A1 x.n1 x.c1) := X.out.c 3 _ rfl
          have zX := X.out.lt
          obtain ⟨n0, n1⟩ := N.out
          have zN := N.out.lt
          obtain ⟨m0, m1, m2⟩ := M.out
          have zM := M.out.lt
          obtain ⟨u0, u1, u2, u3⟩ := U.out
          have zU := U.out.lt
          obtain ⟨v0, v1, v2, v3⟩ := V.out
          have zV := V.out.lt
          obtain ⟨y0, y1, y2, y3⟩ := Y.out
          have zY := Y.out.lt
          by_cases hz1 : E1 = 0
          · obtain ⟨k1, k2, k3⟩ := HAB.out hz1
            subst hz1
            subst k1
            have d1 : decide (a1 < b1) = false := decide_eq_false (by omega)
            have d2 : decide (b2 < a2) = false := decide_eq_false (by omega)
            clear k2 k3
            by_cases hz3 : E3 = 0
            · obtain ⟨k1, k2, k3⟩ := HST.out hz3
              subst hz3
              subst k1
              have d3 : decide (t1 ≤ s1) = true := decide_eq_true k2
              have d4 : decide (s2 ≤ t2) = true := decide_eq_true k3
              clear k2 k3
              go_wp2_with fail
              go_ret
              exact ⟨rfl, (nextB D.out (box1 w11 _))⟩
            · have hn3 : (E3 == 0) = false := by simpa using hz3
              have hn4 : (E3 != 0) = true := by simpa using hz3
              clear hz3
              go_wp2_with fail
              go_ret
              exact ⟨rfl, (nextB D.out (box1 w11 _))⟩
          · have hn1 : (E1 == 0) = false := by simpa using hz1
            clear hz1
            by_cases hz3 : E3 = 0
            · obtain ⟨k1, k2, k3⟩ := HST.out hz3
              subst hz3
              subst k1
              have d3 : decide (t1 ≤ s1) = true := decide_eq_true k2
              have d4 : decide (s2 ≤ t2) = true := decide_eq_true k3
              clear k2 k3
              go_wp2_with fail
              go_ret
              exact ⟨rfl, (nextB D.out (box1 w11 _))⟩
            · have hn3 : (E3 == 0) = false := by simpa using hz3
              have hn4 : (E3 != 0) = true := by simpa using hz3
              clear hz3
              go_wp2_with fail
              go_ret
              exact ⟨rfl, (nextB D.out (box1 w11 _))⟩
        | true =>
          have HT1 := Lib.hid (HSUB.out (HG1.out.1 rfl))
          go_wp2_with fail
          refine (KI2.out x.A1 x.n1 x.c1 x.Z1 true _ Q.out (AA.out _ D.out).1 ⟨fun _ => HT1.out, fun _ => rfl⟩).mono ?_
          rintro e w8 ⟨rfl, hb⟩
          have J := Lib.hid (hb)
          have D := Lib.hid (nextB D.out J.out)
          clear c0 c1 c2 zC x0 x1 x2 x3 zX n0 n1 zN m0 m1 m2 zM
          have C := Lib.hid (C.out.up J.out)
          have X := Lib.hid (X.out.up J.out)
          have N := Lib.hid (N.out.up J.out)
          have M := Lib.hid (M.out.up J.out)
          have Q := Lib.hid (Q.out.up J.out)
          clear hb
          obtain ⟨c0, c1, c2⟩ := C.out
          have zC := C.out.lt
          have x0 : w8.cell? ⟨w.heap.size + 1, 0, none⟩ = some (.int .i64 x.A) := X.out.c 0 _ rfl
          have x1 : w8.cell? ⟨w.heap.size + 1, 1, none⟩ = some (.int .i64 x.B) := X.out.c 1 _ rfl
          have x2 : w8.cell? ⟨w.heap.size + 1, 2, none⟩ = some (.int .i64 x.t) := X.out.c 2 _ rfl
          have x3 : w8.cell? ⟨w.heap.size + 1, 3, none⟩ = some (.slice x.A1 x.n1 x.c1) := X.out.c 3 _ rfl
          have zX := X.out.lt
          obtain ⟨n0, n1⟩ := N.out
          have zN := N.out.lt
          obtain ⟨m0, m1, m2⟩ := M.out
          have zM := M.out.lt
          go_wp2_with fail
          refine (K1.out _ D.out).mono ?_
          rintro e w9 ⟨rfl, hb⟩
          have J := Lib.hid (hb)
          have D := Lib.hid (nextB D.out J.out)
          clear c0 c1 c2 zC x0 x1 x2 x3 zX n0 n1 zN m0 m1 m2 zM
          have C := Lib.hid (C.out.up J.out)
          have X := Lib.hid (X.out.up J.out)
          have N := Lib.hid (N.out.up J.out)
          have M := Lib.hid (M.out.up J.out)
          have Q := Lib.hid (Q.out.up J.out)
          clear hb
          obtain ⟨c0, c1, c2⟩ := C.out
          have zC := C.out.lt
          have x0 : w9.cell? ⟨w.heap.size + 1, 0, none⟩ = some (.int .i64 x.A) := X.out.c 0 _ rfl
          have x1 : w9.cell? ⟨w.heap.size + 1, 1, none⟩ = some (.int .i64 x.B) := X.out.c 1 _ rfl
          have x2 : w9.cell? ⟨w.heap.size + 1, 2, none⟩ = some (.int .i64 x.t) := X.out.c 2 _ rfl
          have x3 : w9.cell? ⟨w.heap.size + 1, 3, none⟩ = some (.slice x.A1 x.n1 x.c1) := X.out.c 3 _ rfl
          have zX := X.out.lt
          obtain ⟨n0, n1⟩ := N.out
          have zN := N.out.lt
          obtain ⟨m0, m1, m2⟩ := M.out
          have zM := M.out.lt
          go_wp2_with fail
          refine (K2.out _ (nextB Q.out (box1 w9 _)) (nextB D.out (box1 w9 _))).mono ?_
          rintro e w10 ⟨rfl, hb⟩
          have J := Lib.hid (nextB (box1 w9 _) hb)
          have D := Lib.hid (nextB D.out J.out)
          clear c0 c1 c2 zC x0 x1 x2 x3 zX n0 n1 zN m0 m1 m2 zM
          have C := Lib.hid (C.out.up J.out)
          have X := Lib.hid (X.out.up J.out)
          have N := Lib.hid (N.out.up J.out)
          have M := Lib.hid (M.out.up J.out)
          have Q := Lib.hid (Q.out.up J.out)
          have U := Lib.hid (((Bt.new w9 31 (a1) (a2))).up hb)
          clear hb
          obtain ⟨c0, c1, c2⟩ := C.out
          have zC := C.out.lt
          have x0 : w10.cell? ⟨w.heap.size + 1, 0, none⟩ = some (.int .i64 x.A) := X.out.c 0 _ rfl
          have x1 : w10.cell? ⟨w.heap.size + 1, 1, none⟩ = some (.int .i64 x.B) := X.out.c 1 _ rfl
          have x2 : w10.cell? ⟨w.heap.size + 1, 2, none⟩ = some (.int .i64 x.t) := X.out.c 2 _ rfl
          have x3 : w10.cell? ⟨w.heap.size + 1, 3, none⟩ = some (.slice x.A1 x.n1 x.c1) := X.out.c 3 _ rfl
          have zX := X.out.lt
          obtain ⟨n0, n1⟩ := N.out
          have zN := N.out.lt
          obtain ⟨m0, m1, m2⟩ := M.out
          have zM := M.out.lt
          obtain ⟨u0, u1, u2, u3⟩ := U.out
          have zU := U.out.lt
          go_wp2_with fail
          refine (K3.out _ (nextB D.out (box1 w10 _))).mono ?_
          rintro e w11 ⟨rfl, hb⟩
          have J := Lib.hid (nextB (box1 w10 _) hb)
          have D := Lib.hid (nextB D.out J.out)
          clear c0 c1 c2 zC x0 x1 x2 x3 zX n0 n1 zN m0 m1 m2 zM u0 u1 u2 u3 zU
          have C := Lib.hid (C.out.up J.out)
          have X := Lib.hid (X.out.up J.out)
          have N := Lib.hid (N.out.up J.out)
          have M := Lib.hid (M.out.up J.out)
          have Q := Lib.hid (Q.out.up J.out)
          have U := Lib.hid (U.out.up J.out)
          have V := Lib.hid (((Bt.new w10 31 (b1) (b2))).up hb)
          clear hb
          obtain ⟨c0, c1, c2⟩ := C.out
          have zC := C.out.lt
          have x0 : w11.cell? ⟨w.heap.size + 1, 0, none⟩ = some (.int .i64 x.A) := X.out.c 0 _ rfl
          have x1 : w11.cell? ⟨w.heap.size + 1, 1, none⟩ = some (.int .i64 x.B) := X.out.c 1 _ rfl
          have x2 : w11.cell? ⟨w.heap.size + 1, 2, none⟩ = some (.int .i64 x.t) := X.out.c 2 _ rfl
          have x3 : w11.cell? ⟨w.heap.size + 1, 3, none⟩ = some (.slice x.A1 x.n1 x.c1) := X.out.c 3 _ rfl
          have zX := X.out.lt
          obtain ⟨n0, n1⟩ := N.out
          have zN := N.out.lt
          obtain ⟨m0, m1, m2⟩ := M.out
          have zM := M.out.lt
          obtain ⟨u0, u1, u2, u3⟩ := U.out
          have zU := U.out.lt
          obtain ⟨v0, v1, v2, v3⟩ := V.out
          have zV := V.out.lt
          go_wp2_with fail
          refine (K4.out _ (nextB Q.out (box1 w11 _)) (nextB D.out (box1 w11 _))).mono ?_
          rintro e w12 ⟨rfl, hb⟩
          have J := Lib.hid (nextB (box1 w11 _) hb)
          have D := Lib.hid (nextB D.out J.out)
          clear c0 c1 c2 zC x0 x1 x2 x3 zX n0 n1 zN m0 m1 m2 zM u0 u1 u2 u3 zU v0 v1 v2 v3 zV
          have C := Lib.hid (C.out.up J.out)
          have X := Lib.hid (X.out.up J.out)
          have N := Lib.hid (N.out.up J.out)
          have M := Lib.hid (M.out.up J.out)
          have Q := Lib.hid (Q.out.up J.out)
          have U := Lib.hid (U.out.up J.out)
          have V := Lib.hid (V.out.up J.out)
          have Y := Lib.hid (((Bt.new w11 31 (s1) (s2))).up hb)
          clear hb
          obtain ⟨c0, c1, c2⟩ := C.out
          have zC := C.out.lt
          have x0 : w12.cell? ⟨w.heap.size + 1, 0, none⟩ = some (.int .i64 x.A) := X.out.c 0 _ rfl
          have x1 : w12.cell? ⟨w.heap.size + 1, 1, none⟩ = some (.int .i64 x.B) := X.out.c 1 _ rfl
          have x2 : w12.cell? ⟨w.heap.size + 1, 2, none⟩ = some (.int .i64 x.t) := X.out.c 2 _ rfl
          have x3 : w12.cell? ⟨w.heap.size + 1, 3, none⟩ = some (.slice x.A1 x.n1 x.c1) := X.out.c 3 _ rfl
          have zX := X.out.lt
          obtain ⟨n0, n1⟩ := N.out
          have zN := N.out.lt
          obtain ⟨m0, m1, m2⟩ := M.out
          have zM := M.out.lt
          obtain ⟨u0, u1, u2, u3⟩ := U.out
          have zU := U.out.lt
          obtain ⟨v0, v1, v2, v3⟩ := V.out
          have zV := V.out.lt
          obtain ⟨y0, y1, y2, y3⟩ := Y.out
          have zY := Y.out.lt
          by_cases hz1 : E1 = 0
          · obtain ⟨k1, k2, k3⟩ := HAB.out hz1
            subst hz1
            subst k1
            have d1 : decide (a1 < b1) = false := decide_eq_false (by omega)
            have d2 : decide (b2 < a2) = false := decide_eq_false (by omega)
            clear k2 k3
            by_cases hz3 : E3 = 0
            · obtain ⟨k1, k2, k3⟩ := HST.out hz3
              subst hz3
              subst k1
              have d3 : decide (t1 ≤ s1) = true := decide_eq_true k2
              have d4 : decide (s2 ≤ t2) = true := decide_eq_true k3
              clear k2 k3
              go_wp2_with fail
              go_ret
              exact ⟨rfl, (nextB D.out (box1 w12 _))⟩
            · have hn3 : (E3 == 0) = false := by simpa using hz3
              have hn4 : (E3 != 0) = true := by simpa using hz3
              clear hz3
              go_wp2_with fail
              go_ret
              exact ⟨rfl, (nextB D.out (box1 w12 _))⟩
          · have hn1 : (E1 == 0) = false := by simpa using hz1
            clear hz1
            by_cases hz3 : E3 = 0
            · obtain ⟨k1, k2, k3⟩ := HST.out hz3
              subst hz3
              subst k1
              have d3 : decide (t1 ≤ s1) = true := decide_eq_true k2
              have d4 : decide (s2 ≤ t2) = true := decide_eq_true k3
              clear k2 k3
              go_wp2_with fail
              go_ret
              exact ⟨rfl, (nextB D.out (box1 w12 _))⟩
            · have hn3 : (E3 == 0) = false := by simpa using hz3
              have hn4 : (E3 != 0) = true := by simpa using hz3
              clear hz3
              go_wp2_with fail
              go_ret
              exact ⟨rfl, (nextB D.out (box1 w12 _))⟩
end Go.Proofs.Ytpikaohodieeaaa
