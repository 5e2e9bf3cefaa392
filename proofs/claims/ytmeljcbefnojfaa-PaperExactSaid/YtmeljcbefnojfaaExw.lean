import Derived.Test.YtmeljcbefnojfaaExm
import Derived.Test.YtmeljcbefnojfaaNar
import Derived.Test.YtmeljcbefnojfaaRpt
import Derived.Test.YtmeljcbefnojfaaLvM
namespace Go.Proofs.Ytmeljcbefnojfaa
open Go.RowKit
set_option maxHeartbeats 400000 in
theorem lfloor_any (n b : Int) (w : World) (h0 : -1000000000000 ≤ n) (h1 : n ≤ 1000000000000) (h2 : 1 ≤ b) (h3 : b ≤ 1000000000000) :
    Calls Try.prog 62 #[.int .i64 n, .int .i64 b] w fun e w' => e = .returned (.int .i64 (n / b)) ∧ w = w' := by
  by_cases hn : n < 0
  · obtain ⟨k1, k2⟩ := div_bd (a := -n + b - 1) (b := b) (by omega) h2
    have d : decide (n < 0) = true := by simpa using hn
    go_enter Try.func62, Try.ntmps62
    go_wp2_with fail
    go_ret
    exact ⟨ret_int (neg_cdiv h2), rfl⟩
  · have d : decide (n < 0) = false := by simpa using hn
    obtain ⟨k1, k2⟩ := div_bd (a := n) (b := b) (by omega) h2
    go_enter Try.func62, Try.ntmps62
    go_wp2_with fail
    go_ret
    exact ⟨rfl, rfl⟩
/-- a set has a number -/
def hasL (l : List (Int × Int)) (n : Int) : Bool := l.any fun s => decide (s.1 ≤ n ∧ n ≤ s.2)
set_option maxHeartbeats 1000000 in
theorem has_row (l : List (Int × Int)) (n : Int) (g cap : Nat) (w : World) (hc : l.length ≤ cap) (hcm : cap ≤ maxLen)
    (h1 : ∀ i s, l[i]? = some s → w.cell? ⟨g, i * 2, none⟩ = some (.int .i64 s.1) ∧ w.cell? ⟨g, i * 2 + 1, none⟩ = some (.int .i64 s.2))
    (hh : ∃ s ∈ l, s.1 ≤ n ∧ n ≤ s.2) :
    Calls Try.prog 63 #[.slice (some ⟨g, 0, none⟩) l.length cap, .int .i64 n] w fun e w' => e = .returned (.bool true) ∧ w = w' := by
  have HH := Lib.hid hh
  have H1 := Lib.hid h1
  clear h1 hh
  generalize hnn : l.length = m at *
  have HN := Lib.hid hnn
  clear hnn
  unfold maxLen at hcm
  have hc2 : (m : Int) ≤ 9223372036854775807 := by omega
  go_enter Try.func63, Try.ntmps63
  go_wp2_with fail
  go_loopw [5] (fun i wr => ∃ k : Nat, k ≤ m ∧ i = .int .i64 k ∧ hasL (l.take k) n = false ∧ wr = w) (fun i _ => m - (intOf i).toNat)
  case atStart => exact ⟨0, Nat.zero_le _, rfl, by simp [hasL], rfl⟩
  case round =>
    obtain ⟨k, hk, rfl, hf, rfl⟩ := hrel
    have HF := Lib.hid hf
    clear hf
    by_cases hlt : k < m
    · have hs : l[k]? = some (l[k]'(by rw [HN.out]; exact hlt)) := List.getElem?_eq_getElem _
      generalize l[k]'(by rw [HN.out]; exact hlt) = s at hs
      obtain ⟨a0, a1⟩ := H1.out k s hs
      have hn : hasL (l.take (k + 1)) n = (hasL (l.take k) n || decide (s.1 ≤ n ∧ n ≤ s.2)) := by
        unfold hasL
        rw [List.take_add_one, hs]
        simp
      have HNX := Lib.hid hn
      clear hs hn
      have hki : (k : Int) < (m : Int) := by omega
      have hk0 : (0 : Int) ≤ (k : Int) := by omega
      by_cases c1 : s.1 ≤ n
      · by_cases c2 : n ≤ s.2
        · have d1 : decide (s.1 ≤ n) = true := by simpa using c1
          have d2 : decide (n ≤ s.2) = true := by simpa using c2
          go_wp2_with fail
          go_ret
          exact ⟨rfl, rfl⟩
        · have d1 : decide (s.1 ≤ n) = true := by simpa using c1
          have d2 : decide (n ≤ s.2) = false := by simpa using c2
          have HC := Lib.hid c2
          clear c2
          go_wp2_with fail
          exact ⟨⟨k + 1, by omega, by go_num, by rw [HNX.out, HF.out, decide_eq_false (fun hh => HC.out hh.2)]; rfl, trivial⟩, by simp [intOf]; omega⟩
      · have d1 : decide (s.1 ≤ n) = false := by simpa using c1
        have HC := Lib.hid c1
        clear c1
        go_wp2_with fail
        exact ⟨⟨k + 1, by omega, by go_num, by rw [HNX.out, HF.out, decide_eq_false (fun hh => HC.out hh.1)]; rfl, trivial⟩, by simp [intOf]; omega⟩
    · exfalso
      obtain ⟨s, hs, h2⟩ := HH.out
      have hall : l.take k = l := List.take_of_length_le (by rw [HN.out]; omega)
      have hf := HF.out
      rw [hall] at hf
      have : hasL l n = true := by unfold hasL; exact List.any_eq_true.2 ⟨s, hs, by simpa using h2⟩
      rw [this] at hf
      cases hf
/-- some height of a level has a place in a column -/
def WitP (p : Pap) (t : Pt) (l c : Int) : Prop := ∃ y, InS p t c y ∧ lev p y = l
theorem next_no {P : Int → Prop} {A y : Int} (h : ∀ z, A ≤ z → z < y → ¬ P z) (hy : ¬ P y) : ∀ z, A ≤ z → z < y + 1 → ¬ P z := by
  intro z z1 z2
  by_cases h3 : z < y
  · exact h z z1 h3
  · rw [show z = y by omega]; exact hy
structure WI (p : Pap) (t : Pt) (l c : Int) (w w1 : World) (y : Int) (wr : World) : Prop where
  lo : max (lowst p l) (acrossLo p t) ≤ y
  hi : y ≤ min (min (lowst p (l + 1) - 1) p.height) (acrossHi p t) + 1 ∨ y = max (lowst p l) (acrossLo p t)
  no : ∀ z, max (lowst p l) (acrossLo p t) ≤ z → z < y → ¬ InS p t c z
  low : Below w.heap.size w wr
  pap : HasPap p w.heap.size wr
  sp : HasSp (alongLo p t) (alongHi p t) (w.heap.size + 1) wr
  rp : HasSp (acrossLo p t) (acrossHi p t) (w.heap.size + 1 + 1) wr
  hp : HasSp (lowst p l) (min (lowst p (l + 1) - 1) p.height) w1.heap.size wr
set_option maxRecDepth 100000 in
set_option maxHeartbeats 2000000 in
theorem witness_in (p : Pap) (t : Pt) (l c : Int) (W : Bool) (w : World) (h : p.Ok) (ht : t.Ok) (_hc : 0 ≤ c ∧ c ≤ p.cols - 1) (hl : p.low ≤ l ∧ l ≤ p.high) (hW : W = true ↔ WitP p t l c) :
    Calls Try.prog 64 #[p.v, .agg #[.int .i64 (alongLo p t), .int .i64 (alongHi p t)], .agg #[.int .i64 (acrossLo p t), .int .i64 (acrossHi p t)], .int .i64 l, .int .i64 c] w fun e w' => e = .returned (.bool W) ∧ Below w.heap.size w w' := by
  have hht := h.height
  have hpi := h.pitch
  have hco := h.cols
  obtain ⟨al0, al1⟩ := alongLo_bd h ht
  obtain ⟨ah0, ah1⟩ := alongHi_bd h ht
  obtain ⟨ac0, ac1⟩ := acrossLo_bd h ht
  obtain ⟨ad0, ad1⟩ := acrossHi_bd h ht
  obtain ⟨lb0, lb1⟩ := lowst_bd (l := l) h (by omega)
  obtain ⟨nb0, nb1⟩ := lowst_bd (l := l + 1) h (by omega)
  -- the heights that are tried
  have hin : ∀ y, max (lowst p l) (acrossLo p t) ≤ y → y ≤ min (min (lowst p (l + 1) - 1) p.height) (acrossHi p t) → (0 ≤ y ∧ y ≤ p.height) ∧ lev p y = l ∧ hLo p t ≤ y ∧ y ≤ hHi p t := by
    intro y y1 y2
    have e1 := (lev_iff (l := l) (y := y) h hl.1).2 (by omega)
    have e2 : ¬ l + 1 ≤ lev p y := fun hh => by have := (lev_iff (l := l + 1) (y := y) h (by omega)).1 hh; omega
    exact ⟨by omega, by omega, by unfold hLo; omega, by unfold hHi; omega⟩
  have hout : ∀ y, InS p t c y → lev p y = l → max (lowst p l) (acrossLo p t) ≤ y ∧ y ≤ min (min (lowst p (l + 1) - 1) p.height) (acrossHi p t) := by
    rintro y ⟨⟨y1, y2⟩, _⟩ y3
    have e1 := (lev_iff (l := l) (y := y) h hl.1).1 (by omega)
    have e2 : ¬ lowst p (l + 1) ≤ y := fun hh => by have := (lev_iff (l := l + 1) (y := y) h (by omega)).2 hh; omega
    unfold hLo at y1
    unfold hHi at y2
    omega
  have HIN := Lib.hid hin
  have HOUT := Lib.hid hout
  have HW := Lib.hid hW
  have HP := Lib.hid h
  clear hin hout hW
  have K : Hid (∀ w, Calls Try.prog 44 #[p.v, .int .i64 l] w fun e w' => e = .returned (.tuple #[.agg #[.int .i64 (lowst p l), .int .i64 (min (lowst p (l + 1) - 1) p.height)], .int .i64 0]) ∧ Below w.heap.size w w') := Lib.hid fun w => Heights_ok p l w h hl
  go_enter Try.func64, Try.ntmps64
  go_wp2_with fail
  refine (K.out _).mono ?_
  rintro e w1 ⟨rfl, hb⟩
  have hz := hb.size
  simp only [World.size_alloc] at hz
  have C1 : Below w.heap.size w w1 := (box3 _ _ _ _).trans (hb.mono (by simp only [World.size_alloc]; omega))
  have hP1 : HasPap p w.heap.size w1 := HasPap.up (by unfold HasPap; go_simp) hb (by simp only [World.size_alloc]; omega)
  have hS1 : HasSp (alongLo p t) (alongHi p t) (w.heap.size + 1) w1 := HasSp.up (by unfold HasSp; go_simp) hb (by simp only [World.size_alloc]; omega)
  have hR1 : HasSp (acrossLo p t) (acrossHi p t) (w.heap.size + 1 + 1) w1 := HasSp.up (by unfold HasSp; go_simp) hb (by simp only [World.size_alloc]; omega)
  clear hb
  have PP := Lib.hid hP1
  have PS := Lib.hid hS1
  have PR := Lib.hid hR1
  unfold HasSp at hS1 hR1
  obtain ⟨p0, p1, p2, p3, p4, p5, p6, p7, p8, p9⟩ := hP1
  obtain ⟨s0, s1⟩ := hS1
  obtain ⟨r0, r1⟩ := hR1
  have z2 : w.heap.size + 1 + 1 < w1.heap.size := World.block_lt_of_cell? _ _ r0
  go_wp2_with fail
  go_loopw [13] (fun vy wr => ∃ y : Int, vy = .int .i64 y ∧ WI p t l c w w1 y wr) (fun vy _ => (min (min (lowst p (l + 1) - 1) p.height) (acrossHi p t) - intOf vy + 1).toNat)
  case atStart =>
    refine ⟨max (lowst p l) (acrossLo p t), rfl, Int.le_refl _, .inr rfl, fun z z1 z2 => by omega, C1.alloc C1.size _, PP.out.up (box1 w1 _) PP.out.block, PS.out.up (box1 w1 _) (by omega), PR.out.up (box1 w1 _) (by omega), ?_⟩
    unfold HasSp
    exact ⟨by go_simp, by go_simp⟩
  case round =>
    obtain ⟨y, rfl, y1, y2, y3, hB, hP, hS, hR, hH⟩ := hrel
    obtain ⟨wo, rfl⟩ : ∃ wo : World, wo = wr := ⟨_, rfl⟩
    have Y3 := Lib.hid y3
    have QP := Lib.hid hP
    have QS := Lib.hid hS
    have QR := Lib.hid hR
    have QH := Lib.hid hH
    have zP := hP.block
    have zH : w1.heap.size < wo.heap.size := World.block_lt_of_cell? _ _ hH.1
    clear y3
    unfold HasSp at hS hR hH
    clear p0 p1 p2 p3 p4 p5 p6 p7 p8 p9 s0 s1 r0 r1
    obtain ⟨p0, p1, p2, p3, p4, p5, p6, p7, p8, p9⟩ := hP
    obtain ⟨s0, s1⟩ := hS
    obtain ⟨r0, r1⟩ := hR
    obtain ⟨q0, q1⟩ := hH
    have zS : w.heap.size + 1 < wo.heap.size := World.block_lt_of_cell? _ _ s0
    have zR : w.heap.size + 1 + 1 < wo.heap.size := World.block_lt_of_cell? _ _ r0
    by_cases hyB : y ≤ min (min (lowst p (l + 1) - 1) p.height) (acrossHi p t)
    · obtain ⟨⟨i1, i2⟩, i3, i4, i5⟩ := HIN.out y y1 hyB
      obtain ⟨a1, a2⟩ := arcOf_bd HP.out ⟨i1, i2⟩
      have hwi := wit_iff (t := t) (c := c) (a := arcOf p y) HP.out
      have HWI := Lib.hid hwi
      have HY := Lib.hid hyB
      have HI3 := Lib.hid i3
      have d0 : decide (y ≤ min (min (lowst p (l + 1) - 1) p.height) (acrossHi p t)) = true := by simpa using hyB
      clear hwi i3
      go_wp2_with fail
      refine (Arc_ok p y _ HP.out ⟨i1, i2⟩).mono ?_
      rintro e w2 ⟨rfl, hb2⟩
      have hB2 := hB.trans (hb2.mono hB.size)
      have P2 := Lib.hid (QP.out.up hb2 zP)
      have S2 := Lib.hid (QS.out.up hb2 zS)
      have R2 := Lib.hid (QR.out.up hb2 zR)
      have H2 := Lib.hid (QH.out.up hb2 zH)
      clear p0 p1 p2 p3 p4 p5 p6 p7 p8 p9 s0 s1 r0 r1 q0 q1 hb2
      obtain ⟨p0, p1, p2, p3, p4, p5, p6, p7, p8, p9⟩ := P2.out
      obtain ⟨s0, s1⟩ := S2.out
      by_cases c1 : (alongLo p t - arcOf p y) / p.pitch ≤ c
      · have d1 : decide ((alongLo p t - arcOf p y) / p.pitch ≤ c) = true := by simpa using c1
        by_cases c2 : c ≤ (alongHi p t - arcOf p y) / p.pitch
        · have d2 : decide (c ≤ (alongHi p t - arcOf p y) / p.pitch) = true := by simpa using c2
          have hin := HWI.out.1 ⟨c1, c2⟩
          obtain rfl : W = true := HW.out.2 ⟨y, ⟨⟨i4, i5⟩, hin⟩, HI3.out⟩
          clear c1 c2 hin
          go_wp2_with ((go_at_call 62; refine (lfloor_any _ _ _ (by omega) (by omega) (by omega) (by omega)).mono ?_; rintro e w' ⟨rfl, rfl⟩))
          go_ret
          exact ⟨rfl, hB2⟩
        · have d2 : decide (c ≤ (alongHi p t - arcOf p y) / p.pitch) = false := by simpa using c2
          have hno : ¬ InS p t c y := fun hh => c2 (HWI.out.2 hh.2).2
          have HNO := Lib.hid hno
          clear c1 c2 hno
          go_wp2_with ((go_at_call 62; refine (lfloor_any _ _ _ (by omega) (by omega) (by omega) (by omega)).mono ?_; rintro e w' ⟨rfl, rfl⟩))
          exact ⟨⟨y + 1, rfl, by omega, .inl (by have := HY.out; omega), next_no Y3.out HNO.out, hB2, P2.out, S2.out, R2.out, H2.out⟩, by simp [intOf]; have := HY.out; omega⟩
      · have d1 : decide ((alongLo p t - arcOf p y) / p.pitch ≤ c) = false := by simpa using c1
        have hno : ¬ InS p t c y := fun hh => c1 (HWI.out.2 hh.2).1
        have HNO := Lib.hid hno
        clear c1 hno
        go_wp2_with ((go_at_call 62; refine (lfloor_any _ _ _ (by omega) (by omega) (by omega) (by omega)).mono ?_; rintro e w' ⟨rfl, rfl⟩))
        exact ⟨⟨y + 1, rfl, by omega, .inl (by have := HY.out; omega), next_no Y3.out HNO.out, hB2, P2.out, S2.out, R2.out, H2.out⟩, by simp [intOf]; have := HY.out; omega⟩
    · have d0 : decide (y ≤ min (min (lowst p (l + 1) - 1) p.height) (acrossHi p t)) = false := by simpa using hyB
      have hw : W = false := by
        cases hW : W with
        | false => rfl
        | true =>
          obtain ⟨z, hz1, hz2⟩ := HW.out.1 hW
          obtain ⟨o1, o2⟩ := HOUT.out z hz1 hz2
          exact absurd hz1 (Y3.out z o1 (by omega))
      subst hw
      have hyB2 : min (min (lowst p (l + 1) - 1) p.height) (acrossHi p t) < y := by omega
      clear hyB
      go_wp2_with fail
      go_ret
      exact ⟨rfl, hB⟩
set_option maxHeartbeats 1000000 in
theorem witness_no (p : Pap) (t : Pt) (l c : Int) (w : World) (h : p.Ok) (hl : ¬ (p.low ≤ l ∧ l ≤ p.high)) :
    Calls Try.prog 64 #[p.v, .agg #[.int .i64 (alongLo p t), .int .i64 (alongHi p t)], .agg #[.int .i64 (acrossLo p t), .int .i64 (acrossHi p t)], .int .i64 l, .int .i64 c] w fun e w' => e = .returned (.bool false) ∧ Below w.heap.size w w' := by
  go_enter Try.func64, Try.ntmps64
  go_wp2_with fail
  refine (Heights_arg p l _ h hl).mono ?_
  rintro e w1 ⟨rfl, hb⟩
  have C1 : Below w.heap.size w w1 := (box3 _ _ _ _).trans (hb.mono (by simp only [World.size_alloc]; omega))
  go_wp2_with fail
  go_ret
  exact ⟨rfl, C1.alloc C1.size _⟩
theorem wit_range {p : Pap} {t : Pt} {l c : Int} (h : p.Ok) (ht : t.Ok) (hw : WitP p t l c) : p.low ≤ l ∧ l ≤ p.high := by
  obtain ⟨y, ⟨⟨y1, y2⟩, _⟩, rfl⟩ := hw
  have h0 := acrossLo_bd h ht
  have hhi : hHi p t ≤ p.height := by unfold hHi; omega
  have e1 := lev_mono h (show 0 ≤ y by unfold hLo at y1; omega)
  have e2 := (lev_bd h (a := y) ⟨by unfold hLo at y1; omega, by omega⟩).2
  have e3 : lev p 0 = p.low := lev_zero p
  omega
theorem witness_any (p : Pap) (t : Pt) (l c : Int) (W : Bool) (w : World) (h : p.Ok) (ht : t.Ok) (hc : 0 ≤ c ∧ c ≤ p.cols - 1) (hW : W = true ↔ WitP p t l c) :
    Calls Try.prog 64 #[p.v, .agg #[.int .i64 (alongLo p t), .int .i64 (alongHi p t)], .agg #[.int .i64 (acrossLo p t), .int .i64 (acrossHi p t)], .int .i64 l, .int .i64 c] w fun e w' => e = .returned (.bool W) ∧ Below w.heap.size w w' := by
  by_cases hl : p.low ≤ l ∧ l ≤ p.high
  · exact witness_in p t l c W w h ht hc hl hW
  · have : W = false := by
      cases hV : W with
      | false => rfl
      | true => exact absurd (wit_range h ht (hW.1 hV)) hl
    rw [this]
    exact witness_no p t l c w h hl
end Go.Proofs.Ytmeljcbefnojfaa
