import Derived.Test.YtmeljcbefnojfaaTrc
import Derived.Test.YtmeljcbefnojfaaIkm
namespace Go.Proofs.Ytmeljcbefnojfaa
open Go.RowKit
attribute [local go_sem] Oper.semAt_some
set_option maxRecDepth 100000 in
set_option maxHeartbeats 4000000 in
/-- a point that means nothing on the form -/
theorem trace_none (p : Pap) (t : Pt) (G n : Nat) (w : World) (h : p.Ok) (ht : t.Ok) (hs : ¬ ColSome p t) :
    Calls Try.prog 105 #[p.v, t.v, .slice (some ⟨G, 0, none⟩) n n] w fun e w' => e = .returned (.tuple #[]) ∧ Below w.heap.size w w' := by
  have K : Hid (∀ W, Calls Try.prog 86 #[p.v, t.v] W fun e w' => e = .returned (.tuple #[.agg #[.int .i64 0, .int .i64 0], .bool false]) ∧ Below W.heap.size W w') := Lib.hid fun W => columnsOf_no p t W h ht hs
  clear h ht hs
  go_enter Try.func105, Try.ntmps105
  go_wp2_with fail
  refine (K.out _).mono ?_
  rintro e w1 ⟨rfl, hb1⟩
  have C1 : Below w.heap.size w w1 := (box3 w _ _ _).trans (hb1.mono (by simp only [World.size_alloc]; omega))
  clear hb1
  go_wp2_with fail
  refine bodyPost_ret (v := .tuple #[]) ?_ rfl ⟨rfl, C1.alloc C1.size _⟩
  simp [results, Try.results105, go_sem]
/-- a point's ink, whatever it means -/
theorem trace_ink (p : Pap) (G n : Nat) (bl : Nat → Bool) (Z : Nat → Pt) (k : Nat) (w0 w : World) (h : p.Ok) (hZ : ∀ i, i < k + 1 → (Z i).Ok) (hk : k < 400) (hn : (n : Int) = p.cols) (hC : ColI w0 G n (inkC p bl Z k) bl w) :
    Calls Try.prog 105 #[p.v, (Z k).v, .slice (some ⟨G, 0, none⟩) n n] w fun e w' => e = .returned (.tuple #[]) ∧ ColI w0 G n (inkC p bl Z (k + 1)) bl w' := by
  have ht := hZ k (by omega)
  have hZ' : ∀ i, i < k → (Z i).Ok := fun i hi => hZ i (by omega)
  by_cases hs : ColSome p (Z k)
  · have e : inkC p bl Z (k + 1) = trcL p (hts p (Z k)) bl (inkC p bl Z k) (cLo p (Z k)) (cHi p (Z k)) := by rw [inkC, if_pos hs]
    rw [e]
    exact trace_some p (Z k) G n (hts p (Z k)) (inkC p bl Z k) bl w0 w h ht hn hC hs (fun c _ => hts_is h ht c) (fun c _ => by have := inkC_len (bl := bl) h k hZ' c; omega) (fun c _ => inkC_srt h k hZ' c)
  · have e : inkC p bl Z (k + 1) = inkC p bl Z k := by rw [inkC, if_neg hs]
    rw [e]
    exact (trace_none p (Z k) G n w h ht hs).mono fun e w' hq => ⟨hq.1, hC.up hq.2⟩
theorem blt_zero (B : Nat → Int) : blt B 0 = fun _ => false := by funext c; rfl
theorem BlotsOk.len {cols : Int} {Z : Nat → Int} {m : Nat} (h : BlotsOk cols Z m) : ∀ k, k ≤ m → (k : Int) ≤ lastB Z k + 1 := by
  intro k
  induction k with
  | zero => intro _; show (0 : Int) ≤ -1 + 1; omega
  | succ k ih =>
    intro hk
    have h1 := ih (by omega)
    have h2 := h k (by omega)
    show ((k + 1 : Nat) : Int) ≤ Z k + 1
    omega
/-- new columns -/
theorem colI_new (w : World) (n : Nat) : ColI (w.alloc (.cells (madeCells #[.slice none 0 0, .bool false] (n * 2)) 109)) w.heap.size n (fun _ => []) (fun _ => false) (w.alloc (.cells (madeCells #[.slice none 0 0, .bool false] (n * 2)) 109)) := by
  refine ⟨Below.refl _ _, _, fun _ => .slice none 0 0, heap_alloc_new _ _, by simp [size_madeCells], fun c hc => ⟨?_, ?_, ?_⟩, fun c d _ _ _ g hg => by cases hg⟩
  · have h : c * 2 < n * 2 := by omega
    simp [madeCells, h, Nat.mul_mod_left]
  · have h : c * 2 + 1 < n * 2 := by omega
    have h2 : (c * 2 + 1) % 2 = 1 := by omega
    simp [madeCells, h, h2]
  · exact World.ownsRow_nil _ _ _ 2
set_option maxRecDepth 100000 in
set_option maxHeartbeats 4000000 in
theorem Ink_ok (p : Pap) (A B : Option Addr) (n c m d : Nat) (Z : Nat → Pt) (ZB : Nat → Int) (E : Int) (w : World) (h : p.Ok) (hZ : ∀ i, i < n → (Z i).Ok) (hbl : BlotsOk p.cols ZB m) (hn : n ≤ 400) (hA : PtsIn A n Z w.heap.size w) (hB : IntsIn B m ZB w.heap.size w)
    (hE : Eight p.cols.toNat (inkC p (blt ZB m) Z n) ∧ E = 0 ∨ ¬ Eight p.cols.toNat (inkC p (blt ZB m) Z n) ∧ E = 2) :
    Calls Try.prog 53 #[p.v, .slice A n c, .slice B m d] w (ShM p.cols.toNat (inkC p (blt ZB m) Z n) E w) := by
  obtain ⟨N, hN⟩ : ∃ N : Nat, (N : Int) = p.cols := ⟨p.cols.toNat, by have := h.cols; omega⟩
  have hNe : p.cols.toNat = N := by omega
  rw [hNe] at hE ⊢
  have hN2 : N ≤ 200 := by have := h.cols; omega
  have hmZ : m ≤ N := by
    have h1 := hbl.len m (Nat.le_refl _)
    have h2 := hbl.last_bd (Nat.le_refl m) (by omega)
    have h3 : lastB ZB m ≤ p.cols - 1 ∨ m = 0 := by
      cases m with
      | zero => exact .inr rfl
      | succ m => exact .inl (hbl m (by omega)).2
    omega
  have K1 : Hid (∀ W, Calls Try.prog 27 #[p.v] W fun e w' => e = .returned (.int .i64 0) ∧ Below W.heap.size W w') := Lib.hid fun W => checkPaper_ok p W h
  have K2 : Hid (∀ W, Below w.heap.size w W → Calls Try.prog 21 #[.slice A n c] W fun e w' => e = .returned (.tuple #[.int .i64 0, .int .i64 0]) ∧ Below W.heap.size W w') := Lib.hid fun W hW => by
    have := CheckTrace_any A n c Z n W ((hA.up hW (Nat.le_refl _)).more hW.size) ⟨hZ, fun h => absurd h (by omega), Nat.le_refl _⟩
    have e1 : ctE n n = 0 := by unfold ctE; rw [if_neg (by omega), if_neg (by omega)]
    have e2 : ctI n n = 0 := by unfold ctI; rw [if_neg (by omega), if_neg (by omega)]
    rw [e1, e2] at this
    exact this
  have K3 : Hid (∀ W, Below w.heap.size w W → Calls Try.prog 104 #[p.v, .slice B m d] W fun e w' => e = .returned (.bool true) ∧ Below W.heap.size W w') := Lib.hid fun W hW => areBlots_any p B m d ZB true W h ((hB.up hW (Nat.le_refl _)).more hW.size) ⟨fun _ => hbl, fun _ => rfl⟩
  have HA := Lib.hid hA
  have HB := Lib.hid hB
  have HE := Lib.hid hE
  have HH := Lib.hid h
  have HZ := Lib.hid hZ
  have HBL := Lib.hid hbl
  have HN := Lib.hid hN
  have hn1 : (n : Int) ≤ 400 := by omega
  have hm1 : (m : Int) ≤ 200 := by omega
  have KS : Hid (∀ G W, ColI W G N (inkC p (blt ZB m) Z n) (blt ZB m) W → w.heap.size + 1 + 1 ≤ G → Below w.heap.size w W → Calls Try.prog 106 #[.slice (some ⟨G, 0, none⟩) N N] W fun e w' => ∃ A k c, e = .returned (.tuple #[.agg #[.slice A k c], .int .i64 E]) ∧ Below W.heap.size W w' ∧ Hid (E = 0 ∧ k = N ∧ ClsL A N (inkC p (blt ZB m) Z n) (w.heap.size + 1 + 1) w' ∨ E ≠ 0 ∧ k = 0)) := Lib.hid fun G W hC hGl hW => by
    obtain ⟨E', hE', hc⟩ := sheet_inkp (w := w) W hN2 (fun c _ => by have := inkC_len (bl := blt ZB m) HH.out n HZ.out c; omega) hC.cols hW
    have : E' = E := by rcases HE.out with h | h <;> rcases hE' with h' | h' <;> first | omega | exact absurd h.1 h'.2 | exact absurd h'.2 h.1
    subst this
    exact hc.mono fun e w' h => by obtain ⟨a, b, c, h1, h2, h3⟩ := h; exact ⟨a, b, c, h1, h2, Lib.hid (by rcases h3 with h3 | h3; exact .inl ⟨h3.1, h3.2.1, h3.2.2.mono hGl⟩; exact .inr h3)⟩
  go_enter Try.func53, Try.ntmps53
  go_wp2_with fail
  refine (K1.out _).mono ?_
  rintro e w1 ⟨rfl, hb1⟩
  have C1 : Below w.heap.size w w1 := (box2 w _ _).trans (hb1.mono (by simp only [World.size_alloc]; omega))
  have P1 : HasPap p w.heap.size w1 := HasPap.up (by unfold HasPap; go_simp) hb1 (by simp only [World.size_alloc]; omega)
  have r0 := low_cell (b := w.heap.size + 1) (o := 0) (v := .slice none 0 0) hb1 (by simp only [World.size_alloc]; omega) (by go_simp)
  have r1 := low_frozen (b := w.heap.size + 1) (o := 0) (v := false) hb1 (by simp only [World.size_alloc]; omega) (by go_simp)
  have zr := World.block_lt_of_cell? _ _ r0
  clear hb1
  go_wp2_with fail
  refine (K2.out _ C1).mono ?_
  rintro e w2 ⟨rfl, hb2⟩
  have C2 : Below w.heap.size w w2 := C1.trans (hb2.mono C1.size)
  have P2 := P1.up hb2 P1.block
  have r20 := cell_up hb2 zr r0
  have r21 := frozen_up hb2 zr r1
  have zr2 := World.block_lt_of_cell? _ _ r20
  clear hb2 C1 P1 r0 r1 zr
  have z2 : w.heap.size < w2.heap.size := P2.block
  have HP2 := Lib.hid P2
  unfold HasPap at P2
  obtain ⟨p0, p1, p2, p3, p4, p5, p6, p7, p8, p9⟩ := P2
  go_wp2_with fail
  refine (K3.out _ C2).mono ?_
  rintro e w3 ⟨rfl, hb3⟩
  have C3 : Below w.heap.size w w3 := C2.trans (hb3.mono C2.size)
  have P3 := HP2.out.up hb3 HP2.out.block
  have r30 := cell_up hb3 zr2 r20
  have r31 := frozen_up hb3 zr2 r21
  have zr3 := World.block_lt_of_cell? _ _ r30
  clear hb3 C2 HP2 p0 p1 p2 p3 p4 p5 p6 p7 p8 p9 z2 r20 r21 zr2
  have z3 : w.heap.size < w3.heap.size := P3.block
  have HP3 := Lib.hid P3
  unfold HasPap at P3
  obtain ⟨p0, p1, p2, p3, p4, p5, p6, p7, p8, p9⟩ := P3
  have hmk := run_make_cols N (by omega)
  rw [hN] at hmk
  go_wp2_with fail
  obtain ⟨G, hG⟩ : ∃ G, G = w3.heap.size := ⟨_, rfl⟩
  obtain ⟨w4, hw4⟩ : ∃ w4, w4 = w3.alloc (.cells (madeCells #[.slice none 0 0, .bool false] (N * 2)) 109) := ⟨_, rfl⟩
  have hB4 : Below w3.heap.size w3 w4 := by rw [hw4]; exact box1 _ _
  have hC0 : ColI w4 G N (fun _ => []) (blt ZB 0) w4 := by rw [hw4, hG, blt_zero]; exact colI_new w3 N
  have C4 : Below w.heap.size w w4 := C3.trans (hB4.mono C3.size)
  have HP4 := Lib.hid (HP3.out.up hB4 z3)
  have R40 := Lib.hid (cell_up hB4 zr3 r30)
  have R41 := Lib.hid (frozen_up hB4 zr3 r31)
  have HC0 := Lib.hid hC0
  have HC4 := Lib.hid C4
  have hG1 : w.heap.size + 1 + 1 ≤ G := by omega
  rw [← hG]
  rw [← hw4]
  clear hmk p0 p1 p2 p3 p4 p5 p6 p7 p8 p9 hC0 hw4 hG hB4 C3 C4 r30 r31 zr3 z3 HP3
  go_loopw [13, 41] (fun _ i wr => ∃ k : Nat, k ≤ m ∧ i = .int .i64 k ∧ ColI w4 G N (fun _ => []) (blt ZB k) wr) (fun _ i _ => m - (intOf i).toNat)
  case atStart => exact ⟨0, Nat.zero_le _, rfl, HC0.out⟩
  case round =>
    obtain ⟨k, hk, rfl, hC⟩ := hrel
    obtain ⟨wi, rfl⟩ : ∃ wi : World, wi = wr := ⟨_, rfl⟩
    have hk0 : (0 : Int) ≤ (k : Int) := by omega
    have HC := Lib.hid hC
    have hBi := hC.below
    have hCW : Below w.heap.size w wi := HC4.out.trans (hBi.mono (by omega))
    by_cases hlt : k < m
    · obtain ⟨b, rfl, bl, b0⟩ := (HB.out.up hCW (Nat.le_refl _)).2 k hlt
      have hki : (k : Int) < (m : Int) := by omega
      have hz := HBL.out.last_bd (Nat.le_of_lt hlt) (by omega)
      have hz2 := HBL.out k hlt
      obtain ⟨q, hq⟩ : ∃ q : Nat, (q : Int) = ZB k := ⟨(ZB k).toNat, by omega⟩
      rw [← hq] at b0
      have hqN : q < N := by omega
      have hqi : (q : Int) < (N : Int) := by omega
      have hq0 : (0 : Int) ≤ (q : Int) := by omega
      obtain ⟨v, v1, v2, v3, v4, _⟩ := hC.at hqN
      have HN : Hid (ColI w4 G N (fun _ => []) (blt ZB (k + 1)) (wi.setCell ⟨G, q * 2 + 1, none⟩ (.bool true))) := Lib.hid (by rw [← blt_succ q hq]; exact hC.blot hqN true)
      clear hC hBi hCW hz hz2 hq v1 v3
      go_wp2_with fail
      go_roundw
      case rel => exact ⟨k + 1, by omega, by go_num, HN.out⟩
      case measure => simp [intOf]; omega
    · have hki : (m : Int) ≤ (k : Int) := by omega
      obtain rfl : k = m := by omega
      have KT : Hid (∀ j, j < n → ∀ W, Hid (ColI w4 G N (inkC p (blt ZB k) Z j) (blt ZB k) W) → Calls Try.prog 105 #[p.v, (Z j).v, .slice (some ⟨G, 0, none⟩) N N] W fun e w' => e = .returned (.tuple #[]) ∧ Hid (ColI w4 G N (inkC p (blt ZB k) Z (j + 1)) (blt ZB k) w')) := Lib.hid fun j hj W hW =>
        (trace_ink p G N (blt ZB k) Z j w4 W HH.out (fun i hi => HZ.out i (by omega)) (by omega) HN.out hW.out).mono fun e w' hq => ⟨hq.1, Lib.hid hq.2⟩
      clear hC hBi hCW K1 K2 K3
      go_wp2_with fail
      go_loopw [15, 52] (fun _ i wr => ∃ j : Nat, j ≤ n ∧ i = .int .i64 j ∧ Hid (ColI w4 G N (inkC p (blt ZB k) Z j) (blt ZB k) wr)) (fun _ i _ => n - (intOf i).toNat)
      case atStart => exact ⟨0, Nat.zero_le _, rfl, HC⟩
      case round =>
        obtain ⟨j, hj, rfl, hC⟩ := hrel
        obtain ⟨wj, rfl⟩ : ∃ wj : World, wj = wr := ⟨_, rfl⟩
        have hj0 : (0 : Int) ≤ (j : Int) := by omega
        have hBj := hC.out.below
        have hCW : Below w.heap.size w wj := HC4.out.trans (hBj.mono (by omega))
        have HCW := Lib.hid hCW
        by_cases hjl : j < n
        · obtain ⟨a, rfl, al, c0, c1, c2⟩ := (HA.out.up hCW (Nat.le_refl _)).2 j hjl
          have hji : (j : Int) < (n : Int) := by omega
          have hP := HP4.out.up hBj (by omega)
          have zj := hP.block
          unfold HasPap at hP
          obtain ⟨p0, p1, p2, p3, p4, p5, p6, p7, p8, p9⟩ := hP
          clear hBj hCW
          go_wp2_with fail
          refine (KT.out j hjl _ (Lib.hid (hC.out.up (box1 _ _)))).mono ?_
          rintro e w5 ⟨rfl, hC5⟩
          go_wp2_with fail
          go_roundw
          case rel => exact ⟨j + 1, by omega, by go_num, hC5⟩
          case measure => simp [intOf]; omega
        · have hji : (n : Int) ≤ (j : Int) := by omega
          obtain rfl : j = n := by omega
          have KS1 := Lib.hid (KS.out G wj (by obtain ⟨h1, h2⟩ := hC.out; exact ⟨Below.refl _ _, h2⟩) hG1 hCW)
          have r0 := (hBj.cell (p := ⟨w.heap.size + 1, 0, none⟩) (show w.heap.size + 1 < G by omega)).trans R40.out
          have r1 := (hBj.frozen (p := ⟨w.heap.size + 1, 0, none⟩) (show w.heap.size + 1 < G by omega)).trans R41.out
          have hz := World.block_lt_of_cell? _ _ r0
          clear hBj hCW
          go_wp2_with fail
          refine KS1.out.mono ?_
          rintro e w6 ⟨A', k', c', rfl, hb6, HF⟩
          have r2 := cell_up hb6 hz r0
          have r3 := frozen_up hb6 hz r1
          have hB := Lib.hid (HCW.out.trans (hb6.mono HCW.out.size))
          have hz2 : w.heap.size + 1 < w6.heap.size := Nat.lt_of_lt_of_le hz hb6.size
          clear hb6 r0 r1
          go_wp2_with fail
          refine bodyPost_ret (v := .tuple #[.agg #[.slice A' k' c'], .int .i64 E]) ?_ rfl ⟨A', k', c', rfl, set1 hB.out (by omega) _ _, Lib.hid ?_⟩
          · simp [results, Try.results53, go_sem, r2]
          · rcases HF.out with h | h
            · exact .inl ⟨h.1, h.2.1, (h.2.2.set (by omega) _ _).mono (by omega)⟩
            · exact .inr h
end Go.Proofs.Ytmeljcbefnojfaa
namespace Go.Proofs.Ytmeljcbefnojfaa
open Go.RowKit
attribute [local go_sem] Oper.semAt_some
set_option maxRecDepth 100000 in
set_option maxHeartbeats 4000000 in
theorem Ink_e1 (p : Pap) (A B : Option Addr) (n c m d : Nat) (E : Int) (L : Nat → List (Int × Int)) (w : World)
    (K1 : Hid (∀ W, Calls Try.prog 27 #[p.v] W fun e w' => e = .returned (.int .i64 E) ∧ Below W.heap.size W w')) (hE : E ≠ 0) :
    Calls Try.prog 53 #[p.v, .slice A n c, .slice B m d] w (ShM p.cols.toNat L E w) := by
  have d1 : (E == 0) = false := by simpa using hE
  have d2 : (E != 0) = true := by simpa using hE
  have HE := Lib.hid hE
  clear hE
  go_enter Try.func53, Try.ntmps53
  go_wp2_with fail
  refine (K1.out _).mono ?_
  rintro e w1 ⟨rfl, hb1⟩
  have C1 : Below w.heap.size w w1 := (box2 w _ _).trans (hb1.mono (by simp only [World.size_alloc]; omega))
  have r0 := low_cell (b := w.heap.size + 1) (o := 0) (v := .slice none 0 0) hb1 (by simp only [World.size_alloc]; omega) (by go_simp)
  have r1 := low_frozen (b := w.heap.size + 1) (o := 0) (v := false) hb1 (by simp only [World.size_alloc]; omega) (by go_simp)
  have HC := Lib.hid C1
  clear hb1 C1
  go_wp2_with fail
  refine bodyPost_ret (v := .tuple #[.agg #[.slice none 0 0], .int .i64 E]) ?_ rfl ⟨none, 0, 0, rfl, ?_, Lib.hid (.inr ⟨HE.out, rfl⟩)⟩
  · simp [results, Try.results53, go_sem, r0]
  · first | exact set1 HC.out (by omega) _ _ | exact HC.out
set_option maxRecDepth 100000 in
set_option maxHeartbeats 4000000 in
theorem Ink_e2 (p : Pap) (A B : Option Addr) (n c m d : Nat) (E I : Int) (L : Nat → List (Int × Int)) (w : World)
    (K1 : Hid (∀ W, Calls Try.prog 27 #[p.v] W fun e w' => e = .returned (.int .i64 0) ∧ Below W.heap.size W w'))
    (K2 : Hid (∀ W, Below w.heap.size w W → Calls Try.prog 21 #[.slice A n c] W fun e w' => e = .returned (.tuple #[.int .i64 E, .int .i64 I]) ∧ Below W.heap.size W w')) (hE : E ≠ 0) :
    Calls Try.prog 53 #[p.v, .slice A n c, .slice B m d] w (ShM p.cols.toNat L E w) := by
  have d1 : (E == 0) = false := by simpa using hE
  have d2 : (E != 0) = true := by simpa using hE
  have HE := Lib.hid hE
  clear hE
  go_enter Try.func53, Try.ntmps53
  go_wp2_with fail
  refine (K1.out _).mono ?_
  rintro e w1 ⟨rfl, hb1⟩
  have C1 : Below w.heap.size w w1 := (box2 w _ _).trans (hb1.mono (by simp only [World.size_alloc]; omega))
  have r0 := low_cell (b := w.heap.size + 1) (o := 0) (v := .slice none 0 0) hb1 (by simp only [World.size_alloc]; omega) (by go_simp)
  have r1 := low_frozen (b := w.heap.size + 1) (o := 0) (v := false) hb1 (by simp only [World.size_alloc]; omega) (by go_simp)
  have zr := World.block_lt_of_cell? _ _ r0
  clear hb1
  go_wp2_with fail
  refine (K2.out _ C1).mono ?_
  rintro e w2 ⟨rfl, hb2⟩
  have C2 : Below w.heap.size w w2 := C1.trans (hb2.mono C1.size)
  have r20 := cell_up hb2 zr r0
  have r21 := frozen_up hb2 zr r1
  have HC := Lib.hid C2
  clear hb2 C1 C2 r0 r1 zr
  go_wp2_with fail
  refine bodyPost_ret (v := .tuple #[.agg #[.slice none 0 0], .int .i64 E]) ?_ rfl ⟨none, 0, 0, rfl, ?_, Lib.hid (.inr ⟨HE.out, rfl⟩)⟩
  · simp [results, Try.results53, go_sem, r20]
  · first | exact set1 HC.out (by omega) _ _ | exact HC.out
set_option maxRecDepth 100000 in
set_option maxHeartbeats 4000000 in
theorem Ink_e3 (p : Pap) (A B : Option Addr) (n c m d : Nat)  (L : Nat → List (Int × Int)) (w : World)
    (K1 : Hid (∀ W, Calls Try.prog 27 #[p.v] W fun e w' => e = .returned (.int .i64 0) ∧ Below W.heap.size W w'))
    (K2 : Hid (∀ W, Below w.heap.size w W → Calls Try.prog 21 #[.slice A n c] W fun e w' => e = .returned (.tuple #[.int .i64 0, .int .i64 0]) ∧ Below W.heap.size W w'))
    (K3 : Hid (∀ W, Below w.heap.size w W → Calls Try.prog 104 #[p.v, .slice B m d] W fun e w' => e = .returned (.bool false) ∧ Below W.heap.size W w')) :
    Calls Try.prog 53 #[p.v, .slice A n c, .slice B m d] w (ShM p.cols.toNat L 1 w) := by
  go_enter Try.func53, Try.ntmps53
  go_wp2_with fail
  refine (K1.out _).mono ?_
  rintro e w1 ⟨rfl, hb1⟩
  have C1 : Below w.heap.size w w1 := (box2 w _ _).trans (hb1.mono (by simp only [World.size_alloc]; omega))
  have r0 := low_cell (b := w.heap.size + 1) (o := 0) (v := .slice none 0 0) hb1 (by simp only [World.size_alloc]; omega) (by go_simp)
  have r1 := low_frozen (b := w.heap.size + 1) (o := 0) (v := false) hb1 (by simp only [World.size_alloc]; omega) (by go_simp)
  have P1 : HasPap p w.heap.size w1 := HasPap.up (by unfold HasPap; go_simp) hb1 (by simp only [World.size_alloc]; omega)
  have zr := World.block_lt_of_cell? _ _ r0
  clear hb1
  go_wp2_with fail
  refine (K2.out _ C1).mono ?_
  rintro e w2 ⟨rfl, hb2⟩
  have C2 : Below w.heap.size w w2 := C1.trans (hb2.mono C1.size)
  have r20 := cell_up hb2 zr r0
  have r21 := frozen_up hb2 zr r1
  have P2 := P1.up hb2 P1.block
  have zr2 := World.block_lt_of_cell? _ _ r20
  clear hb2 C1 P1 r0 r1 zr
  have z2 : w.heap.size < w2.heap.size := P2.block
  unfold HasPap at P2
  obtain ⟨p0, p1, p2, p3, p4, p5, p6, p7, p8, p9⟩ := P2
  go_wp2_with fail
  refine (K3.out _ C2).mono ?_
  rintro e w3 ⟨rfl, hb3⟩
  have HC := Lib.hid (C2.trans (hb3.mono C2.size))
  have r30 := cell_up hb3 zr2 r20
  have r31 := frozen_up hb3 zr2 r21
  clear hb3 C2 p0 p1 p2 p3 p4 p5 p6 p7 p8 p9 z2 r20 r21 zr2
  go_wp2_with fail
  refine bodyPost_ret (v := .tuple #[.agg #[.slice none 0 0], .int .i64 1]) ?_ rfl ⟨none, 0, 0, rfl, ?_, Lib.hid (.inr ⟨by decide, rfl⟩)⟩
  · simp [results, Try.results53, go_sem, r30]
  · first | exact set1 HC.out (by omega) _ _ | exact HC.out
/-- what Ink returns, of up to 400 points, or too many -/
theorem Ink_any (p : Pap) (A B : Option Addr) (n c m d : Nat) (Z : Nat → Pt) (ZB : Nat → Int) (E : Int) (w : World) (hn : n ≤ 400 ∨ 2000 < n) (hA : PtsIn A n Z w.heap.size w) (hB : IntsIn B m ZB w.heap.size w) (hE : inkR p n Z m ZB E) :
    Calls Try.prog 53 #[p.v, .slice A n c, .slice B m d] w (ShM p.cols.toNat (inkC p (blt ZB m) Z n) E w) := by
  rcases hE with ⟨h, rfl⟩ | ⟨h, hE⟩
  · exact Ink_e1 p A B n c m d 10 _ w (Lib.hid fun W => checkPaper_no p W h) (by decide)
  · have K1 : Hid (∀ W, Calls Try.prog 27 #[p.v] W fun e w' => e = .returned (.int .i64 0) ∧ Below W.heap.size W w') := Lib.hid fun W => checkPaper_ok p W h
    obtain ⟨j, hj⟩ := firstBad_ex Z n
    have K2 : Hid (∀ W, Below w.heap.size w W → Calls Try.prog 21 #[.slice A n c] W fun e w' => e = .returned (.tuple #[.int .i64 (ctE n j), .int .i64 (ctI n j)]) ∧ Below W.heap.size W w') := Lib.hid fun W hW => CheckTrace_any A n c Z j W ((hA.up hW (Nat.le_refl _)).more hW.size) hj
    rcases hE with ⟨h2, rfl⟩ | ⟨h2, hE⟩
    · have e : ctE n j = 2 := by unfold ctE; rw [if_pos h2]
      have := Ink_e2 p A B n c m d (ctE n j) (ctI n j) (inkC p (blt ZB m) Z n) w K1 K2 (by rw [e]; decide)
      rw [e] at this
      exact this
    · rcases hE with ⟨h3, rfl⟩ | ⟨h3, hE⟩
      · have hjn : j < n := by
          rcases Nat.lt_or_ge j n with a | a
          · exact a
          · exact absurd (fun i hi => hj.1 i (by omega)) h3
        have e : ctE n j = 11 := by unfold ctE; rw [if_neg (by omega), if_pos hjn]
        have := Ink_e2 p A B n c m d (ctE n j) (ctI n j) (inkC p (blt ZB m) Z n) w K1 K2 (by rw [e]; decide)
        rw [e] at this
        exact this
      · have hjn : ¬ j < n := fun a => hj.2.1 a (h3 j a)
        have e1 : ctE n j = 0 := by unfold ctE; rw [if_neg (by omega), if_neg hjn]
        have e2 : ctI n j = 0 := by unfold ctI; rw [if_neg (by omega), if_neg hjn]
        rw [e1, e2] at K2
        rcases hE with ⟨h4, rfl⟩ | ⟨h4, hE⟩
        · exact Ink_e3 p A B n c m d _ w K1 K2 (Lib.hid fun W hW => areBlots_any p B m d ZB false W h ((hB.up hW (Nat.le_refl _)).more hW.size) ⟨(fun e => by cases e), fun g => absurd g h4⟩)
        · exact Ink_ok p A B n c m d Z ZB E w h h3 h4 (by omega) hA hB hE
end Go.Proofs.Ytmeljcbefnojfaa
namespace Go.Proofs.Ytmeljcbefnojfaa
open Go.RowKit
def intsZ (l : List Int) : List Value := l.map fun z => .int .i64 z
theorem intsZ_snoc (l : List Int) (z : Int) : intsZ (l ++ [z]) = intsZ l ++ [.int .i64 z] := by simp [intsZ]
/-- a row of numbers, made from a world on -/
structure RowZ (w0 : World) (l : List Int) (v : Value) (wr : World) : Prop where
  below : Below w0.heap.size w0 wr
  own : wr.ownsRow w0.heap.size 3 1 v l.length (intsZ l)
theorem RowZ.app {w0 wr w1 : World} {l : List Int} {v v' : Value} {o : Obj} {z : Int} (h : RowZ w0 l v wr) (hg : (wr.alloc o).grownBy w1 v.ownBlock)
    (h' : w1.ownsRow w0.heap.size 3 1 v' (l.length + 1) (intsZ l ++ [.int .i64 z])) : RowZ w0 (l ++ [z]) v' w1 := by
  obtain ⟨h1, h2⟩ := h
  refine ⟨?_, ?_⟩
  · refine (h1.alloc h1.size o).grown hg (by simp only [World.size_alloc]; have := h1.size; omega) (fun r e => ?_)
    obtain ⟨_, hx | ⟨g, cap, cur, e1, e3, _⟩⟩ := h2
    · rw [hx.1] at e; cases e
    · rw [e1] at e
      simp [Value.ownBlock] at e
      omega
  · rw [intsZ_snoc, List.length_append]; exact h'
/-- a row of numbers, as it is read -/
theorem row_ints {w : World} {B : Nat} {l : List Int} {v : Value} (h : w.ownsRow B 3 1 v l.length (intsZ l)) (hl : l.length ≤ 1000) : ∃ A c, v = .slice A l.length c ∧ IntsIn A l.length (asZ l) w.heap.size w := by
  obtain ⟨h0, hx | ⟨g, cap, cur, e1, e2, e3, e4, e5, e6, e7⟩⟩ := h
  · refine ⟨none, 0, by rw [hx.1, hx.2], by omega, fun i hi => ?_⟩
    omega
  · refine ⟨some ⟨g, 0, none⟩, cap, e1, by omega, fun i hi => ⟨_, rfl, (Array.getElem?_eq_some_iff.1 e3).1, ?_⟩⟩
    rw [Nat.mul_one] at e7
    have h1 : cur[i]? = some (.int .i64 (asZ l i)) := by
      have h2 : (intsZ l)[i]? = some (.int .i64 (asZ l i)) := by simp [intsZ, asZ, hi]
      rw [← e7, List.getElem?_take_of_lt hi] at h2
      simpa using h2
    have h3 : (⟨g, 0, none⟩ : Addr).add i = ⟨g, i, none⟩ := by rw [Addr.add_lit, Nat.zero_add]
    rw [h3]
    simp [World.cell?, e3, h1]
/-- two sheets show the same in a column -/
theorem reads_same {X Y : Cls} {n m j : Nat} {L M : Nat → List (Int × Int)} (hX : Reads X n L) (hY : Reads Y m M) (hj : j < n) (hj2 : j < m) (e : L j = M j) : X.L j = Y.L j ∧ ∀ i, i < X.L j → X.S j i = Y.S j i := by
  have e1 := (hX j hj).2
  have e2 := (hY j hj2).2
  have e3 : X.L j = Y.L j := by rw [(hX j hj).1, (hY j hj2).1, e]
  refine ⟨e3, fun i hi => ?_⟩
  have h := e1.trans (e.trans e2.symm)
  have := congrArg (fun l => l[i]?) h
  simpa [firstK, hi, ← e3] using this

/-- an Ink that succeeds -/
theorem inkR_zero {p : Pap} {n m : Nat} {Z : Nat → Pt} {B : Nat → Int} (h : inkR p n Z m B 0) : p.Ok ∧ n ≤ 2000 ∧ (∀ i, i < n → (Z i).Ok) ∧ BlotsOk p.cols B m ∧ Eight p.cols.toNat (inkC p (blt B m) Z n) := by
  rcases h with ⟨_, h⟩ | ⟨h1, ⟨_, h⟩ | ⟨h2, ⟨_, h⟩ | ⟨h3, ⟨_, h⟩ | ⟨h4, ⟨h5, _⟩ | ⟨_, h⟩⟩⟩⟩⟩ <;> first | (exact absurd h (by decide)) | exact ⟨h1, h2, h3, h4, h5⟩
theorem inkC_rng {p : Pap} {bl : Nat → Bool} {Z : Nat → Pt} (h : p.Ok) {n : Nat} (hZ : ∀ i, i < n → (Z i).Ok) (c : Nat) : Rng (inkC p bl Z n c) := by
  have hs := inkC_srt (bl := bl) h n hZ c
  have key : ∀ x, Has (inkC p bl Z n c) x → 0 ≤ x ∧ x ≤ 12000 := by
    intro x hx
    obtain ⟨_, i, hi, _, _, _, q, hq, h1, h2⟩ := (inkC_has h n hZ c x).1 hx
    obtain ⟨s, hs', rfl⟩ := List.mem_map.1 hq
    obtain ⟨k, hk⟩ := List.getElem?_of_mem hs'
    have hb := (hts_bd h (hZ i hi) (hts_is h (hZ i hi) c)).1 k s hk
    have a := lev_bd h (a := s.1) ⟨hb.1, by omega⟩
    have b := lev_bd h (a := s.2) ⟨by omega, hb.2.2⟩
    have hl := h.low
    simp only at h1 h2
    omega
  intro q hq
  have h0 := hs.1 q hq
  have a := key q.1 ⟨q, hq, Int.le_refl _, h0⟩
  have b := key q.2 ⟨q, hq, h0, Int.le_refl _⟩
  exact ⟨a.1, b.2⟩
theorem inkC_good {p : Pap} {bl : Nat → Bool} {Z : Nat → Pt} (h : p.Ok) {n : Nat} (hZ : ∀ i, i < n → (Z i).Ok) (h8 : Eight p.cols.toNat (inkC p bl Z n)) : Good p.cols.toNat (inkC p bl Z n) := by
  have hc := h.cols
  exact ⟨by omega, by omega, fun c hc => ⟨h8 c hc, inkC_srt h n hZ c, inkC_rng h hZ c⟩⟩
end Go.Proofs.Ytmeljcbefnojfaa
