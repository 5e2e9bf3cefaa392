import Derived.Test.YtmeljcbefnojfaaMns
namespace Go.Proofs.Ytmeljcbefnojfaa
open Go.RowKit
set_option maxHeartbeats 1000000 in
theorem SameSpans_true (l : List (Int × Int)) (g g2 cap cap2 : Nat) (w : World) (hn : l.length ≤ 1000) (_hc : l.length ≤ cap) (_hc2 : l.length ≤ cap2)
    (h1 : ∀ i s, l[i]? = some s → w.cell? ⟨g, i * 2, none⟩ = some (.int .i64 s.1) ∧ w.cell? ⟨g, i * 2 + 1, none⟩ = some (.int .i64 s.2))
    (h2 : ∀ i s, l[i]? = some s → w.cell? ⟨g2, i * 2, none⟩ = some (.int .i64 s.1) ∧ w.cell? ⟨g2, i * 2 + 1, none⟩ = some (.int .i64 s.2)) :
    Calls Try.prog 52 #[.slice (some ⟨g, 0, none⟩) l.length cap, .slice (some ⟨g2, 0, none⟩) l.length cap2] w fun e w' => e = .returned (.bool true) ∧ ∃ q, w' = w.drewN q := by
  have H1 := Lib.hid h1
  have H2 := Lib.hid h2
  clear h1 h2
  generalize hnn : l.length = n at *
  have HN := Lib.hid hnn
  clear hnn
  go_enter Try.func52, Try.ntmps52
  go_wp2_with fail
  go_loopw [5] (fun i wr => ∃ k q : Nat, k ≤ n ∧ i = .int .i64 k ∧ wr = w.drewN q) (fun i _ => n - (intOf i).toNat)
  case atStart => exact ⟨0, 0, Nat.zero_le _, rfl, rfl⟩
  case round =>
    obtain ⟨k, q, hk, rfl, rfl⟩ := hrel
    by_cases hlt : k < n
    · have hs : l[k]? = some (l[k]'(by rw [HN.out]; exact hlt)) := List.getElem?_eq_getElem _
      generalize l[k]'(by rw [HN.out]; exact hlt) = s at hs
      obtain ⟨a0, a1⟩ := H1.out k s hs
      obtain ⟨b0, b1⟩ := H2.out k s hs
      have hki : (k : Int) < (n : Int) := by omega
      have hk0 : (0 : Int) ≤ (k : Int) := by omega
      clear hs
      go_wp2_with fail
      go_quiet (fail)
      go_wp2_with fail
      exact ⟨⟨k + 1, q + nq, by omega, by go_num, rfl⟩, by simp [intOf]; omega⟩
    · go_wp2_with fail
      go_ret
      exact ⟨rfl, q, rfl⟩
set_option maxHeartbeats 400000 in
theorem sample_any (w : World) :
    Calls Try.prog 68 #[] w fun e w' => e = .returned (Pap.v ⟨100, 1000, 1000, 9600, 10600, 4, 1000, 1000, 1000, 1000⟩) ∧ Below w.heap.size w w' := by
  go_enter Try.func68, Try.ntmps68
  go_wp2_with fail
  refine bodyPost_ret (v := Pap.v ⟨100, 1000, 1000, 9600, 10600, 4, 1000, 1000, 1000, 1000⟩) (by simp [results, Try.results68, go_sem]) rfl ⟨rfl, ?_⟩
  exact box2 _ _ _
end Go.Proofs.Ytmeljcbefnojfaa
namespace Go.Proofs.Ytmeljcbefnojfaa
open Go.RowKit
abbrev P0 : Pap := ⟨100, 1000, 1000, 9600, 10600, 4, 1000, 1000, 1000, 1000⟩
abbrev P1 : Pap := ⟨100, 1000, 1000, 9600, 10600, 4, 900, 1000, 1000, 1000⟩
abbrev P2 : Pap := ⟨1, 1000, 1000, 9600, 10600, 4, 1000, 1000, 900, 1100⟩
abbrev T0 : Pt := ⟨202, 300, 5⟩
abbrev T1 : Pt := ⟨950, 500, 2⟩
abbrev T2 : Pt := ⟨124, 500, 0⟩
theorem ok0 : P0.Ok := ⟨by decide, by decide, by decide, by decide, by decide, by decide, by decide, by decide⟩
theorem ok1 : P1.Ok := ⟨by decide, by decide, by decide, by decide, by decide, by decide, by decide, by decide⟩
theorem ok2 : P2.Ok := ⟨by decide, by decide, by decide, by decide, by decide, by decide, by decide, by decide⟩
theorem okT0 : T0.Ok := ⟨by decide, by decide, by decide⟩
theorem okT1 : T1.Ok := ⟨by decide, by decide, by decide⟩
theorem okT2 : T2.Ok := ⟨by decide, by decide, by decide⟩
theorem aw_arc (w : World) : Calls Try.prog 40 #[P0.v, .int .i64 500] w fun e w' => e = .returned (.tuple #[.int .i64 125, .int .i64 0]) ∧ Below w.heap.size w w' := by
  have := Arc_ok P0 500 w ok0 (by decide)
  rw [show arcOf P0 500 = 125 from by decide] at this
  exact this
theorem aw_hts (w : World) : Calls Try.prog 44 #[P0.v, .int .i64 9850] w fun e w' => e = .returned (.tuple #[.agg #[.int .i64 250, .int .i64 250], .int .i64 0]) ∧ Below w.heap.size w w' := by
  have := Heights_ok P0 9850 w ok0 (by decide)
  rw [show lowst P0 9850 = 250 from by decide, show min (lowst P0 (9850 + 1) - 1) P0.height = 250 from by decide] at this
  exact this
theorem aw_col (w : World) : Calls Try.prog 36 #[P0.v, T0.v] w fun e w' => e = .returned (.tuple #[.agg #[.int .i64 0, .int .i64 1], .int .i64 0]) ∧ Below w.heap.size w w' := by
  have := Columns_some P0 T0 w ok0 okT0 ⟨by decide, by decide⟩
  rw [show cLo P0 T0 = 0 from by decide, show cHi P0 T0 = 1 from by decide] at this
  exact this
theorem aw_cal (w : World) : Calls Try.prog 50 #[P1.v, .int .i64 1000, .int .i64 (-1), T1.v] w fun e w' => e = .returned (.tuple #[Pap.v ⟨100, 1000, 1000, 9600, 10600, 4, 947, 952, 1000, 1000⟩, .int .i64 0]) ∧ Below w.heap.size w w' := by
  have := Calibrate_ok P1 1000 (-1) T1 w ok1 okT1 (by decide) (by decide) ⟨by decide, by decide⟩
  rw [show calP P1 1000 (-1) T1 = ⟨100, 1000, 1000, 9600, 10600, 4, 947, 952, 1000, 1000⟩ from by unfold calP; congr 1] at this
  exact this
theorem cut_of {P : Int → Prop} {lo hi K : Int} (h1 : lo ≤ K) (h2 : K ≤ hi + 1) (hm : ∀ a b, lo ≤ a → a ≤ b → b ≤ hi → P a → P b) (hK : K ≤ hi → P K) (hK' : lo ≤ K - 1 → ¬ P (K - 1)) : Cut P lo hi K := by
  refine ⟨h1, h2, fun y y1 y2 => ⟨fun hy => ?_, fun hy => hm K y h1 hy y2 (hK (by omega))⟩⟩
  rcases Int.lt_or_le y K with h | h
  · exact absurd (hm y (K - 1) y1 (by omega) (by omega) hy) (hK' (by omega))
  · exact h
theorem up_ge {p : Pap} {n lo hi : Int} (h : p.Ok) (h0 : 0 ≤ lo) (h1 : hi ≤ midOf p) : ∀ a b, lo ≤ a → a ≤ b → b ≤ hi → n ≤ arcOf p a → n ≤ arcOf p b :=
  fun a b ha hab hb hp => Int.le_trans hp (arc_up h (by omega) hab (by unfold midOf at h1; omega))
theorem up_gt {p : Pap} {n lo hi : Int} (h : p.Ok) (h0 : 0 ≤ lo) (h1 : hi ≤ midOf p) : ∀ a b, lo ≤ a → a ≤ b → b ≤ hi → n < arcOf p a → n < arcOf p b :=
  fun a b ha hab hb hp => Int.lt_of_lt_of_le hp (arc_up h (by omega) hab (by unfold midOf at h1; omega))
theorem dn_le {p : Pap} {n lo hi : Int} (h : p.Ok) (h0 : midOf p + 1 ≤ lo) (h1 : hi ≤ p.height) : ∀ a b, lo ≤ a → a ≤ b → b ≤ hi → arcOf p a ≤ n → arcOf p b ≤ n :=
  fun a b ha hab hb hp => Int.le_trans (arc_down h (by unfold midOf at h0; omega) hab (by omega)) hp
theorem dn_lt {p : Pap} {n lo hi : Int} (h : p.Ok) (h0 : midOf p + 1 ≤ lo) (h1 : hi ≤ p.height) : ∀ a b, lo ≤ a → a ≤ b → b ≤ hi → arcOf p a < n → arcOf p b < n :=
  fun a b ha hab hb hp => Int.lt_of_le_of_lt (arc_down h (by unfold midOf at h0; omega) hab (by omega)) hp
theorem hl0 : HtsL P0 T0 1 [(295, 305)] := by
  refine .inr ⟨by decide, 295, 306, 501, 501, ⟨.inr ⟨by decide, cut_of (by decide) (by decide) (up_ge ok0 (by decide) (by decide)) (fun _ => by decide) (fun hh => absurd hh (by decide)), cut_of (by decide) (by decide) (up_gt ok0 (by decide) (by decide)) (fun hh => absurd hh (by decide)) (fun _ => by decide)⟩, .inl ⟨by decide, by decide, by decide⟩⟩, by decide⟩
theorem hl2 : HtsL P2 T2 1 [(454, 455), (545, 555)] := by
  refine .inr ⟨by decide, 454, 456, 545, 556, ⟨.inr ⟨by decide, cut_of (by decide) (by decide) (up_ge ok2 (by decide) (by decide)) (fun _ => by decide) (fun hh => absurd hh (by decide)), cut_of (by decide) (by decide) (up_gt ok2 (by decide) (by decide)) (fun _ => by decide) (fun _ => by decide)⟩,
    .inr ⟨by decide, cut_of (by decide) (by decide) (dn_le ok2 (by decide) (by decide)) (fun _ => by decide) (fun _ => by decide), cut_of (by decide) (by decide) (dn_lt ok2 (by decide) (by decide)) (fun hh => absurd hh (by decide)) (fun _ => by decide)⟩⟩, by decide⟩
/-- a row of spans, read -/
def Row1 (w w' : World) (v : Value) (l : List (Int × Int)) : Prop := ∃ g cap, v = .slice (some ⟨g, 0, none⟩) l.length cap ∧ w.heap.size ≤ g ∧ g < w'.heap.size ∧ l.length ≤ cap ∧ cap ≤ maxLen ∧ ∀ i s, l[i]? = some s → w'.cell? ⟨g, i * 2, none⟩ = some (.int .i64 s.1) ∧ w'.cell? ⟨g, i * 2 + 1, none⟩ = some (.int .i64 s.2)
theorem flat_at : ∀ (l : List (Int × Int)) (i : Nat) (s : Int × Int), l[i]? = some s → (flatL l)[i * 2]? = some (.int .i64 s.1) ∧ (flatL l)[i * 2 + 1]? = some (.int .i64 s.2)
  | [], i, s, h => by simp at h
  | q :: l, 0, s, h => by simp at h; subst h; exact ⟨rfl, rfl⟩
  | q :: l, i + 1, s, h => by
    have := flat_at l i s (by simpa using h)
    have e : flatL (q :: l) = .int .i64 q.1 :: .int .i64 q.2 :: flatL l := rfl
    rw [e, show (i + 1) * 2 = i * 2 + 1 + 1 by omega]
    exact this
theorem row1_of {w w' : World} {v : Value} {l : List (Int × Int)} (hl : l ≠ []) (h : RowOf w.heap.size w' v l) : Row1 w w' v l := by
  rcases h with ⟨e, _⟩ | ⟨_, g, cap, rfl, ho⟩
  · exact absurd e hl
  · have hc := ho.cells (g := g) rfl
    obtain ⟨_, hx | ⟨g1, cap1, cur, e1, e2, e3, e4, e5, _⟩⟩ := ho
    · cases hx.1
    · cases e1
      refine ⟨g, cap, rfl, e2, (Array.getElem?_eq_some_iff.1 e3).1, e4, e5, fun i s hs => ?_⟩
      obtain ⟨f1, f2⟩ := flat_at l i s hs
      have a1 := hc _ _ f1
      have a2 := hc _ _ f2
      have ad : ∀ j, (⟨g, 0, none⟩ : Addr).add j = ⟨g, j, none⟩ := fun j => by unfold Addr.add; split <;> simp_all
      rw [ad] at a1 a2
      exact ⟨a1, a2⟩
theorem aw_m0 (w : World) : Calls Try.prog 46 #[P0.v, T0.v, .int .i64 1] w fun e w' => ∃ v, e = .returned (.tuple #[v, .int .i64 0]) ∧ Below w.heap.size w w' ∧ Row1 w w' v [(9895, 9905)] := by
  refine (Means_ok P0 T0 1 _ w ok0 okT0 (by decide) hl0).mono fun e w' h => ?_
  obtain ⟨v, h1, h2, h3⟩ := h
  rw [show meansOf P0 [(295, 305)] = [(9895, 9905)] from by decide] at h3
  exact ⟨v, h1, h2, row1_of (by simp) h3⟩
theorem aw_m2 (w : World) : Calls Try.prog 46 #[P2.v, T2.v, .int .i64 1] w fun e w' => ∃ v, e = .returned (.tuple #[v, .int .i64 0]) ∧ Below w.heap.size w w' ∧ Row1 w w' v [(10054, 10055), (10145, 10155)] := by
  refine (Means_ok P2 T2 1 _ w ok2 okT2 (by decide) hl2).mono fun e w' h => ?_
  obtain ⟨v, h1, h2, h3⟩ := h
  rw [show meansOf P2 [(454, 455), (545, 555)] = [(10054, 10055), (10145, 10155)] from by decide] at h3
  exact ⟨v, h1, h2, row1_of (by simp) h3⟩
end Go.Proofs.Ytmeljcbefnojfaa
namespace Go.Proofs.Ytmeljcbefnojfaa
open Go.RowKit
theorem Row1.up {w W W' : World} {v : Value} {l : List (Int × Int)} (h : Row1 w W v l) (hb : Below W.heap.size W W') : Row1 w W' v l := by
  obtain ⟨g, cap, h1, h2, h3, h4, h5, h6⟩ := h
  exact ⟨g, cap, h1, h2, Nat.lt_of_lt_of_le h3 hb.size, h4, h5, fun i s hs => ⟨cell_up hb h3 (h6 i s hs).1, cell_up hb h3 (h6 i s hs).2⟩⟩
theorem Row1.drewN {w W : World} {v : Value} {l : List (Int × Int)} (h : Row1 w W v l) (n : Nat) : Row1 w (W.drewN n) v l := h.up (below_drewN (Below.refl _ _) n)
/-- SameSpans of a row and one that has just been laid -/
theorem same_row (w W : World) (v : Value) (l : List (Int × Int)) (g2 : Nat) (hn : l.length ≤ 1000) (h : Row1 w W v l) (h2 : ∀ i s, l[i]? = some s → W.cell? ⟨g2, i * 2, none⟩ = some (.int .i64 s.1) ∧ W.cell? ⟨g2, i * 2 + 1, none⟩ = some (.int .i64 s.2)) :
    Calls Try.prog 52 #[v, .slice (some ⟨g2, 0, none⟩) l.length l.length] W fun e w' => e = .returned (.bool true) ∧ ∃ q, w' = W.drewN q := by
  obtain ⟨g, cap, rfl, _, h3, h4, h5, h6⟩ := h
  exact SameSpans_true l g g2 cap l.length W hn h4 (Nat.le_refl _) h6 h2
set_option maxRecDepth 100000 in
set_option maxHeartbeats 4000000 in
theorem awake_any (w : World) : Calls Try.prog 18 #[] w fun e w' => e = .returned (.bool true) ∧ Below w.heap.size w w' := by
  go_enter Try.func18, Try.ntmps18
  go_wp2_with fail
  refine (sample_any _).mono ?_
  rintro e w1 ⟨rfl, hb1⟩
  go_wp2_with fail
  refine (aw_arc _).mono ?_
  rintro e w2 ⟨rfl, hb2⟩
  have s2 := hb2.size
  simp only [World.size_alloc] at s2
  have hP2 : HasPap P0 w1.heap.size w2 := HasPap.up (by unfold HasPap; go_simp) hb2 (by simp only [World.size_alloc]; omega)
  have C2 : Below w.heap.size w w2 := hb1.trans (((box1 w1 _).trans (hb2.mono (by simp only [World.size_alloc]; omega))).mono hb1.size)
  obtain ⟨p0, p1, p2, p3, p4, p5, p6, p7, p8, p9⟩ := hP2
  clear hb1 hb2
  go_wp2_with fail
  refine (aw_hts _).mono ?_
  rintro e w3 ⟨rfl, hb3⟩
  have s3 := hb3.size
  have C3 : Below w.heap.size w w3 := C2.trans (hb3.mono C2.size)
  have hP3 : HasPap P0 w1.heap.size w3 := HasPap.up ⟨p0, p1, p2, p3, p4, p5, p6, p7, p8, p9⟩ hb3 (by omega)
  clear p0 p1 p2 p3 p4 p5 p6 p7 p8 p9 hb3
  obtain ⟨p0, p1, p2, p3, p4, p5, p6, p7, p8, p9⟩ := hP3
  have z3 : w1.heap.size < w3.heap.size := by omega
  go_wp2_with fail
  refine (aw_col _).mono ?_
  rintro e w4 ⟨rfl, hb4⟩
  have s4 := hb4.size
  simp only [World.size_alloc] at s4
  have C4 : Below w.heap.size w w4 := C3.trans (((box1 w3 _).trans (hb4.mono (by simp only [World.size_alloc]; omega))).mono C3.size)
  have hP4 : HasPap P0 w1.heap.size w4 := HasPap.up (by unfold HasPap; go_simp) hb4 (by simp only [World.size_alloc]; omega)
  have a40 : w4.cell? ⟨w3.heap.size, 0, none⟩ = some (.int .i64 250) := cell_up hb4 (by simp only [World.size_alloc]; omega) (by go_simp)
  have a41 : w4.cell? ⟨w3.heap.size, 1, none⟩ = some (.int .i64 250) := cell_up hb4 (by simp only [World.size_alloc]; omega) (by go_simp)
  clear p0 p1 p2 p3 p4 p5 p6 p7 p8 p9 hb4
  obtain ⟨p0, p1, p2, p3, p4, p5, p6, p7, p8, p9⟩ := hP4
  have z4 : w1.heap.size < w4.heap.size := by omega
  go_wp2_with fail
  refine (aw_m0 _).mono ?_
  rintro e w5 ⟨v, rfl, hb5, hr5⟩
  have s5 := hb5.size
  simp only [World.size_alloc] at s5
  have C5 : Below w.heap.size w w5 := C4.trans (((box1 w4 _).trans (hb5.mono (by simp only [World.size_alloc]; omega))).mono C4.size)
  have hP5 : HasPap P0 w1.heap.size w5 := HasPap.up (by unfold HasPap; go_simp) hb5 (by simp only [World.size_alloc]; omega)
  have b40 : w5.cell? ⟨w3.heap.size, 0, none⟩ = some (.int .i64 250) := cell_up hb5 (by simp only [World.size_alloc]; omega) (cell_up (box1 w4 _) (by omega) a40)
  have b41 : w5.cell? ⟨w3.heap.size, 1, none⟩ = some (.int .i64 250) := cell_up hb5 (by simp only [World.size_alloc]; omega) (cell_up (box1 w4 _) (by omega) a41)
  have b60 : w5.cell? ⟨w4.heap.size, 0, none⟩ = some (.int .i64 0) := cell_up hb5 (by simp only [World.size_alloc]; omega) (by go_simp)
  have b61 : w5.cell? ⟨w4.heap.size, 1, none⟩ = some (.int .i64 1) := cell_up hb5 (by simp only [World.size_alloc]; omega) (by go_simp)
  clear p0 p1 p2 p3 p4 p5 p6 p7 p8 p9 hb5 a40 a41
  obtain ⟨p0, p1, p2, p3, p4, p5, p6, p7, p8, p9⟩ := hP5
  have z5 : w1.heap.size < w5.heap.size := by omega
  have HR5 := Lib.hid hr5
  clear hr5
  go_wp2_with fail
  refine (aw_cal _).mono ?_
  rintro e w6 ⟨rfl, hb6⟩
  have s6 := hb6.size
  simp only [World.size_alloc] at s6
  have A56 : Below w5.heap.size w5 w6 := (box1 w5 _).trans (hb6.mono (by simp only [World.size_alloc]; omega))
  have C6 : Below w.heap.size w w6 := C5.trans (A56.mono C5.size)
  have hP6 : HasPap P0 w1.heap.size w6 := HasPap.up ⟨p0, p1, p2, p3, p4, p5, p6, p7, p8, p9⟩ A56 z5
  have c40 := cell_up A56 (by omega) b40
  have c41 := cell_up A56 (by omega) b41
  have c60 := cell_up A56 (by omega) b60
  have c61 := cell_up A56 (by omega) b61
  have HR6 := Lib.hid (HR5.out.up A56)
  clear p0 p1 p2 p3 p4 p5 p6 p7 p8 p9 hb6 A56 b40 b41 b60 b61
  obtain ⟨p0, p1, p2, p3, p4, p5, p6, p7, p8, p9⟩ := hP6
  have z6 : w1.heap.size < w6.heap.size := by omega
  go_wp2_with fail
  refine (aw_m2 _).mono ?_
  rintro e w7 ⟨v2, rfl, hb7, hr7⟩
  have s7 := hb7.size
  simp only [World.size_alloc] at s7
  have A67 : Below w6.heap.size w6 w7 := (box2 w6 _ _).trans (hb7.mono (by simp only [World.size_alloc]; omega))
  have C7 : Below w.heap.size w w7 := C6.trans (A67.mono C6.size)
  have d40 := cell_up A67 (by omega) c40
  have d41 := cell_up A67 (by omega) c41
  have d60 := cell_up A67 (by omega) c60
  have d61 := cell_up A67 (by omega) c61
  have e6 : w7.cell? ⟨w6.heap.size, 6, none⟩ = some (.int .i64 947) := cell_up hb7 (by simp only [World.size_alloc]; omega) (by go_simp)
  have e7 : w7.cell? ⟨w6.heap.size, 7, none⟩ = some (.int .i64 952) := cell_up hb7 (by simp only [World.size_alloc]; omega) (by go_simp)
  have HR7 := Lib.hid (HR6.out.up A67)
  have HS7 := Lib.hid hr7
  clear p0 p1 p2 p3 p4 p5 p6 p7 p8 p9 hb7 A67 c40 c41 c60 c61 hr7
  have y1 : w6.heap.size < w7.heap.size := by omega
  have y2 : w3.heap.size < w7.heap.size := by omega
  have y3 : w4.heap.size < w7.heap.size := by omega
  go_wp2_with fail
  refine (same_row _ _ v [(9895, 9905)] w7.heap.size (by decide) (HR7.out.up (box1 w7 _)) (fun i s hs => by
    match i, hs with
    | 0, hs => simp at hs; subst hs; exact ⟨by go_simp, by go_simp⟩
    | i + 1, hs => simp at hs)).mono ?_
  rintro e w8 ⟨rfl, q1, rfl⟩
  go_wp2_with fail
  refine (same_row _ _ v2 [(10054, 10055), (10145, 10155)] (w7.heap.size + 1) (by decide) ((HS7.out.up (box1 w7 (.cells #[.int .i64 9895, .int .i64 9905] 23))).drewN q1 |>.up (box1 _ _)) (fun i s hs => by
    match i, hs with
    | 0, hs => simp at hs; subst hs; exact ⟨by go_simp, by go_simp⟩
    | 1, hs => simp at hs; subst hs; exact ⟨by go_simp, by go_simp⟩
    | i + 2, hs => simp at hs)).mono ?_
  rintro e w9 ⟨rfl, q2, rfl⟩
  go_wp2_with fail
  go_ret
  refine ⟨rfl, below_drewN ?_ _⟩
  exact (below_drewN (C7.alloc C7.size _) _).alloc (by have := C7.size; simp only [World.heap_drewN, World.size_alloc]; omega) _
end Go.Proofs.Ytmeljcbefnojfaa
namespace Go.Proofs.Ytmeljcbefnojfaa
open Go.RowKit
theorem arc_sym (p : Pap) (y : Int) : arcOf p (p.height - y) = arcOf p y := by
  unfold arcOf
  rw [show p.height - (p.height - y) = y by omega, Int.mul_comm]
theorem arc_mid {p : Pap} {y : Int} (h : p.Ok) (hy : 0 ≤ y ∧ y ≤ p.height) : arcOf p y ≤ arcOf p (p.height / 2) := by
  by_cases hm : y ≤ p.height / 2
  · exact arc_up h hy.1 hm (Int.le_refl _)
  · rw [← arc_sym p y]
    exact arc_up h (by omega) (by omega) (Int.le_refl _)
theorem div_step {n d D : Int} (hD : 1 ≤ D) (hd : d ≤ D) : (n + d) / D ≤ n / D + 1 := by
  have e : n / D + 1 = (n + D) / D := by rw [Int.add_ediv_of_dvd_right (Int.dvd_refl D), Int.ediv_self (by omega)]
  rw [e]
  exact Int.ediv_le_ediv (by omega) (by omega)
theorem arc_step {p : Pap} {y : Int} (h : p.Ok) (hy : 0 ≤ y ∧ y < p.height) : arcOf p (y + 1) - arcOf p y ≤ 1 ∧ arcOf p y - arcOf p (y + 1) ≤ 1 := by
  unfold arcOf
  by_cases hr : p.radius = 0
  · rw [if_pos hr, if_pos hr]; omega
  · rw [if_neg hr, if_neg hr]
    have h3 := h.radius
    have h2 := h.height
    have e : (y + 1) * (p.height - (y + 1)) = y * (p.height - y) + (p.height - 2 * y - 1) := by
      simp only [Int.mul_sub, Int.add_mul, Int.mul_add]
      omega
    rw [e]
    have a1 := div_step (n := y * (p.height - y)) (d := p.height - 2 * y - 1) (D := 2 * p.radius) (by omega) (by omega)
    have a2 := div_step (n := y * (p.height - y) + (p.height - 2 * y - 1)) (d := -(p.height - 2 * y - 1)) (D := 2 * p.radius) (by omega) (by omega)
    rw [show y * (p.height - y) + (p.height - 2 * y - 1) + -(p.height - 2 * y - 1) = y * (p.height - y) by omega] at a2
    omega
set_option maxRecDepth 100000 in
set_option maxHeartbeats 2000000 in
theorem arcs_err (p : Pap) (y : Int) (w : World) (h : htE p y ≠ 0) :
    Calls Try.prog 10 #[p.v, .int .i64 y] w fun e w' => e = .returned (.bool true) ∧ Below w.heap.size w w' := by
  have d : (htE p y == 0) = false := by simpa using h
  have d' : (htE p y != 0) = true := by simpa using h
  clear h
  go_enter Try.func10, Try.ntmps10
  go_wp2_with fail
  refine (awake_any _).mono ?_
  rintro e w1 ⟨rfl, hb1⟩
  obtain ⟨r1, -⟩ := bcell hb1
  go_wp2_with fail
  refine (Arc_any p y _).mono ?_
  rintro e w2 ⟨rfl, hb2⟩
  go_wp2_with fail
  go_ret
  exact ⟨rfl, ((box1 w _).trans (hb1.mono (by simp only [World.size_alloc]; omega))).trans (hb2.mono (by have := hb1.size; simp only [World.size_alloc] at this; omega))⟩
set_option maxRecDepth 100000 in
set_option maxHeartbeats 2000000 in
theorem arcs_ok (p : Pap) (y : Int) (w : World) (h : p.Ok) (hy : 0 ≤ y ∧ y ≤ p.height) :
    Calls Try.prog 10 #[p.v, .int .i64 y] w fun e w' => e = .returned (.bool true) ∧ Below w.heap.size w w' := by
  have hh := h.height
  have f1 := arc_sym p y
  have f2 := arc_mid h hy
  obtain ⟨g1, g2⟩ := arcOf_bd h hy
  obtain ⟨g3, g4⟩ := arcOf_bd h (y := p.height / 2) (by omega)
  have d1 : decide (arcOf p y > arcOf p (p.height / 2)) = false := by simpa using f2
  have d2 : decide (arcOf p y < 0) = false := by simpa using g1
  have K : Hid (∀ w, Calls Try.prog 40 #[p.v, .int .i64 (p.height - y)] w fun e w' => e = .returned (.tuple #[.int .i64 (arcOf p y), .int .i64 0]) ∧ Below w.heap.size w w') := Lib.hid (fun w => by
    have := Arc_ok p (p.height - y) w h (by omega)
    rw [f1] at this; exact this)
  clear f1 f2
  obtain ⟨hh1, hh2⟩ := hh
  obtain ⟨hy1, hy2⟩ := hy
  by_cases hlt : y < p.height
  · obtain ⟨st1, st2⟩ := arc_step h ⟨hy1, hlt⟩
    obtain ⟨g5, g6⟩ := arcOf_bd h (y := y + 1) (by omega)
    have e1 : (y == p.height) = false := by simp; omega
    have e2 : decide (arcOf p (y + 1) - arcOf p y ≤ 1) = true := by simpa using st1
    have e3 : decide (arcOf p y - arcOf p (y + 1) ≤ 1) = true := by simpa using st2
    go_enter Try.func10, Try.ntmps10
    go_wp2_with fail
    refine (awake_any _).mono ?_
    rintro e w1 ⟨rfl, hb1⟩
    have hP1 : HasPap p w.heap.size w1 := HasPap.up (by unfold HasPap; go_simp) hb1 (by simp only [World.size_alloc]; omega)
    have C1 : Below w.heap.size w w1 := (box1 w _).trans (hb1.mono (by simp only [World.size_alloc]; omega))
    clear hb1
    obtain ⟨p0, p1, p2, p3, p4, p5, p6, p7, p8, p9⟩ := hP1
    go_wp2_with fail
    refine (Arc_ok p y _ h ⟨hy1, hy2⟩).mono ?_
    rintro e w2 ⟨rfl, hb2⟩
    have hP2 : HasPap p w.heap.size w2 := HasPap.up ⟨p0, p1, p2, p3, p4, p5, p6, p7, p8, p9⟩ hb2 (World.block_lt_of_cell? _ _ p0)
    have C2 := C1.trans (hb2.mono C1.size)
    clear p0 p1 p2 p3 p4 p5 p6 p7 p8 p9 hb2
    obtain ⟨p0, p1, p2, p3, p4, p5, p6, p7, p8, p9⟩ := hP2
    go_wp2_with fail
    refine (K.out _).mono ?_
    rintro e w3 ⟨rfl, hb3⟩
    have hP3 : HasPap p w.heap.size w3 := HasPap.up ⟨p0, p1, p2, p3, p4, p5, p6, p7, p8, p9⟩ hb3 (World.block_lt_of_cell? _ _ p0)
    have C3 := C2.trans (hb3.mono C2.size)
    clear p0 p1 p2 p3 p4 p5 p6 p7 p8 p9 hb3
    obtain ⟨p0, p1, p2, p3, p4, p5, p6, p7, p8, p9⟩ := hP3
    go_wp2_with fail
    refine (Arc_ok p (p.height / 2) _ h (by omega)).mono ?_
    rintro e w4 ⟨rfl, hb4⟩
    have hP4 : HasPap p w.heap.size w4 := HasPap.up ⟨p0, p1, p2, p3, p4, p5, p6, p7, p8, p9⟩ hb4 (World.block_lt_of_cell? _ _ p0)
    have C4 := C3.trans (hb4.mono C3.size)
    clear p0 p1 p2 p3 p4 p5 p6 p7 p8 p9 hb4
    obtain ⟨p0, p1, p2, p3, p4, p5, p6, p7, p8, p9⟩ := hP4
    go_wp2_with fail
    refine (Arc_ok p (y + 1) _ h (by omega)).mono ?_
    rintro e w5 ⟨rfl, hb5⟩
    have hP5 : HasPap p w.heap.size w5 := HasPap.up ⟨p0, p1, p2, p3, p4, p5, p6, p7, p8, p9⟩ hb5 (World.block_lt_of_cell? _ _ p0)
    have C5 := C4.trans (hb5.mono C4.size)
    clear p0 p1 p2 p3 p4 p5 p6 p7 p8 p9 hb5
    obtain ⟨p0, p1, p2, p3, p4, p5, p6, p7, p8, p9⟩ := hP5
    go_wp2_with fail
    go_ret
    exact ⟨rfl, C5⟩
  · obtain rfl : y = p.height := by omega
    go_enter Try.func10, Try.ntmps10
    go_wp2_with fail
    refine (awake_any _).mono ?_
    rintro e w1 ⟨rfl, hb1⟩
    have hP1 : HasPap p w.heap.size w1 := HasPap.up (by unfold HasPap; go_simp) hb1 (by simp only [World.size_alloc]; omega)
    have C1 : Below w.heap.size w w1 := (box1 w _).trans (hb1.mono (by simp only [World.size_alloc]; omega))
    clear hb1
    obtain ⟨p0, p1, p2, p3, p4, p5, p6, p7, p8, p9⟩ := hP1
    go_wp2_with fail
    refine (Arc_ok p p.height _ h ⟨hy1, hy2⟩).mono ?_
    rintro e w2 ⟨rfl, hb2⟩
    have hP2 : HasPap p w.heap.size w2 := HasPap.up ⟨p0, p1, p2, p3, p4, p5, p6, p7, p8, p9⟩ hb2 (World.block_lt_of_cell? _ _ p0)
    have C2 := C1.trans (hb2.mono C1.size)
    clear p0 p1 p2 p3 p4 p5 p6 p7 p8 p9 hb2
    obtain ⟨p0, p1, p2, p3, p4, p5, p6, p7, p8, p9⟩ := hP2
    have K0 := K.out
    rw [Int.sub_self] at K0
    have HK0 := Lib.hid K0
    clear K0
    go_wp2_with fail
    refine (HK0.out _).mono ?_
    rintro e w3 ⟨rfl, hb3⟩
    have hP3 : HasPap p w.heap.size w3 := HasPap.up ⟨p0, p1, p2, p3, p4, p5, p6, p7, p8, p9⟩ hb3 (World.block_lt_of_cell? _ _ p0)
    have C3 := C2.trans (hb3.mono C2.size)
    clear p0 p1 p2 p3 p4 p5 p6 p7 p8 p9 hb3
    obtain ⟨p0, p1, p2, p3, p4, p5, p6, p7, p8, p9⟩ := hP3
    go_wp2_with fail
    refine (Arc_ok p (p.height / 2) _ h (by omega)).mono ?_
    rintro e w4 ⟨rfl, hb4⟩
    have hP4 : HasPap p w.heap.size w4 := HasPap.up ⟨p0, p1, p2, p3, p4, p5, p6, p7, p8, p9⟩ hb4 (World.block_lt_of_cell? _ _ p0)
    have C4 := C3.trans (hb4.mono C3.size)
    clear p0 p1 p2 p3 p4 p5 p6 p7 p8 p9 hb4
    obtain ⟨p0, p1, p2, p3, p4, p5, p6, p7, p8, p9⟩ := hP4
    go_wp2_with fail
    refine (Arc_arg p (p.height + 1) _ h (by omega)).mono ?_
    rintro e w5 ⟨rfl, hb5⟩
    have hP5 : HasPap p w.heap.size w5 := HasPap.up ⟨p0, p1, p2, p3, p4, p5, p6, p7, p8, p9⟩ hb5 (World.block_lt_of_cell? _ _ p0)
    have C5 := C4.trans (hb5.mono C4.size)
    clear p0 p1 p2 p3 p4 p5 p6 p7 p8 p9 hb5
    obtain ⟨p0, p1, p2, p3, p4, p5, p6, p7, p8, p9⟩ := hP5
    go_wp2_with fail
    go_ret
    exact ⟨rfl, C5⟩
theorem arcs_law (p : Pap) (y : Int) (w : World) :
    Calls Try.prog 10 #[p.v, .int .i64 y] w fun e w' => e = .returned (.bool true) ∧ Below w.heap.size w w' := by
  by_cases h : htE p y = 0
  · obtain ⟨h1, h2⟩ := htE_iff.1 h
    exact arcs_ok p y w h1 h2
  · exact arcs_err p y w h
end Go.Proofs.Ytmeljcbefnojfaa
namespace Go.Proofs.Ytmeljcbefnojfaa
open Go.RowKit Go.ChangeShapes Go.WideShapes Go.ChangeAt
theorem cells25 : Try.prog.cellsOf 25 = 10 := by kernel_rfl
theorem cells23 : Try.prog.cellsOf 23 = 2 := by kernel_rfl
theorem cells3 : Try.prog.cellsOf 3 = 1 := by kernel_rfl
abbrev Pap.d {H : Type} (p : Pap) : DataW H := .agg [.lit (.int .i64 p.pitch), .lit (.int .i64 p.height), .lit (.int .i64 p.radius), .lit (.int .i64 p.low), .lit (.int .i64 p.high), .lit (.int .i64 p.cols), .agg [.lit (.int .i64 p.al), .lit (.int .i64 p.ah)], .agg [.lit (.int .i64 p.cl), .lit (.int .i64 p.ch)]]
def Pap.wf (p : Pap) : Prop := (Lit.int .i64 p.pitch).wf = true ∧ (Lit.int .i64 p.height).wf = true ∧ (Lit.int .i64 p.radius).wf = true ∧ (Lit.int .i64 p.low).wf = true ∧ (Lit.int .i64 p.high).wf = true ∧ (Lit.int .i64 p.cols).wf = true ∧ (Lit.int .i64 p.al).wf = true ∧ (Lit.int .i64 p.ah).wf = true ∧ (Lit.int .i64 p.cl).wf = true ∧ (Lit.int .i64 p.ch).wf = true
theorem shut_paper {H : Type} {enc : TypeId × Value → H} {w : World} {base : Nat} {spare : Nat → Bool} {held : Bool} (p : Pap) (hw : p.wf) : DataW.Trod enc Try.prog w base spare held 25 p.v p.d [] := by
  obtain ⟨h0, h1, h2, h3, h4, h5, h6, h7, h8, h9⟩ := hw
  refine ⟨3, ?_⟩
  simp [DataW.trod, Value.cells, Try.underlying25, Try.underlying23, Try.underlying3, cells25, cells23, cells3, h0, h1, h2, h3, h4, h5, h6, h7, h8, h9]
theorem trod_span {H : Type} {enc : TypeId × Value → H} {w : World} {base n : Nat} {spare : Nat → Bool} {held : Bool} {c0 c1 : Value} {x : DataW H × List MemPlace} (h : DataW.trod enc Try.prog w base spare held n 23 [c0, c1] = some x) :
    ∃ a b : Int, c0 = .int .i64 a ∧ c1 = .int .i64 b ∧ x = (.agg [.lit (.int .i64 a), .lit (.int .i64 b)], []) ∧ (Lit.int .i64 a).wf = true ∧ (Lit.int .i64 b).wf = true := by
  obtain ⟨xs, n, _, hx, _, hlen, hg⟩ := DataW.trod_struct Try.underlying23 h
  match xs, hlen with
  | [y0, y1], _ =>
    have g0 := hg 0 _ rfl
    have g1 := hg 1 _ rfl
    simp [cells3] at g0 g1
    obtain ⟨n0, e0, rfl, w0⟩ := DataW.trod_int Try.underlying3 g0
    obtain ⟨n1, e1, rfl, w1⟩ := DataW.trod_int Try.underlying3 g1
    cases e0; cases e1
    exact ⟨n0, n1, rfl, rfl, by simpa using hx, w0, w1⟩
set_option maxRecDepth 100000 in
theorem open_paper {H : Type} {enc : TypeId × Value → H} {w : World} {base b0 : Nat} {r : Reach} {spare : Nat → Bool} {held : Bool} {v : Value} {d : DataW H} {pl : List MemPlace} (hv : Value.okWide Try.prog w r b0 25 v) (h : DataW.Trod enc Try.prog w base spare held 25 v d pl) :
    ∃ p : Pap, v = p.v ∧ d = p.d ∧ pl = [] ∧ p.wf := by
  obtain ⟨cs, rfl, hsz⟩ := okWide_struct Try.underlying25 hv
  obtain ⟨l⟩ := cs
  match l, hsz.trans cells25 with
  | [c0, c1, c2, c3, c4, c5, c6, c7, c8, c9], _ =>
    obtain ⟨fuel, hf⟩ := h
    obtain ⟨xs, n, _, hx, _, hlen, hg⟩ := DataW.trod_struct Try.underlying25 hf
    match xs, hlen with
    | [y0, y1, y2, y3, y4, y5, y6, y7], _ =>
      have g0 := hg 0 _ rfl
      have g1 := hg 1 _ rfl
      have g2 := hg 2 _ rfl
      have g3 := hg 3 _ rfl
      have g4 := hg 4 _ rfl
      have g5 := hg 5 _ rfl
      have g6 := hg 6 _ rfl
      have g7 := hg 7 _ rfl
      simp [Value.cells, cells3, cells23] at g0 g1 g2 g3 g4 g5 g6 g7
      obtain ⟨n0, e0, rfl, w0⟩ := DataW.trod_int Try.underlying3 g0
      obtain ⟨n1, e1, rfl, w1⟩ := DataW.trod_int Try.underlying3 g1
      obtain ⟨n2, e2, rfl, w2⟩ := DataW.trod_int Try.underlying3 g2
      obtain ⟨n3, e3, rfl, w3⟩ := DataW.trod_int Try.underlying3 g3
      obtain ⟨n4, e4, rfl, w4⟩ := DataW.trod_int Try.underlying3 g4
      obtain ⟨n5, e5, rfl, w5⟩ := DataW.trod_int Try.underlying3 g5
      obtain ⟨n6, n7, rfl, rfl, rfl, w6, w7⟩ := trod_span g6
      obtain ⟨n8, n9, rfl, rfl, rfl, w8, w9⟩ := trod_span g7
      cases e0; cases e1; cases e2; cases e3; cases e4; cases e5
      simp only [Prod.mk.injEq] at hx
      exact ⟨⟨n0, n1, n2, n3, n4, n5, n6, n7, n8, n9⟩, rfl, by simpa using hx.1, by simpa using hx.2, w0, w1, w2, w3, w4, w5, w6, w7, w8, w9⟩
end Go.Proofs.Ytmeljcbefnojfaa
