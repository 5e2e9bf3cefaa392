import Derived.Test.YtmeljcbefnojfaaNit
namespace Go.Proofs.Ytmeljcbefnojfaa
open Go.RowKit
attribute [local go_sem] Oper.semAt_some
set_option maxRecDepth 100000 in
set_option maxHeartbeats 4000000 in
theorem nin_rba (p : Pap) (t : Pt) (c K1 K2 K3 K4 : Int) (bm o bp bt bc n : Nat) (w : World) (h : p.Ok) (ht : t.Ok) (hc : 0 ≤ c ∧ c ≤ p.cols - 1) (hr : ¬ p.radius = 0)
    (hm : PtB bm o w.heap.size w)
    (hP : HasPap p bp w) (hT : HasPt t bt w) (hC : w.cell? ⟨bc, 0, none⟩ = some (.int .i64 c)) (hn : 2 ≤ n) (hh : hLo p t ≤ p.height) (hE : Ends p t c K1 K2 K3 K4) (hB : K1 ≤ K2 - 1) (hA : K3 ≤ K4 - 1) :
    Yields Fence.wide n Try.prog 124 #[.pointer (some ⟨bp, 0, none⟩), .pointer (some ⟨bt, 0, none⟩), .pointer (some ⟨bc, 0, none⟩)] (fun s : Int × Int => #[.agg #[.int .i64 s.1, .int .i64 s.2]]) (KpN bm o) [(K1, K2 - 1), (K3, K4 - 1)] w := fun l J W hW hJ hY h0 => by
  have bpl : bp < W.heap.size := Nat.lt_of_lt_of_le hP.block hW.size
  have btl : bt < W.heap.size := Nat.lt_of_lt_of_le (World.block_lt_of_cell? _ _ hT.1) hW.size
  have bcl : bc < W.heap.size := Nat.lt_of_lt_of_le (World.block_lt_of_cell? _ _ hC) hW.size
  have swW : w.heap.size ≤ W.heap.size := hW.size
  have hP' : HasPap p bp W := hP.up hW hP.block
  have hC' : W.cell? ⟨bc, 0, none⟩ = some (.int .i64 c) := cell_up hW (World.block_lt_of_cell? _ _ hC) hC
  have hm' : PtB bm o w.heap.size W := hm.up hW (Nat.le_refl _)
  obtain ⟨t0, t1, t2⟩ := hT
  have t0' := cell_up hW (World.block_lt_of_cell? _ _ t0) t0
  have t1' := cell_up hW (World.block_lt_of_cell? _ _ t1) t1
  have t2' := cell_up hW (World.block_lt_of_cell? _ _ t2) t2
  clear t0 t1 t2 hP hC hm hW
  obtain ⟨p0, p1, p2, p3, p4, p5, p6, p7, p8, p9⟩ := hP'
  obtain ⟨k1, k2⟩ := h.pitch
  obtain ⟨c1, c2⟩ := hc
  obtain ⟨co1, co2⟩ := h.cols
  obtain ⟨ht1, ht2⟩ := h.height
  obtain ⟨m1, m2⟩ := mul_bd (a := c) (b := p.pitch) (A := 200) (B := 10000) c1 (by omega) (by omega) (by omega)
  obtain ⟨m3, m4⟩ := mul_bd (a := c + 1) (b := p.pitch) (A := 200) (B := 10000) (by omega) (by omega) (by omega) (by omega)
  obtain ⟨al1, al2⟩ := alongLo_bd h ht
  obtain ⟨ah1, ah2⟩ := alongHi_bd h ht
  have HH : Hid (∀ w, Calls Try.prog 88 #[p.v, t.v] w fun e w' => e = .returned (.tuple #[.agg #[.int .i64 (hLo p t), .int .i64 (hHi p t)], .bool true]) ∧ Below w.heap.size w w') := Lib.hid (fun w => heightsOf_some p t w h ht hh)
  obtain ⟨b1, b2, b3⟩ := h_bd h ht hh
  have HR := Lib.hid hr
  have HE := Lib.hid hE
  have HJ := Lib.hid hJ
  have HY := Lib.hid hY
  have HJ0 := Lib.hid h0
  have HM := Lib.hid hm'
  have hl1 : alongLo p t - (c + 1) * p.pitch + 1 = leastOf p t c := rfl
  have hl2 : alongHi p t - c * p.pitch = greatOf p t c := rfl
  have HL1 := Lib.hid hl1
  have HL2 := Lib.hid hl2
  clear hh hJ hY h0 hr hE hm' hl1 hl2
  refine callsIn_of_wp Try.func124 rfl trivial ?_ rfl
  simp only [Try.ntmps124, List.size_toArray, List.length_cons, List.length_nil, Nat.reduceAdd, Nat.reduceSub, Array.replicate_succ, Array.replicate_zero, List.push_toArray, List.append_toArray, List.nil_append, List.cons_append]
  gi_wp2
  refine ⟨trivial, (fun _ => by omega), (callsIn_wide.2 (HH.out _)).mono ?_⟩
  rintro e w1 ⟨rfl, hb1⟩
  obtain ⟨r1, -⟩ := bcell hb1
  have s1 := hb1.size
  have z1 : bp < w1.heap.size := by omega
  have z2 : bt < w1.heap.size := by omega
  have z3 : bc < w1.heap.size := by omega
  gi_wp2
  refine ⟨trivial, (fun _ => by omega), (callsIn_wide.2 (along_any p t _ h ht)).mono ?_⟩
  rintro e w2 ⟨rfl, hb2⟩
  have s2 := hb2.size
  simp only [World.size_alloc] at s2
  have C2 : Below W.heap.size W w2 := hb1.trans (((box1 w1 _).trans (hb2.mono (by simp only [World.size_alloc]; omega))).mono s1)
  have h50 : w2.cell? ⟨w1.heap.size, 0, none⟩ = some (.int .i64 (hLo p t)) := cell_up hb2 (by simp only [World.size_alloc]; omega) (by go_simp)
  have h51 : w2.cell? ⟨w1.heap.size, 1, none⟩ = some (.int .i64 (hHi p t)) := cell_up hb2 (by simp only [World.size_alloc]; omega) (by go_simp)
  clear r1
  obtain ⟨r2, -⟩ := bcell C2
  have y1 : bp < w2.heap.size := by omega
  have y2 : bt < w2.heap.size := by omega
  have y3 : bc < w2.heap.size := by omega
  have y4 : w1.heap.size < w2.heap.size := by omega
  have y1' : bp < w2.heap.size + 1 := by omega
  have y2' : bt < w2.heap.size + 1 := by omega
  have y3' : bc < w2.heap.size + 1 := by omega
  have y1'' : bp < w2.heap.size + 1 + 1 := by omega
  have y3'' : bc < w2.heap.size + 1 + 1 := by omega
  gi_wp2
  refine ⟨trivial, (fun _ => by omega), (callsIn_wide.2 (arcs_pos p _ HR.out)).mono ?_⟩
  rintro e w3 ⟨rfl, hb3, hp3, hq3⟩
  simp only [World.size_alloc] at hp3 hq3
  have HP3 := Lib.hid hp3
  clear hp3
  have s3 := hb3.size
  simp only [World.size_alloc] at s3
  have C23 : Below w2.heap.size w2 w3 := (box3 w2 _ _ _).trans (hb3.mono (by simp only [World.size_alloc]; omega))
  have C3 : Below W.heap.size W w3 := C2.trans (C23.mono (by omega))
  have g50 : w3.cell? ⟨w1.heap.size, 0, none⟩ = some (.int .i64 (hLo p t)) := cell_up C23 (by omega) h50
  have g51 : w3.cell? ⟨w1.heap.size, 1, none⟩ = some (.int .i64 (hHi p t)) := cell_up C23 (by omega) h51
  have g8 : w3.cell? ⟨w2.heap.size + 1, 0, none⟩ = some (.int .i64 (leastOf p t c)) := cell_up hb3 (by simp only [World.size_alloc]; omega) (by rw [← HL1.out]; go_simp)
  have g9 : w3.cell? ⟨w2.heap.size + 1 + 1, 0, none⟩ = some (.int .i64 (greatOf p t c)) := cell_up hb3 (by simp only [World.size_alloc]; omega) (by rw [← HL2.out]; go_simp)
  clear r2 h50 h51
  obtain ⟨r3, -⟩ := bcell C3
  have x1 : bp < w3.heap.size := by omega
  have x1' : bp < w3.heap.size + 1 := by omega
  have x2 : w1.heap.size < w3.heap.size := by omega
  have x4 : w2.heap.size + 1 < w3.heap.size := by omega
  have x5 : w2.heap.size + 1 + 1 < w3.heap.size := by omega
  have q1 : 0 ≤ p.height / 2 ∧ p.height / 2 ≤ p.height := by omega
  obtain ⟨q11, q12⟩ := q1
  obtain ⟨W4, hW4⟩ : ∃ W4, W4 = w3.alloc (.cells #[.func (.func 122) #[] #[.pointer (some ⟨w2.heap.size + 1 + 1 + 1, 0, none⟩)]] 96) := ⟨_, rfl⟩
  have sW4 : W4.heap.size = w3.heap.size + 1 := by rw [hW4]; simp
  have A34 : Below w3.heap.size w3 W4 := by rw [hW4]; exact box1 _ _
  have a50 := cell_up A34 x2 g50
  have a51 := cell_up A34 x2 g51
  have a8 := cell_up A34 x4 g8
  have a9 := cell_up A34 x5 g9
  have aAB : ArcCellB w.heap.size p w3.heap.size W4 := .inr ⟨HR.out, w2.heap.size + 1 + 1 + 1, by omega, by rw [hW4]; go_simp, HP3.out.up A34 (by omega)⟩
  have aA := aAB.arc
  have HW4 := Lib.hid hW4
  clear hW4
  gi_wp2
  rw [← HW4.out]
  refine ⟨trivial, (fun _ => by omega), (callsIn_wide.2 (stretch_below p (leastOf p t c) (greatOf p t c) w3.heap.size (w2.heap.size + 1) (w2.heap.size + 1 + 1) (hLo p t) (min (hHi p t) (p.height / 2)) K1 K2 W4 h aA a8 a9 b1 (by omega) (by omega) (by omega) HE.out.below)).mono ?_⟩
  rintro e w4 ⟨rfl, hb4⟩
  have s4 := hb4.size
  have C4 : Below W.heap.size W w4 := C3.trans ((A34.trans (hb4.mono (by omega))).mono (by omega))
  have e50 := cell_up hb4 (by omega) a50
  have e51 := cell_up hb4 (by omega) a51
  have e8 := cell_up hb4 (by omega) a8
  have e9 := cell_up hb4 (by omega) a9
  have eA := aAB.up hb4
  clear aAB
  clear r3 a50 a51 a8 a9 aA g50 g51 g8 g9
  obtain ⟨W5, hW5⟩ : ∃ W5, W5 = w4.alloc (.cells #[.int .i64 K1, .int .i64 (K2 - 1)] 23) := ⟨_, rfl⟩
  have sW5 : W5.heap.size = w4.heap.size + 1 := by rw [hW5]; simp
  have A45 : Below w4.heap.size w4 W5 := by rw [hW5]; exact box1 _ _
  have C5 : Below W.heap.size W W5 := C4.trans (A45.mono C4.size)
  have d0 : W5.cell? ⟨w4.heap.size, 0, none⟩ = some (.int .i64 K1) := by rw [hW5]; go_simp
  have d1 : W5.cell? ⟨w4.heap.size, 1, none⟩ = some (.int .i64 (K2 - 1)) := by rw [hW5]; go_simp
  have d50 := cell_up A45 (by omega) e50
  have d51 := cell_up A45 (by omega) e51
  have d8 := cell_up A45 (by omega) e8
  have d9 := cell_up A45 (by omega) e9
  have dA := eA.up A45
  have dJ := abides_below HJ.out HJ0.out C5
  have dM : PtB bm o w.heap.size W5 := HM.out.up C5 swW
  have v4 : w1.heap.size < w4.heap.size := by omega
  clear e8 e9 eA
  obtain ⟨fn1, tmps1, assign1, body1, hy1, hR1⟩ := HY.out 0 (K1, K2 - 1) W5 rfl dJ
  dsimp only at hy1
  rw [hW5] at hy1
  have HW5 := Lib.hid hW5
  have HR1 := Lib.hid hR1
  have HD := Lib.hid (And.intro d50 (And.intro d51 (And.intro d8 d9)))
  have HM5 := Lib.hid dM
  clear hW5 hR1 dJ d0 d1 d50 d51 d8 d9 dM e50 e51
  gi_wp2
  rw [← HW5.out]
  refine ⟨(fun _ => by omega), HR1.out.mono ?_⟩
  rintro e W6 ⟨rfl, hJ6, hk6⟩
  have s6 := hk6.1
  obtain ⟨d50, d51, d8, d9⟩ := HD.out
  have f50 := hk6.cell HM5.out (by omega) d50
  have f51 := hk6.cell HM5.out (by omega) d51
  have f8 := hk6.cell HM5.out (by omega) d8
  have f9 := hk6.cell HM5.out (by omega) d9
  have fA := hk6.arc HM5.out (by omega) dA
  have HJ6 := Lib.hid hJ6
  clear d50 d51 d8 d9 dA hk6 hJ6
  gi_wp2
  refine ⟨trivial, (fun _ => by omega), (callsIn_wide.2 (stretch_above p (leastOf p t c) (greatOf p t c) w3.heap.size (w2.heap.size + 1) (w2.heap.size + 1 + 1) (max (hLo p t) (p.height / 2 + 1)) (hHi p t) K3 K4 W6 h fA f8 f9 (by omega) (by omega) (by omega) (by omega) HE.out.above)).mono ?_⟩
  rintro e w7 ⟨rfl, hb7⟩
  have s7 := hb7.size
  obtain ⟨W8, hW8⟩ : ∃ W8, W8 = w7.alloc (.cells #[.int .i64 K3, .int .i64 (K4 - 1)] 23) := ⟨_, rfl⟩
  have C8 : Below W6.heap.size W6 W8 := by rw [hW8]; exact hb7.trans ((box1 w7 _).mono s7)
  have gJ := abides_below HJ.out HJ6.out C8
  obtain ⟨fn2, tmps2, assign2, body2, hy2, hR2⟩ := HY.out 1 (K3, K4 - 1) W8 rfl gJ
  dsimp only at hy2
  rw [hW8] at hy2
  have HW8 := Lib.hid hW8
  have HR2 := Lib.hid hR2
  clear hW8 hR2 gJ f50 f51 f8 f9 fA
  gi_wp2
  rw [← HW8.out]
  refine ⟨(fun _ => by omega), HR2.out.mono ?_⟩
  rintro e W9 ⟨rfl, hJ9, hk9⟩
  clear hk9
  gi_wp2
  go_end0
  exact ⟨⟨_, rfl⟩, hJ9⟩
set_option maxRecDepth 100000 in
set_option maxHeartbeats 4000000 in
theorem nin_rb (p : Pap) (t : Pt) (c K1 K2 K3 K4 : Int) (bm o bp bt bc n : Nat) (w : World) (h : p.Ok) (ht : t.Ok) (hc : 0 ≤ c ∧ c ≤ p.cols - 1) (hr : ¬ p.radius = 0)
    (hm : PtB bm o w.heap.size w)
    (hP : HasPap p bp w) (hT : HasPt t bt w) (hC : w.cell? ⟨bc, 0, none⟩ = some (.int .i64 c)) (hn : 2 ≤ n) (hh : hLo p t ≤ p.height) (hE : Ends p t c K1 K2 K3 K4) (hB : K1 ≤ K2 - 1) (hA : ¬ K3 ≤ K4 - 1) :
    Yields Fence.wide n Try.prog 124 #[.pointer (some ⟨bp, 0, none⟩), .pointer (some ⟨bt, 0, none⟩), .pointer (some ⟨bc, 0, none⟩)] (fun s : Int × Int => #[.agg #[.int .i64 s.1, .int .i64 s.2]]) (KpN bm o) [(K1, K2 - 1)] w := fun l J W hW hJ hY h0 => by
  have bpl : bp < W.heap.size := Nat.lt_of_lt_of_le hP.block hW.size
  have btl : bt < W.heap.size := Nat.lt_of_lt_of_le (World.block_lt_of_cell? _ _ hT.1) hW.size
  have bcl : bc < W.heap.size := Nat.lt_of_lt_of_le (World.block_lt_of_cell? _ _ hC) hW.size
  have swW : w.heap.size ≤ W.heap.size := hW.size
  have hP' : HasPap p bp W := hP.up hW hP.block
  have hC' : W.cell? ⟨bc, 0, none⟩ = some (.int .i64 c) := cell_up hW (World.block_lt_of_cell? _ _ hC) hC
  have hm' : PtB bm o w.heap.size W := hm.up hW (Nat.le_refl _)
  obtain ⟨t0, t1, t2⟩ := hT
  have t0' := cell_up hW (World.block_lt_of_cell? _ _ t0) t0
  have t1' := cell_up hW (World.block_lt_of_cell? _ _ t1) t1
  have t2' := cell_up hW (World.block_lt_of_cell? _ _ t2) t2
  clear t0 t1 t2 hP hC hm hW
  obtain ⟨p0, p1, p2, p3, p4, p5, p6, p7, p8, p9⟩ := hP'
  obtain ⟨k1, k2⟩ := h.pitch
  obtain ⟨c1, c2⟩ := hc
  obtain ⟨co1, co2⟩ := h.cols
  obtain ⟨ht1, ht2⟩ := h.height
  obtain ⟨m1, m2⟩ := mul_bd (a := c) (b := p.pitch) (A := 200) (B := 10000) c1 (by omega) (by omega) (by omega)
  obtain ⟨m3, m4⟩ := mul_bd (a := c + 1) (b := p.pitch) (A := 200) (B := 10000) (by omega) (by omega) (by omega) (by omega)
  obtain ⟨al1, al2⟩ := alongLo_bd h ht
  obtain ⟨ah1, ah2⟩ := alongHi_bd h ht
  have HH : Hid (∀ w, Calls Try.prog 88 #[p.v, t.v] w fun e w' => e = .returned (.tuple #[.agg #[.int .i64 (hLo p t), .int .i64 (hHi p t)], .bool true]) ∧ Below w.heap.size w w') := Lib.hid (fun w => heightsOf_some p t w h ht hh)
  obtain ⟨b1, b2, b3⟩ := h_bd h ht hh
  have HR := Lib.hid hr
  have HE := Lib.hid hE
  have HJ := Lib.hid hJ
  have HY := Lib.hid hY
  have HJ0 := Lib.hid h0
  have HM := Lib.hid hm'
  have hl1 : alongLo p t - (c + 1) * p.pitch + 1 = leastOf p t c := rfl
  have hl2 : alongHi p t - c * p.pitch = greatOf p t c := rfl
  have HL1 := Lib.hid hl1
  have HL2 := Lib.hid hl2
  clear hh hJ hY h0 hr hE hm' hl1 hl2
  refine callsIn_of_wp Try.func124 rfl trivial ?_ rfl
  simp only [Try.ntmps124, List.size_toArray, List.length_cons, List.length_nil, Nat.reduceAdd, Nat.reduceSub, Array.replicate_succ, Array.replicate_zero, List.push_toArray, List.append_toArray, List.nil_append, List.cons_append]
  gi_wp2
  refine ⟨trivial, (fun _ => by omega), (callsIn_wide.2 (HH.out _)).mono ?_⟩
  rintro e w1 ⟨rfl, hb1⟩
  obtain ⟨r1, -⟩ := bcell hb1
  have s1 := hb1.size
  have z1 : bp < w1.heap.size := by omega
  have z2 : bt < w1.heap.size := by omega
  have z3 : bc < w1.heap.size := by omega
  gi_wp2
  refine ⟨trivial, (fun _ => by omega), (callsIn_wide.2 (along_any p t _ h ht)).mono ?_⟩
  rintro e w2 ⟨rfl, hb2⟩
  have s2 := hb2.size
  simp only [World.size_alloc] at s2
  have C2 : Below W.heap.size W w2 := hb1.trans (((box1 w1 _).trans (hb2.mono (by simp only [World.size_alloc]; omega))).mono s1)
  have h50 : w2.cell? ⟨w1.heap.size, 0, none⟩ = some (.int .i64 (hLo p t)) := cell_up hb2 (by simp only [World.size_alloc]; omega) (by go_simp)
  have h51 : w2.cell? ⟨w1.heap.size, 1, none⟩ = some (.int .i64 (hHi p t)) := cell_up hb2 (by simp only [World.size_alloc]; omega) (by go_simp)
  clear r1
  obtain ⟨r2, -⟩ := bcell C2
  have y1 : bp < w2.heap.size := by omega
  have y2 : bt < w2.heap.size := by omega
  have y3 : bc < w2.heap.size := by omega
  have y4 : w1.heap.size < w2.heap.size := by omega
  have y1' : bp < w2.heap.size + 1 := by omega
  have y2' : bt < w2.heap.size + 1 := by omega
  have y3' : bc < w2.heap.size + 1 := by omega
  have y1'' : bp < w2.heap.size + 1 + 1 := by omega
  have y3'' : bc < w2.heap.size + 1 + 1 := by omega
  gi_wp2
  refine ⟨trivial, (fun _ => by omega), (callsIn_wide.2 (arcs_pos p _ HR.out)).mono ?_⟩
  rintro e w3 ⟨rfl, hb3, hp3, hq3⟩
  simp only [World.size_alloc] at hp3 hq3
  have HP3 := Lib.hid hp3
  clear hp3
  have s3 := hb3.size
  simp only [World.size_alloc] at s3
  have C23 : Below w2.heap.size w2 w3 := (box3 w2 _ _ _).trans (hb3.mono (by simp only [World.size_alloc]; omega))
  have C3 : Below W.heap.size W w3 := C2.trans (C23.mono (by omega))
  have g50 : w3.cell? ⟨w1.heap.size, 0, none⟩ = some (.int .i64 (hLo p t)) := cell_up C23 (by omega) h50
  have g51 : w3.cell? ⟨w1.heap.size, 1, none⟩ = some (.int .i64 (hHi p t)) := cell_up C23 (by omega) h51
  have g8 : w3.cell? ⟨w2.heap.size + 1, 0, none⟩ = some (.int .i64 (leastOf p t c)) := cell_up hb3 (by simp only [World.size_alloc]; omega) (by rw [← HL1.out]; go_simp)
  have g9 : w3.cell? ⟨w2.heap.size + 1 + 1, 0, none⟩ = some (.int .i64 (greatOf p t c)) := cell_up hb3 (by simp only [World.size_alloc]; omega) (by rw [← HL2.out]; go_simp)
  clear r2 h50 h51
  obtain ⟨r3, -⟩ := bcell C3
  have x1 : bp < w3.heap.size := by omega
  have x1' : bp < w3.heap.size + 1 := by omega
  have x2 : w1.heap.size < w3.heap.size := by omega
  have x4 : w2.heap.size + 1 < w3.heap.size := by omega
  have x5 : w2.heap.size + 1 + 1 < w3.heap.size := by omega
  have q1 : 0 ≤ p.height / 2 ∧ p.height / 2 ≤ p.height := by omega
  obtain ⟨q11, q12⟩ := q1
  obtain ⟨W4, hW4⟩ : ∃ W4, W4 = w3.alloc (.cells #[.func (.func 122) #[] #[.pointer (some ⟨w2.heap.size + 1 + 1 + 1, 0, none⟩)]] 96) := ⟨_, rfl⟩
  have sW4 : W4.heap.size = w3.heap.size + 1 := by rw [hW4]; simp
  have A34 : Below w3.heap.size w3 W4 := by rw [hW4]; exact box1 _ _
  have a50 := cell_up A34 x2 g50
  have a51 := cell_up A34 x2 g51
  have a8 := cell_up A34 x4 g8
  have a9 := cell_up A34 x5 g9
  have aAB : ArcCellB w.heap.size p w3.heap.size W4 := .inr ⟨HR.out, w2.heap.size + 1 + 1 + 1, by omega, by rw [hW4]; go_simp, HP3.out.up A34 (by omega)⟩
  have aA := aAB.arc
  have HW4 := Lib.hid hW4
  clear hW4
  gi_wp2
  rw [← HW4.out]
  refine ⟨trivial, (fun _ => by omega), (callsIn_wide.2 (stretch_below p (leastOf p t c) (greatOf p t c) w3.heap.size (w2.heap.size + 1) (w2.heap.size + 1 + 1) (hLo p t) (min (hHi p t) (p.height / 2)) K1 K2 W4 h aA a8 a9 b1 (by omega) (by omega) (by omega) HE.out.below)).mono ?_⟩
  rintro e w4 ⟨rfl, hb4⟩
  have s4 := hb4.size
  have C4 : Below W.heap.size W w4 := C3.trans ((A34.trans (hb4.mono (by omega))).mono (by omega))
  have e50 := cell_up hb4 (by omega) a50
  have e51 := cell_up hb4 (by omega) a51
  have e8 := cell_up hb4 (by omega) a8
  have e9 := cell_up hb4 (by omega) a9
  have eA := aAB.up hb4
  clear aAB
  clear r3 a50 a51 a8 a9 aA g50 g51 g8 g9
  obtain ⟨W5, hW5⟩ : ∃ W5, W5 = w4.alloc (.cells #[.int .i64 K1, .int .i64 (K2 - 1)] 23) := ⟨_, rfl⟩
  have sW5 : W5.heap.size = w4.heap.size + 1 := by rw [hW5]; simp
  have A45 : Below w4.heap.size w4 W5 := by rw [hW5]; exact box1 _ _
  have C5 : Below W.heap.size W W5 := C4.trans (A45.mono C4.size)
  have d0 : W5.cell? ⟨w4.heap.size, 0, none⟩ = some (.int .i64 K1) := by rw [hW5]; go_simp
  have d1 : W5.cell? ⟨w4.heap.size, 1, none⟩ = some (.int .i64 (K2 - 1)) := by rw [hW5]; go_simp
  have d50 := cell_up A45 (by omega) e50
  have d51 := cell_up A45 (by omega) e51
  have d8 := cell_up A45 (by omega) e8
  have d9 := cell_up A45 (by omega) e9
  have dA := eA.up A45
  have dJ := abides_below HJ.out HJ0.out C5
  have dM : PtB bm o w.heap.size W5 := HM.out.up C5 swW
  have v4 : w1.heap.size < w4.heap.size := by omega
  clear e8 e9 eA
  obtain ⟨fn1, tmps1, assign1, body1, hy1, hR1⟩ := HY.out 0 (K1, K2 - 1) W5 rfl dJ
  dsimp only at hy1
  rw [hW5] at hy1
  have HW5 := Lib.hid hW5
  have HR1 := Lib.hid hR1
  have HD := Lib.hid (And.intro d50 (And.intro d51 (And.intro d8 d9)))
  have HM5 := Lib.hid dM
  clear hW5 hR1 dJ d0 d1 d50 d51 d8 d9 dM e50 e51
  gi_wp2
  rw [← HW5.out]
  refine ⟨(fun _ => by omega), HR1.out.mono ?_⟩
  rintro e W6 ⟨rfl, hJ6, hk6⟩
  have s6 := hk6.1
  obtain ⟨d50, d51, d8, d9⟩ := HD.out
  have f50 := hk6.cell HM5.out (by omega) d50
  have f51 := hk6.cell HM5.out (by omega) d51
  have f8 := hk6.cell HM5.out (by omega) d8
  have f9 := hk6.cell HM5.out (by omega) d9
  have fA := hk6.arc HM5.out (by omega) dA
  have HJ6 := Lib.hid hJ6
  clear d50 d51 d8 d9 dA hk6 hJ6
  gi_wp2
  refine ⟨trivial, (fun _ => by omega), (callsIn_wide.2 (stretch_above p (leastOf p t c) (greatOf p t c) w3.heap.size (w2.heap.size + 1) (w2.heap.size + 1 + 1) (max (hLo p t) (p.height / 2 + 1)) (hHi p t) K3 K4 W6 h fA f8 f9 (by omega) (by omega) (by omega) (by omega) HE.out.above)).mono ?_⟩
  rintro e w7 ⟨rfl, hb7⟩
  have s7 := hb7.size
  obtain ⟨W8, hW8⟩ : ∃ W8, W8 = w7.alloc (.cells #[.int .i64 K3, .int .i64 (K4 - 1)] 23) := ⟨_, rfl⟩
  have C8 : Below W6.heap.size W6 W8 := by rw [hW8]; exact hb7.trans ((box1 w7 _).mono s7)
  have gJ := abides_below HJ.out HJ6.out C8
  have dA8 : decide (K3 ≤ K4 - 1) = false := by simpa using hA
  have HW8 := Lib.hid hW8
  have HJ8 := Lib.hid gJ
  clear hW8 gJ f50 f51 f8 f9 fA
  gi_wp2
  rw [← HW8.out]
  go_end0
  exact ⟨⟨_, rfl⟩, HJ8.out⟩
set_option maxRecDepth 100000 in
set_option maxHeartbeats 4000000 in
theorem nin_ra (p : Pap) (t : Pt) (c K1 K2 K3 K4 : Int) (bm o bp bt bc n : Nat) (w : World) (h : p.Ok) (ht : t.Ok) (hc : 0 ≤ c ∧ c ≤ p.cols - 1) (hr : ¬ p.radius = 0)
    (hm : PtB bm o w.heap.size w)
    (hP : HasPap p bp w) (hT : HasPt t bt w) (hC : w.cell? ⟨bc, 0, none⟩ = some (.int .i64 c)) (hn : 2 ≤ n) (hh : hLo p t ≤ p.height) (hE : Ends p t c K1 K2 K3 K4) (hB : ¬ K1 ≤ K2 - 1) (hA : K3 ≤ K4 - 1) :
    Yields Fence.wide n Try.prog 124 #[.pointer (some ⟨bp, 0, none⟩), .pointer (some ⟨bt, 0, none⟩), .pointer (some ⟨bc, 0, none⟩)] (fun s : Int × Int => #[.agg #[.int .i64 s.1, .int .i64 s.2]]) (KpN bm o) [(K3, K4 - 1)] w := fun l J W hW hJ hY h0 => by
  have bpl : bp < W.heap.size := Nat.lt_of_lt_of_le hP.block hW.size
  have btl : bt < W.heap.size := Nat.lt_of_lt_of_le (World.block_lt_of_cell? _ _ hT.1) hW.size
  have bcl : bc < W.heap.size := Nat.lt_of_lt_of_le (World.block_lt_of_cell? _ _ hC) hW.size
  have swW : w.heap.size ≤ W.heap.size := hW.size
  have hP' : HasPap p bp W := hP.up hW hP.block
  have hC' : W.cell? ⟨bc, 0, none⟩ = some (.int .i64 c) := cell_up hW (World.block_lt_of_cell? _ _ hC) hC
  have hm' : PtB bm o w.heap.size W := hm.up hW (Nat.le_refl _)
  obtain ⟨t0, t1, t2⟩ := hT
  have t0' := cell_up hW (World.block_lt_of_cell? _ _ t0) t0
  have t1' := cell_up hW (World.block_lt_of_cell? _ _ t1) t1
  have t2' := cell_up hW (World.block_lt_of_cell? _ _ t2) t2
  clear t0 t1 t2 hP hC hm hW
  obtain ⟨p0, p1, p2, p3, p4, p5, p6, p7, p8, p9⟩ := hP'
  obtain ⟨k1, k2⟩ := h.pitch
  obtain ⟨c1, c2⟩ := hc
  obtain ⟨co1, co2⟩ := h.cols
  obtain ⟨ht1, ht2⟩ := h.height
  obtain ⟨m1, m2⟩ := mul_bd (a := c) (b := p.pitch) (A := 200) (B := 10000) c1 (by omega) (by omega) (by omega)
  obtain ⟨m3, m4⟩ := mul_bd (a := c + 1) (b := p.pitch) (A := 200) (B := 10000) (by omega) (by omega) (by omega) (by omega)
  obtain ⟨al1, al2⟩ := alongLo_bd h ht
  obtain ⟨ah1, ah2⟩ := alongHi_bd h ht
  have HH : Hid (∀ w, Calls Try.prog 88 #[p.v, t.v] w fun e w' => e = .returned (.tuple #[.agg #[.int .i64 (hLo p t), .int .i64 (hHi p t)], .bool true]) ∧ Below w.heap.size w w') := Lib.hid (fun w => heightsOf_some p t w h ht hh)
  obtain ⟨b1, b2, b3⟩ := h_bd h ht hh
  have HR := Lib.hid hr
  have HE := Lib.hid hE
  have HJ := Lib.hid hJ
  have HY := Lib.hid hY
  have HJ0 := Lib.hid h0
  have HM := Lib.hid hm'
  have hl1 : alongLo p t - (c + 1) * p.pitch + 1 = leastOf p t c := rfl
  have hl2 : alongHi p t - c * p.pitch = greatOf p t c := rfl
  have HL1 := Lib.hid hl1
  have HL2 := Lib.hid hl2
  clear hh hJ hY h0 hr hE hm' hl1 hl2
  refine callsIn_of_wp Try.func124 rfl trivial ?_ rfl
  simp only [Try.ntmps124, List.size_toArray, List.length_cons, List.length_nil, Nat.reduceAdd, Nat.reduceSub, Array.replicate_succ, Array.replicate_zero, List.push_toArray, List.append_toArray, List.nil_append, List.cons_append]
  gi_wp2
  refine ⟨trivial, (fun _ => by omega), (callsIn_wide.2 (HH.out _)).mono ?_⟩
  rintro e w1 ⟨rfl, hb1⟩
  obtain ⟨r1, -⟩ := bcell hb1
  have s1 := hb1.size
  have z1 : bp < w1.heap.size := by omega
  have z2 : bt < w1.heap.size := by omega
  have z3 : bc < w1.heap.size := by omega
  gi_wp2
  refine ⟨trivial, (fun _ => by omega), (callsIn_wide.2 (along_any p t _ h ht)).mono ?_⟩
  rintro e w2 ⟨rfl, hb2⟩
  have s2 := hb2.size
  simp only [World.size_alloc] at s2
  have C2 : Below W.heap.size W w2 := hb1.trans (((box1 w1 _).trans (hb2.mono (by simp only [World.size_alloc]; omega))).mono s1)
  have h50 : w2.cell? ⟨w1.heap.size, 0, none⟩ = some (.int .i64 (hLo p t)) := cell_up hb2 (by simp only [World.size_alloc]; omega) (by go_simp)
  have h51 : w2.cell? ⟨w1.heap.size, 1, none⟩ = some (.int .i64 (hHi p t)) := cell_up hb2 (by simp only [World.size_alloc]; omega) (by go_simp)
  clear r1
  obtain ⟨r2, -⟩ := bcell C2
  have y1 : bp < w2.heap.size := by omega
  have y2 : bt < w2.heap.size := by omega
  have y3 : bc < w2.heap.size := by omega
  have y4 : w1.heap.size < w2.heap.size := by omega
  have y1' : bp < w2.heap.size + 1 := by omega
  have y2' : bt < w2.heap.size + 1 := by omega
  have y3' : bc < w2.heap.size + 1 := by omega
  have y1'' : bp < w2.heap.size + 1 + 1 := by omega
  have y3'' : bc < w2.heap.size + 1 + 1 := by omega
  gi_wp2
  refine ⟨trivial, (fun _ => by omega), (callsIn_wide.2 (arcs_pos p _ HR.out)).mono ?_⟩
  rintro e w3 ⟨rfl, hb3, hp3, hq3⟩
  simp only [World.size_alloc] at hp3 hq3
  have HP3 := Lib.hid hp3
  clear hp3
  have s3 := hb3.size
  simp only [World.size_alloc] at s3
  have C23 : Below w2.heap.size w2 w3 := (box3 w2 _ _ _).trans (hb3.mono (by simp only [World.size_alloc]; omega))
  have C3 : Below W.heap.size W w3 := C2.trans (C23.mono (by omega))
  have g50 : w3.cell? ⟨w1.heap.size, 0, none⟩ = some (.int .i64 (hLo p t)) := cell_up C23 (by omega) h50
  have g51 : w3.cell? ⟨w1.heap.size, 1, none⟩ = some (.int .i64 (hHi p t)) := cell_up C23 (by omega) h51
  have g8 : w3.cell? ⟨w2.heap.size + 1, 0, none⟩ = some (.int .i64 (leastOf p t c)) := cell_up hb3 (by simp only [World.size_alloc]; omega) (by rw [← HL1.out]; go_simp)
  have g9 : w3.cell? ⟨w2.heap.size + 1 + 1, 0, none⟩ = some (.int .i64 (greatOf p t c)) := cell_up hb3 (by simp only [World.size_alloc]; omega) (by rw [← HL2.out]; go_simp)
  clear r2 h50 h51
  obtain ⟨r3, -⟩ := bcell C3
  have x1 : bp < w3.heap.size := by omega
  have x1' : bp < w3.heap.size + 1 := by omega
  have x2 : w1.heap.size < w3.heap.size := by omega
  have x4 : w2.heap.size + 1 < w3.heap.size := by omega
  have x5 : w2.heap.size + 1 + 1 < w3.heap.size := by omega
  have q1 : 0 ≤ p.height / 2 ∧ p.height / 2 ≤ p.height := by omega
  obtain ⟨q11, q12⟩ := q1
  obtain ⟨W4, hW4⟩ : ∃ W4, W4 = w3.alloc (.cells #[.func (.func 122) #[] #[.pointer (some ⟨w2.heap.size + 1 + 1 + 1, 0, none⟩)]] 96) := ⟨_, rfl⟩
  have sW4 : W4.heap.size = w3.heap.size + 1 := by rw [hW4]; simp
  have A34 : Below w3.heap.size w3 W4 := by rw [hW4]; exact box1 _ _
  have a50 := cell_up A34 x2 g50
  have a51 := cell_up A34 x2 g51
  have a8 := cell_up A34 x4 g8
  have a9 := cell_up A34 x5 g9
  have aAB : ArcCellB w.heap.size p w3.heap.size W4 := .inr ⟨HR.out, w2.heap.size + 1 + 1 + 1, by omega, by rw [hW4]; go_simp, HP3.out.up A34 (by omega)⟩
  have aA := aAB.arc
  have HW4 := Lib.hid hW4
  clear hW4
  gi_wp2
  rw [← HW4.out]
  refine ⟨trivial, (fun _ => by omega), (callsIn_wide.2 (stretch_below p (leastOf p t c) (greatOf p t c) w3.heap.size (w2.heap.size + 1) (w2.heap.size + 1 + 1) (hLo p t) (min (hHi p t) (p.height / 2)) K1 K2 W4 h aA a8 a9 b1 (by omega) (by omega) (by omega) HE.out.below)).mono ?_⟩
  rintro e w4 ⟨rfl, hb4⟩
  have s4 := hb4.size
  have C4 : Below W.heap.size W w4 := C3.trans ((A34.trans (hb4.mono (by omega))).mono (by omega))
  have e50 := cell_up hb4 (by omega) a50
  have e51 := cell_up hb4 (by omega) a51
  have e8 := cell_up hb4 (by omega) a8
  have e9 := cell_up hb4 (by omega) a9
  have eA := aAB.up hb4
  clear aAB
  clear r3 a50 a51 a8 a9 aA g50 g51 g8 g9
  obtain ⟨W5, hW5⟩ : ∃ W5, W5 = w4.alloc (.cells #[.int .i64 K1, .int .i64 (K2 - 1)] 23) := ⟨_, rfl⟩
  have sW5 : W5.heap.size = w4.heap.size + 1 := by rw [hW5]; simp
  have A45 : Below w4.heap.size w4 W5 := by rw [hW5]; exact box1 _ _
  have C5 : Below W.heap.size W W5 := C4.trans (A45.mono C4.size)
  have d0 : W5.cell? ⟨w4.heap.size, 0, none⟩ = some (.int .i64 K1) := by rw [hW5]; go_simp
  have d1 : W5.cell? ⟨w4.heap.size, 1, none⟩ = some (.int .i64 (K2 - 1)) := by rw [hW5]; go_simp
  have d50 := cell_up A45 (by omega) e50
  have d51 := cell_up A45 (by omega) e51
  have d8 := cell_up A45 (by omega) e8
  have d9 := cell_up A45 (by omega) e9
  have dA := eA.up A45
  have dJ := abides_below HJ.out HJ0.out C5
  have dM : PtB bm o w.heap.size W5 := HM.out.up C5 swW
  have v4 : w1.heap.size < w4.heap.size := by omega
  clear e8 e9 eA
  have dB : decide (K1 ≤ K2 - 1) = false := by simpa using hB
  have HW5 := Lib.hid hW5
  have f50 := d50
  have f51 := d51
  have f8 := d8
  have f9 := d9
  have fA := dA.arc
  have HJ6 := Lib.hid dJ
  have s6 := Nat.le_refl W5.heap.size
  clear hW5 dJ d50 d51 d8 d9 dA
  gi_wp2
  refine ⟨fun _ h => (by cases h), ?_⟩
  gi_wp2
  rw [← HW5.out]
  refine ⟨trivial, (fun _ => by omega), (callsIn_wide.2 (stretch_above p (leastOf p t c) (greatOf p t c) w3.heap.size (w2.heap.size + 1) (w2.heap.size + 1 + 1) (max (hLo p t) (p.height / 2 + 1)) (hHi p t) K3 K4 W5 h fA f8 f9 (by omega) (by omega) (by omega) (by omega) HE.out.above)).mono ?_⟩
  rintro e w7 ⟨rfl, hb7⟩
  have s7 := hb7.size
  obtain ⟨W8, hW8⟩ : ∃ W8, W8 = w7.alloc (.cells #[.int .i64 K3, .int .i64 (K4 - 1)] 23) := ⟨_, rfl⟩
  have C8 : Below W5.heap.size W5 W8 := by rw [hW8]; exact hb7.trans ((box1 w7 _).mono s7)
  have gJ := abides_below HJ.out HJ6.out C8
  obtain ⟨fn2, tmps2, assign2, body2, hy2, hR2⟩ := HY.out 0 (K3, K4 - 1) W8 rfl gJ
  dsimp only at hy2
  rw [hW8] at hy2
  have HW8 := Lib.hid hW8
  have HR2 := Lib.hid hR2
  clear hW8 hR2 gJ f50 f51 f8 f9 fA
  gi_wp2
  rw [← HW8.out]
  refine ⟨(fun _ => by omega), HR2.out.mono ?_⟩
  rintro e W9 ⟨rfl, hJ9, hk9⟩
  clear hk9
  gi_wp2
  go_end0
  exact ⟨⟨_, rfl⟩, hJ9⟩
set_option maxRecDepth 100000 in
set_option maxHeartbeats 4000000 in
theorem nin_r (p : Pap) (t : Pt) (c K1 K2 K3 K4 : Int) (bm o bp bt bc n : Nat) (w : World) (h : p.Ok) (ht : t.Ok) (hc : 0 ≤ c ∧ c ≤ p.cols - 1) (hr : ¬ p.radius = 0)
    (hm : PtB bm o w.heap.size w)
    (hP : HasPap p bp w) (hT : HasPt t bt w) (hC : w.cell? ⟨bc, 0, none⟩ = some (.int .i64 c)) (hn : 2 ≤ n) (hh : hLo p t ≤ p.height) (hE : Ends p t c K1 K2 K3 K4) (hB : ¬ K1 ≤ K2 - 1) (hA : ¬ K3 ≤ K4 - 1) :
    Yields Fence.wide n Try.prog 124 #[.pointer (some ⟨bp, 0, none⟩), .pointer (some ⟨bt, 0, none⟩), .pointer (some ⟨bc, 0, none⟩)] (fun s : Int × Int => #[.agg #[.int .i64 s.1, .int .i64 s.2]]) (KpN bm o) [] w := fun l J W hW hJ hY h0 => by
  have bpl : bp < W.heap.size := Nat.lt_of_lt_of_le hP.block hW.size
  have btl : bt < W.heap.size := Nat.lt_of_lt_of_le (World.block_lt_of_cell? _ _ hT.1) hW.size
  have bcl : bc < W.heap.size := Nat.lt_of_lt_of_le (World.block_lt_of_cell? _ _ hC) hW.size
  have swW : w.heap.size ≤ W.heap.size := hW.size
  have hP' : HasPap p bp W := hP.up hW hP.block
  have hC' : W.cell? ⟨bc, 0, none⟩ = some (.int .i64 c) := cell_up hW (World.block_lt_of_cell? _ _ hC) hC
  have hm' : PtB bm o w.heap.size W := hm.up hW (Nat.le_refl _)
  obtain ⟨t0, t1, t2⟩ := hT
  have t0' := cell_up hW (World.block_lt_of_cell? _ _ t0) t0
  have t1' := cell_up hW (World.block_lt_of_cell? _ _ t1) t1
  have t2' := cell_up hW (World.block_lt_of_cell? _ _ t2) t2
  clear t0 t1 t2 hP hC hm hW
  obtain ⟨p0, p1, p2, p3, p4, p5, p6, p7, p8, p9⟩ := hP'
  obtain ⟨k1, k2⟩ := h.pitch
  obtain ⟨c1, c2⟩ := hc
  obtain ⟨co1, co2⟩ := h.cols
  obtain ⟨ht1, ht2⟩ := h.height
  obtain ⟨m1, m2⟩ := mul_bd (a := c) (b := p.pitch) (A := 200) (B := 10000) c1 (by omega) (by omega) (by omega)
  obtain ⟨m3, m4⟩ := mul_bd (a := c + 1) (b := p.pitch) (A := 200) (B := 10000) (by omega) (by omega) (by omega) (by omega)
  obtain ⟨al1, al2⟩ := alongLo_bd h ht
  obtain ⟨ah1, ah2⟩ := alongHi_bd h ht
  have HH : Hid (∀ w, Calls Try.prog 88 #[p.v, t.v] w fun e w' => e = .returned (.tuple #[.agg #[.int .i64 (hLo p t), .int .i64 (hHi p t)], .bool true]) ∧ Below w.heap.size w w') := Lib.hid (fun w => heightsOf_some p t w h ht hh)
  obtain ⟨b1, b2, b3⟩ := h_bd h ht hh
  have HR := Lib.hid hr
  have HE := Lib.hid hE
  have HJ := Lib.hid hJ
  have HY := Lib.hid hY
  have HJ0 := Lib.hid h0
  have HM := Lib.hid hm'
  have hl1 : alongLo p t - (c + 1) * p.pitch + 1 = leastOf p t c := rfl
  have hl2 : alongHi p t - c * p.pitch = greatOf p t c := rfl
  have HL1 := Lib.hid hl1
  have HL2 := Lib.hid hl2
  clear hh hJ hY h0 hr hE hm' hl1 hl2
  refine callsIn_of_wp Try.func124 rfl trivial ?_ rfl
  simp only [Try.ntmps124, List.size_toArray, List.length_cons, List.length_nil, Nat.reduceAdd, Nat.reduceSub, Array.replicate_succ, Array.replicate_zero, List.push_toArray, List.append_toArray, List.nil_append, List.cons_append]
  gi_wp2
  refine ⟨trivial, (fun _ => by omega), (callsIn_wide.2 (HH.out _)).mono ?_⟩
  rintro e w1 ⟨rfl, hb1⟩
  obtain ⟨r1, -⟩ := bcell hb1
  have s1 := hb1.size
  have z1 : bp < w1.heap.size := by omega
  have z2 : bt < w1.heap.size := by omega
  have z3 : bc < w1.heap.size := by omega
  gi_wp2
  refine ⟨trivial, (fun _ => by omega), (callsIn_wide.2 (along_any p t _ h ht)).mono ?_⟩
  rintro e w2 ⟨rfl, hb2⟩
  have s2 := hb2.size
  simp only [World.size_alloc] at s2
  have C2 : Below W.heap.size W w2 := hb1.trans (((box1 w1 _).trans (hb2.mono (by simp only [World.size_alloc]; omega))).mono s1)
  have h50 : w2.cell? ⟨w1.heap.size, 0, none⟩ = some (.int .i64 (hLo p t)) := cell_up hb2 (by simp only [World.size_alloc]; omega) (by go_simp)
  have h51 : w2.cell? ⟨w1.heap.size, 1, none⟩ = some (.int .i64 (hHi p t)) := cell_up hb2 (by simp only [World.size_alloc]; omega) (by go_simp)
  clear r1
  obtain ⟨r2, -⟩ := bcell C2
  have y1 : bp < w2.heap.size := by omega
  have y2 : bt < w2.heap.size := by omega
  have y3 : bc < w2.heap.size := by omega
  have y4 : w1.heap.size < w2.heap.size := by omega
  have y1' : bp < w2.heap.size + 1 := by omega
  have y2' : bt < w2.heap.size + 1 := by omega
  have y3' : bc < w2.heap.size + 1 := by omega
  have y1'' : bp < w2.heap.size + 1 + 1 := by omega
  have y3'' : bc < w2.heap.size + 1 + 1 := by omega
  gi_wp2
  refine ⟨trivial, (fun _ => by omega), (callsIn_wide.2 (arcs_pos p _ HR.out)).mono ?_⟩
  rintro e w3 ⟨rfl, hb3, hp3, hq3⟩
  simp only [World.size_alloc] at hp3 hq3
  have HP3 := Lib.hid hp3
  clear hp3
  have s3 := hb3.size
  simp only [World.size_alloc] at s3
  have C23 : Below w2.heap.size w2 w3 := (box3 w2 _ _ _).trans (hb3.mono (by simp only [World.size_alloc]; omega))
  have C3 : Below W.heap.size W w3 := C2.trans (C23.mono (by omega))
  have g50 : w3.cell? ⟨w1.heap.size, 0, none⟩ = some (.int .i64 (hLo p t)) := cell_up C23 (by omega) h50
  have g51 : w3.cell? ⟨w1.heap.size, 1, none⟩ = some (.int .i64 (hHi p t)) := cell_up C23 (by omega) h51
  have g8 : w3.cell? ⟨w2.heap.size + 1, 0, none⟩ = some (.int .i64 (leastOf p t c)) := cell_up hb3 (by simp only [World.size_alloc]; omega) (by rw [← HL1.out]; go_simp)
  have g9 : w3.cell? ⟨w2.heap.size + 1 + 1, 0, none⟩ = some (.int .i64 (greatOf p t c)) := cell_up hb3 (by simp only [World.size_alloc]; omega) (by rw [← HL2.out]; go_simp)
  clear r2 h50 h51
  obtain ⟨r3, -⟩ := bcell C3
  have x1 : bp < w3.heap.size := by omega
  have x1' : bp < w3.heap.size + 1 := by omega
  have x2 : w1.heap.size < w3.heap.size := by omega
  have x4 : w2.heap.size + 1 < w3.heap.size := by omega
  have x5 : w2.heap.size + 1 + 1 < w3.heap.size := by omega
  have q1 : 0 ≤ p.height / 2 ∧ p.height / 2 ≤ p.height := by omega
  obtain ⟨q11, q12⟩ := q1
  obtain ⟨W4, hW4⟩ : ∃ W4, W4 = w3.alloc (.cells #[.func (.func 122) #[] #[.pointer (some ⟨w2.heap.size + 1 + 1 + 1, 0, none⟩)]] 96) := ⟨_, rfl⟩
  have sW4 : W4.heap.size = w3.heap.size + 1 := by rw [hW4]; simp
  have A34 : Below w3.heap.size w3 W4 := by rw [hW4]; exact box1 _ _
  have a50 := cell_up A34 x2 g50
  have a51 := cell_up A34 x2 g51
  have a8 := cell_up A34 x4 g8
  have a9 := cell_up A34 x5 g9
  have aAB : ArcCellB w.heap.size p w3.heap.size W4 := .inr ⟨HR.out, w2.heap.size + 1 + 1 + 1, by omega, by rw [hW4]; go_simp, HP3.out.up A34 (by omega)⟩
  have aA := aAB.arc
  have HW4 := Lib.hid hW4
  clear hW4
  gi_wp2
  rw [← HW4.out]
  refine ⟨trivial, (fun _ => by omega), (callsIn_wide.2 (stretch_below p (leastOf p t c) (greatOf p t c) w3.heap.size (w2.heap.size + 1) (w2.heap.size + 1 + 1) (hLo p t) (min (hHi p t) (p.height / 2)) K1 K2 W4 h aA a8 a9 b1 (by omega) (by omega) (by omega) HE.out.below)).mono ?_⟩
  rintro e w4 ⟨rfl, hb4⟩
  have s4 := hb4.size
  have C4 : Below W.heap.size W w4 := C3.trans ((A34.trans (hb4.mono (by omega))).mono (by omega))
  have e50 := cell_up hb4 (by omega) a50
  have e51 := cell_up hb4 (by omega) a51
  have e8 := cell_up hb4 (by omega) a8
  have e9 := cell_up hb4 (by omega) a9
  have eA := aAB.up hb4
  clear aAB
  clear r3 a50 a51 a8 a9 aA g50 g51 g8 g9
  obtain ⟨W5, hW5⟩ : ∃ W5, W5 = w4.alloc (.cells #[.int .i64 K1, .int .i64 (K2 - 1)] 23) := ⟨_, rfl⟩
  have sW5 : W5.heap.size = w4.heap.size + 1 := by rw [hW5]; simp
  have A45 : Below w4.heap.size w4 W5 := by rw [hW5]; exact box1 _ _
  have C5 : Below W.heap.size W W5 := C4.trans (A45.mono C4.size)
  have d0 : W5.cell? ⟨w4.heap.size, 0, none⟩ = some (.int .i64 K1) := by rw [hW5]; go_simp
  have d1 : W5.cell? ⟨w4.heap.size, 1, none⟩ = some (.int .i64 (K2 - 1)) := by rw [hW5]; go_simp
  have d50 := cell_up A45 (by omega) e50
  have d51 := cell_up A45 (by omega) e51
  have d8 := cell_up A45 (by omega) e8
  have d9 := cell_up A45 (by omega) e9
  have dA := eA.up A45
  have dJ := abides_below HJ.out HJ0.out C5
  have dM : PtB bm o w.heap.size W5 := HM.out.up C5 swW
  have v4 : w1.heap.size < w4.heap.size := by omega
  clear e8 e9 eA
  have dB : decide (K1 ≤ K2 - 1) = false := by simpa using hB
  have HW5 := Lib.hid hW5
  have f50 := d50
  have f51 := d51
  have f8 := d8
  have f9 := d9
  have fA := dA.arc
  have HJ6 := Lib.hid dJ
  have s6 := Nat.le_refl W5.heap.size
  clear hW5 dJ d50 d51 d8 d9 dA
  gi_wp2
  refine ⟨fun _ h => (by cases h), ?_⟩
  gi_wp2
  rw [← HW5.out]
  refine ⟨trivial, (fun _ => by omega), (callsIn_wide.2 (stretch_above p (leastOf p t c) (greatOf p t c) w3.heap.size (w2.heap.size + 1) (w2.heap.size + 1 + 1) (max (hLo p t) (p.height / 2 + 1)) (hHi p t) K3 K4 W5 h fA f8 f9 (by omega) (by omega) (by omega) (by omega) HE.out.above)).mono ?_⟩
  rintro e w7 ⟨rfl, hb7⟩
  have s7 := hb7.size
  obtain ⟨W8, hW8⟩ : ∃ W8, W8 = w7.alloc (.cells #[.int .i64 K3, .int .i64 (K4 - 1)] 23) := ⟨_, rfl⟩
  have C8 : Below W5.heap.size W5 W8 := by rw [hW8]; exact hb7.trans ((box1 w7 _).mono s7)
  have gJ := abides_below HJ.out HJ6.out C8
  have dA8 : decide (K3 ≤ K4 - 1) = false := by simpa using hA
  have HW8 := Lib.hid hW8
  have HJ8 := Lib.hid gJ
  clear hW8 gJ f50 f51 f8 f9 fA
  gi_wp2
  rw [← HW8.out]
  go_end0
  exact ⟨⟨_, rfl⟩, HJ8.out⟩
end Go.Proofs.Ytmeljcbefnojfaa
