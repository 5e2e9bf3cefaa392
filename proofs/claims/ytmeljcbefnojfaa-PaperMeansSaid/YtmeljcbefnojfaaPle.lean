import Derived.Test.YtmeljcbefnojfaaPld
import Derived.Test.YtmeljcbefnojfaaShr
namespace Go.Proofs.Ytmeljcbefnojfaa
open Go.RowKit
theorem acr_le {p : Pap} {t : Pt} (h : p.Ok) (ht : t.Ok) : 0 ≤ hLo p t ∧ hLo p t ≤ 450000 := acrossLo_bd h ht
set_option maxHeartbeats 1000000 in
theorem rheights_any (p : Pap) (t : Pt) (w : World) (h : p.Ok) (ht : t.Ok) :
    Calls Try.prog 90 #[p.v, t.v] w fun e w' => e = .returned (.agg #[.int .i64 (hLo p t), .int .i64 (hHi p t)]) ∧ Below w.heap.size w w' := by
  go_enter Try.func90, Try.ntmps90
  go_wp2_with fail
  refine (places_any t.y t.half p.cl p.ch _ ht.y ht.half h.across).mono ?_
  rintro e w1 ⟨rfl, hb⟩
  obtain ⟨hc, hf⟩ := bcell hb
  have hz := hb.size
  simp only [World.size_alloc] at hz
  have z0 : w.heap.size < w1.heap.size := by omega
  have z1 : w.heap.size + 1 < w1.heap.size := by omega
  have z2 : w.heap.size + 1 + 1 < w1.heap.size := by omega
  go_wp2_with fail
  refine bodyPost_ret (v := .agg #[.int .i64 (hLo p t), .int .i64 (hHi p t)]) ?_ rfl ⟨rfl, ?_⟩
  · simp [results, Try.results90, go_sem, hc, z2, hLo, hHi, acrossLo, acrossHi]
  · have CB : Below w.heap.size w w1 := (box3 _ _ _ _).trans (hb.mono (by simp only [World.size_alloc]; omega))
    repeat' (first | with_reducible exact Below.refl _ _ | with_reducible exact CB | with_reducible refine set1 ?_ (by omega) _ _ | with_reducible refine Below.alloc ?_ (by (try simp only [World.size_setCell]); omega) _ | with_reducible refine below_drewN ?_ _ | with_reducible refine Below.drew ?_)
theorem clm_eq (p : Pap) (lo hi : Int) (hl : lo ≤ hi) : max lo (min hi (p.height / 2)) = clMid p lo hi := by unfold clMid; omega
set_option maxHeartbeats 2000000 in
theorem rarcs_any (p : Pap) (lo hi : Int) (w : World) (h : p.Ok) (hl : 0 ≤ lo ∧ lo ≤ hi ∧ hi ≤ p.height) :
    Calls Try.prog 120 #[p.v, .agg #[.int .i64 lo, .int .i64 hi]] w fun e w' => e = .returned (.agg #[.int .i64 (arLo p lo hi), .int .i64 (arHi p lo hi)]) ∧ Below w.heap.size w w' := by
  have hh := h.height
  have A : ∀ y w, 0 ≤ y ∧ y ≤ p.height → Calls Try.prog 94 #[p.v, .int .i64 y] w fun e w' => e = .returned (.int .i64 (arcOf p y)) ∧ Below w.heap.size w w' := fun y w hy => rarc_any p y w h hy
  have HL := Lib.hid A
  obtain ⟨hl0, hl1, hl2⟩ := hl
  have HM := Lib.hid (clm_eq p lo hi hl1)
  clear h A
  have hB := box3 w (.cells #[.int .i64 p.pitch, .int .i64 p.height, .int .i64 p.radius, .int .i64 p.low, .int .i64 p.high, .int .i64 p.cols, .int .i64 p.al, .int .i64 p.ah, .int .i64 p.cl, .int .i64 p.ch] 25) (.cells #[.int .i64 lo, .int .i64 hi] 23) (.cells #[.int .i64 0, .int .i64 0] 23)
  go_enter Try.func120, Try.ntmps120
  go_wp2_with fail
  go_region_held3 (fun w' => w'.cell? ⟨w.heap.size, 0, none⟩ = some (.int .i64 p.pitch) ∧ w'.cell? ⟨w.heap.size, 1, none⟩ = some (.int .i64 p.height) ∧ w'.cell? ⟨w.heap.size, 2, none⟩ = some (.int .i64 p.radius) ∧ w'.cell? ⟨w.heap.size, 3, none⟩ = some (.int .i64 p.low) ∧ w'.cell? ⟨w.heap.size, 4, none⟩ = some (.int .i64 p.high) ∧ w'.cell? ⟨w.heap.size, 5, none⟩ = some (.int .i64 p.cols) ∧ w'.cell? ⟨w.heap.size, 6, none⟩ = some (.int .i64 p.al) ∧ w'.cell? ⟨w.heap.size, 7, none⟩ = some (.int .i64 p.ah) ∧ w'.cell? ⟨w.heap.size, 8, none⟩ = some (.int .i64 p.cl) ∧ w'.cell? ⟨w.heap.size, 9, none⟩ = some (.int .i64 p.ch) ∧ w'.cell? ⟨w.heap.size + 1, 0, none⟩ = some (.int .i64 (lo)) ∧ w'.cell? ⟨w.heap.size + 1, 1, none⟩ = some (.int .i64 (hi)) ∧ w'.cell? ⟨w.heap.size + 1 + 1, 0, none⟩ = some (cellAt w' (w.heap.size + 1 + 1) 0) ∧ w'.cell? ⟨w.heap.size + 1 + 1, 1, none⟩ = some (cellAt w' (w.heap.size + 1 + 1) 1) ∧ w'.frozen? ⟨w.heap.size + 1 + 1, 0, none⟩ = false ∧ w'.frozen? ⟨w.heap.size + 1 + 1, 1, none⟩ = false ∧ Below w.heap.size w w' ∧ w.heap.size + 1 + 1 + 1 ≤ w'.heap.size)
    (first | (go_split_ands; (repeat' apply And.intro); all_goals first | assumption | (go_simp; done) | (unfold cellAt; go_simp; done) | exact hB.drew | ((try simp only [World.size_drew, World.size_alloc]); omega)) | (go_split_ands; (repeat' apply And.intro); all_goals first | exact cell_up hb (by (try simp only [World.size_drew, World.size_alloc]); omega) (by assumption) | exact frozen_up hb (by (try simp only [World.size_drew, World.size_alloc]); omega) (by assumption) | exact cellAt_ok (cell_up hb (by (try simp only [World.size_drew, World.size_alloc]); omega) (by assumption)) | exact Below.trans (by assumption) (hb.mono (by (try simp only [World.size_drew, World.size_alloc]); omega)) | (have := hb.size; (try simp only [World.size_drew, World.size_alloc] at this); omega)) | (go_split_ands; (repeat' apply And.intro); all_goals first | assumption | exact set1 (set1 (by assumption) (by omega) _ _) (by omega) _ _ | (go_simp; done) | (unfold cellAt; go_simp; done)))
    ((go_at_call 94; refine (HL.out _ _ (by omega)).mono ?_; rintro e w1 ⟨rfl, hb⟩))
  all_goals
    go_wp2_with fail
    rename_i hS
    obtain ⟨-, -, -, -, -, -, -, -, -, -, -, -, s0, s1, -, -, hBB, -⟩ := hS
    obtain ⟨t0, t1, -⟩ := two_cells s0 s1
    refine bodyPost_ret (v := .agg #[.int .i64 (arLo p lo hi), .int .i64 (arHi p lo hi)]) ?_ rfl ⟨rfl, hBB⟩
    clear s0 s1
    simp [results, Try.results120, go_sem, t0, t1, arLo, arHi, ← HM.out]
theorem hts_no {p : Pap} {t : Pt} : hLo p t > p.height → hLo p t > hHi p t := by unfold hHi; omega
theorem hts_yes {p : Pap} {t : Pt} (h : p.Ok) (ht : t.Ok) : hLo p t ≤ p.height → hLo p t ≤ hHi p t := by
  intro hn
  have := acrossHi_bd h ht
  unfold hLo at hn
  unfold hLo hHi
  omega
set_option maxHeartbeats 1000000 in
theorem rcolumns_none (p : Pap) (t : Pt) (w : World) (h : p.Ok) (ht : t.Ok) (hn : hLo p t > p.height) :
    Calls Try.prog 87 #[p.v, t.v] w fun e w' => e = .returned (.agg #[.int .i64 (1), .int .i64 (0)]) ∧ Below w.heap.size w w' := by
  have hn' := hts_no hn
  go_enter Try.func87, Try.ntmps87
  go_wp2_with fail
  refine (places_any t.x t.half p.al p.ah _ ht.x ht.half h.along).mono ?_
  rintro e w1 ⟨rfl, hb1⟩
  have hB1_0 : HasPap (p) (w.heap.size) w1 := HasPap.up (by unfold HasPap; go_simp) hb1 (by (try simp only [World.size_alloc]); omega)
  have hB1_1 : HasPt (t) (w.heap.size + 1) w1 := HasPt.up (by unfold HasPt; go_simp) hb1 (by (try simp only [World.size_alloc]); omega)
  have hB1_2 : HasSp (0) (0) (w.heap.size + 1 + 1) w1 := HasSp.up (by unfold HasSp; go_simp) hb1 (by (try simp only [World.size_alloc]); omega)
  have g1_2_0 : w1.frozen? ⟨w.heap.size + 1 + 1, 0, none⟩ = false := low_frozen hb1 (by (try simp only [World.size_alloc]); omega) (by go_simp)
  have g1_2_1 : w1.frozen? ⟨w.heap.size + 1 + 1, 1, none⟩ = false := low_frozen hb1 (by (try simp only [World.size_alloc]); omega) (by go_simp)
  have C1 : Below w.heap.size w w1 := by
    refine Below.trans ?_ (hb1.mono ?_)
    · repeat' (first | with_reducible exact Below.refl _ _ | with_reducible exact Below.refl _ _ | with_reducible refine set1 ?_ (by omega) _ _ | with_reducible refine Below.alloc ?_ (by (try simp only [World.size_alloc]); omega) _ | with_reducible refine below_drewN ?_ _ | with_reducible refine Below.drew ?_)
    · (try simp only [World.size_alloc]); omega
  clear hb1
  unfold HasPap at hB1_0
  obtain ⟨f1_0_0, f1_0_1, f1_0_2, f1_0_3, f1_0_4, f1_0_5, f1_0_6, f1_0_7, f1_0_8, f1_0_9⟩ := hB1_0
  have z1_0 : w.heap.size < w1.heap.size := World.block_lt_of_cell? _ _ f1_0_0
  unfold HasPt at hB1_1
  obtain ⟨f1_1_0, f1_1_1, f1_1_2⟩ := hB1_1
  have z1_1 : w.heap.size + 1 < w1.heap.size := World.block_lt_of_cell? _ _ f1_1_0
  unfold HasSp at hB1_2
  obtain ⟨f1_2_0, f1_2_1⟩ := hB1_2
  have z1_2 : w.heap.size + 1 + 1 < w1.heap.size := World.block_lt_of_cell? _ _ f1_2_0
  have zz1 := C1.size
  go_wp2_with fail
  refine (rheights_any p t _ h ht).mono ?_
  rintro e w2 ⟨rfl, hb2⟩
  have hB2_0 : HasPap (p) (w.heap.size) w2 := HasPap.up (by unfold HasPap; go_simp) hb2 (by (try simp only [World.size_alloc]); omega)
  have hB2_1 : HasPt (t) (w.heap.size + 1) w2 := HasPt.up (by unfold HasPt; go_simp) hb2 (by (try simp only [World.size_alloc]); omega)
  have hB2_2 : HasSp (0) (0) (w.heap.size + 1 + 1) w2 := HasSp.up (by unfold HasSp; go_simp) hb2 (by (try simp only [World.size_alloc]); omega)
  have g2_2_0 : w2.frozen? ⟨w.heap.size + 1 + 1, 0, none⟩ = false := low_frozen hb2 (by (try simp only [World.size_alloc]); omega) (by go_simp)
  have g2_2_1 : w2.frozen? ⟨w.heap.size + 1 + 1, 1, none⟩ = false := low_frozen hb2 (by (try simp only [World.size_alloc]); omega) (by go_simp)
  have hB2_3 : HasSp (prLo t.x t.half p.ah) (prHi t.x t.half p.al) (w1.heap.size) w2 := HasSp.up (by unfold HasSp; go_simp) hb2 (by (try simp only [World.size_alloc]); omega)
  have C2 : Below w.heap.size w w2 := by
    refine Below.trans ?_ (hb2.mono ?_)
    · repeat' (first | with_reducible exact Below.refl _ _ | with_reducible exact C1 | with_reducible refine set1 ?_ (by omega) _ _ | with_reducible refine Below.alloc ?_ (by (try simp only [World.size_alloc, World.size_setCell]); omega) _ | with_reducible refine below_drewN ?_ _ | with_reducible refine Below.drew ?_)
    · (try simp only [World.size_alloc]); omega
  clear g1_2_0 g1_2_1 f1_0_0 f1_0_1 f1_0_2 f1_0_3 f1_0_4 f1_0_5 f1_0_6 f1_0_7 f1_0_8 f1_0_9 f1_1_0 f1_1_1 f1_1_2 f1_2_0 f1_2_1 hb2
  unfold HasPap at hB2_0
  obtain ⟨f2_0_0, f2_0_1, f2_0_2, f2_0_3, f2_0_4, f2_0_5, f2_0_6, f2_0_7, f2_0_8, f2_0_9⟩ := hB2_0
  have z2_0 : w.heap.size < w2.heap.size := World.block_lt_of_cell? _ _ f2_0_0
  unfold HasPt at hB2_1
  obtain ⟨f2_1_0, f2_1_1, f2_1_2⟩ := hB2_1
  have z2_1 : w.heap.size + 1 < w2.heap.size := World.block_lt_of_cell? _ _ f2_1_0
  unfold HasSp at hB2_2
  obtain ⟨f2_2_0, f2_2_1⟩ := hB2_2
  have z2_2 : w.heap.size + 1 + 1 < w2.heap.size := World.block_lt_of_cell? _ _ f2_2_0
  unfold HasSp at hB2_3
  obtain ⟨f2_3_0, f2_3_1⟩ := hB2_3
  have z2_3 : w1.heap.size < w2.heap.size := World.block_lt_of_cell? _ _ f2_3_0
  have zz2 := C2.size
  go_wp2_with fail
  refine bodyPost_ret (v := .agg #[.int .i64 1, .int .i64 0]) ?_ rfl ⟨rfl, ?_⟩
  · simp [results, Try.results87, go_sem, f2_2_0, f2_2_1, z2_2]
  · repeat' (first | with_reducible exact Below.refl _ _ | with_reducible exact C2 | with_reducible refine set1 ?_ (by omega) _ _ | with_reducible refine Below.alloc ?_ (by (try simp only [World.size_setCell]); omega) _ | with_reducible refine below_drewN ?_ _ | with_reducible refine Below.drew ?_)
set_option maxRecDepth 100000 in
set_option maxHeartbeats 2000000 in
theorem rcolumns_some (p : Pap) (t : Pt) (w : World) (h : p.Ok) (ht : t.Ok) (hn : hLo p t ≤ p.height) :
    Calls Try.prog 87 #[p.v, t.v] w fun e w' => e = .returned (.agg #[.int .i64 (cLo p t), .int .i64 (cHi p t)]) ∧ Below w.heap.size w w' := by
  have hn' := hts_yes h ht hn
  have hh : 0 ≤ hLo p t ∧ hLo p t ≤ hHi p t ∧ hHi p t ≤ p.height := h_bd h ht hn
  obtain ⟨q0, q1⟩ := arcOf_bd h (y := hLo p t) (by omega)
  obtain ⟨q2, q3⟩ := arcOf_bd h (y := hHi p t) (by omega)
  obtain ⟨q4, q5⟩ := arcOf_bd h (y := clMid p (hLo p t) (hHi p t)) (by unfold clMid; omega)
  have x1 : 0 ≤ prLo t.x t.half p.ah ∧ prLo t.x t.half p.ah ≤ 450000 := alongLo_bd h ht
  have x2 : 0 ≤ prHi t.x t.half p.al ∧ prHi t.x t.half p.al ≤ 450000 := alongHi_bd h ht
  have e1 : IntKind.i64.wrap (prLo t.x t.half p.ah - arHi p (hLo p t) (hHi p t)) = prLo t.x t.half p.ah - arHi p (hLo p t) (hHi p t) := IntWalk.i64_in _ (by unfold arHi; omega)
  have e2 : IntKind.i64.wrap (prHi t.x t.half p.al - arLo p (hLo p t) (hHi p t)) = prHi t.x t.half p.al - arLo p (hLo p t) (hHi p t) := IntWalk.i64_in _ (by unfold arLo; omega)
  have hpi := h.pitch
  have hco := h.cols
  have e3 : IntKind.i64.wrap (p.cols - 1) = p.cols - 1 := IntWalk.i64_in _ (by omega)
  have E := Lib.hid (And.intro e1 (And.intro e2 e3))
  have A1 : Hid (∀ w, Calls Try.prog 101 #[.int .i64 (prLo t.x t.half p.ah - arHi p (hLo p t) (hHi p t)), .int .i64 p.pitch] w fun e w' => e = .returned (.int .i64 ((prLo t.x t.half p.ah - arHi p (hLo p t) (hHi p t)) / p.pitch)) ∧ w' = w) := Lib.hid fun w => (rfloor_any _ _ w (by unfold arHi; omega) (by unfold arHi; omega) (by omega) (by omega)).mono fun _ _ h => ⟨h.1, h.2.symm⟩
  have A2 : Hid (∀ w, Calls Try.prog 101 #[.int .i64 (prHi t.x t.half p.al - arLo p (hLo p t) (hHi p t)), .int .i64 p.pitch] w fun e w' => e = .returned (.int .i64 ((prHi t.x t.half p.al - arLo p (hLo p t) (hHi p t)) / p.pitch)) ∧ w' = w) := Lib.hid fun w => (rfloor_any _ _ w (by unfold arLo; omega) (by unfold arLo; omega) (by omega) (by omega)).mono fun _ _ h => ⟨h.1, h.2.symm⟩
  clear e1 e2 e3 q0 q1 q2 q3 q4 q5 x1 x2 hpi hco
  go_enter Try.func87, Try.ntmps87
  go_wp2_with fail
  refine (places_any t.x t.half p.al p.ah _ ht.x ht.half h.along).mono ?_
  rintro e w1 ⟨rfl, hb1⟩
  have hB1_0 : HasPap (p) (w.heap.size) w1 := HasPap.up (by unfold HasPap; go_simp) hb1 (by (try simp only [World.size_alloc]); omega)
  have hB1_1 : HasPt (t) (w.heap.size + 1) w1 := HasPt.up (by unfold HasPt; go_simp) hb1 (by (try simp only [World.size_alloc]); omega)
  have hB1_2 : HasSp (0) (0) (w.heap.size + 1 + 1) w1 := HasSp.up (by unfold HasSp; go_simp) hb1 (by (try simp only [World.size_alloc]); omega)
  have g1_2_0 : w1.frozen? ⟨w.heap.size + 1 + 1, 0, none⟩ = false := low_frozen hb1 (by (try simp only [World.size_alloc]); omega) (by go_simp)
  have g1_2_1 : w1.frozen? ⟨w.heap.size + 1 + 1, 1, none⟩ = false := low_frozen hb1 (by (try simp only [World.size_alloc]); omega) (by go_simp)
  have C1 : Below w.heap.size w w1 := by
    refine Below.trans ?_ (hb1.mono ?_)
    · repeat' (first | with_reducible exact Below.refl _ _ | with_reducible exact Below.refl _ _ | with_reducible refine set1 ?_ (by omega) _ _ | with_reducible refine Below.alloc ?_ (by (try simp only [World.size_alloc]); omega) _ | with_reducible refine below_drewN ?_ _ | with_reducible refine Below.drew ?_)
    · (try simp only [World.size_alloc]); omega
  clear hb1
  unfold HasPap at hB1_0
  obtain ⟨f1_0_0, f1_0_1, f1_0_2, f1_0_3, f1_0_4, f1_0_5, f1_0_6, f1_0_7, f1_0_8, f1_0_9⟩ := hB1_0
  have z1_0 : w.heap.size < w1.heap.size := World.block_lt_of_cell? _ _ f1_0_0
  unfold HasPt at hB1_1
  obtain ⟨f1_1_0, f1_1_1, f1_1_2⟩ := hB1_1
  have z1_1 : w.heap.size + 1 < w1.heap.size := World.block_lt_of_cell? _ _ f1_1_0
  unfold HasSp at hB1_2
  obtain ⟨f1_2_0, f1_2_1⟩ := hB1_2
  have z1_2 : w.heap.size + 1 + 1 < w1.heap.size := World.block_lt_of_cell? _ _ f1_2_0
  have zz1 := C1.size
  go_wp2_with fail
  refine (rheights_any p t _ h ht).mono ?_
  rintro e w2 ⟨rfl, hb2⟩
  have hB2_0 : HasPap (p) (w.heap.size) w2 := HasPap.up (by unfold HasPap; go_simp) hb2 (by (try simp only [World.size_alloc]); omega)
  have hB2_1 : HasPt (t) (w.heap.size + 1) w2 := HasPt.up (by unfold HasPt; go_simp) hb2 (by (try simp only [World.size_alloc]); omega)
  have hB2_2 : HasSp (0) (0) (w.heap.size + 1 + 1) w2 := HasSp.up (by unfold HasSp; go_simp) hb2 (by (try simp only [World.size_alloc]); omega)
  have g2_2_0 : w2.frozen? ⟨w.heap.size + 1 + 1, 0, none⟩ = false := low_frozen hb2 (by (try simp only [World.size_alloc]); omega) (by go_simp)
  have g2_2_1 : w2.frozen? ⟨w.heap.size + 1 + 1, 1, none⟩ = false := low_frozen hb2 (by (try simp only [World.size_alloc]); omega) (by go_simp)
  have hB2_3 : HasSp (prLo t.x t.half p.ah) (prHi t.x t.half p.al) (w1.heap.size) w2 := HasSp.up (by unfold HasSp; go_simp) hb2 (by (try simp only [World.size_alloc]); omega)
  have C2 : Below w.heap.size w w2 := by
    refine Below.trans ?_ (hb2.mono ?_)
    · repeat' (first | with_reducible exact Below.refl _ _ | with_reducible exact C1 | with_reducible refine set1 ?_ (by omega) _ _ | with_reducible refine Below.alloc ?_ (by (try simp only [World.size_alloc, World.size_setCell]); omega) _ | with_reducible refine below_drewN ?_ _ | with_reducible refine Below.drew ?_)
    · (try simp only [World.size_alloc]); omega
  clear g1_2_0 g1_2_1 f1_0_0 f1_0_1 f1_0_2 f1_0_3 f1_0_4 f1_0_5 f1_0_6 f1_0_7 f1_0_8 f1_0_9 f1_1_0 f1_1_1 f1_1_2 f1_2_0 f1_2_1 hb2
  unfold HasPap at hB2_0
  obtain ⟨f2_0_0, f2_0_1, f2_0_2, f2_0_3, f2_0_4, f2_0_5, f2_0_6, f2_0_7, f2_0_8, f2_0_9⟩ := hB2_0
  have z2_0 : w.heap.size < w2.heap.size := World.block_lt_of_cell? _ _ f2_0_0
  unfold HasPt at hB2_1
  obtain ⟨f2_1_0, f2_1_1, f2_1_2⟩ := hB2_1
  have z2_1 : w.heap.size + 1 < w2.heap.size := World.block_lt_of_cell? _ _ f2_1_0
  unfold HasSp at hB2_2
  obtain ⟨f2_2_0, f2_2_1⟩ := hB2_2
  have z2_2 : w.heap.size + 1 + 1 < w2.heap.size := World.block_lt_of_cell? _ _ f2_2_0
  unfold HasSp at hB2_3
  obtain ⟨f2_3_0, f2_3_1⟩ := hB2_3
  have z2_3 : w1.heap.size < w2.heap.size := World.block_lt_of_cell? _ _ f2_3_0
  have zz2 := C2.size
  go_wp2_with fail
  refine (rarcs_any p _ _ _ h hh).mono ?_
  rintro e w3 ⟨rfl, hb3⟩
  have hB3_0 : HasPap (p) (w.heap.size) w3 := HasPap.up (by unfold HasPap; go_simp) hb3 (by (try simp only [World.size_alloc]); omega)
  have hB3_1 : HasPt (t) (w.heap.size + 1) w3 := HasPt.up (by unfold HasPt; go_simp) hb3 (by (try simp only [World.size_alloc]); omega)
  have hB3_2 : HasSp (0) (0) (w.heap.size + 1 + 1) w3 := HasSp.up (by unfold HasSp; go_simp) hb3 (by (try simp only [World.size_alloc]); omega)
  have g3_2_0 : w3.frozen? ⟨w.heap.size + 1 + 1, 0, none⟩ = false := low_frozen hb3 (by (try simp only [World.size_alloc]); omega) (by go_simp)
  have g3_2_1 : w3.frozen? ⟨w.heap.size + 1 + 1, 1, none⟩ = false := low_frozen hb3 (by (try simp only [World.size_alloc]); omega) (by go_simp)
  have hB3_3 : HasSp (prLo t.x t.half p.ah) (prHi t.x t.half p.al) (w1.heap.size) w3 := HasSp.up (by unfold HasSp; go_simp) hb3 (by (try simp only [World.size_alloc]); omega)
  have hB3_4 : HasSp (hLo p t) (hHi p t) (w2.heap.size) w3 := HasSp.up (by unfold HasSp; go_simp) hb3 (by (try simp only [World.size_alloc]); omega)
  have C3 : Below w.heap.size w w3 := by
    refine Below.trans ?_ (hb3.mono ?_)
    · repeat' (first | with_reducible exact Below.refl _ _ | with_reducible exact C2 | with_reducible refine set1 ?_ (by omega) _ _ | with_reducible refine Below.alloc ?_ (by (try simp only [World.size_alloc, World.size_setCell]); omega) _ | with_reducible refine below_drewN ?_ _ | with_reducible refine Below.drew ?_)
    · (try simp only [World.size_alloc]); omega
  clear g2_2_0 g2_2_1 f2_0_0 f2_0_1 f2_0_2 f2_0_3 f2_0_4 f2_0_5 f2_0_6 f2_0_7 f2_0_8 f2_0_9 f2_1_0 f2_1_1 f2_1_2 f2_2_0 f2_2_1 f2_3_0 f2_3_1 hb3
  unfold HasPap at hB3_0
  obtain ⟨f3_0_0, f3_0_1, f3_0_2, f3_0_3, f3_0_4, f3_0_5, f3_0_6, f3_0_7, f3_0_8, f3_0_9⟩ := hB3_0
  have z3_0 : w.heap.size < w3.heap.size := World.block_lt_of_cell? _ _ f3_0_0
  unfold HasPt at hB3_1
  obtain ⟨f3_1_0, f3_1_1, f3_1_2⟩ := hB3_1
  have z3_1 : w.heap.size + 1 < w3.heap.size := World.block_lt_of_cell? _ _ f3_1_0
  unfold HasSp at hB3_2
  obtain ⟨f3_2_0, f3_2_1⟩ := hB3_2
  have z3_2 : w.heap.size + 1 + 1 < w3.heap.size := World.block_lt_of_cell? _ _ f3_2_0
  unfold HasSp at hB3_3
  obtain ⟨f3_3_0, f3_3_1⟩ := hB3_3
  have z3_3 : w1.heap.size < w3.heap.size := World.block_lt_of_cell? _ _ f3_3_0
  unfold HasSp at hB3_4
  obtain ⟨f3_4_0, f3_4_1⟩ := hB3_4
  have z3_4 : w2.heap.size < w3.heap.size := World.block_lt_of_cell? _ _ f3_4_0
  have zz3 := C3.size
  go_wp2_with fail
  obtain ⟨e1, e2, e3⟩ := E.out
  have f3_5_0 : (w3.alloc (.cells #[.int .i64 (arLo p (hLo p t) (hHi p t)), .int .i64 (arHi p (hLo p t) (hHi p t))] 23)).cell? ⟨w3.heap.size, 0, none⟩ = some (.int .i64 (arLo p (hLo p t) (hHi p t))) := by go_simp
  clear f3_5_0
  refine still_tail 22 (by kernel_rfl) (by kernel_rfl) ?_
  simp only [List.take_succ_cons, List.take_zero, List.drop_succ_cons, List.drop_zero]
  repeat still_step
  still_call (A1.out _)
  repeat still_step
  still_call (A2.out _)
  repeat still_step
  refine wpStill_nil ?_
  clear e1 e2 e3
  go_wp2_with fail
  refine bodyPost_ret (v := .agg #[.int .i64 (cLo p t), .int .i64 (cHi p t)]) ?_ rfl ⟨rfl, ?_⟩
  · simp [results, Try.results87, go_sem, f3_2_0, f3_2_1, z3_2, cLo, cHi, colLo, colHi, alongLo, alongHi]
  · repeat' (first | with_reducible exact Below.refl _ _ | with_reducible exact C3 | with_reducible refine set1 ?_ (by omega) _ _ | with_reducible refine Below.alloc ?_ (by (try simp only [World.size_setCell]); omega) _ | with_reducible refine below_drewN ?_ _ | with_reducible refine Below.drew ?_)
end Go.Proofs.Ytmeljcbefnojfaa
