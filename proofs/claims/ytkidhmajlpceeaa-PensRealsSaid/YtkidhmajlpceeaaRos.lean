/- The specification's offsets: behind a change, ahead of one. -/
import Derived.Test.YtkidhmajlpceeaaRma
import Derived.Test.YtkidhmajlpceeaaRze
namespace Go.Proofs.Ytkidhmajlpceeaa
open Go.RowKit
set_option linter.unusedSimpArgs false
set_option linter.unusedVariables false
abbrev Sp (s : Int × Int) : Value := .agg #[.int .i64 s.1, .int .i64 s.2]
theorem Rnothing_any (w : World) : Calls Try.prog 111 #[] w fun e w' => e = .returned (Sp (1, 0)) ∧ Below w.heap.size w w' := by
  go_enter Try.func111, Try.ntmps111
  go_wp2_with fail
  exact bodyPost_ret (v := Sp (1, 0)) (by simp [results, Try.results111, go_sem]) rfl ⟨rfl, box1 _ _⟩
set_option maxHeartbeats 1000000 in
theorem Rend_any (p : Pn) (d : Int) (w : World) (hb : 0 ≤ p.b ∧ p.b ≤ 8) :
    Calls Try.prog 113 #[p.v, .int .i64 d] w fun e w' => e = .returned (Sp (ndd p d)) ∧ Below w.heap.size w w' := by
  obtain ⟨b1, b2⟩ := hb
  by_cases h : 0 < d
  · have e1 : decide (d > 0) = true := by simpa using h
    have ep : ndd p d = (p.b, p.b) := by unfold ndd; rw [if_pos h]
    rw [ep]
    clear ep
    go_enter Try.func113, Try.ntmps113
    go_wp2_with fail
    exact bodyPost_ret (v := Sp (p.b, p.b)) (by simp [results, Try.results113, go_sem]) rfl ⟨rfl, by first | exact box2 _ _ _ | exact set1 (set1 (box2 _ _ _) (by omega) _ _) (by omega) _ _⟩
  · have e1 : decide (d > 0) = false := by simpa using h
    have ep : ndd p d = (-p.b, -p.b) := by unfold ndd; rw [if_neg h]
    rw [ep]
    clear ep
    go_enter Try.func113, Try.ntmps113
    go_wp2_with fail
    exact bodyPost_ret (v := Sp (-p.b, -p.b)) (by simp [results, Try.results113, go_sem]) rfl ⟨rfl, by first | exact box2 _ _ _ | exact set1 (set1 (box2 _ _ _) (by omega) _ _) (by omega) _ _⟩
set_option maxRecDepth 100000 in
set_option maxHeartbeats 2000000 in
theorem Rfrom_any (p : Pn) (d : Int) (w : World) (hb : 0 ≤ p.b ∧ p.b ≤ 8) (hr : 0 ≤ p.r ∧ p.r ≤ 12000) (hd : -200000 ≤ d ∧ d ≤ 200000) :
    Calls Try.prog 112 #[p.v, .int .i64 d] w fun e w' => e = .returned (Sp (frm p d)) ∧ Below w.heap.size w w' := by
  obtain ⟨b1, b2⟩ := hb
  obtain ⟨r1, r2⟩ := hr
  obtain ⟨d1, d2⟩ := hd
  by_cases h : 0 < d
  · have e1 : decide (d > 0) = true := by simpa using h
    have ep : frm p d = (max (d + p.b - p.r) (-p.b), min (p.b) p.b) := by unfold frm bo; rw [if_pos h]
    have KB := Lib.hid fun W => Rboth_any (d + p.b - p.r) (p.b) (-p.b) p.b W
    rw [ep]
    have u0 : IntKind.i64.wrap (d + p.b) = d + p.b := IntWalk.i64_in _ (by omega)
    have u1 : IntKind.i64.wrap (d + p.b - p.r) = d + p.b - p.r := IntWalk.i64_in _ (by omega)
    have u2 : IntKind.i64.wrap (-p.b) = -p.b := IntWalk.i64_in _ (by omega)
    generalize hx : max (d + p.b - p.r) (-p.b) = x at *
    generalize hy : min (p.b) p.b = y at *
    clear ep hx hy
    go_enter Try.func112, Try.ntmps112
    go_wp2_with fail
    refine (KB.out _).mono ?_
    rintro e w1 ⟨rfl, hb⟩
    have C1 := Lib.hid (nextB (box2 w _ _) hb)
    have r1 : Bt (w.heap.size + 1) 0 0 w1 := ((by have h := Bt.new (w.alloc (penO p)) 23 0 0; simpa only [World.size_alloc] using h : Bt (w.heap.size + 1) 0 0 _).up hb)
    have z1 := r1.lt
    obtain ⟨a0, a1, f0, f1⟩ := r1
    clear hb KB u0 u1 u2
    go_wp2_with fail
    exact bodyPost_ret (v := Sp (x, y)) (by simp [results, Try.results112, go_sem, a0, a1]) rfl ⟨rfl, set1 (set1 C1.out (by omega) _ _) (by omega) _ _⟩
  · have e1 : decide (d > 0) = false := by simpa using h
    have ep : frm p d = (max (-p.b) (-p.b), min (d - p.b + p.r) p.b) := by unfold frm bo; rw [if_neg h]
    have KB := Lib.hid fun W => Rboth_any (-p.b) (d - p.b + p.r) (-p.b) p.b W
    rw [ep]
    have u0 : IntKind.i64.wrap (d - p.b) = d - p.b := IntWalk.i64_in _ (by omega)
    have u1 : IntKind.i64.wrap (d - p.b + p.r) = d - p.b + p.r := IntWalk.i64_in _ (by omega)
    have u2 : IntKind.i64.wrap (-p.b) = -p.b := IntWalk.i64_in _ (by omega)
    generalize hx : max (-p.b) (-p.b) = x at *
    generalize hy : min (d - p.b + p.r) p.b = y at *
    clear ep hx hy
    go_enter Try.func112, Try.ntmps112
    go_wp2_with fail
    refine (KB.out _).mono ?_
    rintro e w1 ⟨rfl, hb⟩
    have C1 := Lib.hid (nextB (box2 w _ _) hb)
    have r1 : Bt (w.heap.size + 1) 0 0 w1 := ((by have h := Bt.new (w.alloc (penO p)) 23 0 0; simpa only [World.size_alloc] using h : Bt (w.heap.size + 1) 0 0 _).up hb)
    have z1 := r1.lt
    obtain ⟨a0, a1, f0, f1⟩ := r1
    clear hb KB u0 u1 u2
    go_wp2_with fail
    exact bodyPost_ret (v := Sp (x, y)) (by simp [results, Try.results112, go_sem, a0, a1]) rfl ⟨rfl, set1 (set1 C1.out (by omega) _ _) (by omega) _ _⟩
theorem bt_na {W w1 : World} {t : TypeId} {x y : Int} (hb : Below (W.alloc (.cells #[.int .i64 x, .int .i64 y] t)).heap.size (W.alloc (.cells #[.int .i64 x, .int .i64 y] t)) w1) : Bt W.heap.size x y w1 := (Bt.new W t x y).up hb
theorem bt_nd {W w1 : World} {t : TypeId} {x y : Int} (hb : Below (W.alloc (.cells #[.int .i64 x, .int .i64 y] t)).drew.heap.size (W.alloc (.cells #[.int .i64 x, .int .i64 y] t)).drew w1) : Bt W.heap.size x y w1 := ((Bt.new W t x y).up (Below.refl _ _).drew).up hb
theorem alloc_other {W : World} {A A2 : Obj} {b o : Nat} {v : Value} (h : (W.alloc A).cell? ⟨b, o, none⟩ = some v) (hl : b < W.heap.size) : (W.alloc A2).cell? ⟨b, o, none⟩ = some v :=
  cell_up (box1 W A2) hl (((box1 W A).cell (p := ⟨b, o, none⟩) hl).symm.trans h)
theorem below_other {B : Nat} {w W : World} {A A2 : Obj} (h : Below B w (W.alloc A)) (hB : B ≤ W.heap.size) (hs : w.heap.size ≤ W.heap.size) : Below B w (W.alloc A2) :=
  { os := h.os, tape := h.tape, output := h.output, size := by simp only [World.size_alloc]; omega, block := fun k hk => by
      rw [(box1 W A2).block k (by omega), ← (box1 W A).block k (by omega)]; exact h.block k hk }
set_option maxRecDepth 100000 in
set_option maxHeartbeats 4000000 in
theorem Rafter_any (p : Pn) (s : Int × Int) (d : Int) (w : World) (hb : 0 ≤ p.b ∧ p.b ≤ 8) (hr : 0 ≤ p.r ∧ p.r ≤ 12000) (hd : -200000 ≤ d ∧ d ≤ 200000) (hs : Bd 1000000 s) :
    Calls Try.prog 102 #[p.v, Sp s, .int .i64 d] w fun e w' => e = .returned (Sp (aft p s d)) ∧ Below w.heap.size w w' := by
  have KF := Lib.hid fun W => Rfrom_any p d W hb hr hd
  have KE := Lib.hid fun W => Rend_any p d W hb
  have KN := Lib.hid fun W => Rnothing_any W
  obtain ⟨b1, b2⟩ := hb
  obtain ⟨r1, r2⟩ := hr
  obtain ⟨d1, d2⟩ := hd
  obtain ⟨s1, s2, s3, s4⟩ := hs
  obtain ⟨x, y⟩ := s
  simp only at s1 s2 s3 s4
  obtain ⟨b1', b2', b3'⟩ := bt3 w p x y
  have B1 := Lib.hid b1'
  have B2 := Lib.hid b2'
  have B3 := Lib.hid b3'
  clear b1' b2' b3'
  by_cases h : y < x
  · have u1 : decide (x > y) = true := decide_eq_true h
    have ep : aft p (x, y) d = (1, 0) := by unfold aft; rw [if_pos h]
    rw [ep]
    clear ep h
    go_enter Try.func102, Try.ntmps102
    go_wp2_with fail
    refine (KN.out _).mono ?_
    rintro e w1 ⟨rfl, hb⟩
    have C1 := Lib.hid (nextB (box3 w _ _ _) hb)
    have q1 := B3.out.up hb
    have z1 := q1.lt
    obtain ⟨a0, a1, f0, f1⟩ := q1
    clear hb KF KE KN
    go_wp2_with fail
    exact bodyPost_ret (v := Sp (1, 0)) (by simp [results, Try.results102, go_sem, a0, a1]) rfl ⟨rfl, set1 (set1 C1.out (by omega) _ _) (by omega) _ _⟩
  · have u1 : decide (x > y) = false := decide_eq_false h
    by_cases h0 : d = 0
    · subst h0
      have u2 : IntKind.i64.wrap (x - p.r) = x - p.r := IntWalk.i64_in _ (by omega)
      have u3 : IntKind.i64.wrap (y + p.r) = y + p.r := IntWalk.i64_in _ (by omega)
      have u4 : IntKind.i64.wrap (-p.b) = -p.b := IntWalk.i64_in _ (by omega)
      have ep : aft p (x, y) 0 = (max (x - p.r) (-p.b), min (y + p.r) p.b) := by unfold aft bo; rw [if_neg h, if_pos rfl]
      have KB := Lib.hid fun W => Rboth_any (x - p.r) (y + p.r) (-p.b) p.b W
      rw [ep]
      generalize hx : max (x - p.r) (-p.b) = u at *
      generalize hy : min (y + p.r) p.b = v at *
      clear ep hx hy
      go_enter Try.func102, Try.ntmps102
      go_wp2_with fail
      refine (KB.out _).mono ?_
      rintro e w1 ⟨rfl, hb⟩
      have C1 := Lib.hid (nextB (box3 w _ _ _) hb)
      have q1 := B3.out.up hb
      have z1 := q1.lt
      obtain ⟨a0, a1, f0, f1⟩ := q1
      clear hb KF KE KN KB u2 u3 u4
      go_wp2_with fail
      exact bodyPost_ret (v := Sp (u, v)) (by simp [results, Try.results102, go_sem, a0, a1]) rfl ⟨rfl, set1 (set1 C1.out (by omega) _ _) (by omega) _ _⟩
    · have u2 : (d == 0) = false := by simpa using h0
      obtain ⟨F, hF⟩ : ∃ F, F = frm p d := ⟨_, rfl⟩
      obtain ⟨L, hL⟩ : ∃ L, L = ndd p d := ⟨_, rfl⟩
      have ep : aft p (x, y) d = if (bo (x, y) F).2 < (bo (x, y) F).1 then (1, 0) else L := by unfold aft; rw [if_neg h, if_neg h0, hF, hL]
      rw [ep]
      rw [← hF] at KF
      rw [← hL] at KE
      have KB := Lib.hid fun W => Rboth_any x y F.1 F.2 W
      obtain ⟨u, hu⟩ : ∃ u, u = max x F.1 := ⟨_, rfl⟩
      obtain ⟨v, hv⟩ : ∃ v, v = min y F.2 := ⟨_, rfl⟩
      have eb : bo (x, y) F = (u, v) := by unfold bo; rw [hu, hv]
      rw [eb]
      rw [← hu, ← hv] at KB
      simp only
      obtain ⟨R, hR⟩ : ∃ R : Int × Int, R = if v < u then (1, 0) else L := ⟨_, rfl⟩
      rw [← hR]
      have HR := Lib.hid hR
      clear ep eb hF hL hu hv hR
      obtain ⟨F0, F1⟩ := F
      obtain ⟨L0, L1⟩ := L
      obtain ⟨y0, y1, _, _⟩ := B2.out
      obtain ⟨x0, x1, x2, x3⟩ := B1.out
      have C0 := Lib.hid (box3 w (penO p) (.cells #[.int .i64 x, .int .i64 y] 23) (.cells #[.int .i64 0, .int .i64 0] 23))
      have sW := Lib.hid (show (((w.alloc (penO p)).alloc (.cells #[.int .i64 x, .int .i64 y] 23)).alloc (.cells #[.int .i64 0, .int .i64 0] 23)).heap.size = w.heap.size + 1 + 1 + 1 by simp only [World.size_alloc])
      go_enter Try.func102, Try.ntmps102
      go_wp2_with fail
      generalize ((w.alloc (penO p)).alloc (.cells #[.int .i64 x, .int .i64 y] 23)).alloc (.cells #[.int .i64 0, .int .i64 0] 23) = W0 at *
      go_cut [7] (fun q wx => ∃ g : Nat, q = .pointer (some ⟨g, 0, none⟩) ∧ W0.heap.size ≤ g ∧ Below W0.heap.size W0 wx ∧ Bt g u v wx)
      case first =>
        clear B1 B3 B2 KN sW C0
        have zW : w.heap.size + 1 < W0.heap.size := World.block_lt_of_cell? _ _ y0
        have zP : w.heap.size < W0.heap.size := World.block_lt_of_cell? _ _ x0
        go_region_held3 (fun w' => w'.cell? ⟨w.heap.size + 1, 0, none⟩ = some (.int .i64 x) ∧ w'.cell? ⟨w.heap.size + 1, 1, none⟩ = some (.int .i64 y) ∧ w'.cell? ⟨w.heap.size, 0, none⟩ = some (.int .i64 (p.b)) ∧ w'.cell? ⟨w.heap.size, 1, none⟩ = some (.int .i64 (p.lo)) ∧ w'.cell? ⟨w.heap.size, 2, none⟩ = some (.int .i64 (p.hi)) ∧ w'.cell? ⟨w.heap.size, 3, none⟩ = some (.int .i64 (p.r)) ∧ Below W0.heap.size W0 w' ∧ W0.heap.size ≤ w'.heap.size)
          (first | (go_split_ands; (repeat' apply And.intro); all_goals first | assumption | (go_simp; done) | exact (Below.refl _ _).drew | exact cell_up hbB (by ((try have yA := hbA.size); (try have yB := hbB.size); (try simp only [World.size_drew, World.size_alloc, World.size_setCell] at yA); (try simp only [World.size_drew, World.size_alloc, World.size_setCell] at yB); (try simp only [World.size_drew, World.size_alloc, World.size_setCell]); omega)) (by assumption) | exact cell_up hbA (by ((try have yA := hbA.size); (try have yB := hbB.size); (try simp only [World.size_drew, World.size_alloc, World.size_setCell] at yA); (try simp only [World.size_drew, World.size_alloc, World.size_setCell] at yB); (try simp only [World.size_drew, World.size_alloc, World.size_setCell]); omega)) (by assumption) | exact cell_up (box1 _ _) (by ((try have yA := hbA.size); (try have yB := hbB.size); (try simp only [World.size_drew, World.size_alloc, World.size_setCell] at yA); (try simp only [World.size_drew, World.size_alloc, World.size_setCell] at yB); (try simp only [World.size_drew, World.size_alloc, World.size_setCell]); omega)) (by assumption) | exact alloc_other (by assumption) (by ((try have yA := hbA.size); (try have yB := hbB.size); (try simp only [World.size_drew, World.size_alloc, World.size_setCell] at yA); (try simp only [World.size_drew, World.size_alloc, World.size_setCell] at yB); (try simp only [World.size_drew, World.size_alloc, World.size_setCell]); omega)) | exact keepA (keepA (by assumption) (by ((try have yA := hbA.size); (try have yB := hbB.size); (try simp only [World.size_drew, World.size_alloc, World.size_setCell] at yA); (try simp only [World.size_drew, World.size_alloc, World.size_setCell] at yB); (try simp only [World.size_drew, World.size_alloc, World.size_setCell]); omega))) (by ((try have yA := hbA.size); (try have yB := hbB.size); (try simp only [World.size_drew, World.size_alloc, World.size_setCell] at yA); (try simp only [World.size_drew, World.size_alloc, World.size_setCell] at yB); (try simp only [World.size_drew, World.size_alloc, World.size_setCell]); omega)) | exact Below.trans (by assumption) (hbB.mono (by ((try have yA := hbA.size); (try have yB := hbB.size); (try simp only [World.size_drew, World.size_alloc, World.size_setCell] at yA); (try simp only [World.size_drew, World.size_alloc, World.size_setCell] at yB); (try simp only [World.size_drew, World.size_alloc, World.size_setCell]); omega))) | exact Below.trans (by assumption) (hbA.mono (by ((try have yA := hbA.size); (try have yB := hbB.size); (try simp only [World.size_drew, World.size_alloc, World.size_setCell] at yA); (try simp only [World.size_drew, World.size_alloc, World.size_setCell] at yB); (try simp only [World.size_drew, World.size_alloc, World.size_setCell]); omega))) | exact Below.alloc (by assumption) (by ((try have yA := hbA.size); (try have yB := hbB.size); (try simp only [World.size_drew, World.size_alloc, World.size_setCell] at yA); (try simp only [World.size_drew, World.size_alloc, World.size_setCell] at yB); (try simp only [World.size_drew, World.size_alloc, World.size_setCell]); omega)) _ | exact (box1 _ _).drew | exact below_other (by assumption) (by ((try have yA := hbA.size); (try have yB := hbB.size); (try simp only [World.size_drew, World.size_alloc, World.size_setCell] at yA); (try simp only [World.size_drew, World.size_alloc, World.size_setCell] at yB); (try simp only [World.size_drew, World.size_alloc, World.size_setCell]); omega)) (by ((try have yA := hbA.size); (try have yB := hbB.size); (try simp only [World.size_drew, World.size_alloc, World.size_setCell] at yA); (try simp only [World.size_drew, World.size_alloc, World.size_setCell] at yB); (try simp only [World.size_drew, World.size_alloc, World.size_setCell]); omega)) | exact set1 (set1 (by assumption) (by ((try have yA := hbA.size); (try have yB := hbB.size); (try simp only [World.size_drew, World.size_alloc, World.size_setCell] at yA); (try simp only [World.size_drew, World.size_alloc, World.size_setCell] at yB); (try simp only [World.size_drew, World.size_alloc, World.size_setCell]); omega)) _ _) (by ((try have yA := hbA.size); (try have yB := hbB.size); (try simp only [World.size_drew, World.size_alloc, World.size_setCell] at yA); (try simp only [World.size_drew, World.size_alloc, World.size_setCell] at yB); (try simp only [World.size_drew, World.size_alloc, World.size_setCell]); omega)) _ _ | ((try have yA := hbA.size); (try have yB := hbB.size); (try simp only [World.size_drew, World.size_alloc, World.size_setCell] at yA); (try simp only [World.size_drew, World.size_alloc, World.size_setCell] at yB); (try simp only [World.size_drew, World.size_alloc, World.size_setCell]); omega)))
          (first
            | (go_at_call 112; ((with_reducible refine (KF.out _).mono ?_); rintro e wA ⟨rfl, hbA⟩; (try (have hN := bt_na hbA; obtain ⟨n0, n1, n2, n3⟩ := hN)); (try (have hN := bt_nd hbA; obtain ⟨n0, n1, n2, n3⟩ := hN))))
            | (go_at_call 86; ((with_reducible refine (KB.out _).mono ?_); rintro e wB ⟨rfl, hbB⟩; (try (have hM := (Bt.mk n0 n1 n2 n3).up hbB; clear n0 n1 n2 n3; obtain ⟨n0, n1, n2, n3⟩ := hM)); (try (have hM := bt_na hbB; obtain ⟨n0, n1, n2, n3⟩ := hM)); (try (have hM := bt_nd hbB; obtain ⟨n0, n1, n2, n3⟩ := hM)))))
        all_goals
          go_wp2_with fail
          go_meet
          rename_i hS
          obtain ⟨-, -, -, -, -, -, hBB, -⟩ := hS
          exact ⟨_, rfl, by ((try have yA := hbA.size); (try have yB := hbB.size); (try simp only [World.size_drew, World.size_alloc, World.size_setCell] at yA); (try simp only [World.size_drew, World.size_alloc, World.size_setCell] at yB); (try simp only [World.size_drew, World.size_alloc, World.size_setCell]); omega), hBB, by first | exact Bt.new _ _ _ _ | exact (Bt.mk n0 n1 n2 n3).store _ _⟩
      case rest =>
        obtain ⟨g, rfl, hg, hb, hB⟩ := hcut
        have C1 := Lib.hid (C0.out.trans (hb.mono (by have := sW.out; omega)))
        have q1 := B3.out.up hb
        have z1 := q1.lt
        have p1 := B1.out.up hb (by have := sW.out; omega)
        obtain ⟨a0, a1, f0, f1⟩ := q1
        obtain ⟨x0, x1, x2, x3⟩ := p1
        obtain ⟨n0, n1, _, _⟩ := hB
        have Q1 := Lib.hid (Bt.mk a0 a1 f0 f1)
        have zg := World.block_lt_of_cell? _ _ n0
        have zp := World.block_lt_of_cell? _ _ x0
        clear hb B1 B2 B3 KF KB
        by_cases hv : v < u
        · have u3 : decide (u > v) = true := decide_eq_true hv
          have ER := Lib.hid (show R = (1, 0) by rw [HR.out, if_pos hv])
          clear hv HR
          go_wp2_with fail
          refine (KN.out _).mono ?_
          rintro e w1 ⟨rfl, hb⟩
          have C2 := Lib.hid (nextB C1.out hb)
          have q2 := Q1.out.up hb
          have z2 := q2.lt
          obtain ⟨d0, d1, e0, e1⟩ := q2
          clear hb
          go_wp2_with fail
          exact bodyPost_ret (v := Sp (1, 0)) (by simp [results, Try.results102, go_sem, d0, d1]) rfl ⟨by rw [ER.out], set1 (set1 C2.out (by omega) _ _) (by omega) _ _⟩
        · have u3 : decide (u > v) = false := decide_eq_false hv
          have ER := Lib.hid (show R = (L0, L1) by rw [HR.out, if_neg hv])
          clear hv HR
          go_wp2_with fail
          refine (KE.out _).mono ?_
          rintro e w1 ⟨rfl, hb⟩
          have C2 := Lib.hid (nextB C1.out hb)
          have q2 := Q1.out.up hb
          have z2 := q2.lt
          obtain ⟨d0, d1, e0, e1⟩ := q2
          clear hb
          go_wp2_with fail
          exact bodyPost_ret (v := Sp (L0, L1)) (by simp [results, Try.results102, go_sem, d0, d1]) rfl ⟨by rw [ER.out], set1 (set1 C2.out (by omega) _ _) (by omega) _ _⟩
set_option maxRecDepth 100000 in
set_option maxHeartbeats 4000000 in
theorem Rahead_any (p : Pn) (s : Int × Int) (d : Int) (w : World) (hb : 0 ≤ p.b ∧ p.b ≤ 8) (hr : 0 ≤ p.r ∧ p.r ≤ 12000) (hd : -200000 ≤ d ∧ d ≤ 200000) (hs : Bd 1000000 s) :
    Calls Try.prog 103 #[p.v, Sp s, .int .i64 d] w fun e w' => e = .returned (Sp (ahd p s d)) ∧ Below w.heap.size w w' := by
  have KF := Lib.hid fun W => Rfrom_any p d W hb hr hd
  have KE := Lib.hid fun W => Rend_any p d W hb
  have KN := Lib.hid fun W => Rnothing_any W
  obtain ⟨b1, b2⟩ := hb
  obtain ⟨r1, r2⟩ := hr
  obtain ⟨d1, d2⟩ := hd
  obtain ⟨s1, s2, s3, s4⟩ := hs
  obtain ⟨x, y⟩ := s
  simp only at s1 s2 s3 s4
  obtain ⟨b1', b2', b3'⟩ := bt3 w p x y
  have B1 := Lib.hid b1'
  have B2 := Lib.hid b2'
  have B3 := Lib.hid b3'
  clear b1' b2' b3'
  by_cases h : y < x
  · have u1 : decide (x > y) = true := decide_eq_true h
    have ep : ahd p (x, y) d = (1, 0) := by unfold ahd; rw [if_pos h]
    rw [ep]
    clear ep h
    go_enter Try.func103, Try.ntmps103
    go_wp2_with fail
    refine (KN.out _).mono ?_
    rintro e w1 ⟨rfl, hb⟩
    have C1 := Lib.hid (nextB (box3 w _ _ _) hb)
    have q1 := B3.out.up hb
    have z1 := q1.lt
    obtain ⟨a0, a1, f0, f1⟩ := q1
    clear hb KF KE KN
    go_wp2_with fail
    exact bodyPost_ret (v := Sp (1, 0)) (by simp [results, Try.results103, go_sem, a0, a1]) rfl ⟨rfl, set1 (set1 C1.out (by omega) _ _) (by omega) _ _⟩
  · have u1 : decide (x > y) = false := decide_eq_false h
    by_cases h0 : d = 0
    · subst h0
      have u2 : IntKind.i64.wrap (x - p.r) = x - p.r := IntWalk.i64_in _ (by omega)
      have u3 : IntKind.i64.wrap (y + p.r) = y + p.r := IntWalk.i64_in _ (by omega)
      have ep : ahd p (x, y) 0 = (x - p.r, y + p.r) := by unfold ahd; rw [if_neg h, if_pos rfl]
      rw [ep]
      clear ep KF KE KN
      go_enter Try.func103, Try.ntmps103
      go_wp2_with fail
      exact bodyPost_ret (v := Sp (x - p.r, y + p.r)) (by simp [results, Try.results103, go_sem]) rfl ⟨rfl, by first | exact box3 _ _ _ _ | exact set1 (set1 (box3 _ _ _ _) (by omega) _ _) (by omega) _ _⟩
    · have u2 : (d == 0) = false := by simpa using h0
      obtain ⟨F, hF⟩ : ∃ F, F = ndd p d := ⟨_, rfl⟩
      obtain ⟨L, hL⟩ : ∃ L, L = frm p d := ⟨_, rfl⟩
      have ep : ahd p (x, y) d = if (bo (x, y) F).2 < (bo (x, y) F).1 then (1, 0) else L := by unfold ahd; rw [if_neg h, if_neg h0, hF, hL]
      rw [ep]
      rw [← hF] at KE
      rw [← hL] at KF
      have KB := Lib.hid fun W => Rboth_any x y F.1 F.2 W
      obtain ⟨u, hu⟩ : ∃ u, u = max x F.1 := ⟨_, rfl⟩
      obtain ⟨v, hv⟩ : ∃ v, v = min y F.2 := ⟨_, rfl⟩
      have eb : bo (x, y) F = (u, v) := by unfold bo; rw [hu, hv]
      rw [eb]
      rw [← hu, ← hv] at KB
      simp only
      obtain ⟨R, hR⟩ : ∃ R : Int × Int, R = if v < u then (1, 0) else L := ⟨_, rfl⟩
      rw [← hR]
      have HR := Lib.hid hR
      clear ep eb hF hL hu hv hR
      obtain ⟨F0, F1⟩ := F
      obtain ⟨L0, L1⟩ := L
      obtain ⟨y0, y1, _, _⟩ := B2.out
      obtain ⟨x0, x1, x2, x3⟩ := B1.out
      have C0 := Lib.hid (box3 w (penO p) (.cells #[.int .i64 x, .int .i64 y] 23) (.cells #[.int .i64 0, .int .i64 0] 23))
      have sW := Lib.hid (show (((w.alloc (penO p)).alloc (.cells #[.int .i64 x, .int .i64 y] 23)).alloc (.cells #[.int .i64 0, .int .i64 0] 23)).heap.size = w.heap.size + 1 + 1 + 1 by simp only [World.size_alloc])
      go_enter Try.func103, Try.ntmps103
      go_wp2_with fail
      generalize ((w.alloc (penO p)).alloc (.cells #[.int .i64 x, .int .i64 y] 23)).alloc (.cells #[.int .i64 0, .int .i64 0] 23) = W0 at *
      go_cut [7] (fun q wx => ∃ g : Nat, q = .pointer (some ⟨g, 0, none⟩) ∧ W0.heap.size ≤ g ∧ Below W0.heap.size W0 wx ∧ Bt g u v wx)
      case first =>
        clear B1 B3 B2 KN sW C0
        have zW : w.heap.size + 1 < W0.heap.size := World.block_lt_of_cell? _ _ y0
        have zP : w.heap.size < W0.heap.size := World.block_lt_of_cell? _ _ x0
        go_region_held3 (fun w' => w'.cell? ⟨w.heap.size + 1, 0, none⟩ = some (.int .i64 x) ∧ w'.cell? ⟨w.heap.size + 1, 1, none⟩ = some (.int .i64 y) ∧ w'.cell? ⟨w.heap.size, 0, none⟩ = some (.int .i64 (p.b)) ∧ w'.cell? ⟨w.heap.size, 1, none⟩ = some (.int .i64 (p.lo)) ∧ w'.cell? ⟨w.heap.size, 2, none⟩ = some (.int .i64 (p.hi)) ∧ w'.cell? ⟨w.heap.size, 3, none⟩ = some (.int .i64 (p.r)) ∧ Below W0.heap.size W0 w' ∧ W0.heap.size ≤ w'.heap.size)
          (first | (go_split_ands; (repeat' apply And.intro); all_goals first | assumption | (go_simp; done) | exact (Below.refl _ _).drew | exact cell_up hbB (by ((try have yA := hbA.size); (try have yB := hbB.size); (try simp only [World.size_drew, World.size_alloc, World.size_setCell] at yA); (try simp only [World.size_drew, World.size_alloc, World.size_setCell] at yB); (try simp only [World.size_drew, World.size_alloc, World.size_setCell]); omega)) (by assumption) | exact cell_up hbA (by ((try have yA := hbA.size); (try have yB := hbB.size); (try simp only [World.size_drew, World.size_alloc, World.size_setCell] at yA); (try simp only [World.size_drew, World.size_alloc, World.size_setCell] at yB); (try simp only [World.size_drew, World.size_alloc, World.size_setCell]); omega)) (by assumption) | exact cell_up (box1 _ _) (by ((try have yA := hbA.size); (try have yB := hbB.size); (try simp only [World.size_drew, World.size_alloc, World.size_setCell] at yA); (try simp only [World.size_drew, World.size_alloc, World.size_setCell] at yB); (try simp only [World.size_drew, World.size_alloc, World.size_setCell]); omega)) (by assumption) | exact alloc_other (by assumption) (by ((try have yA := hbA.size); (try have yB := hbB.size); (try simp only [World.size_drew, World.size_alloc, World.size_setCell] at yA); (try simp only [World.size_drew, World.size_alloc, World.size_setCell] at yB); (try simp only [World.size_drew, World.size_alloc, World.size_setCell]); omega)) | exact keepA (keepA (by assumption) (by ((try have yA := hbA.size); (try have yB := hbB.size); (try simp only [World.size_drew, World.size_alloc, World.size_setCell] at yA); (try simp only [World.size_drew, World.size_alloc, World.size_setCell] at yB); (try simp only [World.size_drew, World.size_alloc, World.size_setCell]); omega))) (by ((try have yA := hbA.size); (try have yB := hbB.size); (try simp only [World.size_drew, World.size_alloc, World.size_setCell] at yA); (try simp only [World.size_drew, World.size_alloc, World.size_setCell] at yB); (try simp only [World.size_drew, World.size_alloc, World.size_setCell]); omega)) | exact Below.trans (by assumption) (hbB.mono (by ((try have yA := hbA.size); (try have yB := hbB.size); (try simp only [World.size_drew, World.size_alloc, World.size_setCell] at yA); (try simp only [World.size_drew, World.size_alloc, World.size_setCell] at yB); (try simp only [World.size_drew, World.size_alloc, World.size_setCell]); omega))) | exact Below.trans (by assumption) (hbA.mono (by ((try have yA := hbA.size); (try have yB := hbB.size); (try simp only [World.size_drew, World.size_alloc, World.size_setCell] at yA); (try simp only [World.size_drew, World.size_alloc, World.size_setCell] at yB); (try simp only [World.size_drew, World.size_alloc, World.size_setCell]); omega))) | exact Below.alloc (by assumption) (by ((try have yA := hbA.size); (try have yB := hbB.size); (try simp only [World.size_drew, World.size_alloc, World.size_setCell] at yA); (try simp only [World.size_drew, World.size_alloc, World.size_setCell] at yB); (try simp only [World.size_drew, World.size_alloc, World.size_setCell]); omega)) _ | exact (box1 _ _).drew | exact below_other (by assumption) (by ((try have yA := hbA.size); (try have yB := hbB.size); (try simp only [World.size_drew, World.size_alloc, World.size_setCell] at yA); (try simp only [World.size_drew, World.size_alloc, World.size_setCell] at yB); (try simp only [World.size_drew, World.size_alloc, World.size_setCell]); omega)) (by ((try have yA := hbA.size); (try have yB := hbB.size); (try simp only [World.size_drew, World.size_alloc, World.size_setCell] at yA); (try simp only [World.size_drew, World.size_alloc, World.size_setCell] at yB); (try simp only [World.size_drew, World.size_alloc, World.size_setCell]); omega)) | exact set1 (set1 (by assumption) (by ((try have yA := hbA.size); (try have yB := hbB.size); (try simp only [World.size_drew, World.size_alloc, World.size_setCell] at yA); (try simp only [World.size_drew, World.size_alloc, World.size_setCell] at yB); (try simp only [World.size_drew, World.size_alloc, World.size_setCell]); omega)) _ _) (by ((try have yA := hbA.size); (try have yB := hbB.size); (try simp only [World.size_drew, World.size_alloc, World.size_setCell] at yA); (try simp only [World.size_drew, World.size_alloc, World.size_setCell] at yB); (try simp only [World.size_drew, World.size_alloc, World.size_setCell]); omega)) _ _ | ((try have yA := hbA.size); (try have yB := hbB.size); (try simp only [World.size_drew, World.size_alloc, World.size_setCell] at yA); (try simp only [World.size_drew, World.size_alloc, World.size_setCell] at yB); (try simp only [World.size_drew, World.size_alloc, World.size_setCell]); omega)))
          (first
            | (go_at_call 113; ((with_reducible refine (KE.out _).mono ?_); rintro e wA ⟨rfl, hbA⟩; (try (have hN := bt_na hbA; obtain ⟨n0, n1, n2, n3⟩ := hN)); (try (have hN := bt_nd hbA; obtain ⟨n0, n1, n2, n3⟩ := hN))))
            | (go_at_call 86; ((with_reducible refine (KB.out _).mono ?_); rintro e wB ⟨rfl, hbB⟩; (try (have hM := (Bt.mk n0 n1 n2 n3).up hbB; clear n0 n1 n2 n3; obtain ⟨n0, n1, n2, n3⟩ := hM)); (try (have hM := bt_na hbB; obtain ⟨n0, n1, n2, n3⟩ := hM)); (try (have hM := bt_nd hbB; obtain ⟨n0, n1, n2, n3⟩ := hM)))))
        all_goals
          go_wp2_with fail
          go_meet
          rename_i hS
          obtain ⟨-, -, -, -, -, -, hBB, -⟩ := hS
          exact ⟨_, rfl, by ((try have yA := hbA.size); (try have yB := hbB.size); (try simp only [World.size_drew, World.size_alloc, World.size_setCell] at yA); (try simp only [World.size_drew, World.size_alloc, World.size_setCell] at yB); (try simp only [World.size_drew, World.size_alloc, World.size_setCell]); omega), hBB, by first | exact Bt.new _ _ _ _ | exact (Bt.mk n0 n1 n2 n3).store _ _⟩
      case rest =>
        obtain ⟨g, rfl, hg, hb, hB⟩ := hcut
        have C1 := Lib.hid (C0.out.trans (hb.mono (by have := sW.out; omega)))
        have q1 := B3.out.up hb
        have z1 := q1.lt
        have p1 := B1.out.up hb (by have := sW.out; omega)
        obtain ⟨a0, a1, f0, f1⟩ := q1
        obtain ⟨x0, x1, x2, x3⟩ := p1
        obtain ⟨n0, n1, _, _⟩ := hB
        have Q1 := Lib.hid (Bt.mk a0 a1 f0 f1)
        have zg := World.block_lt_of_cell? _ _ n0
        have zp := World.block_lt_of_cell? _ _ x0
        clear hb B1 B2 B3 KE KB
        by_cases hv : v < u
        · have u3 : decide (u > v) = true := decide_eq_true hv
          have ER := Lib.hid (show R = (1, 0) by rw [HR.out, if_pos hv])
          clear hv HR
          go_wp2_with fail
          refine (KN.out _).mono ?_
          rintro e w1 ⟨rfl, hb⟩
          have C2 := Lib.hid (nextB C1.out hb)
          have q2 := Q1.out.up hb
          have z2 := q2.lt
          obtain ⟨d0, d1, e0, e1⟩ := q2
          clear hb
          go_wp2_with fail
          exact bodyPost_ret (v := Sp (1, 0)) (by simp [results, Try.results103, go_sem, d0, d1]) rfl ⟨by rw [ER.out], set1 (set1 C2.out (by omega) _ _) (by omega) _ _⟩
        · have u3 : decide (u > v) = false := decide_eq_false hv
          have ER := Lib.hid (show R = (L0, L1) by rw [HR.out, if_neg hv])
          clear hv HR
          go_wp2_with fail
          refine (KF.out _).mono ?_
          rintro e w1 ⟨rfl, hb⟩
          have C2 := Lib.hid (nextB C1.out hb)
          have q2 := Q1.out.up hb
          have z2 := q2.lt
          obtain ⟨d0, d1, e0, e1⟩ := q2
          clear hb
          go_wp2_with fail
          exact bodyPost_ret (v := Sp (L0, L1)) (by simp [results, Try.results103, go_sem, d0, d1]) rfl ⟨by rw [ER.out], set1 (set1 C2.out (by omega) _ _) (by omega) _ _⟩
end Go.Proofs.Ytkidhmajlpceeaa
