/- The law PaperTraces returns true for every paper, every list of points, every list of blots and every number, and leaves its arguments as they were; no condition. -/
import Derived.Test.YtmeljcbefnojfaaTcm
namespace Go.Proofs.Ytmeljcbefnojfaa
open Go.ChangeShapes Go.WideShapes Go.ChangeAt Go.RowKit
attribute [local go_sem] Oper.semAt_some
def partsL (Mn : Nat → Nat → List (Int × Int)) (k t : Nat) : List (List (Int × Int)) := (List.range t).map fun i => Mn i k
theorem partsL_succ (Mn : Nat → Nat → List (Int × Int)) (k t : Nat) : partsL Mn k (t + 1) = partsL Mn k t ++ [Mn t k] := by simp [partsL, List.range_succ]
theorem partsL_len (Mn : Nat → Nat → List (Int × Int)) (k t : Nat) : (partsL Mn k t).length = t := by simp [partsL]
theorem blt_step (B : Nat → Int) (m c : Nat) : blt B (m + 1) c = (blt B m c || (B m == (c : Int))) := by simp [blt, List.range_succ]
set_option maxRecDepth 100000 in
set_option maxHeartbeats 8000000 in
theorem traces_core (p : Pap) (A B : Option Addr) (n c m d N : Nat) (again : Int) (Z : Nat → Pt) (ZB : Nat → Int) (E1 : Int) (L1 L2 : Nat → List (Int × Int)) (Mn : Nat → Nat → List (Int × Int)) (BL : List Pt) (w : World)
    (hA : PtsIn A n Z w.heap.size w) (hB : IntsIn B m ZB w.heap.size w) (hNN : Hid (E1 = 0 → (N : Int) = p.cols ∧ N ≤ 200))
    (K1 : Hid ((n : Int) ≤ 12 → ∀ W, Below w.heap.size w W → Calls Try.prog 53 #[p.v, .slice A n c, .slice B m d] W (ShM N L1 E1 W)))
    (KM : Hid (E1 = 0 → ∀ i k, i < n → k < N → ∀ W, Calls Try.prog 46 #[p.v, (Z i).v, .int .i64 (k : Nat)] W (MeansPost W (Mn i k))))
    (HL : Hid (E1 = 0 → ∀ i k, i < n → (Mn i k).length ≤ 2))
    (KJ : Hid (E1 = 0 → ∀ k t, k < N → t = (if blt ZB m k = true then 0 else n) → ∀ (W : World) (S : Nat → Int × Int) (nL : Nat) (A' : Option Addr) (c' : Nat), SpsIn A' nL S W.heap.size W → nL = (L1 k).length ∧ firstK S nL = L1 k → ∀ (B' : Option Addr) (d' : Nat) (x : Cls), ClsIn B' t x W.heap.size W → (∀ i, i < t → x.L i = (Mn i k).length ∧ ∀ j, x.S i j = (Mn i k).getD j (0, 0)) →
      Calls Try.prog 66 #[.slice A' nL c', .slice B' t d'] W fun e w' => e = .returned (.bool true) ∧ Below W.heap.size W w'))
    (HBL : BL = backL Z n n ++ (if 0 ≤ again ∧ again < n then [Z again.toNat] else []))
    (KB : Hid (E1 = 0 → (n : Int) ≤ 12 → ∀ W v, Below w.heap.size w W → W.ownsRow 0 44 3 v BL.length (ptsV BL) → Calls Try.prog 53 #[p.v, v, .slice B m d] W (ShM N L2 0 W)))
    (KS : Hid (E1 = 0 → ∀ W A1 c1 A2 c2, Sheet A1 N L1 W → Sheet A2 N L2 W → Calls Try.prog 55 #[.slice A1 N c1, .slice A2 N c2] W fun e w' => e = .returned (.bool true) ∧ Below W.heap.size W w')) :
    Calls Try.prog 14 #[p.v, .slice A n c, .slice B m d, .int .i64 again] w fun e w' => e = .returned (.bool true) ∧ Below w.heap.size w w' := by
  obtain ⟨r0, hr0, hrz0, hrz1, hrz2⟩ := info_parts Try.infoRow
  obtain ⟨iP, hiP, hiP0, hiP1, hiP2⟩ := info_parts Try.infoPt
  have hnn := hA.1
  have hmm := hB.1
  have HA := Lib.hid hA
  have HB := Lib.hid hB
  have HBL := Lib.hid HBL
  clear hA hB
  go_enter Try.func14, Try.ntmps14
  go_wp2_with fail
  refine (awake_any _).mono ?_
  rintro e w1 ⟨rfl, hb1⟩
  have C1 : Below w.heap.size w w1 := (box1 w _).trans (hb1.mono (by simp only [World.size_alloc]; omega))
  have P1 : HasPap p w.heap.size w1 := HasPap.up (by unfold HasPap; go_simp) hb1 (by simp only [World.size_alloc]; omega)
  clear hb1
  by_cases h1 : (12 : Int) < n
  · go_wp2_with fail
    go_ret
    exact ⟨rfl, C1⟩
  have h1' : ¬ (n : Int) > 12 := h1
  by_cases h2 : (300 : Int) < m
  · go_wp2_with fail
    go_ret
    exact ⟨rfl, C1⟩
  have hn12 : (n : Int) ≤ 12 := by omega
  have hm300 : (m : Int) ≤ 300 := by omega
  have z1 : w.heap.size < w1.heap.size := P1.block
  have HP1 := Lib.hid P1
  unfold HasPap at P1
  obtain ⟨p0, p1, p2, p3, p4, p5, p6, p7, p8, p9⟩ := P1
  go_wp2_with fail
  refine (K1.out hn12 _ C1).mono ?_
  rintro e w2 ⟨A1, k1, c1, rfl, hb2, H1⟩
  have C2 : Below w.heap.size w w2 := C1.trans (hb2.mono C1.size)
  have P2 := Lib.hid (HP1.out.up hb2 HP1.out.block)
  have zp2 : w.heap.size < w2.heap.size := P2.out.block
  clear hb2 C1 HP1 p0 p1 p2 p3 p4 p5 p6 p7 p8 p9 z1
  by_cases hE1 : E1 = 0
  case neg =>
    have d1 : (E1 == 0) = false := by simpa using hE1
    have d2 : (E1 != 0) = true := by simpa using hE1
    obtain rfl : k1 = 0 := by
      rcases H1.out with h | h
      · exact absurd h.1 hE1
      · exact h.2
    clear hE1
    go_wp2_with fail
    try go_quiet (fail)
    try go_wp2_with fail
    go_ret
    exact ⟨rfl, by first | exact C2.alloc C2.size _ | exact (C2.alloc C2.size _).drew | exact below_drewN (C2.alloc C2.size _) _⟩
  case pos =>
    have hN := (hNN.out hE1).1
    have hN2 := (hNN.out hE1).2
    have HN := Lib.hid hN
    clear hNN hN
    replace KM := Lib.hid (KM.out hE1)
    replace HL := Lib.hid (HL.out hE1)
    replace KJ := Lib.hid (KJ.out hE1)
    replace KB := Lib.hid (KB.out hE1 hn12)
    replace KS := Lib.hid (KS.out hE1)
    subst hE1
    obtain ⟨hk1, X1⟩ : k1 = N ∧ ClsL A1 N L1 w1.heap.size w2 := by
      rcases H1.out with h | h
      · exact ⟨h.2.1, h.2.2⟩
      · exact absurd rfl h.1
    subst hk1
    have hP2 := P2.out
    unfold HasPap at hP2
    obtain ⟨-, -, -, -, -, p5, -⟩ := hP2
    rw [← HN.out] at p5
    go_wp2_with fail
    obtain ⟨wX, hwX⟩ : ∃ wX, wX = w2.alloc (.cells #[.slice A1 k1 c1] 29) := ⟨_, rfl⟩
    have hbX : Below w2.heap.size w2 wX := by rw [hwX]; exact box1 _ _
    have CX := Lib.hid (C2.trans (hbX.mono C2.size))
    have PX := Lib.hid (P2.out.up hbX zp2)
    have xX : wX.cell? ⟨w2.heap.size, 0, none⟩ = some (.slice A1 k1 c1) := by rw [hwX]; go_simp
    have XX := Lib.hid xX
    have HX1 : Hid (Sheet A1 k1 L1 wX) := Lib.hid (ShL.shq (.inl ⟨rfl, rfl, X1.up hbX⟩)).1
    have hzX : wX.heap.size = w2.heap.size + 1 := by rw [hwX]; simp only [World.size_alloc]
    rw [← hwX]
    clear hwX hbX C2 P2 X1 H1 xX p5
    go_loopw [12, 13, 14, 15, 16, 17, 18] (fun c _ _ _ _ _ _ wr => ∃ k : Nat, k ≤ k1 ∧ c = .int .i64 k ∧ Below wX.heap.size wX wr) (fun c _ _ _ _ _ _ _ => k1 - (intOf c).toNat)
    case atStart => exact ⟨0, Nat.zero_le _, rfl, by first | exact Below.refl _ _ | exact (Below.refl _ _).drew | exact below_drewN (Below.refl _ _) _⟩
    case round =>
      obtain ⟨k, hk, rfl, hR⟩ := hrel
      obtain ⟨wo, rfl⟩ : ∃ wo : World, wo = wr := ⟨_, rfl⟩
      have hk0 : (0 : Int) ≤ (k : Int) := by omega
      have HR := Lib.hid hR
      have hwo := hR.size
      have hP := PX.out.up hR (by have := PX.out.block; omega)
      unfold HasPap at hP
      obtain ⟨p0, p1, p2, p3, p4, p5, p6, p7, p8, p9⟩ := hP
      rw [← HN.out] at p5
      have zp : w.heap.size < wo.heap.size := World.block_lt_of_cell? _ _ p0
      by_cases hlt : k < k1
      · have hki : (k : Int) < (k1 : Int) := by omega
        go_wp2_with fail
        go_loopw [13, 14] (fun g i wr => ∃ j : Nat, j ≤ m ∧ i = .int .i64 j ∧ g = .bool (blt ZB j k) ∧ Below wo.heap.size wo wr) (fun _ i _ => m - (intOf i).toNat)
        case atStart => exact ⟨0, Nat.zero_le _, rfl, rfl, Below.refl _ _⟩
        case round =>
          obtain ⟨j, hj, rfl, rfl, hW⟩ := hrel
          obtain ⟨wp, rfl⟩ : ∃ wp : World, wp = wr := ⟨_, rfl⟩
          have hj0 : (0 : Int) ≤ (j : Int) := by omega
          have HW := Lib.hid hW
          by_cases hjl : j < m
          · have hji : (j : Int) < (m : Int) := by omega
            obtain ⟨b, rfl, bb, b0⟩ := (HB.out.up (CX.out.trans ((HR.out.trans (hW.mono hwo)).mono CX.out.size)) (Nat.le_refl _)).2 j hjl
            clear hW
            have HG : Hid (blt ZB (j + 1) k = (blt ZB j k || (ZB j == (k : Int)))) := Lib.hid (blt_step ZB j k)
            generalize blt ZB j k = G at *
            cases G with
            | true =>
              go_wp2_with fail
              try go_quiet (fail)
              try go_wp2_with fail
              go_roundw
              case rel => exact ⟨j + 1, by omega, by go_num, by rw [HG.out]; rfl, by first | exact HW.out | exact HW.out.drew | exact below_drewN HW.out _⟩
              case measure => simp [intOf]; omega
            | false =>
              go_wp2_with fail
              try go_quiet (fail)
              try go_wp2_with fail
              go_roundw
              case rel => exact ⟨j + 1, by omega, by go_num, by rw [HG.out]; simp, by first | exact HW.out | exact HW.out.drew | exact below_drewN HW.out _⟩
              case measure => simp [intOf]; omega
          · have hji : (m : Int) ≤ (j : Int) := by omega
            obtain rfl : m = j := by omega
            clear hW p0 p1 p2 p3 p4 p5 p6 p7 p8 p9
            generalize hGb : blt ZB m k = G at *
            have HWX := Lib.hid (HR.out.trans (HW.out.mono hwo))
            go_wp2_with fail
            go_loopw [15, 16, 17, 18] (fun v i _ _ wr => ∃ t : Nat, t ≤ n ∧ i = .int .i64 t ∧ (G = true → t = 0) ∧ PartsI wp (partsL Mn k t) v wr) (fun _ i _ _ _ => n - (intOf i).toNat)
            case atStart => exact ⟨0, Nat.zero_le _, rfl, fun _ => rfl, PartsI.nil (by first | exact Below.refl _ _ | exact (Below.refl _ _).drew)⟩
            case round =>
              obtain ⟨t, ht, rfl, hGt, hPI⟩ := hrel
              obtain ⟨wq, rfl⟩ : ∃ wq : World, wq = wr := ⟨_, rfl⟩
              have ht0 : (0 : Int) ≤ (t : Int) := by omega
              have hwp := hPI.below.size
              have HBX := Lib.hid (HWX.out.trans (hPI.below.mono HWX.out.size))
              have HPI := Lib.hid hPI
              clear hPI
              cases G with
              | true =>
                obtain rfl := hGt rfl
                have hcond : Hid ((0 : Nat) = if blt ZB m k = true then 0 else n) := Lib.hid (by rw [hGb]; rfl)
                clear hGt hGb
                have hps := parts_cls HPI.out (by rw [partsL_len]; omega) (fun l hl => by
                  obtain ⟨i, hi, rfl⟩ := List.mem_map.1 hl
                  have := HL.out i k (by have := List.mem_range.1 hi; omega)
                  omega)
                rw [partsL_len] at hps
                obtain ⟨B', d', x', rfl, hcl, hxl⟩ := hps
                have HXL : Hid (∀ i, i < 0 → x'.L i = (Mn i k).length ∧ ∀ j, x'.S i j = (Mn i k).getD j (0, 0)) := Lib.hid fun i hi => hxl i _ (by simp only [partsL, List.getElem?_map, List.getElem?_range hi]; rfl)
                have HCL := Lib.hid hcl
                clear hcl hxl
                obtain ⟨Y1, y1, r1⟩ := HX1.out.up HBX.out
                obtain ⟨a1, ea1, al1, ca1, cs1⟩ := y1.2 k hlt
                have hx := cell_up HBX.out (by omega) XX.out
                rw [ea1] at hx
                clear ea1
                have zx : w2.heap.size < wq.heap.size := World.block_lt_of_cell? _ _ hx
                have zca : (a1.add k).block < wq.heap.size := by rw [add_block]; exact al1
                have KJ1 : Hid (∀ W, Below wq.heap.size wq W → Calls Try.prog 66 #[.slice (Y1.A k) (Y1.L k) (Y1.C k), .slice B' 0 d'] W fun e w' => e = .returned (.bool true) ∧ Below W.heap.size W w') := Lib.hid fun W hW =>
                  KJ.out k 0 hlt hcond.out W _ _ _ _ ((cs1.up hW (Nat.le_refl _)).more hW.size) (r1 k hlt) _ _ x' ((HCL.out.up hW (Nat.le_refl _)).more hW.size) HXL.out
                clear cs1 r1 y1
                go_wp2_with fail
                all_goals
                  refine (KJ1.out _ (Below.refl _ _)).mono ?_
                  rintro e w8 ⟨rfl, hb8⟩
                  have hB8 : Below wX.heap.size wX w8 := HBX.out.trans (hb8.mono HBX.out.size)
                  clear hb8
                  go_wp2_with fail
                  go_roundw
                  case rel => exact ⟨k + 1, by omega, by go_num, hB8⟩
                  case measure => simp [intOf]; omega
              | false =>
                by_cases htl : t < n
                · have hti : (t : Int) < (n : Int) := by omega
                  obtain ⟨a, rfl, al, c0, c1', c2⟩ := (HA.out.up (CX.out.trans (HBX.out.mono CX.out.size)) (Nat.le_refl _)).2 t htl
                  have hP := PX.out.up HBX.out (by have := PX.out.block; omega)
                  unfold HasPap at hP
                  obtain ⟨p0, p1, p2, p3, p4, p5, p6, p7, p8, p9⟩ := hP
                  have zp3 : w.heap.size < wq.heap.size := World.block_lt_of_cell? _ _ p0
                  have HPL : Hid ((partsL Mn k t).length ≤ 12) := Lib.hid (by rw [partsL_len]; omega)
                  clear hGt
                  go_wp2_with fail
                  have abt : (a.add (t * 3)).block < wq.heap.size := by rw [add_block]; omega
                  go_region_held3 (fun w' => w'.cell? ⟨w.heap.size, 0, none⟩ = some (.int .i64 p.pitch) ∧ w'.cell? ⟨w.heap.size, 1, none⟩ = some (.int .i64 p.height) ∧ w'.cell? ⟨w.heap.size, 2, none⟩ = some (.int .i64 p.radius) ∧ w'.cell? ⟨w.heap.size, 3, none⟩ = some (.int .i64 p.low) ∧ w'.cell? ⟨w.heap.size, 4, none⟩ = some (.int .i64 p.high) ∧ w'.cell? ⟨w.heap.size, 5, none⟩ = some (.int .i64 p.cols) ∧ w'.cell? ⟨w.heap.size, 6, none⟩ = some (.int .i64 p.al) ∧ w'.cell? ⟨w.heap.size, 7, none⟩ = some (.int .i64 p.ah) ∧ w'.cell? ⟨w.heap.size, 8, none⟩ = some (.int .i64 p.cl) ∧ w'.cell? ⟨w.heap.size, 9, none⟩ = some (.int .i64 p.ch) ∧ w'.cell? (a.add (t * 3)) = some (.int .i64 (Z t).x) ∧ w'.cell? ⟨(a.add (t * 3)).block, (a.add (t * 3)).off + 1, none⟩ = some (.int .i64 (Z t).y) ∧ w'.cell? ⟨(a.add (t * 3)).block, (a.add (t * 3)).off + 2, none⟩ = some (.int .i64 (Z t).half) ∧ Below wq.heap.size wq w' ∧ wq.heap.size ≤ w'.heap.size)
                    (first
                      | (go_split_ands; (repeat' apply And.intro); all_goals first | assumption | (go_simp; done) | exact (Below.refl _ _).drew | ((try simp only [World.size_drew, World.size_alloc]); omega))
                      | (go_split_ands; (repeat' apply And.intro); all_goals first | exact (hb7.cell (p := a.add (t * 3)) (by first | omega | ((try simp only [World.size_drew]); omega))).trans (by assumption) | exact cell_up hb7 (by first | omega | ((try simp only [World.size_drew]); omega)) (by assumption) | exact Below.trans (by assumption) (hb7.mono (by first | omega | ((try simp only [World.size_drew, World.size_alloc, World.size_setCell]); omega))) | (have := hb7.size; first | omega | ((try simp only [World.size_drew] at this); omega)))
                      | (go_split_ands; (repeat' apply And.intro); all_goals first | assumption | (go_simp; done)))
                    (first | (go_at_call 46; go_split_ands; ((refine (KM.out t k htl hlt _).mono ?_); rintro e w7 ⟨mv, rfl, hb7, hrow7⟩)) | fail)
                  have hPI7 := (HPI.out.up (Below.refl _ _).drew).up hb7
                  have hrow7' : RowOf wp.heap.size w7 mv (Mn t k) := hrow7.mono (by simp only [World.size_drew]; omega)
                  obtain ⟨Am, cm, hmv, _⟩ := rowOf_sps hrow7' (by have := HL.out t k htl; omega)
                  subst hmv
                  obtain ⟨hb7Y, xs7, hown7, hown7b⟩ := hPI7
                  have hs7 := hb7Y.size
                  have HW7 := Lib.hid (HWX.out.trans (hb7Y.mono HWX.out.size))
                  clear hb7 hrow7 p0 p1 p2 p3 p4 p5 p6 p7 p8 p9 c0 c1' c2
                  go_wp2_with (first | (at_builtin; refine wpList_append_own _ rfl _ _ 27 rfl wp.heap.size 52 r0 (.slice none 0 0) 1 24 Try.underlying27 hr0 hrz0 hrz1 hrz2 rfl (by decide) _ (partsL Mn k t).length _ rfl (hown7.alloc _) ⟨w7.heap.size, 0, none⟩ 1 1 [.slice Am (Mn t k).length cm] rfl rfl (newV w7 (.slice Am (Mn t k).length cm) 52) (by simp [Value.oneCell']) (by have h9 := HPL.out; unfold maxLen; omega) (by have h9 := HPL.out; omega) (by simp only [World.size_alloc]; omega) ?_; intro va wa howna hga _; have hPA := PartsI.app hb7Y hown7 hown7b hrow7' hga howna; clear howna hga) | fail)
                  clear hown7 hown7b hrow7' hb7Y
                  go_wp2_with fail
                  go_roundw
                  case rel => exact ⟨t + 1, by omega, by go_num, fun e => (by cases e), by rw [partsL_succ]; exact hPA⟩
                  case measure => simp [intOf]; omega
                · have hti : (n : Int) ≤ (t : Int) := by omega
                  obtain rfl : t = n := by omega
                  have hcond : Hid (t = if blt ZB m k = true then 0 else t) := Lib.hid (by rw [hGb]; rfl)
                  clear hGt hGb
                  have hps := parts_cls HPI.out (by rw [partsL_len]; omega) (fun l hl => by
                    obtain ⟨i, hi, rfl⟩ := List.mem_map.1 hl
                    have := HL.out i k (by have := List.mem_range.1 hi; omega)
                    omega)
                  rw [partsL_len] at hps
                  obtain ⟨B', d', x', rfl, hcl, hxl⟩ := hps
                  have HXL : Hid (∀ i, i < t → x'.L i = (Mn i k).length ∧ ∀ j, x'.S i j = (Mn i k).getD j (0, 0)) := Lib.hid fun i hi => hxl i _ (by simp only [partsL, List.getElem?_map, List.getElem?_range hi]; rfl)
                  have HCL := Lib.hid hcl
                  clear hcl hxl
                  obtain ⟨Y1, y1, r1⟩ := HX1.out.up HBX.out
                  obtain ⟨a1, ea1, al1, ca1, cs1⟩ := y1.2 k hlt
                  have hx := cell_up HBX.out (by omega) XX.out
                  rw [ea1] at hx
                  clear ea1
                  have zx : w2.heap.size < wq.heap.size := World.block_lt_of_cell? _ _ hx
                  have zca : (a1.add k).block < wq.heap.size := by rw [add_block]; exact al1
                  have KJ1 : Hid (∀ W, Below wq.heap.size wq W → Calls Try.prog 66 #[.slice (Y1.A k) (Y1.L k) (Y1.C k), .slice B' t d'] W fun e w' => e = .returned (.bool true) ∧ Below W.heap.size W w') := Lib.hid fun W hW =>
                    KJ.out k t hlt hcond.out W _ _ _ _ ((cs1.up hW (Nat.le_refl _)).more hW.size) (r1 k hlt) _ _ x' ((HCL.out.up hW (Nat.le_refl _)).more hW.size) HXL.out
                  clear cs1 r1 y1
                  go_wp2_with fail
                  all_goals
                    refine (KJ1.out _ (Below.refl _ _)).mono ?_
                    rintro e w8 ⟨rfl, hb8⟩
                    have hB8 : Below wX.heap.size wX w8 := HBX.out.trans (hb8.mono HBX.out.size)
                    clear hb8
                    go_wp2_with fail
                    go_roundw
                    case rel => exact ⟨k + 1, by omega, by go_num, hB8⟩
                    case measure => simp [intOf]; omega
      · have hki : (k1 : Int) ≤ (k : Int) := by omega
        clear hR
        go_wp2_with fail
        go_loopw [19, 20] (fun v i wr => ∃ (j : Nat) (z : Int), j ≤ n ∧ i = .int .i64 z ∧ z = (n : Int) - 1 - j ∧ RowP wo (backL Z n j) v wr) (fun _ i _ => (intOf i + 1).toNat)
        case atStart => exact ⟨0, _, Nat.zero_le _, rfl, by first | omega | simp, by first | exact Below.refl _ _ | exact (Below.refl _ _).drew, World.ownsRow_nil _ _ _ 3⟩
        case round =>
          obtain ⟨j, z, hj, rfl, hz, hRP⟩ := hrel
          obtain ⟨wq, rfl⟩ : ∃ wq : World, wq = wr := ⟨_, rfl⟩
          have HRP := Lib.hid hRP
          have hbB := hRP.below
          have hown := hRP.own
          have hwq := hbB.size
          have HBX := Lib.hid (HR.out.trans (hbB.mono hwo))
          have HBK : Hid ((backL Z n j).length ≤ 13) := Lib.hid (by rw [backL_len]; omega)
          clear hRP p0 p1 p2 p3 p4 p5 p6 p7 p8 p9
          by_cases hjl : j < n
          · obtain ⟨q, rfl⟩ : ∃ q : Nat, z = (q : Int) := ⟨z.toNat, by omega⟩
            have hqn : q < n := by omega
            have hqi : (q : Int) < (n : Int) := by omega
            have hq0 : (0 : Int) ≤ (q : Int) := by omega
            have HQ : Hid (q = n - 1 - j) := Lib.hid (by omega)
            obtain ⟨a, rfl, al, c0, c1', c2⟩ := (HA.out.up (CX.out.trans (HBX.out.mono CX.out.size)) (Nat.le_refl _)).2 q hqn
            have alq : a.block < wq.heap.size := by have := CX.out.size; omega
            have HZ := Lib.hid hz
            clear hz hbB
            go_wp2_with (first | (at_builtin; refine wpList_append_own _ rfl _ _ 26 rfl wo.heap.size 44 iP (.agg #[.int .i64 0, .int .i64 0, .int .i64 0]) 3 24 Try.underlying26 hiP hiP0 hiP1 hiP2 rfl (by decide) _ (backL Z n j).length _ rfl (hown.alloc _) ⟨wq.heap.size, 0, none⟩ 1 1 [.int .i64 (Z q).x, .int .i64 (Z q).y, .int .i64 (Z q).half] rfl rfl (newP wq (Z q)) (by simp [Value.oneCell']) (by have h9 := HBK.out; unfold maxLen; omega) (by have h9 := HBK.out; omega) (by simp only [World.size_alloc]; omega) ?_; intro va wa howna hga _; have hJ := HRP.out.app hga howna; clear howna hga) | fail)
            clear hown
            go_wp2_with fail
            go_roundw
            case rel => exact ⟨j + 1, (q : Int) - 1, by omega, by go_num, by have := HZ.out; omega, by rw [backL_succ, ← HQ.out]; exact hJ⟩
            case measure => simp [intOf] <;> omega
          · have hz1 : z = -1 := by omega
            subst hz1
            obtain rfl : j = n := by omega
            have hPw := PX.out.up HBX.out (by have := PX.out.block; omega)
            unfold HasPap at hPw
            obtain ⟨s0, s1, s2, s3, s4, s5, s6, s7, s8, s9⟩ := hPw
            have zpw : w.heap.size < wq.heap.size := World.block_lt_of_cell? _ _ s0
            by_cases g1 : 0 ≤ again
            · have d1 : decide (0 ≤ again) = true := by simpa using g1
              have d1' : decide (again ≥ 0) = true := by simpa using g1
              by_cases g2 : again < j
              · obtain ⟨q, rfl⟩ : ∃ q : Nat, again = (q : Int) := ⟨again.toNat, by omega⟩
                have hqn : q < j := by omega
                have hqi : (q : Int) < (j : Int) := by omega
                have hq0 : (0 : Int) ≤ (q : Int) := by omega
                obtain ⟨a, rfl, al, c0, c1', c2⟩ := (HA.out.up (CX.out.trans (HBX.out.mono CX.out.size)) (Nat.le_refl _)).2 q hqn
                have alq : a.block < wq.heap.size := by have := CX.out.size; omega
                have hbl2 : Hid (BL = backL Z j j ++ [Z q]) := Lib.hid (by rw [HBL.out, if_pos ⟨g1, g2⟩, Int.toNat_natCast])
                clear g1 g2 d1 d1' hbB hz
                go_wp2_with (first | (at_builtin; refine wpList_append_own _ rfl _ _ 26 rfl wo.heap.size 44 iP (.agg #[.int .i64 0, .int .i64 0, .int .i64 0]) 3 24 Try.underlying26 hiP hiP0 hiP1 hiP2 rfl (by decide) _ (backL Z j j).length _ rfl (hown.alloc _) ⟨wq.heap.size, 0, none⟩ 1 1 [.int .i64 (Z q).x, .int .i64 (Z q).y, .int .i64 (Z q).half] rfl rfl (newP wq (Z q)) (by simp [Value.oneCell']) (by have h9 := HBK.out; unfold maxLen; omega) (by have h9 := HBK.out; omega) (by simp only [World.size_alloc]; omega) ?_; intro va wa howna hga _; have hJ := HRP.out.app hga howna; have HBA := Lib.hid (HR.out.trans (hJ.below.mono hwo)); have HOWN : Hid (wa.ownsRow 0 44 3 va BL.length (ptsV BL)) := Lib.hid (by rw [hbl2.out]; exact own_mono hJ.own (Nat.zero_le _)); clear howna hga hJ; have hPa := PX.out.up HBA.out (by have := PX.out.block; omega); (unfold HasPap at hPa); (obtain ⟨t0, t1, t2, t3, t4, t5, t6, t7, t8, t9⟩ := hPa); clear s0 s1 s2 s3 s4 s5 s6 s7 s8 s9; have zpa : w.heap.size < wa.heap.size := World.block_lt_of_cell? _ _ t0) | fail)
                clear hown
                go_wp2_with fail
                refine (KB.out _ _ (CX.out.trans (HBA.out.mono CX.out.size)) HOWN.out).mono ?_
                rintro e w5 ⟨A2, k2, c2, rfl, hb5, H2⟩
                have C5 : Below wX.heap.size wX w5 := HBA.out.trans (hb5.mono HBA.out.size)
                have hx5 := cell_up C5 (by omega) XX.out
                have zx5 : w2.heap.size < w5.heap.size := World.block_lt_of_cell? _ _ hx5
                have HCW5 := Lib.hid (CX.out.trans (C5.mono CX.out.size))
                obtain ⟨hk2, X2⟩ : k2 = k1 ∧ SheetB w5.heap.size A2 k1 L2 w5 := by
                  rcases H2.out with h | h
                  · exact ⟨h.2.1, (ShL.shq (.inl ⟨rfl, rfl, h.2.2⟩)).1⟩
                  · exact absurd rfl h.1
                subst hk2
                have HX15 : Hid (SheetB w5.heap.size A1 k2 L1 w5) := Lib.hid (HX1.out.up C5)
                have HX25 := Lib.hid X2
                have KS1 : Hid (∀ W, Below w5.heap.size w5 W → Calls Try.prog 55 #[.slice A1 k2 c1, .slice A2 k2 c2] W fun e w' => e = .returned (.bool true) ∧ Below W.heap.size W w') := Lib.hid fun W hW => KS.out W A1 c1 A2 c2 (HX15.out.up hW hW.size) (HX25.out.up hW hW.size)
                clear X2 H2 hb5 C5 t0 t1 t2 t3 t4 t5 t6 t7 t8 t9 HOWN zpa
                go_wp2_with fail
                refine (KS1.out _ (box1 _ _)).mono ?_
                rintro e w6 ⟨rfl, hb6⟩
                have hB6 := HCW5.out.trans (((box1 w5 _).trans (hb6.mono (box1 w5 _).size)).mono HCW5.out.size)
                clear hb6
                go_wp2_with fail
                go_ret
                exact ⟨rfl, hB6⟩
              · have d2 : decide (again < (j : Int)) = false := by simpa using g2
                have hbl2 : Hid (BL = backL Z j j) := Lib.hid (by rw [HBL.out, if_neg (fun h => g2 h.2), List.append_nil])
                clear g1 g2 hbB hz
                have HOWN : Hid (wq.ownsRow 0 44 3 u19 BL.length (ptsV BL)) := Lib.hid (by rw [hbl2.out]; exact own_mono hown (Nat.zero_le _))
                clear hown
                go_wp2_with fail
                refine (KB.out _ _ (CX.out.trans (HBX.out.mono CX.out.size)) HOWN.out).mono ?_
                rintro e w5 ⟨A2, k2, c2, rfl, hb5, H2⟩
                have C5 : Below wX.heap.size wX w5 := HBX.out.trans (hb5.mono HBX.out.size)
                have hx5 := cell_up C5 (by omega) XX.out
                have zx5 : w2.heap.size < w5.heap.size := World.block_lt_of_cell? _ _ hx5
                have HCW5 := Lib.hid (CX.out.trans (C5.mono CX.out.size))
                obtain ⟨hk2, X2⟩ : k2 = k1 ∧ SheetB w5.heap.size A2 k1 L2 w5 := by
                  rcases H2.out with h | h
                  · exact ⟨h.2.1, (ShL.shq (.inl ⟨rfl, rfl, h.2.2⟩)).1⟩
                  · exact absurd rfl h.1
                subst hk2
                have HX15 : Hid (SheetB w5.heap.size A1 k2 L1 w5) := Lib.hid (HX1.out.up C5)
                have HX25 := Lib.hid X2
                have KS1 : Hid (∀ W, Below w5.heap.size w5 W → Calls Try.prog 55 #[.slice A1 k2 c1, .slice A2 k2 c2] W fun e w' => e = .returned (.bool true) ∧ Below W.heap.size W w') := Lib.hid fun W hW => KS.out W A1 c1 A2 c2 (HX15.out.up hW hW.size) (HX25.out.up hW hW.size)
                clear X2 H2 hb5 C5 s0 s1 s2 s3 s4 s5 s6 s7 s8 s9 HOWN zpw
                go_wp2_with fail
                refine (KS1.out _ (box1 _ _)).mono ?_
                rintro e w6 ⟨rfl, hb6⟩
                have hB6 := HCW5.out.trans (((box1 w5 _).trans (hb6.mono (box1 w5 _).size)).mono HCW5.out.size)
                clear hb6
                go_wp2_with fail
                go_ret
                exact ⟨rfl, hB6⟩
            · have d1 : decide (0 ≤ again) = false := by simpa using g1
              have d1' : decide (again ≥ 0) = false := by simpa using g1
              have hbl2 : Hid (BL = backL Z j j) := Lib.hid (by rw [HBL.out, if_neg (fun h => g1 h.1), List.append_nil])
              clear g1 hbB hz
              have HOWN : Hid (wq.ownsRow 0 44 3 u19 BL.length (ptsV BL)) := Lib.hid (by rw [hbl2.out]; exact own_mono hown (Nat.zero_le _))
              clear hown
              go_wp2_with fail
              refine (KB.out _ _ (CX.out.trans (HBX.out.mono CX.out.size)) HOWN.out).mono ?_
              rintro e w5 ⟨A2, k2, c2, rfl, hb5, H2⟩
              have C5 : Below wX.heap.size wX w5 := HBX.out.trans (hb5.mono HBX.out.size)
              have hx5 := cell_up C5 (by omega) XX.out
              have zx5 : w2.heap.size < w5.heap.size := World.block_lt_of_cell? _ _ hx5
              have HCW5 := Lib.hid (CX.out.trans (C5.mono CX.out.size))
              obtain ⟨hk2, X2⟩ : k2 = k1 ∧ SheetB w5.heap.size A2 k1 L2 w5 := by
                rcases H2.out with h | h
                · exact ⟨h.2.1, (ShL.shq (.inl ⟨rfl, rfl, h.2.2⟩)).1⟩
                · exact absurd rfl h.1
              subst hk2
              have HX15 : Hid (SheetB w5.heap.size A1 k2 L1 w5) := Lib.hid (HX1.out.up C5)
              have HX25 := Lib.hid X2
              have KS1 : Hid (∀ W, Below w5.heap.size w5 W → Calls Try.prog 55 #[.slice A1 k2 c1, .slice A2 k2 c2] W fun e w' => e = .returned (.bool true) ∧ Below W.heap.size W w') := Lib.hid fun W hW => KS.out W A1 c1 A2 c2 (HX15.out.up hW hW.size) (HX25.out.up hW hW.size)
              clear X2 H2 hb5 C5 s0 s1 s2 s3 s4 s5 s6 s7 s8 s9 HOWN zpw
              go_wp2_with fail
              refine (KS1.out _ (box1 _ _)).mono ?_
              rintro e w6 ⟨rfl, hb6⟩
              have hB6 := HCW5.out.trans (((box1 w5 _).trans (hb6.mono (box1 w5 _).size)).mono HCW5.out.size)
              clear hb6
              go_wp2_with fail
              go_ret
              exact ⟨rfl, hB6⟩
theorem traces_law (p : Pap) (A : Option Addr) (n c : Nat) (Z : Nat → Pt) (B : Option Addr) (m d : Nat) (ZB : Nat → Int) (again : Int) (w : World) (ha : PtsIn A n Z w.heap.size w) (hb : IntsIn B m ZB w.heap.size w) :
    Calls Try.prog 14 #[p.v, .slice A n c, .slice B m d, .int .i64 again] w fun e w' => e = .returned (.bool true) ∧ Below w.heap.size w w' := by
  obtain ⟨E1, h1⟩ := inkR_ex p n Z m ZB
  obtain ⟨BL, hBL⟩ : ∃ BL, BL = backL Z n n ++ (if 0 ≤ again ∧ again < n then [Z again.toNat] else []) := ⟨_, rfl⟩
  have z1 : E1 = 0 → p.Ok ∧ n ≤ 2000 ∧ (∀ i, i < n → (Z i).Ok) ∧ BlotsOk p.cols ZB m ∧ Eight p.cols.toNat (inkC p (blt ZB m) Z n) := fun e => inkR_zero (e ▸ h1)
  have hmem : ∀ t, t ∈ BL ↔ ∃ i, i < n ∧ Z i = t := fun t => by
    rw [hBL, List.mem_append, backL_mem]
    constructor
    · rintro (h | h)
      · exact h
      · split at h
        · rename_i g
          exact ⟨again.toNat, by omega, (List.mem_singleton.1 h).symm⟩
        · simp at h
    · exact .inl
  have hlen : BL.length ≤ n + 1 := by
    rw [hBL, List.length_append, backL_len]
    split <;> simp
  have hcols : ∀ {k : Nat}, p.Ok → k < p.cols.toNat → (k : Int) ≤ p.cols - 1 := fun h hk => by have := h.cols; omega
  refine traces_core p A B n c m d p.cols.toNat again Z ZB E1 (inkC p (blt ZB m) Z n) (inkC p (blt ZB m) (asP BL) BL.length) (fun i k => meansOf p (hts p (Z i) k)) BL w ha hb
    (Lib.hid fun e => by have := (z1 e).1.cols; omega)
    (Lib.hid fun hn W hW => Ink_any p A B n c m d Z ZB E1 W (.inl (by omega)) ((ha.up hW (Nat.le_refl _)).more hW.size) ((hb.up hW (Nat.le_refl _)).more hW.size) h1)
    (Lib.hid fun e i k hi hk W => Means_ok p (Z i) k (hts p (Z i) k) W (z1 e).1 ((z1 e).2.2.1 i hi) ⟨by omega, hcols (z1 e).1 hk⟩ (hts_is (z1 e).1 ((z1 e).2.2.1 i hi) k))
    (Lib.hid fun e i k hi => (means_okl (z1 e).1 ((z1 e).2.2.1 i hi) (hts_is (z1 e).1 ((z1 e).2.2.1 i hi) k)).2)
    (Lib.hid fun e k t hk ht W S nL A' c' hs hS B' d' x hc hx => ?_) hBL (Lib.hid fun e hn W v hW ho => ?_) (Lib.hid fun e W A1 c1 A2 c2 s1 s2 => ?_)
  · obtain ⟨j1, j2, j3, j4⟩ := joined_ok (z1 e).1 (z1 e).2.2.1 (hcols (z1 e).1 hk) ht hS hx
    exact joined_law A' B' nL c' t d' S x W hs hc j1 j2 j3 j4
  · obtain ⟨o1, o2, o3, o4, o5⟩ := z1 e
    obtain ⟨Av, cv, rfl, hP⟩ := row_pts ho (by omega)
    refine Ink_any p Av B _ cv m d (asP BL) ZB 0 W (.inl (by omega)) hP ((hb.up hW (Nat.le_refl _)).more hW.size) (.inr ⟨o1, .inr ⟨by omega, .inr ⟨fun i hi => ?_, .inr ⟨o4, .inl ⟨fun q hq => ?_, rfl⟩⟩⟩⟩⟩)
    · rw [asP_at hi]
      obtain ⟨j, hj, e⟩ := (hmem _).1 (List.getElem_mem hi)
      rw [← e]; exact o3 j hj
    · rw [ink_again o1 o3 hmem]
      exact o5 q hq
  · obtain ⟨o1, o2, o3, o4, o5⟩ := z1 e
    exact SameSets_sh A1 A2 _ _ c1 c2 _ _ true W s1 s2 ⟨fun _ => ⟨rfl, fun q _ => (ink_again o1 o3 hmem q).symm⟩, fun _ => rfl⟩
theorem traces.own : ownKnob Try.prog.godebug = none := by kernel_rfl
set_option maxRecDepth 100000 in
set_option maxHeartbeats 1000000 in
theorem traces_lifted (os : Os) (started : os.Started) (H : Type) (enc : TypeId × Value → H) :
    ReturnsInHanded {} Try.checked os 14 .any (Rows.paperTracesSpec.pre6 enc Try.prog Try.f14 Rows.paperTracesRow.domain false) (Rows.paperTracesSpec.post enc Try.prog Try.f14 false true false false) := by
  refine returnsInHanded_of_change (C := Try.checked) traces.own started (by kernel_rfl) Try.func14
    (ChangeSpec.witness6 (enc := enc) (C := Try.checked) false ⟨#[], #[.agg #[.int .i64 0, .int .i64 0, .int .i64 0, .int .i64 0, .int .i64 0, .int .i64 0, .int .i64 0, .int .i64 0, .int .i64 0, .int .i64 0], .slice none 0 0, .slice none 0 0, .int .i64 0], []⟩ 8 (by kernel_rfl) (by kernel_rfl) (by kernel_rfl) (by kernel_rfl)) ?_
  intro W base args ds gs before hval0 hW hcnd _
  have hval : ∀ (j : Nat) t v, Try.f14.params[j]? = some t → args[j]? = some v → Value.okWide Try.prog W .any base t v := hval0
  have hW' := hW
  obtain ⟨p, q, hA0, hV, rfl, hfz, hnd⟩ := hW
  have hA : DataW.TrodAll enc Try.prog W 0 (fun _ => true) true Try.f14.params.toList args.toList ds p := hA0
  rw [Try.params14] at hA hval
  obtain ⟨v0, v1, v2, v3, d0, d1, d2, d3, p0, p1, p2, p3, rfl, rfl, rfl, h0, h1, h2, h3⟩ := trodAll_four hA
  obtain ⟨rfl, rfl⟩ := trodVars_none hV
  have hlt := fun x hx => hW'.lt x hx
  simp only [List.append_nil, List.mem_append] at hlt
  have k0 := h0
  have k1 := h1
  have k2 := h2
  have k3 := h3
  obtain ⟨a, rfl, _, _, _⟩ := open_paper (hval 0 25 v0 rfl rfl) h0
  obtain ⟨bA, bn, bc, bP, rfl, bh⟩ := open_trace (hval 1 26 v1 rfl rfl) h1
  obtain ⟨cA, cn, cc, cP, rfl, ch⟩ := open_intl (hval 2 36 v2 rfl rfl) h2
  obtain ⟨d, rfl, _, _, _⟩ := open_int Try.underlying3 (hval 3 3 v3 rfl rfl) h3
  clear hA0 hval0
  simp only [List.append_nil] at hW'
  refine (traces_law a bA bn bc bP cA cn cc cP d W bh ch).mono fun e W' ⟨he, hw⟩ => ?_
  subst he
  exact ⟨_, rfl, [d0, d1, d2, d3], [], _, [], p0 ++ (p1 ++ (p2 ++ (p3))), [], hW', trodAll_mk1 (shut_bool Try.underlying4 true), trodAll_mk4 (Below.trod Try.laidOut (by kernel_rfl) (of_decide_eq_true (by kernel_rfl)) k0 hw (fun x hx => hlt x (by simp [hx]))) (Below.trod Try.laidOut (by kernel_rfl) (of_decide_eq_true (by kernel_rfl)) k1 hw (fun x hx => hlt x (by simp [hx]))) (Below.trod Try.laidOut (by kernel_rfl) (of_decide_eq_true (by kernel_rfl)) k2 hw (fun x hx => hlt x (by simp [hx]))) (Below.trod Try.laidOut (by kernel_rfl) (of_decide_eq_true (by kernel_rfl)) k3 hw (fun x hx => hlt x (by simp [hx]))), rfl, hw.frame _, fun h => by cases h⟩
theorem traces_holds : Rows.PaperTracesSaid :=
  OpenClaim.holds_of_wide 14 Try.f14 rfl rfl rfl rfl rfl rfl rfl ⟨rfl, rfl, rfl, rfl, rfl⟩ rfl rfl rfl rfl rfl (by kernel_rfl) Try.func14 (by kernel_rfl)
    (of_decide_eq_true (by kernel_rfl)) (by unfold Func.isWrapper; first | (rw [if_pos (by decide +kernel)]; kernel_rfl) | (rw [if_neg (by decide +kernel)]; exact ⟨rfl, rfl⟩))
    (fun os started H enc _ => traces_lifted os started H enc)
end Go.Proofs.Ytmeljcbefnojfaa
