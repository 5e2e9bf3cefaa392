/- ClocksDrops' law. -/
import Derived.Test.YtpikaohodieeaaaDrm
namespace Go.Proofs.Ytpikaohodieeaaa
open Go.RowKit
set_option linter.unusedSimpArgs false
set_option linter.unusedVariables false
theorem wtL_ok {d : Drm} {m : Nat} {F : Nat → Int × Int × Int} (hk : MksOk d m F) (n : Nat) (Z : Nat → Int) : MksOk d (wtL F n Z m).length (lsF (wtL F n Z m)) := ⟨by have := wtL_len F n Z m; have := hk.1; omega, fun i hi => by
  obtain ⟨j, hj, _, e⟩ := (wtL_mem m).1 (lsF_mem hi)
  have := hk.2 j hj
  unfold mkOk at *
  rw [← e]
  exact this⟩
/-- whether one of the first numbers of a list is among others -/
def hitB (k : Nat) (s x : List Int) (e : Nat) : Bool := (List.range e).any fun q => (List.range k).any (fun a => s.getD a 0 == x.getD q 0)
theorem hitB_succ (k : Nat) (s x : List Int) (e : Nat) : hitB k s x (e + 1) = (hitB k s x e || (List.range k).any (fun a => s.getD a 0 == x.getD e 0)) := by
  unfold hitB
  rw [List.range_succ, List.any_append]
  simp
theorem hitB_of {k : Nat} {s x : List Int} (h : ∃ y, y ∈ x ∧ ∃ a, a < k ∧ s.getD a 0 = y) : hitB k s x x.length = true := by
  obtain ⟨y, hy, a, ha, ea⟩ := h
  obtain ⟨q, hq, eq⟩ := List.getElem_of_mem hy
  unfold hitB
  rw [List.any_eq_true]
  refine ⟨q, List.mem_range.2 hq, (any_iff k (fun a => s.getD a 0) _).2 ⟨a, ha, ?_⟩⟩
  rw [ea, List.getD_eq_getElem?_getD, List.getElem?_eq_getElem hq]
  exact eq.symm
/-- a list of a list of lists -/
theorem LssIn.at {A : Option Addr} {P : List (List Int)} {w : World} (h : LssIn A P w) {i : Nat} (hi : i < P.length) : ∃ (x : List Int) (a : Addr) (A' : Option Addr) (c' : Nat), x ∈ P ∧ P[i]? = some x ∧ A = some a ∧ a.block < w.heap.size ∧ w.cell? (a.add i) = some (.slice A' x.length c') ∧ LiIn A' x w := by
  obtain ⟨a, A', c', h1, h2, h3, h4⟩ := h.2 i _ (List.getElem?_eq_getElem hi)
  exact ⟨_, a, A', c', List.getElem_mem hi, List.getElem?_eq_getElem hi, h1, h2, h3, h4⟩
set_option maxRecDepth 100000 in
set_option maxHeartbeats 40000000 in
theorem drops_law (c : Clo) (S : Option Addr) (n sc : Nat) (Z : Nat → Int) (w : World) (hc : ClIn c w.heap.size w) (hs : IntsIn S n Z w.heap.size w) :
    Calls Try.prog 14 #[c.v, .slice S n sc] w fun e w' => e = .returned (.bool true) ∧ Below w.heap.size w w' := by
  have CC : Hid (∀ W, Below w.heap.size w W → ClIn c W.heap.size W) := Lib.hid fun W h => (hc.up h (Nat.le_refl _)).more h.size
  obtain ⟨G, hG⟩ := few_ex c
  have HG := Lib.hid hG
  have SS : Hid (∀ W, Below w.heap.size w W → IntsIn S n Z W.heap.size W) := Lib.hid fun W h => (hs.up h (Nat.le_refl _)).more h.size
  have hsn := hs.1
  clear hc hG hs
  go_enter Try.func14, Try.ntmps14
  go_wp2_with fail
  refine (awake_any _).mono ?_
  rintro e w2 ⟨rfl, hb⟩
  have D := Lib.hid (nextB (box1 w (cloO c)) hb)
  have C : Hid (HasCl c w.heap.size w2) := Lib.hid ((cl_new w c).up hb)
  clear hb
  obtain ⟨c0, c1, c2⟩ := C.out
  have zC := C.out.lt
  go_wp2_with fail
  refine (few_any c G _ HG.out).mono ?_
  rintro e w3 ⟨rfl, hb⟩
  have J := Lib.hid (hb)
  have D := Lib.hid (nextB D.out J.out)
  clear c0 c1 c2 zC
  have C := Lib.hid (C.out.up J.out)
  clear hb
  obtain ⟨c0, c1, c2⟩ := C.out
  have zC := C.out.lt
  cases G with
  | false =>
    go_wp2_with fail
    go_ret
    exact ⟨rfl, D.out⟩
  | true =>
    clear HG
    by_cases h30 : ¬ n ≤ 30
    · have hgt : (30 : Int) < (n : Int) := by omega
      go_wp2_with fail
      go_ret
      exact ⟨rfl, D.out⟩
    have h30 : n ≤ 30 := by omega
    have hgt : ¬ (30 : Int) < (n : Int) := by omega
    obtain ⟨L, E, hE⟩ := dpR_ex c.d c.m c.F
    have KD := Lib.hid fun W h => Drops_any c.d c.MA c.m c.mc c.F L E W (CC.out W h).1 (CC.out W h).2 hE
    by_cases hz : ¬ E = 0
    · have hL0 : L = [] := by
        rcases hE with ⟨_, h, _⟩ | ⟨_, _, ⟨_, h, _⟩ | ⟨_, _, h, _⟩ | ⟨_, _, h, _⟩⟩
        · exact h
        · exact h
        · exact h
        · exact absurd h hz
      subst hL0
      have hn1 : (E != 0) = true := by simpa using hz
      clear hE hz
      go_wp2_with fail
      refine (KD.out _ D.out).mono ?_
      rintro e w4 ⟨v, rfl, hv⟩
      have hb := hv.1
      have J := Lib.hid (hb)
      have D := Lib.hid (nextB D.out J.out)
      clear c0 c1 c2 zC
      have C := Lib.hid (C.out.up J.out)
      obtain ⟨Av, kv, ev⟩ := hv.slice
      rw [show ([] : List (List Int)).length = 0 from rfl] at ev
      subst ev
      clear hv
      clear hb
      obtain ⟨c0, c1, c2⟩ := C.out
      have zC := C.out.lt
      go_wp2_with fail
      go_ret
      exact ⟨rfl, D.out⟩
    obtain rfl : E = 0 := by omega
    obtain ⟨hd, hk, hm12, hT0, P, k, hP, hkm, hLk, hLn, hmin⟩ : DrOk c.d ∧ MksOk c.d c.m c.F ∧ c.m ≤ 12 ∧ (∃ T, Rdg c.d.n (gapF c.d) 0 c.F T) ∧ ∃ P k, ConR c.d c.m c.F P ∧ k ≤ c.m ∧ L = dL P c.m k ∧ L ≠ [] ∧ ∀ j, j < k → dL P c.m j = [] := by
      rcases hE with ⟨h, _⟩ | ⟨h1, h2, ⟨_, _, h⟩ | ⟨_, _, _, h⟩ | ⟨h3, h4, _, P, k, h5, h6, h7, h8, h9⟩⟩
      · omega
      · omega
      · omega
      · exact ⟨h1, h2, h3, h4, P, k, h5, h6, h7, h8, h9⟩
    obtain ⟨HS, HM⟩ := drops_math hP hT0 hLk hmin
    have hPx : ∀ x, x ∈ P → x.length ≤ 1000 := fun x hx => by
      obtain ⟨r0, al, pr, e, _⟩ := hP
      have := con_two r0 al pr c.m x (by rw [← e]; exact hx)
      omega
    have hPl : P.length ≤ 100000 := by
      obtain ⟨r0, al, pr, e, _⟩ := hP
      have h1 := con_max r0 al pr c.m
      rw [← e] at h1
      have h2 : c.m * c.m ≤ 12 * 12 := Nat.mul_le_mul hm12 hm12
      omega
    have hLx : ∀ x, x ∈ L → x.length ≤ 1000 := fun x hx => by
      have := (HS x hx).1
      omega
    have hLl : L.length ≤ 100000 := by
      have h1 : L.length ≤ (ext c.m k 0).length := by rw [hLk]; unfold dL; exact List.length_filter_le _ _
      have h2 := ext_max c.m k 0
      have h3 : 2 ^ (c.m - 0) ≤ 2 ^ 12 := Nat.pow_le_pow_right (by omega) (by omega)
      omega
    have hL1 : 1 ≤ L.length := by
      cases L with
      | nil => exact absurd rfl hLn
      | cons a t => simp
    have HSH := Lib.hid HS
    have HMH := Lib.hid HM
    have HDK := Lib.hid (And.intro hd hk)
    have HXL := Lib.hid (And.intro hPx (And.intro hPl (And.intro hLx hLl)))
    have hLi : (L.length : Int) ≤ 100000 := by omega
    have hPi : (P.length : Int) ≤ 100000 := by omega
    have hL0n : 0 < L.length := hL1
    have hL0i : (0 : Int) < (L.length : Int) := by omega
    have hLz : ¬ (L.length : Int) = 0 := by omega
    have hLz2 : ¬ L.length = 0 := by omega
    have hLz3 : ¬ L = [] := hLn
    have KP : Hid (∀ W, Below w.heap.size w W → Calls Try.prog 59 #[c.d.v, .slice c.MA c.m c.mc] W fun e w' => ∃ v, e = .returned (.tuple #[v, .int .i64 (if P.length = 0 then 3 else 0)]) ∧ LsR W.heap.size W P v w') := Lib.hid fun W h => Pairs_any c.d c.MA c.m c.mc c.F P _ W (CC.out W h).1 (CC.out W h).2 (.inr ⟨hd, hk, hP, rfl⟩)
    have KW : Hid (∀ A' c' s, s ∈ L → ∀ W, Below w.heap.size w W → IntsIn A' k (fun j => s.getD j 0) W.heap.size W → Calls Try.prog 71 #[.slice c.MA c.m c.mc, .slice A' k c'] W fun e w' => ∃ B kc N H, e = .returned (.slice B N kc) ∧ (FeR c.d N H true 0 ∧ TrsIn B N H w'.heap.size w') ∧ Below W.heap.size W w') := Lib.hid fun A' c' s hs W h hi => (without_any c.MA A' c.m k c.mc c' c.F _ W (CC.out W h).2 hi (by omega) (by omega)).mono fun e w' ⟨B, kc, h1, h2, h3⟩ => ⟨B, kc, _, _, h1, ⟨.inr ⟨rfl, hd, wtL_ok hk _ _, fun _ => by have h4 := (HS s hs).2.1; rw [(HS s hs).1] at h4; exact h4, fun _ => rfl⟩, h2⟩, h3⟩
    obtain ⟨R, hR⟩ := bool_of (∃ T, Rdg c.d.n (gapF c.d) (wtL c.F n Z c.m).length (lsF (wtL c.F n Z c.m)) T)
    have KE : Hid (∀ W, Below w.heap.size w W → Calls Try.prog 71 #[.slice c.MA c.m c.mc, .slice S n sc] W fun e w' => ∃ B kc N H, e = .returned (.slice B N kc) ∧ (FeR c.d N H R 0 ∧ TrsIn B N H w'.heap.size w') ∧ Below W.heap.size W w') := Lib.hid fun W h => (without_any c.MA S c.m n c.mc sc c.F Z W (CC.out W h).2 (SS.out W h) (by omega) (by omega)).mono fun e w' ⟨B, kc, h1, h2, h3⟩ => ⟨B, kc, _, _, h1, ⟨.inr ⟨rfl, hd, wtL_ok hk _ _, hR⟩, h2⟩, h3⟩
    have HR : Hid (R = true → k ≤ (cntL n Z c.m).length) := Lib.hid fun e => HM n Z (hR.1 e)
    clear hE hz hd hk hP hLk hLn hmin HS HM hPx hPl hLx hLl hR hT0
    go_wp2_with fail
    refine (KD.out _ D.out).mono ?_
    rintro e w4 ⟨v, rfl, hv⟩
    have hb := hv.1
    have J := Lib.hid (hb)
    have D := Lib.hid (nextB D.out J.out)
    clear c0 c1 c2 zC
    have C := Lib.hid (C.out.up J.out)
    obtain ⟨A, ca, rfl⟩ := hv.slice
    have LA : Hid (∀ W, Below w4.heap.size w4 W → LssIn A L W) := Lib.hid fun W h => (hv.lss HXL.out.2.2.1 HXL.out.2.2.2).up h
    have Dw4 := Lib.hid D.out
    clear hv
    clear hb
    obtain ⟨c0, c1, c2⟩ := C.out
    have zC := C.out.lt
    obtain ⟨E2, hE2⟩ : ∃ E2 : Int, E2 = if P.length = 0 then 3 else 0 := ⟨_, rfl⟩
    rw [← hE2] at KP
    have hE3 : E2 = 3 ∨ E2 = 0 := by rw [hE2]; split <;> omega
    clear hE2
    rcases hE3 with rfl | rfl
    · go_wp2_with fail
      refine (KP.out _ D.out).mono ?_
      rintro e w5 ⟨v, rfl, hv⟩
      have hb := hv.1
      have J := Lib.hid (hb)
      have D := Lib.hid (nextB D.out J.out)
      clear c0 c1 c2 zC
      have C := Lib.hid (C.out.up J.out)
      obtain ⟨Ap, cp, rfl⟩ := hv.slice
      have PA : Hid (∀ W, Below w5.heap.size w5 W → LssIn Ap P W) := Lib.hid fun W h => (hv.lss HXL.out.1 HXL.out.2.1).up h
      have D45 := Lib.hid J.out
      have Dw5 := Lib.hid D.out
      clear hv
      clear hb
      obtain ⟨c0, c1, c2⟩ := C.out
      have zC := C.out.lt
      go_wp2_with fail
      clear c0 c1 c2 zC
      go_loopw [10, 11, 12, 13, 14, 15] (fun i ok gg kk hit nn wr => ∃ a : Nat, a ≤ L.length ∧ i = .int .i64 (a : Int) ∧ Below w5.heap.size w5 wr) (fun i _ _ _ _ _ _ => L.length - (intOf i).toNat)
      case atStart => exact ⟨0, Nat.zero_le _, rfl, Below.refl _ _⟩
      case round =>
        obtain ⟨a, ha, rfl, hb⟩ := hrel
        obtain ⟨w6, rfl⟩ : ∃ w6 : World, w6 = wr := ⟨_, rfl⟩
        have D6 := Lib.hid hb
        have D := Lib.hid (nextB Dw5.out hb)
        have D4 := Lib.hid (nextB D45.out hb)
        have C := Lib.hid (C.out.up hb)
        have ha0 : (0 : Int) ≤ (a : Int) := by omega
        clear hb
        obtain ⟨c0, c1, c2⟩ := C.out
        have zC := C.out.lt
        by_cases hlt : a < L.length
        · have hai : (a : Int) < (L.length : Int) := by omega
          obtain ⟨s, ad, A1, c1', hsL, hsa, eA, lA, p0, hsi⟩ := (LA.out w6 D4.out).at hlt
          obtain ⟨s0, ad0, A0, c0', hs0L, hs0a, eA0, lA0, p00, _⟩ := (LA.out w6 D4.out).at (show 0 < L.length by omega)
          rw [eA] at eA0
          cases eA0
          have es : s.length = k := (HSH.out s hsL).1
          have es0 : s0.length = k := (HSH.out s0 hs0L).1
          unfold LiIn at hsi
          rw [es] at p0 hsi
          rw [es0] at p00
          have SI : Hid (∀ W, Below w6.heap.size w6 W → IntsIn A1 k (fun j => s.getD j 0) W.heap.size W) := Lib.hid fun W h => (hsi.up h (Nat.le_refl _)).more h.size
          have KW1 := Lib.hid (KW.out A1 c1' s hsL)
          have HSX : Hid (∀ x, x ∈ P → hitB k s x x.length = true) := Lib.hid fun x hx => hitB_of (by have h4 := (HSH.out s hsL).2.2 x hx; rw [es] at h4; exact h4)
          have wa : IntKind.i64.wrap ((a : Int) + 1) = ((a + 1 : Nat) : Int) := by rw [show ((a : Int) + 1) = ((a + 1 : Nat) : Int) by omega]; exact IntWalk.i64_in _ (by omega)
          have WA := Lib.hid wa
          have CT : Hid (∀ W, Below w6.heap.size w6 W → W.cell? ⟨w.heap.size, 0, none⟩ = some (.slice c.d.RA c.d.n c.d.rc) ∧ W.cell? ⟨w.heap.size, 1, none⟩ = some (.slice c.d.SA c.d.m c.d.sc) ∧ W.cell? ⟨w.heap.size, 2, none⟩ = some (.slice c.MA c.m c.mc) ∧ W.cell? (ad.add a) = some (.slice A1 k c1') ∧ W.cell? ad = some (.slice A0 k c0')) := Lib.hid fun W h => ⟨cell_up h zC c0, cell_up h zC c1, cell_up h zC c2, cellA_of h p0, by first | exact cellA_of h p00 | (have h9 := cellA_of h p00; rwa [show ad.add 0 = ad from rfl] at h9) | (have h9 := cellA_of h p00; cases ad; exact h9)⟩
          subst eA
          clear hsi wa lA lA0 hsa hs0a hs0L es0 es
          have zC' : Hid (w.heap.size < w6.heap.size) := Lib.hid zC
          have p00' := (CT.out w6 (Below.refl _ _)).2.2.2.2
          clear p00
          go_wp2_with fail
          refine wp_region_M [] (fun w' => w'.cell? ⟨w.heap.size, 0, none⟩ = some (.slice c.d.RA c.d.n c.d.rc) ∧ w'.cell? ⟨w.heap.size, 1, none⟩ = some (.slice c.d.SA c.d.m c.d.sc) ∧ w'.cell? ⟨w.heap.size, 2, none⟩ = some (.slice c.MA c.m c.mc) ∧ w'.cell? (ad.add a) = some (.slice A1 k c1')) (by kernel_rfl) (by kernel_rfl) (by (try dsimp only); (repeat' apply And.intro); all_goals first | assumption | (go_simp; done)) (fun hT0 => ?_)
          refine M_take (v := ?_) 0 rfl (by kernel_rfl) (by assumption) (fun _ _ _ h => h) (Or.inl ⟨by rfl, ?_⟩) ?_
          rotate_left
          · (intro w hSw; (try dsimp only at hSw); go_simp; (try with_reducible rfl))
          (try simp only [Act.put, List.setIfInBounds_toArray, List.set_cons_zero, List.set_cons_succ])
          refine M_take (v := ?_) 1 rfl (by kernel_rfl) (by assumption) (fun _ _ _ h => h) (Or.inl ⟨by rfl, ?_⟩) ?_
          rotate_left
          · (intro w hSw; (try dsimp only at hSw); go_simp; (try with_reducible rfl))
          (try simp only [Act.put, List.setIfInBounds_toArray, List.set_cons_zero, List.set_cons_succ])
          refine M_take (v := ?_) 2 rfl (by kernel_rfl) (by assumption) (fun _ _ _ h => h) (Or.inl ⟨by rfl, ?_⟩) ?_
          rotate_left
          · (intro w hSw; (try dsimp only at hSw); go_simp; (try with_reducible rfl))
          (try simp only [Act.put, List.setIfInBounds_toArray, List.set_cons_zero, List.set_cons_succ])
          refine M_take (v := ?_) 3 rfl (by kernel_rfl) (by assumption) (fun _ _ _ h => h) (Or.inl ⟨by rfl, ?_⟩) ?_
          rotate_left
          · (intro w hSw; (try dsimp only at hSw); go_simp; (try with_reducible rfl))
          (try simp only [Act.put, List.setIfInBounds_toArray, List.set_cons_zero, List.set_cons_succ])
          refine M_take (v := ?_) 4 rfl (by kernel_rfl) (by assumption) (fun _ _ _ h => h) (Or.inl ⟨by rfl, ?_⟩) ?_
          rotate_left
          · (intro w hSw; (try dsimp only at hSw); go_simp; (try with_reducible rfl))
          (try simp only [Act.put, List.setIfInBounds_toArray, List.set_cons_zero, List.set_cons_succ])
          refine M_take (v := ?_) 5 rfl (by kernel_rfl) (by assumption) (fun _ _ _ h => h) (Or.inl ⟨by rfl, ?_⟩) ?_
          rotate_left
          · (intro w hSw; (try dsimp only at hSw); go_simp; (try with_reducible rfl))
          (try simp only [Act.put, List.setIfInBounds_toArray, List.set_cons_zero, List.set_cons_succ])
          refine M_take (v := ?_) 6 rfl (by kernel_rfl) (by assumption) (fun _ _ _ h => h) (Or.inl ⟨by rfl, ?_⟩) ?_
          rotate_left
          · (intro w hSw; (try dsimp only at hSw); go_simp; (try with_reducible rfl))
          (try simp only [Act.put, List.setIfInBounds_toArray, List.set_cons_zero, List.set_cons_succ])
          refine M_take (v := ?_) 7 rfl (by kernel_rfl) (by assumption) (fun _ _ _ h => h) (Or.inl ⟨by rfl, ?_⟩) ?_
          rotate_left
          · (intro w hSw; (try dsimp only at hSw); go_simp; (try with_reducible rfl))
          (try simp only [Act.put, List.setIfInBounds_toArray, List.set_cons_zero, List.set_cons_succ])
          refine M_step 8 rfl (by kernel_rfl) (fun K hK => ?_)
          go_simp
          go_at_call 71
          refine (KW1.out _ (nextB D.out (Below.refl _ _).drew) (SI.out _ (Below.refl _ _).drew)).mono ?_
          rintro e w7 ⟨B7, k7, N7, H7, rfl, hF7, hb7⟩
          have B7' := Lib.hid (show Below w6.heap.size w6 w7 from nextB (Below.refl _ _).drew hb7)
          have F7 := Lib.hid hF7
          have hT7 : (fun w' => w'.cell? ⟨w.heap.size, 0, none⟩ = some (.slice c.d.RA c.d.n c.d.rc) ∧ w'.cell? ⟨w.heap.size, 1, none⟩ = some (.slice c.d.SA c.d.m c.d.sc) ∧ w'.cell? ⟨w.heap.size, 2, none⟩ = some (.slice c.MA c.m c.mc) ∧ w'.cell? (ad.add a) = some (.slice A1 k c1')) w7 := ⟨(CT.out w7 B7'.out).1, (CT.out w7 B7'.out).2.1, (CT.out w7 B7'.out).2.2.1, (CT.out w7 B7'.out).2.2.2.1⟩
          clear hb7 hF7
          refine hK.out _ _ (fun _ => hT7) ?_
          clear hK K
          (try simp only [Act.put, List.setIfInBounds_toArray, List.set_cons_zero, List.set_cons_succ])
          refine M_step 9 rfl (by kernel_rfl) (fun K hK => ?_)
          go_simp
          go_at_call 33
          refine (Feasible_any c.d B7 N7 k7 H7 true 0 w7 (CC.out w7 (nextB D.out B7'.out)).1 F7.out.2 F7.out.1).mono ?_
          rintro e w8 ⟨rfl, hb8⟩
          have B8 := Lib.hid (nextB B7'.out hb8)
          have hT8 : (fun w' => w'.cell? ⟨w.heap.size, 0, none⟩ = some (.slice c.d.RA c.d.n c.d.rc) ∧ w'.cell? ⟨w.heap.size, 1, none⟩ = some (.slice c.d.SA c.d.m c.d.sc) ∧ w'.cell? ⟨w.heap.size, 2, none⟩ = some (.slice c.MA c.m c.mc) ∧ w'.cell? (ad.add a) = some (.slice A1 k c1')) w8 := ⟨(CT.out w8 B8.out).1, (CT.out w8 B8.out).2.1, (CT.out w8 B8.out).2.2.1, (CT.out w8 B8.out).2.2.2.1⟩
          clear hb8
          refine hK.out _ _ (fun _ => hT8) ?_
          clear hK K
          (try simp only [Act.put, List.setIfInBounds_toArray, List.set_cons_zero, List.set_cons_succ])
          refine M_take (v := ?_) 10 rfl (by kernel_rfl) (by assumption) (fun _ _ _ h => h) (Or.inl ⟨by rfl, ?_⟩) ?_
          rotate_left
          · (intro w hSw; (try dsimp only at hSw); go_simp; (try with_reducible rfl))
          (try simp only [Act.put, List.setIfInBounds_toArray, List.set_cons_zero, List.set_cons_succ])
          refine M_take (v := ?_) 11 rfl (by kernel_rfl) (by assumption) (fun _ _ _ h => h) (Or.inl ⟨by rfl, ?_⟩) ?_
          rotate_left
          · (intro w hSw; (try dsimp only at hSw); go_simp; (try with_reducible rfl))
          (try simp only [Act.put, List.setIfInBounds_toArray, List.set_cons_zero, List.set_cons_succ])
          refine M_take (v := ?_) 12 rfl (by kernel_rfl) (by assumption) (fun _ _ _ h => h) (Or.inl ⟨by rfl, ?_⟩) ?_
          rotate_left
          · (intro w hSw; (try dsimp only at hSw); go_simp; (try with_reducible rfl))
          (try simp only [Act.put, List.setIfInBounds_toArray, List.set_cons_zero, List.set_cons_succ])
          refine M_step 13 rfl (by kernel_rfl) (fun K hK => ?_)
          go_simp
          refine hK.out _ _ (fun _ => by assumption) ?_
          clear hK K
          (try simp only [Act.put, List.setIfInBounds_toArray, List.set_cons_zero, List.set_cons_succ])
          refine M_step 14 rfl (by kernel_rfl) (fun K hK => ?_)
          go_simp
          refine hK.out _ _ (fun _ => by assumption) ?_
          clear hK K
          (try simp only [Act.put, List.setIfInBounds_toArray, List.set_cons_zero, List.set_cons_succ])
          refine M_done (by kernel_rfl) ?_ _
          clear hT0 hT7 hT8 c0 c1 c2 zC p0 p00'
          obtain ⟨c0, c1, c2, p0, p00⟩ := CT.out w8 B8.out
          have D := Lib.hid (nextB D.out B8.out)
          have D8 := Lib.hid (nextB D6.out B8.out)
          go_wp2_with fail
          refine wp_region_M [] (fun w' => w'.cell? (ad.add a) = some (.slice A1 k c1') ∧ w'.cell? ad = some (.slice A0 k c0')) (by kernel_rfl) (by kernel_rfl) (by (try dsimp only); (repeat' apply And.intro); all_goals first | assumption | (go_simp; done)) (fun hT0 => ?_)
          refine M_take (v := ?_) 0 rfl (by kernel_rfl) (by assumption) (fun _ _ _ h => h) (Or.inl ⟨by rfl, ?_⟩) ?_
          rotate_left
          · (intro w hSw; (try dsimp only at hSw); go_simp; (try with_reducible rfl))
          (try simp only [Act.put, List.setIfInBounds_toArray, List.set_cons_zero, List.set_cons_succ])
          refine M_take (v := ?_) 1 rfl (by kernel_rfl) (by assumption) (fun _ _ _ h => h) (Or.inl ⟨by rfl, ?_⟩) ?_
          rotate_left
          · (intro w hSw; (try dsimp only at hSw); go_simp; (try with_reducible rfl))
          (try simp only [Act.put, List.setIfInBounds_toArray, List.set_cons_zero, List.set_cons_succ])
          refine M_take (v := ?_) 2 rfl (by kernel_rfl) (by assumption) (fun _ _ _ h => h) (Or.inl ⟨by rfl, ?_⟩) ?_
          rotate_left
          · (intro w hSw; (try dsimp only at hSw); go_simp; (try with_reducible rfl))
          (try simp only [Act.put, List.setIfInBounds_toArray, List.set_cons_zero, List.set_cons_succ])
          refine M_take (v := ?_) 3 rfl (by kernel_rfl) (by assumption) (fun _ _ _ h => h) (Or.inl ⟨by rfl, ?_⟩) ?_
          rotate_left
          · (intro w hSw; (try dsimp only at hSw); go_simp; (try with_reducible rfl))
          (try simp only [Act.put, List.setIfInBounds_toArray, List.set_cons_zero, List.set_cons_succ])
          refine M_take (v := ?_) 4 rfl (by kernel_rfl) (by assumption) (fun _ _ _ h => h) (Or.inl ⟨by rfl, ?_⟩) ?_
          rotate_left
          · (intro w hSw; (try dsimp only at hSw); go_simp; (try with_reducible rfl))
          (try simp only [Act.put, List.setIfInBounds_toArray, List.set_cons_zero, List.set_cons_succ])
          refine M_take (v := ?_) 5 rfl (by kernel_rfl) (by assumption) (fun _ _ _ h => h) (Or.inl ⟨by rfl, ?_⟩) ?_
          rotate_left
          · (intro w hSw; (try dsimp only at hSw); go_simp; (try with_reducible rfl))
          (try simp only [Act.put, List.setIfInBounds_toArray, List.set_cons_zero, List.set_cons_succ])
          refine M_take (v := ?_) 6 rfl (by kernel_rfl) (by assumption) (fun _ _ _ h => h) (Or.inl ⟨by rfl, ?_⟩) ?_
          rotate_left
          · (intro w hSw; (try dsimp only at hSw); go_simp; (try with_reducible rfl))
          (try simp only [Act.put, List.setIfInBounds_toArray, List.set_cons_zero, List.set_cons_succ])
          refine M_take (v := ?_) 7 rfl (by kernel_rfl) (by assumption) (fun _ _ _ h => h) (Or.inl ⟨by rfl, ?_⟩) ?_
          rotate_left
          · (intro w hSw; (try dsimp only at hSw); go_simp; (try with_reducible rfl))
          (try simp only [Act.put, List.setIfInBounds_toArray, List.set_cons_zero, List.set_cons_succ])
          refine M_take (v := ?_) 8 rfl (by kernel_rfl) (by assumption) (fun _ _ _ h => h) (Or.inl ⟨by rfl, ?_⟩) ?_
          rotate_left
          · (intro w hSw; (try dsimp only at hSw); go_simp; (try with_reducible rfl))
          (try simp only [Act.put, List.setIfInBounds_toArray, List.set_cons_zero, List.set_cons_succ])
          refine M_take (v := ?_) 9 rfl (by kernel_rfl) (by assumption) (fun _ _ _ h => h) (Or.inl ⟨by rfl, ?_⟩) ?_
          rotate_left
          · (intro w hSw; (try dsimp only at hSw); go_simp; (try with_reducible rfl))
          (try simp only [Act.put, List.setIfInBounds_toArray, List.set_cons_zero, List.set_cons_succ])
          refine M_take (v := ?_) 10 rfl (by kernel_rfl) (by assumption) (fun _ _ _ h => h) (Or.inl ⟨by rfl, ?_⟩) ?_
          rotate_left
          · (intro w hSw; (try dsimp only at hSw); go_simp; (try with_reducible rfl))
          (try simp only [Act.put, List.setIfInBounds_toArray, List.set_cons_zero, List.set_cons_succ])
          refine M_take (v := ?_) 11 rfl (by kernel_rfl) (by assumption) (fun _ _ _ h => h) (Or.inl ⟨by rfl, ?_⟩) ?_
          rotate_left
          · (intro w hSw; (try dsimp only at hSw); go_simp; (try with_reducible rfl))
          (try simp only [Act.put, List.setIfInBounds_toArray, List.set_cons_zero, List.set_cons_succ])
          refine M_take (v := ?_) 12 rfl (by kernel_rfl) (by assumption) (fun _ _ _ h => h) (Or.inl ⟨by rfl, ?_⟩) ?_
          rotate_left
          · (intro w hSw; (try dsimp only at hSw); go_simp; (try with_reducible rfl))
          (try simp only [Act.put, List.setIfInBounds_toArray, List.set_cons_zero, List.set_cons_succ])
          refine M_take (v := ?_) 13 rfl (by kernel_rfl) (by assumption) (fun _ _ _ h => h) (Or.inl ⟨by rfl, ?_⟩) ?_
          rotate_left
          · (intro w hSw; (try dsimp only at hSw); go_simp; (try with_reducible rfl))
          (try simp only [Act.put, List.setIfInBounds_toArray, List.set_cons_zero, List.set_cons_succ])
          refine M_take (v := ?_) 14 rfl (by kernel_rfl) (by assumption) (fun _ _ _ h => h) (Or.inl ⟨by rfl, ?_⟩) ?_
          rotate_left
          · (intro w hSw; (try dsimp only at hSw); go_simp; (try with_reducible rfl))
          (try simp only [Act.put, List.setIfInBounds_toArray, List.set_cons_zero, List.set_cons_succ])
          refine M_take (v := ?_) 15 rfl (by kernel_rfl) (by assumption) (fun _ _ _ h => h) (Or.inl ⟨by rfl, ?_⟩) ?_
          rotate_left
          · (intro w hSw; (try dsimp only at hSw); go_simp; (try with_reducible rfl))
          (try simp only [Act.put, List.setIfInBounds_toArray, List.set_cons_zero, List.set_cons_succ])
          refine M_take (v := ?_) 16 rfl (by kernel_rfl) (by assumption) (fun _ _ _ h => h) (Or.inl ⟨by rfl, ?_⟩) ?_
          rotate_left
          · (intro w hSw; (try dsimp only at hSw); go_simp; (try with_reducible rfl))
          (try simp only [Act.put, List.setIfInBounds_toArray, List.set_cons_zero, List.set_cons_succ])
          refine M_take (v := ?_) 17 rfl (by kernel_rfl) (by assumption) (fun _ _ _ h => h) (Or.inl ⟨by rfl, ?_⟩) ?_
          rotate_left
          · (intro w hSw; (try dsimp only at hSw); go_simp; (try with_reducible rfl))
          (try simp only [Act.put, List.setIfInBounds_toArray, List.set_cons_zero, List.set_cons_succ])
          refine M_done (by kernel_rfl) ?_ _
          go_wp2_with fail
          clear hT0 c0 c1 c2 p0 p00
          go_loopw [13, 14, 15] (fun kk hit nn wr => ∃ b : Nat, b ≤ P.length ∧ kk = .int .i64 (b : Int) ∧ Below w8.heap.size w8 wr) (fun kk _ _ _ => P.length - (intOf kk).toNat)
          case atStart => exact ⟨0, Nat.zero_le _, rfl, by first | exact Below.refl _ _ | exact (Below.refl _ _).drew⟩
          case round =>
            obtain ⟨b, hbl, rfl, hb⟩ := hrel
            obtain ⟨w9, rfl⟩ : ∃ w9 : World, w9 = wr := ⟨_, rfl⟩
            have D9 := Lib.hid (nextB D8.out hb)
            have B9 := Lib.hid (nextB B8.out hb)
            have E9 := Lib.hid hb
            clear hb
            have hb0 : (0 : Int) ≤ (b : Int) := by omega
            by_cases hlb : b < P.length
            · have hbi : (b : Int) < (P.length : Int) := by omega
              obtain ⟨x, pd, A2, c2', hxP, hxb, eP, lP, q0, hxi⟩ := (PA.out w9 D9.out).at hlb
              obtain ⟨_, _, _, p0, _⟩ := CT.out w9 B9.out
              subst eP
              have hx9 := HXL.out.1 x hxP
              have hhit := HSX.out x hxP
              have XI : Hid (∀ W, Below w9.heap.size w9 W → LiIn A2 x W) := Lib.hid fun W h => hxi.up h
              have PT : Hid (∀ W, Below w9.heap.size w9 W → W.cell? (ad.add a) = some (.slice A1 k c1') ∧ W.cell? (pd.add b) = some (.slice A2 x.length c2')) := Lib.hid fun W h => ⟨(CT.out W (nextB B9.out h)).2.2.2.1, cellA_of h q0⟩
              have wb : IntKind.i64.wrap ((b : Int) + 1) = ((b + 1 : Nat) : Int) := by rw [show ((b : Int) + 1) = ((b + 1 : Nat) : Int) by omega]; exact IntWalk.i64_in _ (by omega)
              have WB := Lib.hid wb
              have HH := Lib.hid hhit
              clear hxi lP hxb hhit wb
              go_wp2_with fail
              clear p0 q0
              go_loopw [14, 15] (fun hit nn wr => ∃ e : Nat, e ≤ x.length ∧ nn = .int .i64 (e : Int) ∧ hit = .bool (hitB k s x e) ∧ Below w9.heap.size w9 wr) (fun _ nn _ => x.length - (intOf nn).toNat)
              case atStart => exact ⟨0, Nat.zero_le _, rfl, rfl, Below.refl _ _⟩
              case round =>
                obtain ⟨e, hel, rfl, rfl, hb⟩ := hrel
                obtain ⟨w10, rfl⟩ : ∃ w10 : World, w10 = wr := ⟨_, rfl⟩
                have B10 := Lib.hid hb
                clear hb
                have he0 : (0 : Int) ≤ (e : Int) := by omega
                obtain ⟨p0, q0⟩ := PT.out w10 B10.out
                by_cases hle : e < x.length
                · have hei : (e : Int) < (x.length : Int) := by omega
                  obtain ⟨ay, ey, ly, y0⟩ := (XI.out w10 B10.out).2 e hle
                  subst ey
                  have we : IntKind.i64.wrap ((e : Int) + 1) = ((e + 1 : Nat) : Int) := by rw [show ((e : Int) + 1) = ((e + 1 : Nat) : Int) by omega]; exact IntWalk.i64_in _ (by omega)
                  have WE := Lib.hid we
                  have HC : Hid (Calls Try.prog 69 #[.slice A1 k c1', .int .i64 (x.getD e 0)] w10.drew fun e5 w' => e5 = .returned (.bool ((List.range k).any (fun a => s.getD a 0 == x.getD e 0))) ∧ w' = w10.drew) := Lib.hid (has_any A1 k c1' (fun a => s.getD a 0) _ _ w10.drew (SI.out _ (nextB B9.out B10.out.drew)) (any_iff k _ _))
                  have HN := Lib.hid (hitB_succ k s x e)
                  generalize (List.range k).any (fun a => s.getD a 0 == x.getD e 0) = gq at HC HN
                  simp only at y0
                  generalize x.getD e 0 = y at y0 HC
                  clear we ly
                  cases hh : hitB k s x e with
                  | true =>
                    rw [hh] at HN
                    go_wp2_with fail
                    refine wp_region_M [] (fun w' => w'.cell? (ad.add a) = some (.slice A1 k c1') ∧ w'.cell? (pd.add b) = some (.slice (some ay) x.length c2') ∧ w'.cell? (ay.add e) = some (.int .i64 y)) (by kernel_rfl) (by kernel_rfl) (by (try dsimp only); (repeat' apply And.intro); all_goals first | assumption | (go_simp; done)) (fun hT0 => ?_)
                    refine M_take (v := ?_) 0 rfl (by kernel_rfl) (by assumption) (fun _ _ _ h => h) (Or.inl ⟨by rfl, ?_⟩) ?_
                    rotate_left
                    · (intro w hSw; (try dsimp only at hSw); go_simp; (try with_reducible rfl))
                    (try simp only [Act.put, List.setIfInBounds_toArray, List.set_cons_zero, List.set_cons_succ])
                    refine M_take (v := ?_) 1 rfl (by kernel_rfl) (by assumption) (fun _ _ _ h => h) (Or.inl ⟨by rfl, ?_⟩) ?_
                    rotate_left
                    · (intro w hSw; (try dsimp only at hSw); go_simp; (try with_reducible rfl))
                    (try simp only [Act.put, List.setIfInBounds_toArray, List.set_cons_zero, List.set_cons_succ])
                    refine M_take 2 rfl (by kernel_rfl) (by assumption) (fun _ _ _ h => h) (Or.inr ⟨by rfl, rfl⟩) ?_
                    (try simp only [Act.put, List.setIfInBounds_toArray, List.set_cons_zero, List.set_cons_succ])
                    refine M_take 3 rfl (by kernel_rfl) (by assumption) (fun _ _ _ h => h) (Or.inr ⟨by rfl, rfl⟩) ?_
                    (try simp only [Act.put, List.setIfInBounds_toArray, List.set_cons_zero, List.set_cons_succ])
                    refine M_take 4 rfl (by kernel_rfl) (by assumption) (fun _ _ _ h => h) (Or.inr ⟨by rfl, rfl⟩) ?_
                    (try simp only [Act.put, List.setIfInBounds_toArray, List.set_cons_zero, List.set_cons_succ])
                    refine M_take 5 rfl (by kernel_rfl) (by assumption) (fun _ _ _ h => h) (Or.inr ⟨by rfl, rfl⟩) ?_
                    (try simp only [Act.put, List.setIfInBounds_toArray, List.set_cons_zero, List.set_cons_succ])
                    refine M_take 6 rfl (by kernel_rfl) (by assumption) (fun _ _ _ h => h) (Or.inr ⟨by rfl, rfl⟩) ?_
                    (try simp only [Act.put, List.setIfInBounds_toArray, List.set_cons_zero, List.set_cons_succ])
                    refine M_take 7 rfl (by kernel_rfl) (by assumption) (fun _ _ _ h => h) (Or.inr ⟨by rfl, rfl⟩) ?_
                    (try simp only [Act.put, List.setIfInBounds_toArray, List.set_cons_zero, List.set_cons_succ])
                    refine M_take 8 rfl (by kernel_rfl) (by assumption) (fun _ _ _ h => h) (Or.inr ⟨by rfl, rfl⟩) ?_
                    (try simp only [Act.put, List.setIfInBounds_toArray, List.set_cons_zero, List.set_cons_succ])
                    refine M_take 9 rfl (by kernel_rfl) (by assumption) (fun _ _ _ h => h) (Or.inr ⟨by rfl, rfl⟩) ?_
                    (try simp only [Act.put, List.setIfInBounds_toArray, List.set_cons_zero, List.set_cons_succ])
                    refine M_take 10 rfl (by kernel_rfl) (by assumption) (fun _ _ _ h => h) (Or.inr ⟨by rfl, rfl⟩) ?_
                    (try simp only [Act.put, List.setIfInBounds_toArray, List.set_cons_zero, List.set_cons_succ])
                    refine M_take 11 rfl (by kernel_rfl) (by assumption) (fun _ _ _ h => h) (Or.inr ⟨by rfl, rfl⟩) ?_
                    (try simp only [Act.put, List.setIfInBounds_toArray, List.set_cons_zero, List.set_cons_succ])
                    refine M_take 12 rfl (by kernel_rfl) (by assumption) (fun _ _ _ h => h) (Or.inr ⟨by rfl, rfl⟩) ?_
                    (try simp only [Act.put, List.setIfInBounds_toArray, List.set_cons_zero, List.set_cons_succ])
                    refine M_take 13 rfl (by kernel_rfl) (by assumption) (fun _ _ _ h => h) (Or.inr ⟨by rfl, rfl⟩) ?_
                    (try simp only [Act.put, List.setIfInBounds_toArray, List.set_cons_zero, List.set_cons_succ])
                    refine M_take (v := ?_) 14 rfl (by kernel_rfl) (by assumption) (fun _ _ _ h => h) (Or.inl ⟨by rfl, ?_⟩) ?_
                    rotate_left
                    · (intro w hSw; (try dsimp only at hSw); go_simp; (try with_reducible rfl))
                    (try simp only [Act.put, List.setIfInBounds_toArray, List.set_cons_zero, List.set_cons_succ])
                    refine M_step 15 rfl (by kernel_rfl) (fun K hK => ?_)
                    go_simp
                    refine hK.out _ _ (fun _ => by assumption) ?_
                    clear hK K
                    (try simp only [Act.put, List.setIfInBounds_toArray, List.set_cons_zero, List.set_cons_succ])
                    refine M_done (by kernel_rfl) ?_ _
                    clear hT0 p0 q0 y0
                    have we := WE.out
                    go_wp2_with fail
                    go_roundw
                    case rel => exact ⟨e + 1, by omega, by first | rfl | go_num, by rw [HN.out]; rfl, by first | exact B10.out.drew | exact B10.out⟩
                    case measure => (simp [intOf] <;> omega)
                  | false =>
                    rw [hh] at HN
                    go_wp2_with fail
                    refine wp_region_M [] (fun w' => w'.cell? (ad.add a) = some (.slice A1 k c1') ∧ w'.cell? (pd.add b) = some (.slice (some ay) x.length c2') ∧ w'.cell? (ay.add e) = some (.int .i64 y)) (by kernel_rfl) (by kernel_rfl) (by (try dsimp only); (repeat' apply And.intro); all_goals first | assumption | (go_simp; done)) (fun hT0 => ?_)
                    refine M_take (v := ?_) 0 rfl (by kernel_rfl) (by assumption) (fun _ _ _ h => h) (Or.inl ⟨by rfl, ?_⟩) ?_
                    rotate_left
                    · (intro w hSw; (try dsimp only at hSw); go_simp; (try with_reducible rfl))
                    (try simp only [Act.put, List.setIfInBounds_toArray, List.set_cons_zero, List.set_cons_succ])
                    refine M_take (v := ?_) 1 rfl (by kernel_rfl) (by assumption) (fun _ _ _ h => h) (Or.inl ⟨by rfl, ?_⟩) ?_
                    rotate_left
                    · (intro w hSw; (try dsimp only at hSw); go_simp; (try with_reducible rfl))
                    (try simp only [Act.put, List.setIfInBounds_toArray, List.set_cons_zero, List.set_cons_succ])
                    refine M_take (v := ?_) 2 rfl (by kernel_rfl) (by assumption) (fun _ _ _ h => h) (Or.inl ⟨by rfl, ?_⟩) ?_
                    rotate_left
                    · (intro w hSw; (try dsimp only at hSw); go_simp; (try with_reducible rfl))
                    (try simp only [Act.put, List.setIfInBounds_toArray, List.set_cons_zero, List.set_cons_succ])
                    refine M_take (v := ?_) 3 rfl (by kernel_rfl) (by assumption) (fun _ _ _ h => h) (Or.inl ⟨by rfl, ?_⟩) ?_
                    rotate_left
                    · (intro w hSw; (try dsimp only at hSw); go_simp; (try with_reducible rfl))
                    (try simp only [Act.put, List.setIfInBounds_toArray, List.set_cons_zero, List.set_cons_succ])
                    refine M_take (v := ?_) 4 rfl (by kernel_rfl) (by assumption) (fun _ _ _ h => h) (Or.inl ⟨by rfl, ?_⟩) ?_
                    rotate_left
                    · (intro w hSw; (try dsimp only at hSw); go_simp; (try with_reducible rfl))
                    (try simp only [Act.put, List.setIfInBounds_toArray, List.set_cons_zero, List.set_cons_succ])
                    refine M_take (v := ?_) 5 rfl (by kernel_rfl) (by assumption) (fun _ _ _ h => h) (Or.inl ⟨by rfl, ?_⟩) ?_
                    rotate_left
                    · (intro w hSw; (try dsimp only at hSw); go_simp; (try with_reducible rfl))
                    (try simp only [Act.put, List.setIfInBounds_toArray, List.set_cons_zero, List.set_cons_succ])
                    refine M_take (v := ?_) 6 rfl (by kernel_rfl) (by assumption) (fun _ _ _ h => h) (Or.inl ⟨by rfl, ?_⟩) ?_
                    rotate_left
                    · (intro w hSw; (try dsimp only at hSw); go_simp; (try with_reducible rfl))
                    (try simp only [Act.put, List.setIfInBounds_toArray, List.set_cons_zero, List.set_cons_succ])
                    refine M_take (v := ?_) 7 rfl (by kernel_rfl) (by assumption) (fun _ _ _ h => h) (Or.inl ⟨by rfl, ?_⟩) ?_
                    rotate_left
                    · (intro w hSw; (try dsimp only at hSw); go_simp; (try with_reducible rfl))
                    (try simp only [Act.put, List.setIfInBounds_toArray, List.set_cons_zero, List.set_cons_succ])
                    refine M_take (v := ?_) 8 rfl (by kernel_rfl) (by assumption) (fun _ _ _ h => h) (Or.inl ⟨by rfl, ?_⟩) ?_
                    rotate_left
                    · (intro w hSw; (try dsimp only at hSw); go_simp; (try with_reducible rfl))
                    (try simp only [Act.put, List.setIfInBounds_toArray, List.set_cons_zero, List.set_cons_succ])
                    refine M_take (v := ?_) 9 rfl (by kernel_rfl) (by assumption) (fun _ _ _ h => h) (Or.inl ⟨by rfl, ?_⟩) ?_
                    rotate_left
                    · (intro w hSw; (try dsimp only at hSw); go_simp; (try with_reducible rfl))
                    (try simp only [Act.put, List.setIfInBounds_toArray, List.set_cons_zero, List.set_cons_succ])
                    refine M_take (v := ?_) 10 rfl (by kernel_rfl) (by assumption) (fun _ _ _ h => h) (Or.inl ⟨by rfl, ?_⟩) ?_
                    rotate_left
                    · (intro w hSw; (try dsimp only at hSw); go_simp; (try with_reducible rfl))
                    (try simp only [Act.put, List.setIfInBounds_toArray, List.set_cons_zero, List.set_cons_succ])
                    refine M_take (v := ?_) 11 rfl (by kernel_rfl) (by assumption) (fun _ _ _ h => h) (Or.inl ⟨by rfl, ?_⟩) ?_
                    rotate_left
                    · (intro w hSw; (try dsimp only at hSw); go_simp; (try with_reducible rfl))
                    (try simp only [Act.put, List.setIfInBounds_toArray, List.set_cons_zero, List.set_cons_succ])
                    refine M_take (v := ?_) 12 rfl (by kernel_rfl) (by assumption) (fun _ _ _ h => h) (Or.inl ⟨by rfl, ?_⟩) ?_
                    rotate_left
                    · (intro w hSw; (try dsimp only at hSw); go_simp; (try with_reducible rfl))
                    (try simp only [Act.put, List.setIfInBounds_toArray, List.set_cons_zero, List.set_cons_succ])
                    refine M_step 13 rfl (by kernel_rfl) (fun K hK => ?_)
                    go_simp
                    go_at_call 69
                    refine HC.out.mono ?_
                    rintro e5 w11 ⟨rfl, hw11⟩
                    subst hw11
                    refine hK.out _ _ (fun _ => hT0) ?_
                    clear hK K
                    (try simp only [Act.put, List.setIfInBounds_toArray, List.set_cons_zero, List.set_cons_succ])
                    refine M_take (v := ?_) 14 rfl (by kernel_rfl) (by assumption) (fun _ _ _ h => h) (Or.inl ⟨by rfl, ?_⟩) ?_
                    rotate_left
                    · (intro w hSw; (try dsimp only at hSw); go_simp; (try with_reducible rfl))
                    (try simp only [Act.put, List.setIfInBounds_toArray, List.set_cons_zero, List.set_cons_succ])
                    refine M_step 15 rfl (by kernel_rfl) (fun K hK => ?_)
                    go_simp
                    refine hK.out _ _ (fun _ => by assumption) ?_
                    clear hK K
                    (try simp only [Act.put, List.setIfInBounds_toArray, List.set_cons_zero, List.set_cons_succ])
                    refine M_done (by kernel_rfl) ?_ _
                    clear hT0 p0 q0 y0
                    have we := WE.out
                    go_wp2_with fail
                    go_roundw
                    case rel => exact ⟨e + 1, by omega, by first | rfl | go_num, by rw [HN.out]; rfl, by first | exact B10.out.drew | exact B10.out⟩
                    case measure => (simp [intOf] <;> omega)
                · obtain rfl : e = x.length := by omega
                  have hei : ¬ ((x.length : Int) < (x.length : Int)) := by omega
                  have hh := HH.out
                  rw [hh]
                  have wb := WB.out
                  go_wp2_with fail
                  go_roundw
                  case rel => exact ⟨b + 1, by omega, by first | rfl | go_num, nextB E9.out B10.out⟩
                  case measure => (simp [intOf] <;> omega)
            · obtain rfl : b = P.length := by omega
              have hbi : ¬ ((P.length : Int) < (P.length : Int)) := by omega
              have wa := WA.out
              go_wp2_with fail
              go_roundw
              case rel => exact ⟨a + 1, by omega, by first | rfl | go_num, D9.out⟩
              case measure => (simp [intOf] <;> omega)
        · obtain rfl : a = L.length := by omega
          have hai : ¬ ((L.length : Int) < (L.length : Int)) := by omega
          go_wp2_with fail
          clear c0 c1 c2 zC
          go_loopw [16, 17] (fun nn i wr => ∃ j : Nat, j ≤ c.m ∧ i = .int .i64 (j : Int) ∧ nn = .int .i64 ((cntL n Z j).length : Int) ∧ wr = w6) (fun _ i _ => c.m - (intOf i).toNat)
          case atStart => exact ⟨0, Nat.zero_le _, rfl, rfl, rfl⟩
          case round =>
            obtain ⟨j, hj, rfl, rfl, rfl⟩ := hrel
            obtain ⟨c0, c1, c2⟩ := C.out
            have zC := C.out.lt
            have hj0 : (0 : Int) ≤ (j : Int) := by omega
            have wj : IntKind.i64.wrap ((j : Int) + 1) = ((j + 1 : Nat) : Int) := by rw [show ((j : Int) + 1) = ((j + 1 : Nat) : Int) by omega]; exact IntWalk.i64_in _ (by omega)
            have hcl : (cntL n Z j).length ≤ j := by unfold cntL; have := List.length_filter_le (fun i : Nat => (List.range n).any (fun a => Z a == (i : Int))) (List.range j); rw [List.length_range] at this; exact this
            by_cases hjl : j < c.m
            · have hji : (j : Int) < (c.m : Int) := by omega
              have HC := Lib.hid (has_any S n sc Z (j : Int) _ wr (SS.out _ D.out) (any_iff n Z j))
              have HN := Lib.hid (cntL_succ n Z j)
              have WJ := Lib.hid wj
              generalize (List.range n).any (fun a => Z a == (j : Int)) = gq at HC HN
              generalize hcq : (cntL n Z j).length = cq at HN hcl ⊢
              have wc : IntKind.i64.wrap ((cq : Int) + 1) = ((cq + 1 : Nat) : Int) := by rw [show ((cq : Int) + 1) = ((cq + 1 : Nat) : Int) by omega]; exact IntWalk.i64_in _ (by omega)
              clear hcq
              have WC := Lib.hid wc
              clear wc wj
              cases gq with
              | true =>
                go_wp2_with fail
                refine HC.out.mono ?_
                rintro e5 w11 ⟨rfl, rfl⟩
                have wj := WJ.out
                have wc := WC.out
                go_wp2_with fail
                go_roundw
                case rel => first | exact ⟨j + 1, by omega, by first | rfl | go_num, by rw [HN.out]; first | rfl | go_num, by first | trivial | rfl⟩ | exact ⟨j + 1, by omega, by first | rfl | go_num, by rw [HN.out]; first | rfl | go_num⟩
                case measure => (simp [intOf] <;> omega)
              | false =>
                go_wp2_with fail
                refine HC.out.mono ?_
                rintro e5 w11 ⟨rfl, rfl⟩
                have wj := WJ.out
                have wc := WC.out
                go_wp2_with fail
                go_roundw
                case rel => first | exact ⟨j + 1, by omega, by first | rfl | go_num, by rw [HN.out]; first | rfl | go_num, by first | trivial | rfl⟩ | exact ⟨j + 1, by omega, by first | rfl | go_num, by rw [HN.out]; first | rfl | go_num⟩
                case measure => (simp [intOf] <;> omega)
            · obtain rfl : j = c.m := by omega
              have hji : ¬ ((c.m : Int) < (c.m : Int)) := by omega
              obtain ⟨s0, ad0, A0, c0', hs0L, hs0a, eA0, lA0, p00, _⟩ := (LA.out wr D4.out).at (show 0 < L.length by omega)
              have es0 : s0.length = k := (HSH.out s0 hs0L).1
              rw [es0] at p00
              subst eA0
              have CT : Hid (∀ W, Below wr.heap.size wr W → W.cell? ⟨w.heap.size, 0, none⟩ = some (.slice c.d.RA c.d.n c.d.rc) ∧ W.cell? ⟨w.heap.size, 1, none⟩ = some (.slice c.d.SA c.d.m c.d.sc) ∧ W.cell? ⟨w.heap.size, 2, none⟩ = some (.slice c.MA c.m c.mc) ∧ W.cell? ad0 = some (.slice A0 k c0')) := Lib.hid fun W h => ⟨cell_up h zC c0, cell_up h zC c1, cell_up h zC c2, by first | exact cellA_of h p00 | (have h9 := cellA_of h p00; rwa [show ad0.add 0 = ad0 from rfl] at h9) | (have h9 := cellA_of h p00; cases ad0; exact h9)⟩
              clear hs0a hs0L lA0 es0 wj
              generalize (cntL n Z c.m).length = cq at HR hcl ⊢
              have hki : (k : Int) ≤ 12 := by omega
              go_wp2_with fail
              refine wp_region_M [] (fun w' => w'.cell? ⟨w.heap.size, 0, none⟩ = some (.slice c.d.RA c.d.n c.d.rc) ∧ w'.cell? ⟨w.heap.size, 1, none⟩ = some (.slice c.d.SA c.d.m c.d.sc) ∧ w'.cell? ⟨w.heap.size, 2, none⟩ = some (.slice c.MA c.m c.mc)) (by kernel_rfl) (by kernel_rfl) (by (try dsimp only); (repeat' apply And.intro); all_goals first | assumption | (go_simp; done)) (fun hT0 => ?_)
              refine M_take (v := ?_) 0 rfl (by kernel_rfl) (by assumption) (fun _ _ _ h => h) (Or.inl ⟨by rfl, ?_⟩) ?_
              rotate_left
              · (intro w hSw; (try dsimp only at hSw); go_simp; (try with_reducible rfl))
              (try simp only [Act.put, List.setIfInBounds_toArray, List.set_cons_zero, List.set_cons_succ])
              refine M_take (v := ?_) 1 rfl (by kernel_rfl) (by assumption) (fun _ _ _ h => h) (Or.inl ⟨by rfl, ?_⟩) ?_
              rotate_left
              · (intro w hSw; (try dsimp only at hSw); go_simp; (try with_reducible rfl))
              (try simp only [Act.put, List.setIfInBounds_toArray, List.set_cons_zero, List.set_cons_succ])
              refine M_take (v := ?_) 2 rfl (by kernel_rfl) (by assumption) (fun _ _ _ h => h) (Or.inl ⟨by rfl, ?_⟩) ?_
              rotate_left
              · (intro w hSw; (try dsimp only at hSw); go_simp; (try with_reducible rfl))
              (try simp only [Act.put, List.setIfInBounds_toArray, List.set_cons_zero, List.set_cons_succ])
              refine M_take (v := ?_) 3 rfl (by kernel_rfl) (by assumption) (fun _ _ _ h => h) (Or.inl ⟨by rfl, ?_⟩) ?_
              rotate_left
              · (intro w hSw; (try dsimp only at hSw); go_simp; (try with_reducible rfl))
              (try simp only [Act.put, List.setIfInBounds_toArray, List.set_cons_zero, List.set_cons_succ])
              refine M_take (v := ?_) 4 rfl (by kernel_rfl) (by assumption) (fun _ _ _ h => h) (Or.inl ⟨by rfl, ?_⟩) ?_
              rotate_left
              · (intro w hSw; (try dsimp only at hSw); go_simp; (try with_reducible rfl))
              (try simp only [Act.put, List.setIfInBounds_toArray, List.set_cons_zero, List.set_cons_succ])
              refine M_step 5 rfl (by kernel_rfl) (fun K hK => ?_)
              go_simp
              go_at_call 71
              refine (KE.out _ (nextB D.out (Below.refl _ _).drew)).mono ?_
              rintro e w7 ⟨B7, k7, N7, H7, rfl, hF7, hb7⟩
              have B7' := Lib.hid (show Below wr.heap.size wr w7 from nextB (Below.refl _ _).drew hb7)
              have F7 := Lib.hid hF7
              have hT7 : (fun w' => w'.cell? ⟨w.heap.size, 0, none⟩ = some (.slice c.d.RA c.d.n c.d.rc) ∧ w'.cell? ⟨w.heap.size, 1, none⟩ = some (.slice c.d.SA c.d.m c.d.sc) ∧ w'.cell? ⟨w.heap.size, 2, none⟩ = some (.slice c.MA c.m c.mc)) w7 := ⟨(CT.out w7 B7'.out).1, (CT.out w7 B7'.out).2.1, (CT.out w7 B7'.out).2.2.1⟩
              clear hb7 hF7
              refine hK.out _ _ (fun _ => hT7) ?_
              clear hK K
              (try simp only [Act.put, List.setIfInBounds_toArray, List.set_cons_zero, List.set_cons_succ])
              refine M_step 6 rfl (by kernel_rfl) (fun K hK => ?_)
              go_simp
              go_at_call 33
              refine (Feasible_any c.d B7 N7 k7 H7 R 0 w7 (CC.out w7 (nextB D.out B7'.out)).1 F7.out.2 F7.out.1).mono ?_
              rintro e w8 ⟨rfl, hb8⟩
              have B8 := Lib.hid (nextB B7'.out hb8)
              have hT8 : (fun w' => w'.cell? ⟨w.heap.size, 0, none⟩ = some (.slice c.d.RA c.d.n c.d.rc) ∧ w'.cell? ⟨w.heap.size, 1, none⟩ = some (.slice c.d.SA c.d.m c.d.sc) ∧ w'.cell? ⟨w.heap.size, 2, none⟩ = some (.slice c.MA c.m c.mc)) w8 := ⟨(CT.out w8 B8.out).1, (CT.out w8 B8.out).2.1, (CT.out w8 B8.out).2.2.1⟩
              clear hb8
              refine hK.out _ _ (fun _ => hT8) ?_
              clear hK K
              (try simp only [Act.put, List.setIfInBounds_toArray, List.set_cons_zero, List.set_cons_succ])
              refine M_take (v := ?_) 7 rfl (by kernel_rfl) (by assumption) (fun _ _ _ h => h) (Or.inl ⟨by rfl, ?_⟩) ?_
              rotate_left
              · (intro w hSw; (try dsimp only at hSw); go_simp; (try with_reducible rfl))
              (try simp only [Act.put, List.setIfInBounds_toArray, List.set_cons_zero, List.set_cons_succ])
              refine M_take (v := ?_) 8 rfl (by kernel_rfl) (by assumption) (fun _ _ _ h => h) (Or.inl ⟨by rfl, ?_⟩) ?_
              rotate_left
              · (intro w hSw; (try dsimp only at hSw); go_simp; (try with_reducible rfl))
              (try simp only [Act.put, List.setIfInBounds_toArray, List.set_cons_zero, List.set_cons_succ])
              refine M_take (v := ?_) 9 rfl (by kernel_rfl) (by assumption) (fun _ _ _ h => h) (Or.inl ⟨by rfl, ?_⟩) ?_
              rotate_left
              · (intro w hSw; (try dsimp only at hSw); go_simp; (try with_reducible rfl))
              (try simp only [Act.put, List.setIfInBounds_toArray, List.set_cons_zero, List.set_cons_succ])
              refine M_step 10 rfl (by kernel_rfl) (fun K hK => ?_)
              go_simp
              refine hK.out _ _ (fun _ => by assumption) ?_
              clear hK K
              (try simp only [Act.put, List.setIfInBounds_toArray, List.set_cons_zero, List.set_cons_succ])
              refine M_step 11 rfl (by kernel_rfl) (fun K hK => ?_)
              go_simp
              refine hK.out _ _ (fun _ => by assumption) ?_
              clear hK K
              (try simp only [Act.put, List.setIfInBounds_toArray, List.set_cons_zero, List.set_cons_succ])
              refine M_done (by kernel_rfl) ?_ _
              clear hT0 hT7 hT8 c0 c1 c2 zC p00
              obtain ⟨_, _, _, p00⟩ := CT.out w8 B8.out
              have D := Lib.hid (nextB D.out B8.out)
              cases R with
              | true =>
                have hkc : (k : Int) ≤ (cq : Int) := by have := HR.out rfl; omega
                have hkc2 := HR.out rfl
                go_wp2_with fail
                go_ret
                first | exact ⟨rfl, D.out⟩ | exact ⟨by simp [hkc], D.out⟩
              | false =>
                go_wp2_with fail
                go_ret
                exact ⟨rfl, D.out⟩
    · go_wp2_with fail
      refine (KP.out _ D.out).mono ?_
      rintro e w5 ⟨v, rfl, hv⟩
      have hb := hv.1
      have J := Lib.hid (hb)
      have D := Lib.hid (nextB D.out J.out)
      clear c0 c1 c2 zC
      have C := Lib.hid (C.out.up J.out)
      obtain ⟨Ap, cp, rfl⟩ := hv.slice
      have PA : Hid (∀ W, Below w5.heap.size w5 W → LssIn Ap P W) := Lib.hid fun W h => (hv.lss HXL.out.1 HXL.out.2.1).up h
      have D45 := Lib.hid J.out
      have Dw5 := Lib.hid D.out
      clear hv
      clear hb
      obtain ⟨c0, c1, c2⟩ := C.out
      have zC := C.out.lt
      go_wp2_with fail
      clear c0 c1 c2 zC
      go_loopw [10, 11, 12, 13, 14, 15] (fun i ok gg kk hit nn wr => ∃ a : Nat, a ≤ L.length ∧ i = .int .i64 (a : Int) ∧ Below w5.heap.size w5 wr) (fun i _ _ _ _ _ _ => L.length - (intOf i).toNat)
      case atStart => exact ⟨0, Nat.zero_le _, rfl, Below.refl _ _⟩
      case round =>
        obtain ⟨a, ha, rfl, hb⟩ := hrel
        obtain ⟨w6, rfl⟩ : ∃ w6 : World, w6 = wr := ⟨_, rfl⟩
        have D6 := Lib.hid hb
        have D := Lib.hid (nextB Dw5.out hb)
        have D4 := Lib.hid (nextB D45.out hb)
        have C := Lib.hid (C.out.up hb)
        have ha0 : (0 : Int) ≤ (a : Int) := by omega
        clear hb
        obtain ⟨c0, c1, c2⟩ := C.out
        have zC := C.out.lt
        by_cases hlt : a < L.length
        · have hai : (a : Int) < (L.length : Int) := by omega
          obtain ⟨s, ad, A1, c1', hsL, hsa, eA, lA, p0, hsi⟩ := (LA.out w6 D4.out).at hlt
          obtain ⟨s0, ad0, A0, c0', hs0L, hs0a, eA0, lA0, p00, _⟩ := (LA.out w6 D4.out).at (show 0 < L.length by omega)
          rw [eA] at eA0
          cases eA0
          have es : s.length = k := (HSH.out s hsL).1
          have es0 : s0.length = k := (HSH.out s0 hs0L).1
          unfold LiIn at hsi
          rw [es] at p0 hsi
          rw [es0] at p00
          have SI : Hid (∀ W, Below w6.heap.size w6 W → IntsIn A1 k (fun j => s.getD j 0) W.heap.size W) := Lib.hid fun W h => (hsi.up h (Nat.le_refl _)).more h.size
          have KW1 := Lib.hid (KW.out A1 c1' s hsL)
          have HSX : Hid (∀ x, x ∈ P → hitB k s x x.length = true) := Lib.hid fun x hx => hitB_of (by have h4 := (HSH.out s hsL).2.2 x hx; rw [es] at h4; exact h4)
          have wa : IntKind.i64.wrap ((a : Int) + 1) = ((a + 1 : Nat) : Int) := by rw [show ((a : Int) + 1) = ((a + 1 : Nat) : Int) by omega]; exact IntWalk.i64_in _ (by omega)
          have WA := Lib.hid wa
          have CT : Hid (∀ W, Below w6.heap.size w6 W → W.cell? ⟨w.heap.size, 0, none⟩ = some (.slice c.d.RA c.d.n c.d.rc) ∧ W.cell? ⟨w.heap.size, 1, none⟩ = some (.slice c.d.SA c.d.m c.d.sc) ∧ W.cell? ⟨w.heap.size, 2, none⟩ = some (.slice c.MA c.m c.mc) ∧ W.cell? (ad.add a) = some (.slice A1 k c1') ∧ W.cell? ad = some (.slice A0 k c0')) := Lib.hid fun W h => ⟨cell_up h zC c0, cell_up h zC c1, cell_up h zC c2, cellA_of h p0, by first | exact cellA_of h p00 | (have h9 := cellA_of h p00; rwa [show ad.add 0 = ad from rfl] at h9) | (have h9 := cellA_of h p00; cases ad; exact h9)⟩
          subst eA
          clear hsi wa lA lA0 hsa hs0a hs0L es0 es
          have zC' : Hid (w.heap.size < w6.heap.size) := Lib.hid zC
          have p00' := (CT.out w6 (Below.refl _ _)).2.2.2.2
          clear p00
          go_wp2_with fail
          refine wp_region_M [] (fun w' => w'.cell? ⟨w.heap.size, 0, none⟩ = some (.slice c.d.RA c.d.n c.d.rc) ∧ w'.cell? ⟨w.heap.size, 1, none⟩ = some (.slice c.d.SA c.d.m c.d.sc) ∧ w'.cell? ⟨w.heap.size, 2, none⟩ = some (.slice c.MA c.m c.mc) ∧ w'.cell? (ad.add a) = some (.slice A1 k c1')) (by kernel_rfl) (by kernel_rfl) (by (try dsimp only); (repeat' apply And.intro); all_goals first | assumption | (go_simp; done)) (fun hT0 => ?_)
          refine M_take (v := ?_) 0 rfl (by kernel_rfl) (by assumption) (fun _ _ _ h => h) (Or.inl ⟨by rfl, ?_⟩) ?_
          rotate_left
          · (intro w hSw; (try dsimp only at hSw); go_simp; (try with_reducible rfl))
          (try simp only [Act.put, List.setIfInBounds_toArray, List.set_cons_zero, List.set_cons_succ])
          refine M_take (v := ?_) 1 rfl (by kernel_rfl) (by assumption) (fun _ _ _ h => h) (Or.inl ⟨by rfl, ?_⟩) ?_
          rotate_left
          · (intro w hSw; (try dsimp only at hSw); go_simp; (try with_reducible rfl))
          (try simp only [Act.put, List.setIfInBounds_toArray, List.set_cons_zero, List.set_cons_succ])
          refine M_take (v := ?_) 2 rfl (by kernel_rfl) (by assumption) (fun _ _ _ h => h) (Or.inl ⟨by rfl, ?_⟩) ?_
          rotate_left
          · (intro w hSw; (try dsimp only at hSw); go_simp; (try with_reducible rfl))
          (try simp only [Act.put, List.setIfInBounds_toArray, List.set_cons_zero, List.set_cons_succ])
          refine M_take (v := ?_) 3 rfl (by kernel_rfl) (by assumption) (fun _ _ _ h => h) (Or.inl ⟨by rfl, ?_⟩) ?_
          rotate_left
          · (intro w hSw; (try dsimp only at hSw); go_simp; (try with_reducible rfl))
          (try simp only [Act.put, List.setIfInBounds_toArray, List.set_cons_zero, List.set_cons_succ])
          refine M_take (v := ?_) 4 rfl (by kernel_rfl) (by assumption) (fun _ _ _ h => h) (Or.inl ⟨by rfl, ?_⟩) ?_
          rotate_left
          · (intro w hSw; (try dsimp only at hSw); go_simp; (try with_reducible rfl))
          (try simp only [Act.put, List.setIfInBounds_toArray, List.set_cons_zero, List.set_cons_succ])
          refine M_take (v := ?_) 5 rfl (by kernel_rfl) (by assumption) (fun _ _ _ h => h) (Or.inl ⟨by rfl, ?_⟩) ?_
          rotate_left
          · (intro w hSw; (try dsimp only at hSw); go_simp; (try with_reducible rfl))
          (try simp only [Act.put, List.setIfInBounds_toArray, List.set_cons_zero, List.set_cons_succ])
          refine M_take (v := ?_) 6 rfl (by kernel_rfl) (by assumption) (fun _ _ _ h => h) (Or.inl ⟨by rfl, ?_⟩) ?_
          rotate_left
          · (intro w hSw; (try dsimp only at hSw); go_simp; (try with_reducible rfl))
          (try simp only [Act.put, List.setIfInBounds_toArray, List.set_cons_zero, List.set_cons_succ])
          refine M_take (v := ?_) 7 rfl (by kernel_rfl) (by assumption) (fun _ _ _ h => h) (Or.inl ⟨by rfl, ?_⟩) ?_
          rotate_left
          · (intro w hSw; (try dsimp only at hSw); go_simp; (try with_reducible rfl))
          (try simp only [Act.put, List.setIfInBounds_toArray, List.set_cons_zero, List.set_cons_succ])
          refine M_step 8 rfl (by kernel_rfl) (fun K hK => ?_)
          go_simp
          go_at_call 71
          refine (KW1.out _ (nextB D.out (Below.refl _ _).drew) (SI.out _ (Below.refl _ _).drew)).mono ?_
          rintro e w7 ⟨B7, k7, N7, H7, rfl, hF7, hb7⟩
          have B7' := Lib.hid (show Below w6.heap.size w6 w7 from nextB (Below.refl _ _).drew hb7)
          have F7 := Lib.hid hF7
          have hT7 : (fun w' => w'.cell? ⟨w.heap.size, 0, none⟩ = some (.slice c.d.RA c.d.n c.d.rc) ∧ w'.cell? ⟨w.heap.size, 1, none⟩ = some (.slice c.d.SA c.d.m c.d.sc) ∧ w'.cell? ⟨w.heap.size, 2, none⟩ = some (.slice c.MA c.m c.mc) ∧ w'.cell? (ad.add a) = some (.slice A1 k c1')) w7 := ⟨(CT.out w7 B7'.out).1, (CT.out w7 B7'.out).2.1, (CT.out w7 B7'.out).2.2.1, (CT.out w7 B7'.out).2.2.2.1⟩
          clear hb7 hF7
          refine hK.out _ _ (fun _ => hT7) ?_
          clear hK K
          (try simp only [Act.put, List.setIfInBounds_toArray, List.set_cons_zero, List.set_cons_succ])
          refine M_step 9 rfl (by kernel_rfl) (fun K hK => ?_)
          go_simp
          go_at_call 33
          refine (Feasible_any c.d B7 N7 k7 H7 true 0 w7 (CC.out w7 (nextB D.out B7'.out)).1 F7.out.2 F7.out.1).mono ?_
          rintro e w8 ⟨rfl, hb8⟩
          have B8 := Lib.hid (nextB B7'.out hb8)
          have hT8 : (fun w' => w'.cell? ⟨w.heap.size, 0, none⟩ = some (.slice c.d.RA c.d.n c.d.rc) ∧ w'.cell? ⟨w.heap.size, 1, none⟩ = some (.slice c.d.SA c.d.m c.d.sc) ∧ w'.cell? ⟨w.heap.size, 2, none⟩ = some (.slice c.MA c.m c.mc) ∧ w'.cell? (ad.add a) = some (.slice A1 k c1')) w8 := ⟨(CT.out w8 B8.out).1, (CT.out w8 B8.out).2.1, (CT.out w8 B8.out).2.2.1, (CT.out w8 B8.out).2.2.2.1⟩
          clear hb8
          refine hK.out _ _ (fun _ => hT8) ?_
          clear hK K
          (try simp only [Act.put, List.setIfInBounds_toArray, List.set_cons_zero, List.set_cons_succ])
          refine M_take (v := ?_) 10 rfl (by kernel_rfl) (by assumption) (fun _ _ _ h => h) (Or.inl ⟨by rfl, ?_⟩) ?_
          rotate_left
          · (intro w hSw; (try dsimp only at hSw); go_simp; (try with_reducible rfl))
          (try simp only [Act.put, List.setIfInBounds_toArray, List.set_cons_zero, List.set_cons_succ])
          refine M_take (v := ?_) 11 rfl (by kernel_rfl) (by assumption) (fun _ _ _ h => h) (Or.inl ⟨by rfl, ?_⟩) ?_
          rotate_left
          · (intro w hSw; (try dsimp only at hSw); go_simp; (try with_reducible rfl))
          (try simp only [Act.put, List.setIfInBounds_toArray, List.set_cons_zero, List.set_cons_succ])
          refine M_take (v := ?_) 12 rfl (by kernel_rfl) (by assumption) (fun _ _ _ h => h) (Or.inl ⟨by rfl, ?_⟩) ?_
          rotate_left
          · (intro w hSw; (try dsimp only at hSw); go_simp; (try with_reducible rfl))
          (try simp only [Act.put, List.setIfInBounds_toArray, List.set_cons_zero, List.set_cons_succ])
          refine M_step 13 rfl (by kernel_rfl) (fun K hK => ?_)
          go_simp
          refine hK.out _ _ (fun _ => by assumption) ?_
          clear hK K
          (try simp only [Act.put, List.setIfInBounds_toArray, List.set_cons_zero, List.set_cons_succ])
          refine M_step 14 rfl (by kernel_rfl) (fun K hK => ?_)
          go_simp
          refine hK.out _ _ (fun _ => by assumption) ?_
          clear hK K
          (try simp only [Act.put, List.setIfInBounds_toArray, List.set_cons_zero, List.set_cons_succ])
          refine M_done (by kernel_rfl) ?_ _
          clear hT0 hT7 hT8 c0 c1 c2 zC p0 p00'
          obtain ⟨c0, c1, c2, p0, p00⟩ := CT.out w8 B8.out
          have D := Lib.hid (nextB D.out B8.out)
          have D8 := Lib.hid (nextB D6.out B8.out)
          go_wp2_with fail
          refine wp_region_M [] (fun w' => w'.cell? (ad.add a) = some (.slice A1 k c1') ∧ w'.cell? ad = some (.slice A0 k c0')) (by kernel_rfl) (by kernel_rfl) (by (try dsimp only); (repeat' apply And.intro); all_goals first | assumption | (go_simp; done)) (fun hT0 => ?_)
          refine M_take (v := ?_) 0 rfl (by kernel_rfl) (by assumption) (fun _ _ _ h => h) (Or.inl ⟨by rfl, ?_⟩) ?_
          rotate_left
          · (intro w hSw; (try dsimp only at hSw); go_simp; (try with_reducible rfl))
          (try simp only [Act.put, List.setIfInBounds_toArray, List.set_cons_zero, List.set_cons_succ])
          refine M_take (v := ?_) 1 rfl (by kernel_rfl) (by assumption) (fun _ _ _ h => h) (Or.inl ⟨by rfl, ?_⟩) ?_
          rotate_left
          · (intro w hSw; (try dsimp only at hSw); go_simp; (try with_reducible rfl))
          (try simp only [Act.put, List.setIfInBounds_toArray, List.set_cons_zero, List.set_cons_succ])
          refine M_take (v := ?_) 2 rfl (by kernel_rfl) (by assumption) (fun _ _ _ h => h) (Or.inl ⟨by rfl, ?_⟩) ?_
          rotate_left
          · (intro w hSw; (try dsimp only at hSw); go_simp; (try with_reducible rfl))
          (try simp only [Act.put, List.setIfInBounds_toArray, List.set_cons_zero, List.set_cons_succ])
          refine M_take (v := ?_) 3 rfl (by kernel_rfl) (by assumption) (fun _ _ _ h => h) (Or.inl ⟨by rfl, ?_⟩) ?_
          rotate_left
          · (intro w hSw; (try dsimp only at hSw); go_simp; (try with_reducible rfl))
          (try simp only [Act.put, List.setIfInBounds_toArray, List.set_cons_zero, List.set_cons_succ])
          refine M_take (v := ?_) 4 rfl (by kernel_rfl) (by assumption) (fun _ _ _ h => h) (Or.inl ⟨by rfl, ?_⟩) ?_
          rotate_left
          · (intro w hSw; (try dsimp only at hSw); go_simp; (try with_reducible rfl))
          (try simp only [Act.put, List.setIfInBounds_toArray, List.set_cons_zero, List.set_cons_succ])
          refine M_take (v := ?_) 5 rfl (by kernel_rfl) (by assumption) (fun _ _ _ h => h) (Or.inl ⟨by rfl, ?_⟩) ?_
          rotate_left
          · (intro w hSw; (try dsimp only at hSw); go_simp; (try with_reducible rfl))
          (try simp only [Act.put, List.setIfInBounds_toArray, List.set_cons_zero, List.set_cons_succ])
          refine M_take (v := ?_) 6 rfl (by kernel_rfl) (by assumption) (fun _ _ _ h => h) (Or.inl ⟨by rfl, ?_⟩) ?_
          rotate_left
          · (intro w hSw; (try dsimp only at hSw); go_simp; (try with_reducible rfl))
          (try simp only [Act.put, List.setIfInBounds_toArray, List.set_cons_zero, List.set_cons_succ])
          refine M_take (v := ?_) 7 rfl (by kernel_rfl) (by assumption) (fun _ _ _ h => h) (Or.inl ⟨by rfl, ?_⟩) ?_
          rotate_left
          · (intro w hSw; (try dsimp only at hSw); go_simp; (try with_reducible rfl))
          (try simp only [Act.put, List.setIfInBounds_toArray, List.set_cons_zero, List.set_cons_succ])
          refine M_take (v := ?_) 8 rfl (by kernel_rfl) (by assumption) (fun _ _ _ h => h) (Or.inl ⟨by rfl, ?_⟩) ?_
          rotate_left
          · (intro w hSw; (try dsimp only at hSw); go_simp; (try with_reducible rfl))
          (try simp only [Act.put, List.setIfInBounds_toArray, List.set_cons_zero, List.set_cons_succ])
          refine M_take (v := ?_) 9 rfl (by kernel_rfl) (by assumption) (fun _ _ _ h => h) (Or.inl ⟨by rfl, ?_⟩) ?_
          rotate_left
          · (intro w hSw; (try dsimp only at hSw); go_simp; (try with_reducible rfl))
          (try simp only [Act.put, List.setIfInBounds_toArray, List.set_cons_zero, List.set_cons_succ])
          refine M_take (v := ?_) 10 rfl (by kernel_rfl) (by assumption) (fun _ _ _ h => h) (Or.inl ⟨by rfl, ?_⟩) ?_
          rotate_left
          · (intro w hSw; (try dsimp only at hSw); go_simp; (try with_reducible rfl))
          (try simp only [Act.put, List.setIfInBounds_toArray, List.set_cons_zero, List.set_cons_succ])
          refine M_take (v := ?_) 11 rfl (by kernel_rfl) (by assumption) (fun _ _ _ h => h) (Or.inl ⟨by rfl, ?_⟩) ?_
          rotate_left
          · (intro w hSw; (try dsimp only at hSw); go_simp; (try with_reducible rfl))
          (try simp only [Act.put, List.setIfInBounds_toArray, List.set_cons_zero, List.set_cons_succ])
          refine M_take (v := ?_) 12 rfl (by kernel_rfl) (by assumption) (fun _ _ _ h => h) (Or.inl ⟨by rfl, ?_⟩) ?_
          rotate_left
          · (intro w hSw; (try dsimp only at hSw); go_simp; (try with_reducible rfl))
          (try simp only [Act.put, List.setIfInBounds_toArray, List.set_cons_zero, List.set_cons_succ])
          refine M_take (v := ?_) 13 rfl (by kernel_rfl) (by assumption) (fun _ _ _ h => h) (Or.inl ⟨by rfl, ?_⟩) ?_
          rotate_left
          · (intro w hSw; (try dsimp only at hSw); go_simp; (try with_reducible rfl))
          (try simp only [Act.put, List.setIfInBounds_toArray, List.set_cons_zero, List.set_cons_succ])
          refine M_take (v := ?_) 14 rfl (by kernel_rfl) (by assumption) (fun _ _ _ h => h) (Or.inl ⟨by rfl, ?_⟩) ?_
          rotate_left
          · (intro w hSw; (try dsimp only at hSw); go_simp; (try with_reducible rfl))
          (try simp only [Act.put, List.setIfInBounds_toArray, List.set_cons_zero, List.set_cons_succ])
          refine M_take (v := ?_) 15 rfl (by kernel_rfl) (by assumption) (fun _ _ _ h => h) (Or.inl ⟨by rfl, ?_⟩) ?_
          rotate_left
          · (intro w hSw; (try dsimp only at hSw); go_simp; (try with_reducible rfl))
          (try simp only [Act.put, List.setIfInBounds_toArray, List.set_cons_zero, List.set_cons_succ])
          refine M_take (v := ?_) 16 rfl (by kernel_rfl) (by assumption) (fun _ _ _ h => h) (Or.inl ⟨by rfl, ?_⟩) ?_
          rotate_left
          · (intro w hSw; (try dsimp only at hSw); go_simp; (try with_reducible rfl))
          (try simp only [Act.put, List.setIfInBounds_toArray, List.set_cons_zero, List.set_cons_succ])
          refine M_take (v := ?_) 17 rfl (by kernel_rfl) (by assumption) (fun _ _ _ h => h) (Or.inl ⟨by rfl, ?_⟩) ?_
          rotate_left
          · (intro w hSw; (try dsimp only at hSw); go_simp; (try with_reducible rfl))
          (try simp only [Act.put, List.setIfInBounds_toArray, List.set_cons_zero, List.set_cons_succ])
          refine M_done (by kernel_rfl) ?_ _
          go_wp2_with fail
          clear hT0 c0 c1 c2 p0 p00
          go_loopw [13, 14, 15] (fun kk hit nn wr => ∃ b : Nat, b ≤ P.length ∧ kk = .int .i64 (b : Int) ∧ Below w8.heap.size w8 wr) (fun kk _ _ _ => P.length - (intOf kk).toNat)
          case atStart => exact ⟨0, Nat.zero_le _, rfl, by first | exact Below.refl _ _ | exact (Below.refl _ _).drew⟩
          case round =>
            obtain ⟨b, hbl, rfl, hb⟩ := hrel
            obtain ⟨w9, rfl⟩ : ∃ w9 : World, w9 = wr := ⟨_, rfl⟩
            have D9 := Lib.hid (nextB D8.out hb)
            have B9 := Lib.hid (nextB B8.out hb)
            have E9 := Lib.hid hb
            clear hb
            have hb0 : (0 : Int) ≤ (b : Int) := by omega
            by_cases hlb : b < P.length
            · have hbi : (b : Int) < (P.length : Int) := by omega
              obtain ⟨x, pd, A2, c2', hxP, hxb, eP, lP, q0, hxi⟩ := (PA.out w9 D9.out).at hlb
              obtain ⟨_, _, _, p0, _⟩ := CT.out w9 B9.out
              subst eP
              have hx9 := HXL.out.1 x hxP
              have hhit := HSX.out x hxP
              have XI : Hid (∀ W, Below w9.heap.size w9 W → LiIn A2 x W) := Lib.hid fun W h => hxi.up h
              have PT : Hid (∀ W, Below w9.heap.size w9 W → W.cell? (ad.add a) = some (.slice A1 k c1') ∧ W.cell? (pd.add b) = some (.slice A2 x.length c2')) := Lib.hid fun W h => ⟨(CT.out W (nextB B9.out h)).2.2.2.1, cellA_of h q0⟩
              have wb : IntKind.i64.wrap ((b : Int) + 1) = ((b + 1 : Nat) : Int) := by rw [show ((b : Int) + 1) = ((b + 1 : Nat) : Int) by omega]; exact IntWalk.i64_in _ (by omega)
              have WB := Lib.hid wb
              have HH := Lib.hid hhit
              clear hxi lP hxb hhit wb
              go_wp2_with fail
              clear p0 q0
              go_loopw [14, 15] (fun hit nn wr => ∃ e : Nat, e ≤ x.length ∧ nn = .int .i64 (e : Int) ∧ hit = .bool (hitB k s x e) ∧ Below w9.heap.size w9 wr) (fun _ nn _ => x.length - (intOf nn).toNat)
              case atStart => exact ⟨0, Nat.zero_le _, rfl, rfl, Below.refl _ _⟩
              case round =>
                obtain ⟨e, hel, rfl, rfl, hb⟩ := hrel
                obtain ⟨w10, rfl⟩ : ∃ w10 : World, w10 = wr := ⟨_, rfl⟩
                have B10 := Lib.hid hb
                clear hb
                have he0 : (0 : Int) ≤ (e : Int) := by omega
                obtain ⟨p0, q0⟩ := PT.out w10 B10.out
                by_cases hle : e < x.length
                · have hei : (e : Int) < (x.length : Int) := by omega
                  obtain ⟨ay, ey, ly, y0⟩ := (XI.out w10 B10.out).2 e hle
                  subst ey
                  have we : IntKind.i64.wrap ((e : Int) + 1) = ((e + 1 : Nat) : Int) := by rw [show ((e : Int) + 1) = ((e + 1 : Nat) : Int) by omega]; exact IntWalk.i64_in _ (by omega)
                  have WE := Lib.hid we
                  have HC : Hid (Calls Try.prog 69 #[.slice A1 k c1', .int .i64 (x.getD e 0)] w10.drew fun e5 w' => e5 = .returned (.bool ((List.range k).any (fun a => s.getD a 0 == x.getD e 0))) ∧ w' = w10.drew) := Lib.hid (has_any A1 k c1' (fun a => s.getD a 0) _ _ w10.drew (SI.out _ (nextB B9.out B10.out.drew)) (any_iff k _ _))
                  have HN := Lib.hid (hitB_succ k s x e)
                  generalize (List.range k).any (fun a => s.getD a 0 == x.getD e 0) = gq at HC HN
                  simp only at y0
                  generalize x.getD e 0 = y at y0 HC
                  clear we ly
                  cases hh : hitB k s x e with
                  | true =>
                    rw [hh] at HN
                    go_wp2_with fail
                    refine wp_region_M [] (fun w' => w'.cell? (ad.add a) = some (.slice A1 k c1') ∧ w'.cell? (pd.add b) = some (.slice (some ay) x.length c2') ∧ w'.cell? (ay.add e) = some (.int .i64 y)) (by kernel_rfl) (by kernel_rfl) (by (try dsimp only); (repeat' apply And.intro); all_goals first | assumption | (go_simp; done)) (fun hT0 => ?_)
                    refine M_take (v := ?_) 0 rfl (by kernel_rfl) (by assumption) (fun _ _ _ h => h) (Or.inl ⟨by rfl, ?_⟩) ?_
                    rotate_left
                    · (intro w hSw; (try dsimp only at hSw); go_simp; (try with_reducible rfl))
                    (try simp only [Act.put, List.setIfInBounds_toArray, List.set_cons_zero, List.set_cons_succ])
                    refine M_take (v := ?_) 1 rfl (by kernel_rfl) (by assumption) (fun _ _ _ h => h) (Or.inl ⟨by rfl, ?_⟩) ?_
                    rotate_left
                    · (intro w hSw; (try dsimp only at hSw); go_simp; (try with_reducible rfl))
                    (try simp only [Act.put, List.setIfInBounds_toArray, List.set_cons_zero, List.set_cons_succ])
                    refine M_take 2 rfl (by kernel_rfl) (by assumption) (fun _ _ _ h => h) (Or.inr ⟨by rfl, rfl⟩) ?_
                    (try simp only [Act.put, List.setIfInBounds_toArray, List.set_cons_zero, List.set_cons_succ])
                    refine M_take 3 rfl (by kernel_rfl) (by assumption) (fun _ _ _ h => h) (Or.inr ⟨by rfl, rfl⟩) ?_
                    (try simp only [Act.put, List.setIfInBounds_toArray, List.set_cons_zero, List.set_cons_succ])
                    refine M_take 4 rfl (by kernel_rfl) (by assumption) (fun _ _ _ h => h) (Or.inr ⟨by rfl, rfl⟩) ?_
                    (try simp only [Act.put, List.setIfInBounds_toArray, List.set_cons_zero, List.set_cons_succ])
                    refine M_take 5 rfl (by kernel_rfl) (by assumption) (fun _ _ _ h => h) (Or.inr ⟨by rfl, rfl⟩) ?_
                    (try simp only [Act.put, List.setIfInBounds_toArray, List.set_cons_zero, List.set_cons_succ])
                    refine M_take 6 rfl (by kernel_rfl) (by assumption) (fun _ _ _ h => h) (Or.inr ⟨by rfl, rfl⟩) ?_
                    (try simp only [Act.put, List.setIfInBounds_toArray, List.set_cons_zero, List.set_cons_succ])
                    refine M_take 7 rfl (by kernel_rfl) (by assumption) (fun _ _ _ h => h) (Or.inr ⟨by rfl, rfl⟩) ?_
                    (try simp only [Act.put, List.setIfInBounds_toArray, List.set_cons_zero, List.set_cons_succ])
                    refine M_take 8 rfl (by kernel_rfl) (by assumption) (fun _ _ _ h => h) (Or.inr ⟨by rfl, rfl⟩) ?_
                    (try simp only [Act.put, List.setIfInBounds_toArray, List.set_cons_zero, List.set_cons_succ])
                    refine M_take 9 rfl (by kernel_rfl) (by assumption) (fun _ _ _ h => h) (Or.inr ⟨by rfl, rfl⟩) ?_
                    (try simp only [Act.put, List.setIfInBounds_toArray, List.set_cons_zero, List.set_cons_succ])
                    refine M_take 10 rfl (by kernel_rfl) (by assumption) (fun _ _ _ h => h) (Or.inr ⟨by rfl, rfl⟩) ?_
                    (try simp only [Act.put, List.setIfInBounds_toArray, List.set_cons_zero, List.set_cons_succ])
                    refine M_take 11 rfl (by kernel_rfl) (by assumption) (fun _ _ _ h => h) (Or.inr ⟨by rfl, rfl⟩) ?_
                    (try simp only [Act.put, List.setIfInBounds_toArray, List.set_cons_zero, List.set_cons_succ])
                    refine M_take 12 rfl (by kernel_rfl) (by assumption) (fun _ _ _ h => h) (Or.inr ⟨by rfl, rfl⟩) ?_
                    (try simp only [Act.put, List.setIfInBounds_toArray, List.set_cons_zero, List.set_cons_succ])
                    refine M_take 13 rfl (by kernel_rfl) (by assumption) (fun _ _ _ h => h) (Or.inr ⟨by rfl, rfl⟩) ?_
                    (try simp only [Act.put, List.setIfInBounds_toArray, List.set_cons_zero, List.set_cons_succ])
                    refine M_take (v := ?_) 14 rfl (by kernel_rfl) (by assumption) (fun _ _ _ h => h) (Or.inl ⟨by rfl, ?_⟩) ?_
                    rotate_left
                    · (intro w hSw; (try dsimp only at hSw); go_simp; (try with_reducible rfl))
                    (try simp only [Act.put, List.setIfInBounds_toArray, List.set_cons_zero, List.set_cons_succ])
                    refine M_step 15 rfl (by kernel_rfl) (fun K hK => ?_)
                    go_simp
                    refine hK.out _ _ (fun _ => by assumption) ?_
                    clear hK K
                    (try simp only [Act.put, List.setIfInBounds_toArray, List.set_cons_zero, List.set_cons_succ])
                    refine M_done (by kernel_rfl) ?_ _
                    clear hT0 p0 q0 y0
                    have we := WE.out
                    go_wp2_with fail
                    go_roundw
                    case rel => exact ⟨e + 1, by omega, by first | rfl | go_num, by rw [HN.out]; rfl, by first | exact B10.out.drew | exact B10.out⟩
                    case measure => (simp [intOf] <;> omega)
                  | false =>
                    rw [hh] at HN
                    go_wp2_with fail
                    refine wp_region_M [] (fun w' => w'.cell? (ad.add a) = some (.slice A1 k c1') ∧ w'.cell? (pd.add b) = some (.slice (some ay) x.length c2') ∧ w'.cell? (ay.add e) = some (.int .i64 y)) (by kernel_rfl) (by kernel_rfl) (by (try dsimp only); (repeat' apply And.intro); all_goals first | assumption | (go_simp; done)) (fun hT0 => ?_)
                    refine M_take (v := ?_) 0 rfl (by kernel_rfl) (by assumption) (fun _ _ _ h => h) (Or.inl ⟨by rfl, ?_⟩) ?_
                    rotate_left
                    · (intro w hSw; (try dsimp only at hSw); go_simp; (try with_reducible rfl))
                    (try simp only [Act.put, List.setIfInBounds_toArray, List.set_cons_zero, List.set_cons_succ])
                    refine M_take (v := ?_) 1 rfl (by kernel_rfl) (by assumption) (fun _ _ _ h => h) (Or.inl ⟨by rfl, ?_⟩) ?_
                    rotate_left
                    · (intro w hSw; (try dsimp only at hSw); go_simp; (try with_reducible rfl))
                    (try simp only [Act.put, List.setIfInBounds_toArray, List.set_cons_zero, List.set_cons_succ])
                    refine M_take (v := ?_) 2 rfl (by kernel_rfl) (by assumption) (fun _ _ _ h => h) (Or.inl ⟨by rfl, ?_⟩) ?_
                    rotate_left
                    · (intro w hSw; (try dsimp only at hSw); go_simp; (try with_reducible rfl))
                    (try simp only [Act.put, List.setIfInBounds_toArray, List.set_cons_zero, List.set_cons_succ])
                    refine M_take (v := ?_) 3 rfl (by kernel_rfl) (by assumption) (fun _ _ _ h => h) (Or.inl ⟨by rfl, ?_⟩) ?_
                    rotate_left
                    · (intro w hSw; (try dsimp only at hSw); go_simp; (try with_reducible rfl))
                    (try simp only [Act.put, List.setIfInBounds_toArray, List.set_cons_zero, List.set_cons_succ])
                    refine M_take (v := ?_) 4 rfl (by kernel_rfl) (by assumption) (fun _ _ _ h => h) (Or.inl ⟨by rfl, ?_⟩) ?_
                    rotate_left
                    · (intro w hSw; (try dsimp only at hSw); go_simp; (try with_reducible rfl))
                    (try simp only [Act.put, List.setIfInBounds_toArray, List.set_cons_zero, List.set_cons_succ])
                    refine M_take (v := ?_) 5 rfl (by kernel_rfl) (by assumption) (fun _ _ _ h => h) (Or.inl ⟨by rfl, ?_⟩) ?_
                    rotate_left
                    · (intro w hSw; (try dsimp only at hSw); go_simp; (try with_reducible rfl))
                    (try simp only [Act.put, List.setIfInBounds_toArray, List.set_cons_zero, List.set_cons_succ])
                    refine M_take (v := ?_) 6 rfl (by kernel_rfl) (by assumption) (fun _ _ _ h => h) (Or.inl ⟨by rfl, ?_⟩) ?_
                    rotate_left
                    · (intro w hSw; (try dsimp only at hSw); go_simp; (try with_reducible rfl))
                    (try simp only [Act.put, List.setIfInBounds_toArray, List.set_cons_zero, List.set_cons_succ])
                    refine M_take (v := ?_) 7 rfl (by kernel_rfl) (by assumption) (fun _ _ _ h => h) (Or.inl ⟨by rfl, ?_⟩) ?_
                    rotate_left
                    · (intro w hSw; (try dsimp only at hSw); go_simp; (try with_reducible rfl))
                    (try simp only [Act.put, List.setIfInBounds_toArray, List.set_cons_zero, List.set_cons_succ])
                    refine M_take (v := ?_) 8 rfl (by kernel_rfl) (by assumption) (fun _ _ _ h => h) (Or.inl ⟨by rfl, ?_⟩) ?_
                    rotate_left
                    · (intro w hSw; (try dsimp only at hSw); go_simp; (try with_reducible rfl))
                    (try simp only [Act.put, List.setIfInBounds_toArray, List.set_cons_zero, List.set_cons_succ])
                    refine M_take (v := ?_) 9 rfl (by kernel_rfl) (by assumption) (fun _ _ _ h => h) (Or.inl ⟨by rfl, ?_⟩) ?_
                    rotate_left
                    · (intro w hSw; (try dsimp only at hSw); go_simp; (try with_reducible rfl))
                    (try simp only [Act.put, List.setIfInBounds_toArray, List.set_cons_zero, List.set_cons_succ])
                    refine M_take (v := ?_) 10 rfl (by kernel_rfl) (by assumption) (fun _ _ _ h => h) (Or.inl ⟨by rfl, ?_⟩) ?_
                    rotate_left
                    · (intro w hSw; (try dsimp only at hSw); go_simp; (try with_reducible rfl))
                    (try simp only [Act.put, List.setIfInBounds_toArray, List.set_cons_zero, List.set_cons_succ])
                    refine M_take (v := ?_) 11 rfl (by kernel_rfl) (by assumption) (fun _ _ _ h => h) (Or.inl ⟨by rfl, ?_⟩) ?_
                    rotate_left
                    · (intro w hSw; (try dsimp only at hSw); go_simp; (try with_reducible rfl))
                    (try simp only [Act.put, List.setIfInBounds_toArray, List.set_cons_zero, List.set_cons_succ])
                    refine M_take (v := ?_) 12 rfl (by kernel_rfl) (by assumption) (fun _ _ _ h => h) (Or.inl ⟨by rfl, ?_⟩) ?_
                    rotate_left
                    · (intro w hSw; (try dsimp only at hSw); go_simp; (try with_reducible rfl))
                    (try simp only [Act.put, List.setIfInBounds_toArray, List.set_cons_zero, List.set_cons_succ])
                    refine M_step 13 rfl (by kernel_rfl) (fun K hK => ?_)
                    go_simp
                    go_at_call 69
                    refine HC.out.mono ?_
                    rintro e5 w11 ⟨rfl, hw11⟩
                    subst hw11
                    refine hK.out _ _ (fun _ => hT0) ?_
                    clear hK K
                    (try simp only [Act.put, List.setIfInBounds_toArray, List.set_cons_zero, List.set_cons_succ])
                    refine M_take (v := ?_) 14 rfl (by kernel_rfl) (by assumption) (fun _ _ _ h => h) (Or.inl ⟨by rfl, ?_⟩) ?_
                    rotate_left
                    · (intro w hSw; (try dsimp only at hSw); go_simp; (try with_reducible rfl))
                    (try simp only [Act.put, List.setIfInBounds_toArray, List.set_cons_zero, List.set_cons_succ])
                    refine M_step 15 rfl (by kernel_rfl) (fun K hK => ?_)
                    go_simp
                    refine hK.out _ _ (fun _ => by assumption) ?_
                    clear hK K
                    (try simp only [Act.put, List.setIfInBounds_toArray, List.set_cons_zero, List.set_cons_succ])
                    refine M_done (by kernel_rfl) ?_ _
                    clear hT0 p0 q0 y0
                    have we := WE.out
                    go_wp2_with fail
                    go_roundw
                    case rel => exact ⟨e + 1, by omega, by first | rfl | go_num, by rw [HN.out]; rfl, by first | exact B10.out.drew | exact B10.out⟩
                    case measure => (simp [intOf] <;> omega)
                · obtain rfl : e = x.length := by omega
                  have hei : ¬ ((x.length : Int) < (x.length : Int)) := by omega
                  have hh := HH.out
                  rw [hh]
                  have wb := WB.out
                  go_wp2_with fail
                  go_roundw
                  case rel => exact ⟨b + 1, by omega, by first | rfl | go_num, nextB E9.out B10.out⟩
                  case measure => (simp [intOf] <;> omega)
            · obtain rfl : b = P.length := by omega
              have hbi : ¬ ((P.length : Int) < (P.length : Int)) := by omega
              have wa := WA.out
              go_wp2_with fail
              go_roundw
              case rel => exact ⟨a + 1, by omega, by first | rfl | go_num, D9.out⟩
              case measure => (simp [intOf] <;> omega)
        · obtain rfl : a = L.length := by omega
          have hai : ¬ ((L.length : Int) < (L.length : Int)) := by omega
          go_wp2_with fail
          clear c0 c1 c2 zC
          go_loopw [16, 17] (fun nn i wr => ∃ j : Nat, j ≤ c.m ∧ i = .int .i64 (j : Int) ∧ nn = .int .i64 ((cntL n Z j).length : Int) ∧ wr = w6) (fun _ i _ => c.m - (intOf i).toNat)
          case atStart => exact ⟨0, Nat.zero_le _, rfl, rfl, rfl⟩
          case round =>
            obtain ⟨j, hj, rfl, rfl, rfl⟩ := hrel
            obtain ⟨c0, c1, c2⟩ := C.out
            have zC := C.out.lt
            have hj0 : (0 : Int) ≤ (j : Int) := by omega
            have wj : IntKind.i64.wrap ((j : Int) + 1) = ((j + 1 : Nat) : Int) := by rw [show ((j : Int) + 1) = ((j + 1 : Nat) : Int) by omega]; exact IntWalk.i64_in _ (by omega)
            have hcl : (cntL n Z j).length ≤ j := by unfold cntL; have := List.length_filter_le (fun i : Nat => (List.range n).any (fun a => Z a == (i : Int))) (List.range j); rw [List.length_range] at this; exact this
            by_cases hjl : j < c.m
            · have hji : (j : Int) < (c.m : Int) := by omega
              have HC := Lib.hid (has_any S n sc Z (j : Int) _ wr (SS.out _ D.out) (any_iff n Z j))
              have HN := Lib.hid (cntL_succ n Z j)
              have WJ := Lib.hid wj
              generalize (List.range n).any (fun a => Z a == (j : Int)) = gq at HC HN
              generalize hcq : (cntL n Z j).length = cq at HN hcl ⊢
              have wc : IntKind.i64.wrap ((cq : Int) + 1) = ((cq + 1 : Nat) : Int) := by rw [show ((cq : Int) + 1) = ((cq + 1 : Nat) : Int) by omega]; exact IntWalk.i64_in _ (by omega)
              clear hcq
              have WC := Lib.hid wc
              clear wc wj
              cases gq with
              | true =>
                go_wp2_with fail
                refine HC.out.mono ?_
                rintro e5 w11 ⟨rfl, rfl⟩
                have wj := WJ.out
                have wc := WC.out
                go_wp2_with fail
                go_roundw
                case rel => first | exact ⟨j + 1, by omega, by first | rfl | go_num, by rw [HN.out]; first | rfl | go_num, by first | trivial | rfl⟩ | exact ⟨j + 1, by omega, by first | rfl | go_num, by rw [HN.out]; first | rfl | go_num⟩
                case measure => (simp [intOf] <;> omega)
              | false =>
                go_wp2_with fail
                refine HC.out.mono ?_
                rintro e5 w11 ⟨rfl, rfl⟩
                have wj := WJ.out
                have wc := WC.out
                go_wp2_with fail
                go_roundw
                case rel => first | exact ⟨j + 1, by omega, by first | rfl | go_num, by rw [HN.out]; first | rfl | go_num, by first | trivial | rfl⟩ | exact ⟨j + 1, by omega, by first | rfl | go_num, by rw [HN.out]; first | rfl | go_num⟩
                case measure => (simp [intOf] <;> omega)
            · obtain rfl : j = c.m := by omega
              have hji : ¬ ((c.m : Int) < (c.m : Int)) := by omega
              obtain ⟨s0, ad0, A0, c0', hs0L, hs0a, eA0, lA0, p00, _⟩ := (LA.out wr D4.out).at (show 0 < L.length by omega)
              have es0 : s0.length = k := (HSH.out s0 hs0L).1
              rw [es0] at p00
              subst eA0
              have CT : Hid (∀ W, Below wr.heap.size wr W → W.cell? ⟨w.heap.size, 0, none⟩ = some (.slice c.d.RA c.d.n c.d.rc) ∧ W.cell? ⟨w.heap.size, 1, none⟩ = some (.slice c.d.SA c.d.m c.d.sc) ∧ W.cell? ⟨w.heap.size, 2, none⟩ = some (.slice c.MA c.m c.mc) ∧ W.cell? ad0 = some (.slice A0 k c0')) := Lib.hid fun W h => ⟨cell_up h zC c0, cell_up h zC c1, cell_up h zC c2, by first | exact cellA_of h p00 | (have h9 := cellA_of h p00; rwa [show ad0.add 0 = ad0 from rfl] at h9) | (have h9 := cellA_of h p00; cases ad0; exact h9)⟩
              clear hs0a hs0L lA0 es0 wj
              generalize (cntL n Z c.m).length = cq at HR hcl ⊢
              have hki : (k : Int) ≤ 12 := by omega
              go_wp2_with fail
              refine wp_region_M [] (fun w' => w'.cell? ⟨w.heap.size, 0, none⟩ = some (.slice c.d.RA c.d.n c.d.rc) ∧ w'.cell? ⟨w.heap.size, 1, none⟩ = some (.slice c.d.SA c.d.m c.d.sc) ∧ w'.cell? ⟨w.heap.size, 2, none⟩ = some (.slice c.MA c.m c.mc)) (by kernel_rfl) (by kernel_rfl) (by (try dsimp only); (repeat' apply And.intro); all_goals first | assumption | (go_simp; done)) (fun hT0 => ?_)
              refine M_take (v := ?_) 0 rfl (by kernel_rfl) (by assumption) (fun _ _ _ h => h) (Or.inl ⟨by rfl, ?_⟩) ?_
              rotate_left
              · (intro w hSw; (try dsimp only at hSw); go_simp; (try with_reducible rfl))
              (try simp only [Act.put, List.setIfInBounds_toArray, List.set_cons_zero, List.set_cons_succ])
              refine M_take (v := ?_) 1 rfl (by kernel_rfl) (by assumption) (fun _ _ _ h => h) (Or.inl ⟨by rfl, ?_⟩) ?_
              rotate_left
              · (intro w hSw; (try dsimp only at hSw); go_simp; (try with_reducible rfl))
              (try simp only [Act.put, List.setIfInBounds_toArray, List.set_cons_zero, List.set_cons_succ])
              refine M_take (v := ?_) 2 rfl (by kernel_rfl) (by assumption) (fun _ _ _ h => h) (Or.inl ⟨by rfl, ?_⟩) ?_
              rotate_left
              · (intro w hSw; (try dsimp only at hSw); go_simp; (try with_reducible rfl))
              (try simp only [Act.put, List.setIfInBounds_toArray, List.set_cons_zero, List.set_cons_succ])
              refine M_take (v := ?_) 3 rfl (by kernel_rfl) (by assumption) (fun _ _ _ h => h) (Or.inl ⟨by rfl, ?_⟩) ?_
              rotate_left
              · (intro w hSw; (try dsimp only at hSw); go_simp; (try with_reducible rfl))
              (try simp only [Act.put, List.setIfInBounds_toArray, List.set_cons_zero, List.set_cons_succ])
              refine M_take (v := ?_) 4 rfl (by kernel_rfl) (by assumption) (fun _ _ _ h => h) (Or.inl ⟨by rfl, ?_⟩) ?_
              rotate_left
              · (intro w hSw; (try dsimp only at hSw); go_simp; (try with_reducible rfl))
              (try simp only [Act.put, List.setIfInBounds_toArray, List.set_cons_zero, List.set_cons_succ])
              refine M_step 5 rfl (by kernel_rfl) (fun K hK => ?_)
              go_simp
              go_at_call 71
              refine (KE.out _ (nextB D.out (Below.refl _ _).drew)).mono ?_
              rintro e w7 ⟨B7, k7, N7, H7, rfl, hF7, hb7⟩
              have B7' := Lib.hid (show Below wr.heap.size wr w7 from nextB (Below.refl _ _).drew hb7)
              have F7 := Lib.hid hF7
              have hT7 : (fun w' => w'.cell? ⟨w.heap.size, 0, none⟩ = some (.slice c.d.RA c.d.n c.d.rc) ∧ w'.cell? ⟨w.heap.size, 1, none⟩ = some (.slice c.d.SA c.d.m c.d.sc) ∧ w'.cell? ⟨w.heap.size, 2, none⟩ = some (.slice c.MA c.m c.mc)) w7 := ⟨(CT.out w7 B7'.out).1, (CT.out w7 B7'.out).2.1, (CT.out w7 B7'.out).2.2.1⟩
              clear hb7 hF7
              refine hK.out _ _ (fun _ => hT7) ?_
              clear hK K
              (try simp only [Act.put, List.setIfInBounds_toArray, List.set_cons_zero, List.set_cons_succ])
              refine M_step 6 rfl (by kernel_rfl) (fun K hK => ?_)
              go_simp
              go_at_call 33
              refine (Feasible_any c.d B7 N7 k7 H7 R 0 w7 (CC.out w7 (nextB D.out B7'.out)).1 F7.out.2 F7.out.1).mono ?_
              rintro e w8 ⟨rfl, hb8⟩
              have B8 := Lib.hid (nextB B7'.out hb8)
              have hT8 : (fun w' => w'.cell? ⟨w.heap.size, 0, none⟩ = some (.slice c.d.RA c.d.n c.d.rc) ∧ w'.cell? ⟨w.heap.size, 1, none⟩ = some (.slice c.d.SA c.d.m c.d.sc) ∧ w'.cell? ⟨w.heap.size, 2, none⟩ = some (.slice c.MA c.m c.mc)) w8 := ⟨(CT.out w8 B8.out).1, (CT.out w8 B8.out).2.1, (CT.out w8 B8.out).2.2.1⟩
              clear hb8
              refine hK.out _ _ (fun _ => hT8) ?_
              clear hK K
              (try simp only [Act.put, List.setIfInBounds_toArray, List.set_cons_zero, List.set_cons_succ])
              refine M_take (v := ?_) 7 rfl (by kernel_rfl) (by assumption) (fun _ _ _ h => h) (Or.inl ⟨by rfl, ?_⟩) ?_
              rotate_left
              · (intro w hSw; (try dsimp only at hSw); go_simp; (try with_reducible rfl))
              (try simp only [Act.put, List.setIfInBounds_toArray, List.set_cons_zero, List.set_cons_succ])
              refine M_take (v := ?_) 8 rfl (by kernel_rfl) (by assumption) (fun _ _ _ h => h) (Or.inl ⟨by rfl, ?_⟩) ?_
              rotate_left
              · (intro w hSw; (try dsimp only at hSw); go_simp; (try with_reducible rfl))
              (try simp only [Act.put, List.setIfInBounds_toArray, List.set_cons_zero, List.set_cons_succ])
              refine M_take (v := ?_) 9 rfl (by kernel_rfl) (by assumption) (fun _ _ _ h => h) (Or.inl ⟨by rfl, ?_⟩) ?_
              rotate_left
              · (intro w hSw; (try dsimp only at hSw); go_simp; (try with_reducible rfl))
              (try simp only [Act.put, List.setIfInBounds_toArray, List.set_cons_zero, List.set_cons_succ])
              refine M_step 10 rfl (by kernel_rfl) (fun K hK => ?_)
              go_simp
              refine hK.out _ _ (fun _ => by assumption) ?_
              clear hK K
              (try simp only [Act.put, List.setIfInBounds_toArray, List.set_cons_zero, List.set_cons_succ])
              refine M_step 11 rfl (by kernel_rfl) (fun K hK => ?_)
              go_simp
              refine hK.out _ _ (fun _ => by assumption) ?_
              clear hK K
              (try simp only [Act.put, List.setIfInBounds_toArray, List.set_cons_zero, List.set_cons_succ])
              refine M_done (by kernel_rfl) ?_ _
              clear hT0 hT7 hT8 c0 c1 c2 zC p00
              obtain ⟨_, _, _, p00⟩ := CT.out w8 B8.out
              have D := Lib.hid (nextB D.out B8.out)
              cases R with
              | true =>
                have hkc : (k : Int) ≤ (cq : Int) := by have := HR.out rfl; omega
                have hkc2 := HR.out rfl
                go_wp2_with fail
                go_ret
                first | exact ⟨rfl, D.out⟩ | exact ⟨by simp [hkc], D.out⟩
              | false =>
                go_wp2_with fail
                go_ret
                exact ⟨rfl, D.out⟩
end Go.Proofs.Ytpikaohodieeaaa
