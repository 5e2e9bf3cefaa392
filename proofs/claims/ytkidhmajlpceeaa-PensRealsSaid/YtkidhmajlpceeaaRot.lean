/- The specification's offsets. -/
import Derived.Test.YtkidhmajlpceeaaRos
import Derived.Test.YtkidhmajlpceeaaMts
import Derived.Test.YtkidhmajlpceeaaJlw
import Derived.Test.YtkidhmajlpceeaaMvs
namespace Go.Proofs.Ytkidhmajlpceeaa
open Go.RowKit
set_option linter.unusedSimpArgs false
set_option linter.unusedVariables false
theorem RowM.spr {w wr : World} {F : Nat → Int × Int} {k : Nat} {v : Value} (h : RowM w 23 F k v wr) (hk : 1 ≤ k) : ∃ g cap, v = .slice (some ⟨g, 0, none⟩) k cap ∧ w.heap.size ≤ g ∧ SpR g k F wr := by
  obtain ⟨h0, hx | ⟨g, cap, cur, e1, e2, e3, e4⟩⟩ := id h.own
  · exact absurd hx.2 (by omega)
  · subst e1
    refine ⟨g, cap, rfl, e2, (Array.getElem?_eq_some_iff.1 e3).1, fun i hi => ?_, fun i hi => ?_, fun o => by simp [World.frozen?, e3]⟩
    · have h1 := h.own.cells (g := g) rfl _ _ (flatM_at ((List.range k).map F) i (F i) (by simp [hi])).1
      rwa [Addr.add_lit, Nat.zero_add] at h1
    · have h1 := h.own.cells (g := g) rfl _ _ (flatM_at ((List.range k).map F) i (F i) (by simp [hi])).2
      rwa [Addr.add_lit, Nat.zero_add] at h1
theorem frm_bd {p : Pn} {d : Int} (hb : 0 ≤ p.b ∧ p.b ≤ 8) (hr : 0 ≤ p.r ∧ p.r ≤ 12000) (hd : -100000 ≤ d ∧ d ≤ 100000) : Bd 150000 (frm p d) := by
  unfold Bd frm bo
  split
  · simp only; omega
  · simp only; omega
theorem ndd_bd {p : Pn} {d : Int} (hb : 0 ≤ p.b ∧ p.b ≤ 8) : Bd 8 (ndd p d) := by
  unfold Bd ndd
  split
  · simp only; omega
  · simp only; omega
theorem RF_bd {p : Pn} (h : p.Ok) (Z : Nat → Int) : ∀ k, Bd 8 (RF p Z k)
  | 0 => by have := h.b; show Bd 8 (-p.b, p.b); unfold Bd; simp only; omega
  | k + 1 => by
    have ih := RF_bd h Z k
    have hb := h.b
    have hr := h.r
    show Bd 8 (aft p (RF p Z k) _)
    unfold aft
    split
    · unfold Bd; decide
    · split
      · unfold Bd at ih ⊢; unfold bo; simp only; omega
      · split
        · unfold Bd; decide
        · exact ndd_bd hb
theorem RG_bd {p : Pn} (h : p.Ok) {Z : Nat → Int} {n : Nat} (hL : Lvs Z n) : ∀ d i, i + d + 1 = n → Bd 200000 (RG p Z n i)
  | 0, i, e => by
    obtain rfl : i = n - 1 := by omega
    rw [RG_last]
    exact (RF_bd h Z _).more (by omega)
  | d + 1, i, e => by
    have ih := RG_bd h hL d (i + 1) (by omega)
    have hf := RF_bd h Z i
    have hb := h.b
    have hr := h.r
    have z1 := hL i (by omega)
    have z2 := hL (i + 1) (by omega)
    have hm := frm_bd (d := Z (i + 1) - Z i) hb hr (by omega)
    rw [RG_step p Z n i (by omega)]
    have ha : -8 ≤ (bo (RF p Z i) (ahd p (RG p Z n (i + 1)) (Z (i + 1) - Z i))).1 ∧ (bo (RF p Z i) (ahd p (RG p Z n (i + 1)) (Z (i + 1) - Z i))).2 ≤ 8 := by
      unfold Bd at hf
      unfold bo
      simp only; omega
    have hc : (ahd p (RG p Z n (i + 1)) (Z (i + 1) - Z i)).1 ≤ 200000 ∧ -200000 ≤ (ahd p (RG p Z n (i + 1)) (Z (i + 1) - Z i)).2 := by
      unfold Bd at ih hm
      unfold ahd
      split
      · decide
      · split
        · simp only; omega
        · split
          · decide
          · omega
    unfold Bd at hf ⊢
    unfold bo at ha ⊢
    simp only at ha ⊢
    omega
def Sbk (p : Pn) (Z : Nat → Int) (n k i : Nat) : Int × Int := if k ≤ i then RG p Z n i else RF p Z i
theorem Sbk_last (p : Pn) (Z : Nat → Int) (n i : Nat) (hi : i < n) : Sbk p Z n (n - 1) i = RF p Z i := by
  unfold Sbk
  split
  · obtain rfl : i = n - 1 := by omega
    exact RG_last p Z n
  · rfl
theorem Sbk_succ (p : Pn) (Z : Nat → Int) (n k : Nat) (hk : k + 1 ≤ n - 1) : (fun i => if i = k then ((bo (RF p Z k) (ahd p (RG p Z n (k + 1)) (Z (k + 1) - Z k))).1, (bo (RF p Z k) (ahd p (RG p Z n (k + 1)) (Z (k + 1) - Z k))).2) else Sbk p Z n (k + 1) i) = Sbk p Z n k := by
  funext i
  by_cases hi : i = k
  · rw [if_pos hi, hi]
    unfold Sbk
    rw [if_pos (Nat.le_refl _), RG_step p Z n k hk]
  · rw [if_neg hi]
    unfold Sbk
    by_cases h2 : k + 1 ≤ i
    · rw [if_pos h2, if_pos (by omega)]
    · rw [if_neg h2, if_neg (by omega)]
def cellI (w : World) (b o : Nat) : Int := match w.cell? ⟨b, o, none⟩ with | some (.int .i64 x) => x | _ => 0
theorem cellI_is {w : World} {b o : Nat} {x : Int} (h : w.cell? ⟨b, o, none⟩ = some (.int .i64 x)) : cellI w b o = x := by unfold cellI; rw [h]
theorem cellI_ok {w : World} {b o : Nat} {x : Int} (h : w.cell? ⟨b, o, none⟩ = some (.int .i64 x)) : w.cell? ⟨b, o, none⟩ = some (.int .i64 (cellI w b o)) := by rw [cellI_is h]; exact h
/-- spans and true, or nothing and false -/
def ROPost (w : World) (n : Nat) (S : Nat → Int × Int) (G : Bool) (e : Ending) (w' : World) : Prop :=
  (G = true → ∃ g cap, e = .returned (.tuple #[.slice (some ⟨g, 0, none⟩) n cap, .bool true]) ∧ w.heap.size ≤ g ∧ SpR g n S w' ∧ Below w.heap.size w w') ∧ (G = false → e = .returned (.tuple #[.slice none 0 0, .bool false]) ∧ Below w.heap.size w w')
theorem least_nat {P : Nat → Prop} (h : ∃ j, P j) : ∃ j, P j ∧ ∀ i, i < j → ¬ P i := by
  obtain ⟨j, hj⟩ := h
  induction j using Nat.strongRecOn with
  | ind j ih =>
    by_cases hx : ∃ i, i < j ∧ P i
    · obtain ⟨i, hi, hp⟩ := hx
      exact ih i hi hp
    · exact ⟨j, hj, fun i hi hp => hx ⟨i, hi, hp⟩⟩
set_option maxRecDepth 100000 in
set_option maxHeartbeats 4000000 in
theorem Roffsets_any (p : Pn) (A : Option Addr) (n c : Nat) (Z : Nat → Int) (G : Bool) (w : World) (hin : IntsIn A n Z w.heap.size w) (h : p.Ok) (hl : LsOk Z n) (hG : G = true ↔ Ful (RG p Z n) n) :
    Calls Try.prog 80 #[p.v, .slice A n c] w fun e w' => ROPost w n (RG p Z n) G e w' := by
  obtain ⟨a, rfl, ab, c00⟩ := hin.2 0 (by have := hl.1; omega)
  have HIN := Lib.hid hin
  have HL := Lib.hid hl
  have hn1 := hl.1
  have hn2 := hl.2.1
  have H := Lib.hid h
  have HG := Lib.hid hG
  have hwb : IntKind.i64.wrap (-p.b) = -p.b := IntWalk.i64_in _ (by have := h.b; omega)
  have HWr : Hid (∀ x : Int, -1000000 ≤ x → x ≤ 1000000 → IntKind.i64.wrap x = x) := Lib.hid fun x h1 h2 => IntWalk.i64_in _ (by omega)
  obtain ⟨i0, hi0, hz0, hz1, hz2⟩ := info_parts Try.infoSpan
  clear hin hl h hG c00
  obtain ⟨w0, hw0⟩ : ∃ w0, w0 = (w.alloc (penO p)).alloc (.cells #[.int .i64 (-p.b), .int .i64 p.b] 23) := ⟨_, rfl⟩
  have s0 : w0.heap.size = w.heap.size + 1 + 1 := by rw [hw0]; simp only [World.size_alloc]
  have C0 : Hid (Below w.heap.size w w0) := Lib.hid (by rw [hw0]; exact box2 _ _ _)
  have P0 : Hid (HasPn p w.heap.size w0) := Lib.hid (by rw [hw0]; exact (pn_new w p.b p.lo p.hi p.r).up (box1 _ _) (by simp))
  have hown0 : (w0.alloc (.cells #[.int .i64 (-p.b), .int .i64 p.b] 23)).ownsRow w0.heap.size 23 2 (.slice (some ⟨w0.heap.size, 0, none⟩) 1 1) 1 (flatM ((List.range 1).map (RF p Z))) :=
    ⟨by simp [flatM], .inr ⟨w0.heap.size, 1, #[.int .i64 (-p.b), .int .i64 p.b], rfl, Nat.le_refl _, World.alloc_heap_new w0 _, by simp, by unfold maxLen; omega, by simp, by simp [flatM, RF]⟩⟩
  have R0 := Lib.hid (RowM.mk (box1 w0 _) hown0)
  have HW0 := Lib.hid hw0
  have HS0 := Lib.hid s0
  clear hown0 hw0 s0
  go_enter Try.func80, Try.ntmps80
  go_wp2_with fail
  rw [← HW0.out]
  rw [show w.heap.size + 1 + 1 = w0.heap.size by rw [HS0.out]]
  clear hwb HW0
  go_loopw [7, 8] (fun v i wr => ∃ k : Nat, k + 1 ≤ n ∧ i = .int .i64 ((k + 1 : Nat) : Int) ∧ RowM w0 23 (RF p Z) (k + 1) v wr) (fun _ i _ => n - (intOf i).toNat)
  case atStart => exact ⟨0, hn1, rfl, R0.out⟩
  case round =>
    obtain ⟨k, hk, rfl, hR⟩ := hrel
    obtain ⟨wo, rfl⟩ : ∃ wo : World, wo = wr := ⟨_, rfl⟩
    obtain ⟨g, cap, rfl, hg, hS⟩ := hR.spr (by omega)
    have C1 := Lib.hid (nextB C0.out hR.below)
    have P1 := Lib.hid (P0.out.up hR.below P0.out.lt)
    have HR := Lib.hid hR
    have hk0 : (0 : Int) ≤ ((k + 1 : Nat) : Int) := by omega
    have hsz := hR.below.size
    have hown := hR.own
    clear hR R0
    by_cases hlt : k + 1 < n
    · obtain ⟨a', e1, _, c1⟩ := (HIN.out.up C1.out (Nat.le_refl _)).2 (k + 1) hlt
      cases e1
      obtain ⟨a', e1, _, c2⟩ := (HIN.out.up C1.out (Nat.le_refl _)).2 k (by omega)
      cases e1
      have g0 := hS.c0 k (by omega)
      have g1 := hS.c1 k (by omega)
      have gl := hS.lt
      obtain ⟨x0, x1, x2, x3⟩ := P1.out
      have hki : ((k + 1 : Nat) : Int) < (n : Int) := by omega
      have hkm : ((k : Nat) : Int) < (n : Int) := by omega
      have hkp : (0 : Int) ≤ (k : Int) := by omega
      have hkq : (k : Int) < ((k + 1 : Nat) : Int) := by omega
      have l1 := HL.out.2.2 (k + 1) hlt
      have l2 := HL.out.2.2 k (by omega)
      have u1 : IntKind.i64.wrap (((k + 1 : Nat) : Int) - 1) = (k : Int) := by rw [show ((k + 1 : Nat) : Int) - 1 = (k : Int) by omega]; exact HWr.out _ (by omega) (by omega)
      have u2 : IntKind.i64.wrap (Z (k + 1) - Z k) = Z (k + 1) - Z k := HWr.out _ (by omega) (by omega)
      have eF : RF p Z (k + 1) = aft p (RF p Z k) (Z (k + 1) - Z k) := rfl
      have KA := Lib.hid fun W => Rafter_any p (RF p Z k) (Z (k + 1) - Z k) W H.out.b H.out.r (by omega) ((RF_bd H.out Z k).more (by omega))
      rw [← eF] at KA
      clear eF l1 l2 hS
      obtain ⟨X, hX⟩ : ∃ X, X = RF p Z (k + 1) := ⟨_, rfl⟩
      rw [← hX] at KA
      have HX := Lib.hid hX
      clear hX
      obtain ⟨X0, X1⟩ := X
      generalize hzk : Z k = zk at *
      generalize hzk1 : Z (k + 1) = zk1 at *
      generalize hrf : RF p Z k = rf at *
      obtain ⟨rf0, rf1⟩ := rf
      clear hzk hzk1 hrf
      generalize hs : k + 1 = s at *
      have HSS := Lib.hid hs
      clear hs
      go_wp2_with fail
      have zp := World.block_lt_of_cell? _ _ x0
      have az1 := World.block_lt_of_cell? _ _ c1
      have az2 := World.block_lt_of_cell? _ _ c2
      refine wp_region_M [19, 20] (fun w' => w'.cell? ⟨g, k * 2, none⟩ = some (.int .i64 rf0) ∧ w'.cell? ⟨g, k * 2 + 1, none⟩ = some (.int .i64 rf1) ∧ w'.cell? ⟨w.heap.size, 0, none⟩ = some (.int .i64 (p.b)) ∧ w'.cell? ⟨w.heap.size, 1, none⟩ = some (.int .i64 (p.lo)) ∧ w'.cell? ⟨w.heap.size, 2, none⟩ = some (.int .i64 (p.hi)) ∧ w'.cell? ⟨w.heap.size, 3, none⟩ = some (.int .i64 (p.r)) ∧ w'.cell? (a.add s) = some (.int .i64 zk1) ∧ w'.cell? (a.add k) = some (.int .i64 zk)) (by kernel_rfl) (by (try dsimp only); (repeat' apply And.intro); all_goals first | assumption | (go_simp; done)) (fun hT0 => ?_)
      refine M_take (v := ?_) 0 rfl (by kernel_rfl) (by assumption) (fun _ _ _ h => h) (Or.inl ⟨by rfl, ?_⟩) ?_
      rotate_left
      · (intro w hSw; (try dsimp only at hSw); go_simp; (try with_reducible rfl))
      (try simp only [Act.put, List.setIfInBounds_toArray, List.set_cons_zero, List.set_cons_succ])
      refine M_take (v := ?_) 1 rfl (by kernel_rfl) (by assumption) (fun _ _ _ h => h) (Or.inl ⟨by rfl, ?_⟩) ?_
      rotate_left
      · (intro w hSw; (try dsimp only at hSw); go_simp; (try with_reducible rfl))
      (try simp only [Act.put, List.setIfInBounds_toArray, List.set_cons_zero, List.set_cons_succ])
      refine M_take (v := ?_) 2 rfl (by kernel_rfl) (by assumption) (fun _ _ _ h => h) (Or.inl ⟨by rfl, ?_⟩) ?_
      rotate_left
      · (intro w hSw; (try dsimp only at hSw); go_simp; (try with_reducible rfl))
      (try simp only [Act.put, List.setIfInBounds_toArray, List.set_cons_zero, List.set_cons_succ])
      refine M_take (v := ?_) 3 rfl (by kernel_rfl) (by assumption) (fun _ _ _ h => h) (Or.inl ⟨by rfl, ?_⟩) ?_
      rotate_left
      · (intro w hSw; (try dsimp only at hSw); go_simp; (try with_reducible rfl))
      (try simp only [Act.put, List.setIfInBounds_toArray, List.set_cons_zero, List.set_cons_succ])
      refine M_take (v := ?_) 4 rfl (by kernel_rfl) (by assumption) (fun _ _ _ h => h) (Or.inl ⟨by rfl, ?_⟩) ?_
      rotate_left
      · (intro w hSw; (try dsimp only at hSw); go_simp; (try with_reducible rfl))
      (try simp only [Act.put, List.setIfInBounds_toArray, List.set_cons_zero, List.set_cons_succ])
      refine M_take (v := ?_) 5 rfl (by kernel_rfl) (by assumption) (fun _ _ _ h => h) (Or.inl ⟨by rfl, ?_⟩) ?_
      rotate_left
      · (intro w hSw; (try dsimp only at hSw); go_simp; (try with_reducible rfl))
      (try simp only [Act.put, List.setIfInBounds_toArray, List.set_cons_zero, List.set_cons_succ])
      refine M_take (v := ?_) 6 rfl (by kernel_rfl) (by assumption) (fun _ _ _ h => h) (Or.inl ⟨by rfl, ?_⟩) ?_
      rotate_left
      · (intro w hSw; (try dsimp only at hSw); go_simp; (try with_reducible rfl))
      (try simp only [Act.put, List.setIfInBounds_toArray, List.set_cons_zero, List.set_cons_succ])
      refine M_take (v := ?_) 7 rfl (by kernel_rfl) (by assumption) (fun _ _ _ h => h) (Or.inl ⟨by rfl, ?_⟩) ?_
      rotate_left
      · (intro w hSw; (try dsimp only at hSw); go_simp; (try with_reducible rfl))
      (try simp only [Act.put, List.setIfInBounds_toArray, List.set_cons_zero, List.set_cons_succ])
      refine M_take (v := ?_) 8 rfl (by kernel_rfl) (by assumption) (fun _ _ _ h => h) (Or.inl ⟨by rfl, ?_⟩) ?_
      rotate_left
      · (intro w hSw; (try dsimp only at hSw); go_simp; (try with_reducible rfl))
      (try simp only [Act.put, List.setIfInBounds_toArray, List.set_cons_zero, List.set_cons_succ])
      refine M_take (v := ?_) 9 rfl (by kernel_rfl) (by assumption) (fun _ _ _ h => h) (Or.inl ⟨by rfl, ?_⟩) ?_
      rotate_left
      · (intro w hSw; (try dsimp only at hSw); go_simp; (try with_reducible rfl))
      (try simp only [Act.put, List.setIfInBounds_toArray, List.set_cons_zero, List.set_cons_succ])
      refine M_take (v := ?_) 10 rfl (by kernel_rfl) (by assumption) (fun _ _ _ h => h) (Or.inl ⟨by rfl, ?_⟩) ?_
      rotate_left
      · (intro w hSw; (try dsimp only at hSw); go_simp; (try with_reducible rfl))
      (try simp only [Act.put, List.setIfInBounds_toArray, List.set_cons_zero, List.set_cons_succ])
      refine M_take (v := ?_) 11 rfl (by kernel_rfl) (by assumption) (fun _ _ _ h => h) (Or.inl ⟨by rfl, ?_⟩) ?_
      rotate_left
      · (intro w hSw; (try dsimp only at hSw); go_simp; (try with_reducible rfl))
      (try simp only [Act.put, List.setIfInBounds_toArray, List.set_cons_zero, List.set_cons_succ])
      refine M_take (v := ?_) 12 rfl (by kernel_rfl) (by assumption) (fun _ _ _ h => h) (Or.inl ⟨by rfl, ?_⟩) ?_
      rotate_left
      · (intro w hSw; (try dsimp only at hSw); go_simp; (try with_reducible rfl))
      (try simp only [Act.put, List.setIfInBounds_toArray, List.set_cons_zero, List.set_cons_succ])
      refine M_take (v := ?_) 13 rfl (by kernel_rfl) (by assumption) (fun _ _ _ h => h) (Or.inl ⟨by rfl, ?_⟩) ?_
      rotate_left
      · (intro w hSw; (try dsimp only at hSw); go_simp; (try with_reducible rfl))
      (try simp only [Act.put, List.setIfInBounds_toArray, List.set_cons_zero, List.set_cons_succ])
      refine M_take (v := ?_) 14 rfl (by kernel_rfl) (by assumption) (fun _ _ _ h => h) (Or.inl ⟨by rfl, ?_⟩) ?_
      rotate_left
      · (intro w hSw; (try dsimp only at hSw); go_simp; (try with_reducible rfl))
      (try simp only [Act.put, List.setIfInBounds_toArray, List.set_cons_zero, List.set_cons_succ])
      refine M_take (v := ?_) 15 rfl (by kernel_rfl) (by assumption) (fun _ _ _ h => h) (Or.inl ⟨by rfl, ?_⟩) ?_
      rotate_left
      · (intro w hSw; (try dsimp only at hSw); go_simp; (try with_reducible rfl))
      (try simp only [Act.put, List.setIfInBounds_toArray, List.set_cons_zero, List.set_cons_succ])
      refine M_take (v := ?_) 16 rfl (by kernel_rfl) (by assumption) (fun _ _ _ h => h) (Or.inl ⟨by rfl, ?_⟩) ?_
      rotate_left
      · (intro w hSw; (try dsimp only at hSw); go_simp; (try with_reducible rfl))
      (try simp only [Act.put, List.setIfInBounds_toArray, List.set_cons_zero, List.set_cons_succ])
      refine M_step 17 rfl (by kernel_rfl) (fun K hK => ?_)
      go_simp
      go_at_call 102
      refine (KA.out _).mono ?_
      rintro e wA ⟨rfl, hbA⟩
      have DA := Lib.hid (show Below wo.heap.size wo wA from nextB (Below.refl _ _).drew hbA)
      have ys := DA.out.size
      have hownA := own_keep hown DA.out
      have hTA : (fun w' => w'.cell? ⟨g, k * 2, none⟩ = some (.int .i64 rf0) ∧ w'.cell? ⟨g, k * 2 + 1, none⟩ = some (.int .i64 rf1) ∧ w'.cell? ⟨w.heap.size, 0, none⟩ = some (.int .i64 (p.b)) ∧ w'.cell? ⟨w.heap.size, 1, none⟩ = some (.int .i64 (p.lo)) ∧ w'.cell? ⟨w.heap.size, 2, none⟩ = some (.int .i64 (p.hi)) ∧ w'.cell? ⟨w.heap.size, 3, none⟩ = some (.int .i64 (p.r)) ∧ w'.cell? (a.add s) = some (.int .i64 zk1) ∧ w'.cell? (a.add k) = some (.int .i64 zk)) wA := ⟨cell_up DA.out gl g0, cell_up DA.out gl g1, cell_up DA.out zp x0, cell_up DA.out zp x1, cell_up DA.out zp x2, cell_up DA.out zp x3, (DA.out.cell az1).trans c1, (DA.out.cell az2).trans c2⟩
      clear hbA hT0
      refine hK.out _ _ (fun _ => hTA) ?_
      clear hK K
      (try simp only [Act.put, List.setIfInBounds_toArray, List.set_cons_zero, List.set_cons_succ])
      refine M_step 18 rfl (by kernel_rfl) (fun K hK => ?_)
      go_simp
      have D8 := Lib.hid (nextB DA.out (box1 wA (.cells #[.int .i64 X0, .int .i64 X1] 23)))
      have hT8 : (fun w' => w'.cell? ⟨g, k * 2, none⟩ = some (.int .i64 rf0) ∧ w'.cell? ⟨g, k * 2 + 1, none⟩ = some (.int .i64 rf1) ∧ w'.cell? ⟨w.heap.size, 0, none⟩ = some (.int .i64 (p.b)) ∧ w'.cell? ⟨w.heap.size, 1, none⟩ = some (.int .i64 (p.lo)) ∧ w'.cell? ⟨w.heap.size, 2, none⟩ = some (.int .i64 (p.hi)) ∧ w'.cell? ⟨w.heap.size, 3, none⟩ = some (.int .i64 (p.r)) ∧ w'.cell? (a.add s) = some (.int .i64 zk1) ∧ w'.cell? (a.add k) = some (.int .i64 zk)) (wA.alloc (.cells #[.int .i64 X0, .int .i64 X1] 23)) := ⟨cell_up D8.out gl g0, cell_up D8.out gl g1, cell_up D8.out zp x0, cell_up D8.out zp x1, cell_up D8.out zp x2, cell_up D8.out zp x3, (D8.out.cell az1).trans c1, (D8.out.cell az2).trans c2⟩
      refine hK.out _ _ (fun _ => hT8) ?_
      clear hK K
      (try simp only [Act.put, List.setIfInBounds_toArray, List.set_cons_zero, List.set_cons_succ])
      refine M_step 19 rfl (by kernel_rfl) (fun K hK => ?_)
      refine step_append_own rfl (.tmp 25) (.tmp 43) 48 rfl w0.heap.size 23 i0 (.agg #[.int .i64 0, .int .i64 0]) 2 16 Try.underlying48 hi0 hz0 hz1 hz2 rfl (by decide) _ s _ (by simp [Act.eval]) (hownA.alloc _) ⟨wA.heap.size, 0, none⟩ 1 1 [.int .i64 X0, .int .i64 X1] (by simp [Act.eval]) rfl (new2 wA _ _ _) (by simp [Value.oneCell']) (by unfold maxLen; omega) (by omega) (by simp only [World.size_alloc]; omega) ?_
      intro v2 w2 hown2 hg2
      refine hK.out _ _ (fun e => by cases e) ?_
      clear hK K
      (try simp only [Act.put, List.setIfInBounds_toArray, List.set_cons_zero, List.set_cons_succ])
      refine M_step 20 rfl (by kernel_rfl) (fun K hK => ?_)
      go_simp
      refine hK.out _ _ (fun e => by cases e) ?_
      clear hK K
      (try simp only [Act.put, List.setIfInBounds_toArray, List.set_cons_zero, List.set_cons_succ])
      refine M_done (by kernel_rfl) ?_ _
      have eF : RF p Z s = (X0, X1) := HX.out.symm
      have NN := Lib.hid (HR.out.app (nextB DA.out (box1 _ _)) hg2 (by rw [eF]; exact hown2))
      clear hg2 hown2 hown hownA eF hTA hT8
      go_wp2_with fail
      go_roundw
      case rel => exact ⟨s, by omega, by go_num, NN.out⟩
      case measure => simp [intOf]; omega
    · have hkn : k + 1 = n := by omega
      have hki : (n : Int) ≤ ((k + 1 : Nat) : Int) := by omega
      have PB : Hid (HasPn p w.heap.size wo) := P1
      rw [hkn] at hS
      have S0 : SpR g n (Sbk p Z n (n - 1)) wo := ⟨hS.lt, fun i hi => by rw [Sbk_last p Z n i hi]; exact hS.c0 i hi, fun i hi => by rw [Sbk_last p Z n i hi]; exact hS.c1 i hi, hS.f⟩
      have HS1 := Lib.hid S0
      have hgw : w.heap.size < g := by have := HS0.out; omega
      have HNA : Hid (a.block ≠ g) := Lib.hid (by have := HS0.out; omega)
      have w1' : IntKind.i64.wrap ((n : Int) - 1) = ((n - 1 : Nat) : Int) := by rw [show (n : Int) - 1 = ((n - 1 : Nat) : Int) by omega]; exact HWr.out _ (by omega) (by omega)
      clear hS S0 hown
      rw [hkn] at hki ⊢
      clear hkn
      go_wp2_with fail
      go_loopw [9] (fun i wr => ∃ k : Nat, k + 1 ≤ n ∧ i = .int .i64 (k : Int) ∧ SpR g n (Sbk p Z n k) wr ∧ HasPn p w.heap.size wr ∧ Below w.heap.size w wr) (fun i _ => (intOf i).toNat)
      case atStart => exact ⟨n - 1, by omega, rfl, HS1.out, PB.out, C1.out⟩
      case round =>
        obtain ⟨m, hm, rfl, hS, hP, hB⟩ := hrel
        obtain ⟨w2, rfl⟩ : ∃ w2 : World, w2 = wr := ⟨_, rfl⟩
        have hm0 : (0 : Int) ≤ (m : Int) := by omega
        by_cases hlt : 0 < m
        · obtain ⟨k2, rfl⟩ : ∃ k2, m = k2 + 1 := ⟨m - 1, by omega⟩
          obtain ⟨a', e1, _, c1⟩ := (HIN.out.up hB (Nat.le_refl _)).2 (k2 + 1) (by omega)
          cases e1
          obtain ⟨a', e1, _, c2⟩ := (HIN.out.up hB (Nat.le_refl _)).2 k2 (by omega)
          cases e1
          have eS1 : Sbk p Z n (k2 + 1) (k2 + 1) = RG p Z n (k2 + 1) := by unfold Sbk; rw [if_pos (Nat.le_refl _)]
          have eS0 : Sbk p Z n (k2 + 1) k2 = RF p Z k2 := by unfold Sbk; rw [if_neg (by omega)]
          have g0 := hS.c0 k2 (by omega)
          have g1 := hS.c1 k2 (by omega)
          have g2 := hS.c0 (k2 + 1) (by omega)
          have g3 := hS.c1 (k2 + 1) (by omega)
          rw [eS0] at g0 g1
          rw [eS1] at g2 g3
          have f0 := hS.f (k2 * 2)
          have f1 := hS.f (k2 * 2 + 1)
          have gl := hS.lt
          obtain ⟨x0, x1, x2, x3⟩ := hP
          have zp := World.block_lt_of_cell? _ _ x0
          have hki : ((k2 + 1 : Nat) : Int) < (n : Int) := by omega
          have hkm : (k2 : Int) < (n : Int) := by omega
          have hkp : (0 : Int) ≤ (k2 : Int) := by omega
          have hk1 : decide (((k2 + 1 : Nat) : Int) > 0) = true := decide_eq_true (by omega)
          have l1 := HL.out.2.2 (k2 + 1) (by omega)
          have l2 := HL.out.2.2 k2 (by omega)
          have u1 : IntKind.i64.wrap (((k2 + 1 : Nat) : Int) - 1) = (k2 : Int) := by rw [show ((k2 + 1 : Nat) : Int) - 1 = (k2 : Int) by omega]; exact HWr.out _ (by omega) (by omega)
          have u2 : IntKind.i64.wrap (Z (k2 + 1) - Z k2) = Z (k2 + 1) - Z k2 := HWr.out _ (by omega) (by omega)
          have KA := Lib.hid fun W => Rahead_any p (RG p Z n (k2 + 1)) (Z (k2 + 1) - Z k2) W H.out.b H.out.r (by omega) ((RG_bd H.out HL.out.2.2 (n - 1 - (k2 + 1)) (k2 + 1) (by omega)).more (by omega))
          have KB := Lib.hid fun x y W => Rboth_any x y (ahd p (RG p Z n (k2 + 1)) (Z (k2 + 1) - Z k2)).1 (ahd p (RG p Z n (k2 + 1)) (Z (k2 + 1) - Z k2)).2 W
          have HST := Lib.hid (Sbk_succ p Z n k2 (by omega))
          have HSS2 := Lib.hid hS
          have HB := Lib.hid hB
          have HPP := Lib.hid (show HasPn p w.heap.size w2 from ⟨x0, x1, x2, x3⟩)
          generalize ahd p (RG p Z n (k2 + 1)) (Z (k2 + 1) - Z k2) = ah at *
          generalize RF p Z k2 = rf at *
          generalize RG p Z n (k2 + 1) = rg at *
          generalize hzk : Z k2 = zk at *
          generalize hzk1 : Z (k2 + 1) = zk1 at *
          obtain ⟨rf0, rf1⟩ := rf
          obtain ⟨rg0, rg1⟩ := rg
          obtain ⟨ah0, ah1⟩ := ah
          clear hzk hzk1 l1 l2 eS0 eS1 hS hB HIN HL H HG
          generalize hs : k2 + 1 = s at *
          have HSS := Lib.hid hs
          clear hs
          go_wp2_with fail
          have na : a.block ≠ g := HNA.out
          have az1 : (a.add s).block < w2.heap.size := World.block_lt_of_cell? _ _ c1
          have az2 : (a.add k2).block < w2.heap.size := World.block_lt_of_cell? _ _ c2
          have nb1 : (a.add s).block ≠ g := by rw [add_block]; exact na
          have nb2 : (a.add k2).block ≠ g := by rw [add_block]; exact na
          have ng : w.heap.size ≠ g := by omega
          refine wp_region_M [26] (fun w' => w'.cell? ⟨g, k2 * 2, none⟩ = some (.int .i64 rf0) ∧ w'.cell? ⟨g, k2 * 2 + 1, none⟩ = some (.int .i64 rf1) ∧ w'.cell? ⟨g, s * 2, none⟩ = some (.int .i64 rg0) ∧ w'.cell? ⟨g, s * 2 + 1, none⟩ = some (.int .i64 rg1) ∧ w'.cell? ⟨w.heap.size, 0, none⟩ = some (.int .i64 (p.b)) ∧ w'.cell? ⟨w.heap.size, 1, none⟩ = some (.int .i64 (p.lo)) ∧ w'.cell? ⟨w.heap.size, 2, none⟩ = some (.int .i64 (p.hi)) ∧ w'.cell? ⟨w.heap.size, 3, none⟩ = some (.int .i64 (p.r)) ∧ w'.cell? (a.add s) = some (.int .i64 zk1) ∧ w'.cell? (a.add k2) = some (.int .i64 zk)) (by kernel_rfl) (by (try dsimp only); (repeat' apply And.intro); all_goals first | assumption | (go_simp; done)) (fun hT0 => ?_)
          refine M_take (v := ?_) 0 rfl (by kernel_rfl) (by assumption) (fun _ _ _ h => h) (Or.inl ⟨by rfl, ?_⟩) ?_
          rotate_left
          · (intro w hSw; (try dsimp only at hSw); go_simp; (try with_reducible rfl))
          (try simp only [Act.put, List.setIfInBounds_toArray, List.set_cons_zero, List.set_cons_succ])
          refine M_take (v := ?_) 1 rfl (by kernel_rfl) (by assumption) (fun _ _ _ h => h) (Or.inl ⟨by rfl, ?_⟩) ?_
          rotate_left
          · (intro w hSw; (try dsimp only at hSw); go_simp; (try with_reducible rfl))
          (try simp only [Act.put, List.setIfInBounds_toArray, List.set_cons_zero, List.set_cons_succ])
          refine M_take (v := ?_) 2 rfl (by kernel_rfl) (by assumption) (fun _ _ _ h => h) (Or.inl ⟨by rfl, ?_⟩) ?_
          rotate_left
          · (intro w hSw; (try dsimp only at hSw); go_simp; (try with_reducible rfl))
          (try simp only [Act.put, List.setIfInBounds_toArray, List.set_cons_zero, List.set_cons_succ])
          refine M_take (v := ?_) 3 rfl (by kernel_rfl) (by assumption) (fun _ _ _ h => h) (Or.inl ⟨by rfl, ?_⟩) ?_
          rotate_left
          · (intro w hSw; (try dsimp only at hSw); go_simp; (try with_reducible rfl))
          (try simp only [Act.put, List.setIfInBounds_toArray, List.set_cons_zero, List.set_cons_succ])
          refine M_take (v := ?_) 4 rfl (by kernel_rfl) (by assumption) (fun _ _ _ h => h) (Or.inl ⟨by rfl, ?_⟩) ?_
          rotate_left
          · (intro w hSw; (try dsimp only at hSw); go_simp; (try with_reducible rfl))
          (try simp only [Act.put, List.setIfInBounds_toArray, List.set_cons_zero, List.set_cons_succ])
          refine M_take (v := ?_) 5 rfl (by kernel_rfl) (by assumption) (fun _ _ _ h => h) (Or.inl ⟨by rfl, ?_⟩) ?_
          rotate_left
          · (intro w hSw; (try dsimp only at hSw); go_simp; (try with_reducible rfl))
          (try simp only [Act.put, List.setIfInBounds_toArray, List.set_cons_zero, List.set_cons_succ])
          refine M_take (v := ?_) 6 rfl (by kernel_rfl) (by assumption) (fun _ _ _ h => h) (Or.inl ⟨by rfl, ?_⟩) ?_
          rotate_left
          · (intro w hSw; (try dsimp only at hSw); go_simp; (try with_reducible rfl))
          (try simp only [Act.put, List.setIfInBounds_toArray, List.set_cons_zero, List.set_cons_succ])
          refine M_take (v := ?_) 7 rfl (by kernel_rfl) (by assumption) (fun _ _ _ h => h) (Or.inl ⟨by rfl, ?_⟩) ?_
          rotate_left
          · (intro w hSw; (try dsimp only at hSw); go_simp; (try with_reducible rfl))
          (try simp only [Act.put, List.setIfInBounds_toArray, List.set_cons_zero, List.set_cons_succ])
          refine M_take (v := ?_) 8 rfl (by kernel_rfl) (by assumption) (fun _ _ _ h => h) (Or.inl ⟨by rfl, ?_⟩) ?_
          rotate_left
          · (intro w hSw; (try dsimp only at hSw); go_simp; (try with_reducible rfl))
          (try simp only [Act.put, List.setIfInBounds_toArray, List.set_cons_zero, List.set_cons_succ])
          refine M_take (v := ?_) 9 rfl (by kernel_rfl) (by assumption) (fun _ _ _ h => h) (Or.inl ⟨by rfl, ?_⟩) ?_
          rotate_left
          · (intro w hSw; (try dsimp only at hSw); go_simp; (try with_reducible rfl))
          (try simp only [Act.put, List.setIfInBounds_toArray, List.set_cons_zero, List.set_cons_succ])
          refine M_take (v := ?_) 10 rfl (by kernel_rfl) (by assumption) (fun _ _ _ h => h) (Or.inl ⟨by rfl, ?_⟩) ?_
          rotate_left
          · (intro w hSw; (try dsimp only at hSw); go_simp; (try with_reducible rfl))
          (try simp only [Act.put, List.setIfInBounds_toArray, List.set_cons_zero, List.set_cons_succ])
          refine M_take (v := ?_) 11 rfl (by kernel_rfl) (by assumption) (fun _ _ _ h => h) (Or.inl ⟨by rfl, ?_⟩) ?_
          rotate_left
          · (intro w hSw; (try dsimp only at hSw); go_simp; (try with_reducible rfl))
          (try simp only [Act.put, List.setIfInBounds_toArray, List.set_cons_zero, List.set_cons_succ])
          refine M_take (v := ?_) 12 rfl (by kernel_rfl) (by assumption) (fun _ _ _ h => h) (Or.inl ⟨by rfl, ?_⟩) ?_
          rotate_left
          · (intro w hSw; (try dsimp only at hSw); go_simp; (try with_reducible rfl))
          (try simp only [Act.put, List.setIfInBounds_toArray, List.set_cons_zero, List.set_cons_succ])
          refine M_take (v := ?_) 13 rfl (by kernel_rfl) (by assumption) (fun _ _ _ h => h) (Or.inl ⟨by rfl, ?_⟩) ?_
          rotate_left
          · (intro w hSw; (try dsimp only at hSw); go_simp; (try with_reducible rfl))
          (try simp only [Act.put, List.setIfInBounds_toArray, List.set_cons_zero, List.set_cons_succ])
          refine M_take (v := ?_) 14 rfl (by kernel_rfl) (by assumption) (fun _ _ _ h => h) (Or.inl ⟨by rfl, ?_⟩) ?_
          rotate_left
          · (intro w hSw; (try dsimp only at hSw); go_simp; (try with_reducible rfl))
          (try simp only [Act.put, List.setIfInBounds_toArray, List.set_cons_zero, List.set_cons_succ])
          refine M_take (v := ?_) 15 rfl (by kernel_rfl) (by assumption) (fun _ _ _ h => h) (Or.inl ⟨by rfl, ?_⟩) ?_
          rotate_left
          · (intro w hSw; (try dsimp only at hSw); go_simp; (try with_reducible rfl))
          (try simp only [Act.put, List.setIfInBounds_toArray, List.set_cons_zero, List.set_cons_succ])
          refine M_take (v := ?_) 16 rfl (by kernel_rfl) (by assumption) (fun _ _ _ h => h) (Or.inl ⟨by rfl, ?_⟩) ?_
          rotate_left
          · (intro w hSw; (try dsimp only at hSw); go_simp; (try with_reducible rfl))
          (try simp only [Act.put, List.setIfInBounds_toArray, List.set_cons_zero, List.set_cons_succ])
          refine M_take (v := ?_) 17 rfl (by kernel_rfl) (by assumption) (fun _ _ _ h => h) (Or.inl ⟨by rfl, ?_⟩) ?_
          rotate_left
          · (intro w hSw; (try dsimp only at hSw); go_simp; (try with_reducible rfl))
          (try simp only [Act.put, List.setIfInBounds_toArray, List.set_cons_zero, List.set_cons_succ])
          refine M_take (v := ?_) 18 rfl (by kernel_rfl) (by assumption) (fun _ _ _ h => h) (Or.inl ⟨by rfl, ?_⟩) ?_
          rotate_left
          · (intro w hSw; (try dsimp only at hSw); go_simp; (try with_reducible rfl))
          (try simp only [Act.put, List.setIfInBounds_toArray, List.set_cons_zero, List.set_cons_succ])
          refine M_take (v := ?_) 19 rfl (by kernel_rfl) (by assumption) (fun _ _ _ h => h) (Or.inl ⟨by rfl, ?_⟩) ?_
          rotate_left
          · (intro w hSw; (try dsimp only at hSw); go_simp; (try with_reducible rfl))
          (try simp only [Act.put, List.setIfInBounds_toArray, List.set_cons_zero, List.set_cons_succ])
          refine M_take (v := ?_) 20 rfl (by kernel_rfl) (by assumption) (fun _ _ _ h => h) (Or.inl ⟨by rfl, ?_⟩) ?_
          rotate_left
          · (intro w hSw; (try dsimp only at hSw); go_simp; (try with_reducible rfl))
          (try simp only [Act.put, List.setIfInBounds_toArray, List.set_cons_zero, List.set_cons_succ])
          refine M_take (v := ?_) 21 rfl (by kernel_rfl) (by assumption) (fun _ _ _ h => h) (Or.inl ⟨by rfl, ?_⟩) ?_
          rotate_left
          · (intro w hSw; (try dsimp only at hSw); go_simp; (try with_reducible rfl))
          (try simp only [Act.put, List.setIfInBounds_toArray, List.set_cons_zero, List.set_cons_succ])
          refine M_take (v := ?_) 22 rfl (by kernel_rfl) (by assumption) (fun _ _ _ h => h) (Or.inl ⟨by rfl, ?_⟩) ?_
          rotate_left
          · (intro w hSw; (try dsimp only at hSw); go_simp; (try with_reducible rfl))
          (try simp only [Act.put, List.setIfInBounds_toArray, List.set_cons_zero, List.set_cons_succ])
          refine M_step 23 rfl (by kernel_rfl) (fun K hK => ?_)
          go_simp
          go_at_call 103
          refine (KA.out _).mono ?_
          rintro e wA ⟨rfl, hbA⟩
          have DA := Lib.hid (show Below w2.heap.size w2 wA from nextB (Below.refl _ _).drew hbA)
          have hTA : (fun w' => w'.cell? ⟨g, k2 * 2, none⟩ = some (.int .i64 rf0) ∧ w'.cell? ⟨g, k2 * 2 + 1, none⟩ = some (.int .i64 rf1) ∧ w'.cell? ⟨g, s * 2, none⟩ = some (.int .i64 rg0) ∧ w'.cell? ⟨g, s * 2 + 1, none⟩ = some (.int .i64 rg1) ∧ w'.cell? ⟨w.heap.size, 0, none⟩ = some (.int .i64 (p.b)) ∧ w'.cell? ⟨w.heap.size, 1, none⟩ = some (.int .i64 (p.lo)) ∧ w'.cell? ⟨w.heap.size, 2, none⟩ = some (.int .i64 (p.hi)) ∧ w'.cell? ⟨w.heap.size, 3, none⟩ = some (.int .i64 (p.r)) ∧ w'.cell? (a.add s) = some (.int .i64 zk1) ∧ w'.cell? (a.add k2) = some (.int .i64 zk)) wA := ⟨cell_up DA.out gl g0, cell_up DA.out gl g1, cell_up DA.out gl g2, cell_up DA.out gl g3, cell_up DA.out zp x0, cell_up DA.out zp x1, cell_up DA.out zp x2, cell_up DA.out zp x3, (DA.out.cell az1).trans c1, (DA.out.cell az2).trans c2⟩
          clear hbA hT0
          refine hK.out _ _ (fun _ => hTA) ?_
          clear hK K
          (try simp only [Act.put, List.setIfInBounds_toArray, List.set_cons_zero, List.set_cons_succ])
          refine M_step 24 rfl (by kernel_rfl) (fun K hK => ?_)
          go_simp
          go_at_call 86
          refine (KB.out _ _ _).mono ?_
          rintro e wB ⟨rfl, hbB⟩
          have DB := Lib.hid (show Below w2.heap.size w2 wB from nextB DA.out hbB)
          have hTB : (fun w' => w'.cell? ⟨g, k2 * 2, none⟩ = some (.int .i64 rf0) ∧ w'.cell? ⟨g, k2 * 2 + 1, none⟩ = some (.int .i64 rf1) ∧ w'.cell? ⟨g, s * 2, none⟩ = some (.int .i64 rg0) ∧ w'.cell? ⟨g, s * 2 + 1, none⟩ = some (.int .i64 rg1) ∧ w'.cell? ⟨w.heap.size, 0, none⟩ = some (.int .i64 (p.b)) ∧ w'.cell? ⟨w.heap.size, 1, none⟩ = some (.int .i64 (p.lo)) ∧ w'.cell? ⟨w.heap.size, 2, none⟩ = some (.int .i64 (p.hi)) ∧ w'.cell? ⟨w.heap.size, 3, none⟩ = some (.int .i64 (p.r)) ∧ w'.cell? (a.add s) = some (.int .i64 zk1) ∧ w'.cell? (a.add k2) = some (.int .i64 zk)) wB := ⟨cell_up DB.out gl g0, cell_up DB.out gl g1, cell_up DB.out gl g2, cell_up DB.out gl g3, cell_up DB.out zp x0, cell_up DB.out zp x1, cell_up DB.out zp x2, cell_up DB.out zp x3, (DB.out.cell az1).trans c1, (DB.out.cell az2).trans c2⟩
          have b0 := cell_up DB.out gl g0
          have b1 := cell_up DB.out gl g1
          have bf0 := low_frozen DB.out gl f0
          have bf1 := low_frozen DB.out gl f1
          have bl := Nat.lt_of_lt_of_le gl DB.out.size
          clear hbB hTA
          refine hK.out _ _ (fun _ => hTB) ?_
          clear hK K
          (try simp only [Act.put, List.setIfInBounds_toArray, List.set_cons_zero, List.set_cons_succ])
          refine M_take (v := ?_) 25 rfl (by kernel_rfl) (by assumption) (fun _ _ _ h => h) (Or.inl ⟨by rfl, ?_⟩) ?_
          rotate_left
          · (intro w hSw; (try dsimp only at hSw); go_simp; (try with_reducible rfl))
          (try simp only [Act.put, List.setIfInBounds_toArray, List.set_cons_zero, List.set_cons_succ])
          refine M_step 26 rfl (by kernel_rfl) (fun K hK => ?_)
          go_simp
          refine hK.out _ _ (fun e => by cases e) ?_
          clear hK K
          (try simp only [Act.put, List.setIfInBounds_toArray, List.set_cons_zero, List.set_cons_succ])
          refine M_done (by kernel_rfl) ?_ _
          have NS := (HSS2.out.up DB.out).set (k := k2) (x := max rf0 ah0) (y := min rf1 ah1) (by omega)
          rw [show (fun i => if i = k2 then (max rf0 ah0, min rf1 ah1) else Sbk p Z n s i) = Sbk p Z n k2 from HST.out] at NS
          have NN := Lib.hid NS
          have PN := Lib.hid (show HasPn p w.heap.size ((wB.setCell ⟨g, k2 * 2, none⟩ (.int .i64 (max rf0 ah0))).setCell ⟨g, k2 * 2 + 1, none⟩ (.int .i64 (min rf1 ah1))) from ⟨cell_ne (cell_ne (cell_up DB.out zp x0) ng) ng, cell_ne (cell_ne (cell_up DB.out zp x1) ng) ng, cell_ne (cell_ne (cell_up DB.out zp x2) ng) ng, cell_ne (cell_ne (cell_up DB.out zp x3) ng) ng⟩)
          have hgw' : w.heap.size ≤ g := Nat.le_of_lt hgw
          have NB := Lib.hid (set1 (set1 (nextB HB.out DB.out) hgw' (k2 * 2) (.int .i64 (max rf0 ah0))) hgw' (k2 * 2 + 1) (.int .i64 (min rf1 ah1)))
          have hm1 : IntKind.i64.wrap ((s : Int) - 1) = (k2 : Int) := u1
          clear NS hTB b0 b1 bf0 bf1
          go_wp2_with fail
          go_roundw
          case rel => exact ⟨k2, by have := HSS.out; omega, rfl, NN.out, PN.out, NB.out⟩
          case measure => (have := HSS.out; simp [intOf]; omega)
        · obtain rfl : m = 0 := by omega
          have hSG : SpR g n (RG p Z n) w2 := ⟨hS.lt, fun i hi => by have := hS.c0 i hi; unfold Sbk at this; rwa [if_pos (by omega)] at this, fun i hi => by have := hS.c1 i hi; unfold Sbk at this; rwa [if_pos (by omega)] at this, hS.f⟩
          have HSG := Lib.hid hSG
          have HB := Lib.hid hB
          obtain ⟨j, j1, j2, j3⟩ : ∃ j, j ≤ n ∧ (∀ i, i < j → (RG p Z n i).1 ≤ (RG p Z n i).2) ∧ (j < n → (RG p Z n j).2 < (RG p Z n j).1) := by
            by_cases hf : Ful (RG p Z n) n
            · exact ⟨n, Nat.le_refl _, hf, fun h => absurd h (by omega)⟩
            · obtain ⟨j, ⟨h1, h2⟩, h3⟩ := least_nat (P := fun j => j < n ∧ (RG p Z n j).2 < (RG p Z n j).1) (Classical.byContradiction fun hx => hf fun i hi => Classical.byContradiction fun hy => hx ⟨i, hi, by omega⟩)
              exact ⟨j, by omega, fun i hi => Classical.byContradiction fun hy => h3 i hi ⟨by omega, by omega⟩, fun _ => h2⟩
          have J2 := Lib.hid j2
          have J3 := Lib.hid j3
          clear hS hP hB hSG j2 j3
          go_wp2_with fail
          go_loopw [10] (fun i wr => ∃ k : Nat, k ≤ j ∧ i = .int .i64 (k : Int) ∧ Below w2.heap.size w2 wr) (fun i _ => n - (intOf i).toNat)
          case atStart => exact ⟨0, Nat.zero_le _, rfl, Below.refl _ _⟩
          case round =>
            obtain ⟨q, hq, rfl, hb⟩ := hrel
            obtain ⟨w3, rfl⟩ : ∃ w3 : World, w3 = wr := ⟨_, rfl⟩
            have HSG3 := Lib.hid (HSG.out.up hb)
            have HB3 := Lib.hid (HB.out.trans (hb.mono HB.out.size))
            have D3 := Lib.hid hb
            have hq0 : (0 : Int) ≤ (q : Int) := by omega
            clear hb
            by_cases hqn : q < n
            · have hqi : (q : Int) < (n : Int) := by omega
              have g0 := HSG3.out.c0 q hqn
              have g1 := HSG3.out.c1 q hqn
              have gl := HSG3.out.lt
              by_cases hqj : q < j
              · have hv := J2.out q hqj
                generalize (RG p Z n q).1 = x at *
                generalize (RG p Z n q).2 = y at *
                have u1 : decide (x > y) = false := decide_eq_false (by omega)
                go_wp2_with fail
                go_quiet (fail)
                go_wp2_with fail
                go_roundw
                case rel => exact ⟨q + 1, by omega, by go_num, below_drewN D3.out _⟩
                case measure => simp [intOf]; omega
              · obtain rfl : q = j := by omega
                have hv := J3.out hqn
                have hGf : G = false := by
                  cases G with
                  | false => rfl
                  | true => exact absurd (HG.out.1 rfl q hqn) (by omega)
                generalize (RG p Z n q).1 = x at *
                generalize (RG p Z n q).2 = y at *
                have u1 : decide (x > y) = true := decide_eq_true (by omega)
                go_wp2_with fail
                go_quiet (fail)
                go_wp2_with fail
                go_ret2
                exact ⟨fun e => (by rw [hGf] at e; cases e), fun _ => ⟨rfl, below_drewN HB3.out _⟩⟩
            · have hqi : (n : Int) ≤ (q : Int) := by omega
              have hGt : G = true := HG.out.2 fun i hi => J2.out i (by omega)
              go_wp2_with fail
              go_ret2
              exact ⟨fun _ => ⟨_, _, rfl, by omega, HSG3.out, HB3.out⟩, fun e => (by rw [hGt] at e; cases e)⟩
end Go.Proofs.Ytkidhmajlpceeaa
