/- The specification's some and together. -/
import Derived.Test.YtpikaohodieeaaaMnm
import Derived.Test.YtpikaohodieeaaaRwi
namespace Go.Proofs.Ytpikaohodieeaaa
open Go.RowKit
set_option linter.unusedSimpArgs false
set_option linter.unusedVariables false
theorem TrsIn.congr {A : Option Addr} {n B : Nat} {F H : Nat → Int × Int × Int} {w : World} (h : TrsIn A n F B w) (e : ∀ i, i < n → F i = H i) : TrsIn A n H B w :=
  ⟨h.1, fun i hi => by rw [← e i hi]; exact h.2 i hi⟩
theorem Rdg.congrF {g : Nat} {G : Nat → Int × Int} {m : Nat} {F H : Nat → Int × Int × Int} {T : Nat → Int} (h : Rdg g G m F T) (e : ∀ i, i < m → F i = H i) : Rdg g G m H T := ⟨h.tick, h.gap, fun i hi => by rw [← e i hi]; exact h.mark i hi⟩
set_option maxRecDepth 100000 in
set_option maxHeartbeats 4000000 in
theorem Rsome_any (A S : Option Addr) (m n c d : Nat) (F : Nat → Int × Int × Int) (Z : Nat → Int) (w : World) (h1 : TrsIn A m F w.heap.size w) (h2 : IntsIn S n Z w.heap.size w) (hn : n ≤ 900) (hZ : ∀ i, i < n → 0 ≤ Z i ∧ Z i < m) :
    Calls Try.prog 120 #[.slice A m c, .slice S n d] w fun e w' => ∃ B k, e = .returned (.slice B n k) ∧ TrsIn B n (fun i => F (Z i).toNat) w'.heap.size w' ∧ Below w.heap.size w w' := by
  have H1 := Lib.hid h1
  have H2 := Lib.hid h2
  have HZ := Lib.hid hZ
  have hm := h1.1
  obtain ⟨i0, hi0, hz0, hz1, hz2⟩ := info_parts Try.infoMark
  clear h1 h2 hZ
  go_enter Try.func120, Try.ntmps120
  go_wp2_with fail
  go_loopw [5, 6] (fun v i wr => ∃ k : Nat, k ≤ n ∧ i = .int .i64 k ∧ MkL w (pkL F m Z k) v wr) (fun _ i _ => n - (intOf i).toNat)
  case atStart => exact ⟨0, Nat.zero_le _, rfl, Below.refl _ _, World.ownsRow_nil _ _ _ _⟩
  case round =>
    obtain ⟨k, hk, rfl, hR⟩ := hrel
    obtain ⟨wo, rfl⟩ : ∃ wo : World, wo = wr := ⟨_, rfl⟩
    have HR := Lib.hid hR
    have sz := hR.bl.size
    clear hR
    have hk0 : (0 : Int) ≤ (k : Int) := by omega
    by_cases hlt : k < n
    · have hki : (k : Int) < (n : Int) := by omega
      obtain ⟨g, ea, g1, c1⟩ := (H2.out.up HR.out.bl (Nat.le_refl _)).2 k hlt
      subst ea
      have hz := HZ.out k hlt
      have hs : pkL F m Z (k + 1) = pkL F m Z k ++ [F (Z k).toNat] := if_pos hz
      have wj : IntKind.i64.wrap ((k : Int) + 1) = ((k + 1 : Nat) : Int) := by rw [show ((k : Int) + 1) = ((k + 1 : Nat) : Int) by omega]; exact IntWalk.i64_in _ (by omega)
      have WJ := Lib.hid wj
      obtain ⟨q, hq⟩ : ∃ q : Nat, Z k = (q : Int) := ⟨(Z k).toNat, by omega⟩
      rw [hq] at c1 hs hz
      rw [Int.toNat_natCast] at hs
      have hqm : q < m := by omega
      have hqi : (q : Int) < (m : Int) := by omega
      have hq0 : (0 : Int) ≤ (q : Int) := by omega
      obtain ⟨b, eb, lb, p0, p1, p2⟩ := (H1.out.up HR.out.bl (Nat.le_refl _)).2 q hqm
      subst eb
      obtain ⟨⟨x0, x1, x2⟩, hx⟩ : ∃ x, F q = x := ⟨_, rfl⟩
      rw [hx] at p0 p1 p2 hs
      simp only at p0 p1 p2
      have HX := Lib.hid hs
      have hown := HR.out.own
      have hlen := pkL_len F m Z k
      generalize (pkL F m Z k) = L at hown HX hlen HR
      have HL := Lib.hid hown
      clear hs hx wj g1 lb hown hq hz
      go_wp2_with (at_builtin; refine wpList_append_own _ rfl _ _ 26 rfl w.heap.size 33 i0 (.agg #[.int .i64 0, .int .i64 0, .int .i64 0]) 3 24 Try.underlying26 hi0 hz0 hz1 hz2 rfl (by decide) _ L.length _ rfl (HL.out.alloc _) ⟨wo.heap.size, 0, none⟩ 1 1 [.int .i64 x0, .int .i64 x1, .int .i64 x2] rfl rfl (new3 _ _ _ _ _ _ rfl) (by simp [Value.oneCell']) (by unfold maxLen; omega) (by omega) (by rw [World.size_alloc]; omega) ?_; intro v5 w5 hown2 hg2 _; have HN := Lib.hid (HR.out.app hg2 hown2); obtain ⟨g5, cap5, rfl⟩ := own_formh hown2; clear hown2 hg2)
      have wj := WJ.out
      try go_wp2_with fail
      go_roundw
      case rel => exact ⟨k + 1, by omega, by first | rfl | go_num, by rw [HX.out]; exact HN.out⟩
      case measure => (simp [intOf] <;> omega)
    · obtain rfl : k = n := by omega
      have hki : ¬ ((k : Int) < (k : Int)) := by omega
      obtain ⟨B, kc, ev, hB⟩ := HR.out.out (by have := pkL_len F m Z k; omega)
      obtain ⟨e1, e2⟩ := pkL_len_ok (F := F) HZ.out
      rw [e1] at ev hB
      subst ev
      have HB : Hid (TrsIn B k (fun i => F (Z i).toNat) wo.heap.size wo) := Lib.hid (hB.congr e2)
      have HBL := Lib.hid HR.out.bl
      clear hB e1 e2
      go_wp2_with fail
      go_ret
      first | exact ⟨B, kc, rfl, HB.out, HBL.out⟩ | exact ⟨B, ⟨kc, rfl⟩, HB.out, HBL.out⟩ | exact ⟨B, kc, HB.out, HBL.out⟩ | exact ⟨B, HB.out, HBL.out⟩
set_option maxRecDepth 100000 in
set_option maxHeartbeats 4000000 in
theorem Rtogether_any (d : Drm) (MA : Option Addr) (m mc : Nat) (F : Nat → Int × Int × Int) (SA : Option Addr) (n sc : Nat) (Z : Nat → Int) (R : Bool) (w : World) (hin : DrIn d w.heap.size w) (hm : TrsIn MA m F w.heap.size w) (hs : IntsIn SA n Z w.heap.size w) (hd : DrOk d) (hk : ∀ i, i < m → mkOk d F i) (hn : n ≤ 100) (hZ : ∀ i, i < n → 0 ≤ Z i ∧ Z i < m)
    (hR : R = true ↔ ∃ T, Rdg d.n (gapF d) n (fun i => F (Z i).toNat) T) :
    Calls Try.prog 106 #[d.v, .slice MA m mc, .slice SA n sc] w fun e w' => e = .returned (.bool R) ∧ Below w.heap.size w w' := by
  have DD : Hid (∀ W, Below w.heap.size w W → DrIn d W.heap.size W) := Lib.hid fun W h => (hin.up h (Nat.le_refl _)).more h.size
  have MM : Hid (∀ W, Below w.heap.size w W → TrsIn MA m F W.heap.size W) := Lib.hid fun W h => (hm.up h (Nat.le_refl _)).more h.size
  have SS : Hid (∀ W, Below w.heap.size w W → IntsIn SA n Z W.heap.size W) := Lib.hid fun W h => (hs.up h (Nat.le_refl _)).more h.size
  obtain ⟨w1, hw1⟩ : ∃ w1 : World, w1 = w.alloc (drO d) := ⟨_, rfl⟩
  have B1 : Below w.heap.size w w1 := by rw [hw1]; exact box1 _ _
  have P1 : HasDr d w.heap.size w1 := by rw [hw1]; exact dr_new w d
  have D := Lib.hid B1
  have P := Lib.hid P1
  have HW := Lib.hid hw1
  have HZ := Lib.hid hZ
  have hk2 : n ≤ 100 ∧ ∀ i, i < n → mkOk d (fun i => F (Z i).toNat) i := ⟨hn, fun i hi => by have hz := hZ i hi; exact hk (Z i).toNat (by omega)⟩
  obtain ⟨S, hS⟩ : ∃ S, (R = true ∧ Ends d.n (Rdg d.n (gapF d) n (fun i => F (Z i).toNat)) S) ∨ (R = false ∧ ∀ T, ¬ Rdg d.n (gapF d) n (fun i => F (Z i).toNat) T) := by
    rcases ends_ex (m := n) (F := fun i => F (Z i).toNat) (gpOk hd) (fun j hj => by have h1 := hk2.2 j hj; unfold mkOk isS at h1; omega) with ⟨S, h⟩ | h
    · exact ⟨S, .inl ⟨hR.2 ⟨_, h.lo⟩, h⟩⟩
    · refine ⟨fun _ => (0, 0), .inr ⟨?_, h⟩⟩
      cases R with
      | false => rfl
      | true => obtain ⟨T, hT⟩ := hR.1 rfl; exact absurd hT (h T)
  have KS : Hid (∀ A' c' W, Below w.heap.size w W → TrsIn A' n (fun i => F (Z i).toNat) W.heap.size W → Calls Try.prog 86 #[d.v, .slice A' n c'] W fun e w' => ∃ v, e = .returned (.tuple #[v, .bool R]) ∧ RdV d.n (if R = true then 0 else 22) S v W w') := Lib.hid fun A' c' W h h2 => Rspans_any d A' n c' _ R S W (DD.out W h) h2 hd hk2 hS
  obtain ⟨x0, x1⟩ := P1
  clear hin hm hs B1 hw1 hd hk hZ hR hk2 hS
  go_enter Try.func106, Try.ntmps106
  go_wp2_with fail
  rw [← HW.out]
  refine wp_region_M [] (fun w' => w'.cell? ⟨w.heap.size, 0, none⟩ = some (.slice d.RA d.n d.rc) ∧ w'.cell? ⟨w.heap.size, 1, none⟩ = some (.slice d.SA d.m d.sc)) (by kernel_rfl) (by kernel_rfl) (by (try dsimp only); (repeat' apply And.intro); all_goals first | assumption | (go_simp; done)) (fun hT0 => ?_)
  refine M_take (v := ?_) 0 rfl (by kernel_rfl) (by assumption) (fun _ _ _ h => h) (Or.inl ⟨by rfl, ?_⟩) ?_
  rotate_left
  · (intro w hSw; (try dsimp only at hSw); go_simp; (try with_reducible rfl))
  (try simp only [Act.put, List.setIfInBounds_toArray, List.set_cons_zero, List.set_cons_succ])
  refine M_take (v := ?_) 1 rfl (by kernel_rfl) (by assumption) (fun _ _ _ h => h) (Or.inl ⟨by rfl, ?_⟩) ?_
  rotate_left
  · (intro w hSw; (try dsimp only at hSw); go_simp; (try with_reducible rfl))
  (try simp only [Act.put, List.setIfInBounds_toArray, List.set_cons_zero, List.set_cons_succ])
  refine M_take (v := ?_) 2 rfl (by kernel_rfl) (by assumption) (fun _ _ _ h => h) (Or.inl ⟨by rfl, ?_⟩) ?_
  rotate_left
  · (intro w hSw; (try dsimp only at hSw); go_simp; (try with_reducible rfl))
  (try simp only [Act.put, List.setIfInBounds_toArray, List.set_cons_zero, List.set_cons_succ])
  refine M_step 3 rfl (by kernel_rfl) (fun K hK => ?_)
  go_simp
  go_at_call 120
  refine (Rsome_any MA SA m n mc sc F Z _ (MM.out _ (nextB D.out (Below.refl _ _).drew)) (SS.out _ (nextB D.out (Below.refl _ _).drew)) (by omega) HZ.out).mono ?_
  rintro e w7 ⟨B7, k7, rfl, hm7, hb7⟩
  have B7' := Lib.hid (show Below w1.heap.size w1 w7 from nextB (Below.refl _ _).drew hb7)
  have M7 := Lib.hid hm7
  have hT7 : (fun w' => w'.cell? ⟨w.heap.size, 0, none⟩ = some (.slice d.RA d.n d.rc) ∧ w'.cell? ⟨w.heap.size, 1, none⟩ = some (.slice d.SA d.m d.sc)) w7 := P.out.up B7'.out
  clear hb7 hm7
  refine hK.out _ _ (fun _ => hT7) ?_
  clear hK K
  (try simp only [Act.put, List.setIfInBounds_toArray, List.set_cons_zero, List.set_cons_succ])
  refine M_step 4 rfl (by kernel_rfl) (fun K hK => ?_)
  go_simp
  go_at_call 86
  refine (KS.out B7 k7 w7 (nextB D.out B7'.out) M7.out).mono ?_
  rintro e w8 ⟨v, rfl, hb8, hv⟩
  have D8 := Lib.hid (nextB D.out (nextB B7'.out hb8))
  have HB8 := Lib.hid (nextB B7'.out hb8)
  have hT8 : (fun w' => w'.cell? ⟨w.heap.size, 0, none⟩ = some (.slice d.RA d.n d.rc) ∧ w'.cell? ⟨w.heap.size, 1, none⟩ = some (.slice d.SA d.m d.sc)) w8 := P.out.up HB8.out
  clear hb8
  obtain ⟨Av, qv, cv, rfl⟩ : ∃ A q c, v = .slice A q c := by
    rcases hv with ⟨_, h⟩ | ⟨_, t, h, _⟩
    · exact ⟨_, _, _, h⟩
    · exact ⟨_, _, _, h⟩
  clear hv
  refine hK.out _ _ (fun _ => hT8) ?_
  clear hK K
  (try simp only [Act.put, List.setIfInBounds_toArray, List.set_cons_zero, List.set_cons_succ])
  refine M_take (v := ?_) 5 rfl (by kernel_rfl) (by assumption) (fun _ _ _ h => h) (Or.inl ⟨by rfl, ?_⟩) ?_
  rotate_left
  · (intro w hSw; (try dsimp only at hSw); go_simp; (try with_reducible rfl))
  (try simp only [Act.put, List.setIfInBounds_toArray, List.set_cons_zero, List.set_cons_succ])
  refine M_take (v := ?_) 6 rfl (by kernel_rfl) (by assumption) (fun _ _ _ h => h) (Or.inl ⟨by rfl, ?_⟩) ?_
  rotate_left
  · (intro w hSw; (try dsimp only at hSw); go_simp; (try with_reducible rfl))
  (try simp only [Act.put, List.setIfInBounds_toArray, List.set_cons_zero, List.set_cons_succ])
  refine M_take (v := ?_) 7 rfl (by kernel_rfl) (by assumption) (fun _ _ _ h => h) (Or.inl ⟨by rfl, ?_⟩) ?_
  rotate_left
  · (intro w hSw; (try dsimp only at hSw); go_simp; (try with_reducible rfl))
  (try simp only [Act.put, List.setIfInBounds_toArray, List.set_cons_zero, List.set_cons_succ])
  refine M_step 8 rfl (by kernel_rfl) (fun K hK => ?_)
  go_simp
  refine hK.out _ _ (fun _ => by assumption) ?_
  clear hK K
  (try simp only [Act.put, List.setIfInBounds_toArray, List.set_cons_zero, List.set_cons_succ])
  refine M_step 9 rfl (by kernel_rfl) (fun K hK => ?_)
  go_simp
  refine hK.out _ _ (fun _ => by assumption) ?_
  clear hK K
  (try simp only [Act.put, List.setIfInBounds_toArray, List.set_cons_zero, List.set_cons_succ])
  refine M_done (by kernel_rfl) ?_ _
  clear hT0 hT7 hT8 x0 x1
  go_wp2_with fail
  go_ret
  exact ⟨rfl, D8.out⟩
end Go.Proofs.Ytpikaohodieeaaa
