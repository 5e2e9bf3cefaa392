/- PensLattice's law. -/
import Derived.Test.YtkidhmajlpceeaaLtn
import Derived.Test.YtkidhmajlpceeaaJlx
namespace Go.Proofs.Ytkidhmajlpceeaa
open Go.RowKit
set_option linter.unusedSimpArgs false
set_option linter.unusedVariables false
/-- a list of numbers as it reads -/
def IN (n : Nat) (F : Nat → Int) (v : Value) (w : World) : Prop := ∃ B d, v = .slice B n d ∧ IntsIn B n F w.heap.size w
theorem IN.up {n : Nat} {F : Nat → Int} {v : Value} {w w' : World} (h : IN n F v w) (hb : Below w.heap.size w w') : IN n F v w' := by
  obtain ⟨B, d, e, hi⟩ := h
  exact ⟨B, d, e, (hi.up hb (Nat.le_refl _)).more hb.size⟩
theorem IN.at {n : Nat} {F : Nat → Int} {B : Option Addr} {d : Nat} {w : World} (h : IN n F (.slice B n d) w) (i : Nat) (hi : i < n) : ∃ a : Addr, B = some a ∧ w.cell? (a.add i) = some (.int .i64 (F i)) := by
  obtain ⟨B', d', e, h2⟩ := h
  cases e
  obtain ⟨a, e, _, hc⟩ := h2.2 i hi
  exact ⟨a, e, hc⟩
theorem NPost.in {w w' : World} {n : Nat} {F : Nat → Int} {e : Ending} (h : NPost w n F 0 e w') : ∃ B d, e = .returned (.tuple #[.slice B n d, .int .i64 0]) ∧ Below w.heap.size w w' ∧ IN n F (.slice B n d) w' := by
  obtain ⟨A, c, e1, hi, hb⟩ := h.1 rfl
  exact ⟨A, c, e1, hb, A, c, rfl, hi⟩
theorem mo_any (n : Nat) (Z X : Nat → Int) (u v : Value) (w : World) (h : IN n Z u w) (h2 : IN n X v w) (hn : n ≤ 1000) :
    Calls Try.prog 58 #[u, v] w fun e w' => ∃ A' c', e = .returned (.slice A' n c') ∧ MosIn A' n (prF Z X) w'.heap.size w' ∧ Below w.heap.size w w' := by
  obtain ⟨A, c, rfl, hi⟩ := h
  obtain ⟨B, d, rfl, hj⟩ := h2
  have := moments_any A n c Z B n d X w hi hj hn hn
  rw [Nat.min_self] at this
  exact this
theorem row_in {w : World} {B n : Nat} {F : Nat → Int} {v : Value} (h : w.ownsRow B 3 1 v (upTo F n).length (intsZ (upTo F n))) (hn : n ≤ 1000) : ∃ A c, v = .slice A n c ∧ IN n F (.slice A n c) w := by
  rw [upTo_len] at h
  obtain ⟨A, c, e, hi⟩ := row_upTo h hn
  exact ⟨A, c, e, A, c, rfl, hi⟩
set_option maxRecDepth 100000 in
set_option maxHeartbeats 8000000 in
theorem latt_law (p : Pn) (A : Option Addr) (n c : Nat) (Z : Nat → Int) (A1 : Option Addr) (n1 c1 : Nat) (X : Nat → Int) (A2 : Option Addr) (n2 c2 : Nat) (Y : Nat → Int) (A3 : Option Addr) (n3 c3 : Nat) (V : Nat → Int) (w : World)
    (hin : IntsIn A n Z w.heap.size w) (hin1 : IntsIn A1 n1 X w.heap.size w) (hin2 : IntsIn A2 n2 Y w.heap.size w) (hin3 : IntsIn A3 n3 V w.heap.size w) :
    Calls Try.prog 11 #[p.v, .slice A n c, .slice A1 n1 c1, .slice A2 n2 c2, .slice A3 n3 c3] w fun e w' => e = .returned (.bool true) ∧ Below w.heap.size w w' := by
  have KF := Lib.hid fun W => few_any A n c W
  have hq1 := hin1.1
  have hq2 := hin2.1
  have hq3 := hin3.1
  have hq := hin.1
  by_cases hf : (n : Int) ≤ 500
  · have df : decide ((n : Int) ≤ 500) = true := by simpa using hf
    rw [df] at KF
    clear df
    have hn5 : n ≤ 1000 := by omega
    by_cases hall : n1 = n ∧ n2 = n ∧ n3 = n
    · obtain ⟨h1, h2, h3⟩ := hall
      have h1' := h1.symm
      subst h1'
      have h2' := h2.symm
      subst h2'
      have h3' := h3.symm
      subst h3'
      clear h1 h2 h3
      have I0 : Hid (IN n Z (.slice A n c) w) := Lib.hid ⟨A, c, rfl, hin⟩
      have I1 : Hid (IN n X (.slice A1 n c1) w) := Lib.hid ⟨A1, c1, rfl, hin1⟩
      have I2 : Hid (IN n Y (.slice A2 n c2) w) := Lib.hid ⟨A2, c2, rfl, hin2⟩
      have I3 : Hid (IN n V (.slice A3 n c3) w) := Lib.hid ⟨A3, c3, rfl, hin3⟩
      have HIN := Lib.hid hin
      clear hin hin1 hin2 hin3 hq1 hq2 hq3
      obtain ⟨E, hE⟩ := reaR_ex p n Z
      have HE := Lib.hid hE
      have K1 : Hid (∀ W, Below w.heap.size w W → Calls Try.prog 37 #[p.v, .slice A n c] W fun e w' => NPost W n (lowF p Z n) E e w') :=
        Lib.hid fun W hW => Lowest_any p A n c Z E W ((HIN.out.up hW (Nat.le_refl _)).more hW.size) hE
      have K2 : Hid (∀ W, Below w.heap.size w W → Calls Try.prog 39 #[p.v, .slice A n c] W fun e w' => NPost W n (highF p Z n) E e w') :=
        Lib.hid fun W hW => Highest_any p A n c Z E W ((HIN.out.up hW (Nat.le_refl _)).more hW.size) hE
      have K3 : Hid (∀ W, Below w.heap.size w W → Calls Try.prog 41 #[p.v, .slice A n c] W fun e w' => NPost W n (nearF p Z n) E e w') :=
        Lib.hid fun W hW => Real_any p A n c Z E W ((HIN.out.up hW (Nat.le_refl _)).more hW.size) hE
      obtain ⟨E1, hE1⟩ := keeR_ex p n (prF Z X)
      have HE1 := Lib.hid hE1
      have KK1 : Hid (∀ A' c' W, MosIn A' n (prF Z X) W.heap.size W → Calls Try.prog 32 #[p.v, .slice A' n c'] W fun e w' => e = .returned (.int .i64 E1) ∧ Below W.heap.size W w') :=
        Lib.hid fun A' c' W hm => Keeps_any p A' n c' (prF Z X) E1 W hm hE1
      clear hE hE1 HIN
      go_enter Try.func11, Try.ntmps11
      go_wp2_with fail
      refine (awake_any _).mono ?_
      rintro e w2 ⟨rfl, hb2⟩
      have C2 := Lib.hid (nextB (box1 w _) hb2)
      have P2 := Lib.hid ((pn_new w p.b p.lo p.hi p.r).up hb2 (by simp only [World.size_alloc]; omega))
      have zp2 := P2.out.lt
      clear hb2
      obtain ⟨x0, x1, x2, x3⟩ := P2.out
      have I0_2 := Lib.hid (I0.out.up C2.out)
      have I1_2 := Lib.hid (I1.out.up C2.out)
      have I2_2 := Lib.hid (I2.out.up C2.out)
      have I3_2 := Lib.hid (I3.out.up C2.out)
      clear I0 I1 I2 I3
      by_cases h0 : E = 0
      · subst h0
        go_wp2_with (go_at_call 20; refine (KF.out _).mono ?_; rintro e w' ⟨rfl, rfl⟩; clear KF)
        refine (K1.out _ C2.out).mono ?_
        rintro e w3 hP
        obtain ⟨B4, d4, rfl, hb, hx⟩ := hP.in
        have C3 := Lib.hid (nextB C2.out hb)
        have P3 := Lib.hid (P2.out.up hb zp2)
        have zp3 := P3.out.lt
        have I0_3 := Lib.hid (I0_2.out.up hb)
        have I1_3 := Lib.hid (I1_2.out.up hb)
        have I2_3 := Lib.hid (I2_2.out.up hb)
        have I3_3 := Lib.hid (I3_2.out.up hb)
        clear I0_2 I1_2 I2_2 I3_2
        have I4_3 := Lib.hid hx
        clear hP hx hb K1
        clear x0 x1 x2 x3
        obtain ⟨x0, x1, x2, x3⟩ := P3.out
        go_wp2_with fail
        refine (K2.out _ C3.out).mono ?_
        rintro e w4 hP
        obtain ⟨B5, d5, rfl, hb, hx⟩ := hP.in
        have C4 := Lib.hid (nextB C3.out hb)
        have P4 := Lib.hid (P3.out.up hb zp3)
        have zp4 := P4.out.lt
        have I0_4 := Lib.hid (I0_3.out.up hb)
        have I1_4 := Lib.hid (I1_3.out.up hb)
        have I2_4 := Lib.hid (I2_3.out.up hb)
        have I3_4 := Lib.hid (I3_3.out.up hb)
        have I4_4 := Lib.hid (I4_3.out.up hb)
        clear I0_3 I1_3 I2_3 I3_3 I4_3
        have I5_4 := Lib.hid hx
        clear hP hx hb K2
        clear x0 x1 x2 x3
        obtain ⟨x0, x1, x2, x3⟩ := P4.out
        go_wp2_with fail
        refine (K3.out _ C4.out).mono ?_
        rintro e w5 hP
        obtain ⟨B6, d6, rfl, hb, hx⟩ := hP.in
        have C5 := Lib.hid (nextB C4.out hb)
        have P5 := Lib.hid (P4.out.up hb zp4)
        have zp5 := P5.out.lt
        have I0_5 := Lib.hid (I0_4.out.up hb)
        have I1_5 := Lib.hid (I1_4.out.up hb)
        have I2_5 := Lib.hid (I2_4.out.up hb)
        have I3_5 := Lib.hid (I3_4.out.up hb)
        have I4_5 := Lib.hid (I4_4.out.up hb)
        have I5_5 := Lib.hid (I5_4.out.up hb)
        clear I0_4 I1_4 I2_4 I3_4 I4_4 I5_4
        have I6_5 := Lib.hid hx
        clear hP hx hb K3
        clear x0 x1 x2 x3
        obtain ⟨x0, x1, x2, x3⟩ := P5.out
        go_wp2_with fail
        as_aux_lemma =>
          refine wp_region_M [] (fun w' => w'.cell? ⟨w.heap.size, 0, none⟩ = some (.int .i64 (p.b)) ∧ w'.cell? ⟨w.heap.size, 1, none⟩ = some (.int .i64 (p.lo)) ∧ w'.cell? ⟨w.heap.size, 2, none⟩ = some (.int .i64 (p.hi)) ∧ w'.cell? ⟨w.heap.size, 3, none⟩ = some (.int .i64 (p.r))) (by kernel_rfl) (by kernel_rfl) (by (try dsimp only); (repeat' apply And.intro); all_goals first | assumption | (go_simp; done)) (fun hT0 => ?_)
          refine M_take (v := ?_) 0 rfl (by kernel_rfl) (by assumption) (fun _ _ _ h => h) (Or.inl ⟨by rfl, ?_⟩) ?_
          rotate_left
          · (intro w hSw; (try dsimp only at hSw); go_simp; (try with_reducible rfl))
          (try simp only [Act.put, List.setIfInBounds_toArray, List.set_cons_zero, List.set_cons_succ])
          refine M_take (v := ?_) 1 rfl (by kernel_rfl) (by assumption) (fun _ _ _ h => h) (Or.inl ⟨by rfl, ?_⟩) ?_
          rotate_left
          · (intro w hSw; (try dsimp only at hSw); go_simp; (try with_reducible rfl))
          (try simp only [Act.put, List.setIfInBounds_toArray, List.set_cons_zero, List.set_cons_succ])
          refine M_take (v := ?_) 2 rfl (by kernel_rfl) (by assumption) (fun _ _ _ h => h) (Or.inl ⟨by rfl, ?_⟩) ?_
          rotate_left
          · (intro w hSw; (try dsimp only at hSw); go_simp; (try with_reducible rfl))
          (try simp only [Act.put, List.setIfInBounds_toArray, List.set_cons_zero, List.set_cons_succ])
          refine M_step 3 rfl (by kernel_rfl) (fun K hK => ?_)
          go_simp
          go_at_call 58
          refine (mo_any n Z _ _ _ _ (I0_5.out.up ((Below.refl _ _).drew)) (I1_5.out.up ((Below.refl _ _).drew)) hn5).mono ?_
          rintro e wA5_0 ⟨A'0, c'0, rfl, hm0, hbA⟩
          have DA5_0 := Lib.hid (show Below w5.heap.size w5 wA5_0 from nextB ((Below.refl _ _).drew) hbA)
          have M0 := Lib.hid hm0
          have hTwA5_0 : (fun w' => w'.cell? ⟨w.heap.size, 0, none⟩ = some (.int .i64 (p.b)) ∧ w'.cell? ⟨w.heap.size, 1, none⟩ = some (.int .i64 (p.lo)) ∧ w'.cell? ⟨w.heap.size, 2, none⟩ = some (.int .i64 (p.hi)) ∧ w'.cell? ⟨w.heap.size, 3, none⟩ = some (.int .i64 (p.r))) wA5_0 := ⟨cell_up DA5_0.out zp5 x0, cell_up DA5_0.out zp5 x1, cell_up DA5_0.out zp5 x2, cell_up DA5_0.out zp5 x3⟩
          clear hbA hm0
          refine hK.out _ _ (fun _ => hTwA5_0) ?_
          clear hK K
          (try simp only [Act.put, List.setIfInBounds_toArray, List.set_cons_zero, List.set_cons_succ])
          refine M_step 4 rfl (by kernel_rfl) (fun K hK => ?_)
          go_simp
          go_at_call 32
          refine (KK1.out _ _ _ M0.out).mono ?_
          rintro e wB5_0 ⟨rfl, hbB⟩
          have DB5_0 := Lib.hid (show Below w5.heap.size w5 wB5_0 from nextB DA5_0.out hbB)
          have hTwB5_0 : (fun w' => w'.cell? ⟨w.heap.size, 0, none⟩ = some (.int .i64 (p.b)) ∧ w'.cell? ⟨w.heap.size, 1, none⟩ = some (.int .i64 (p.lo)) ∧ w'.cell? ⟨w.heap.size, 2, none⟩ = some (.int .i64 (p.hi)) ∧ w'.cell? ⟨w.heap.size, 3, none⟩ = some (.int .i64 (p.r))) wB5_0 := ⟨cell_up DB5_0.out zp5 x0, cell_up DB5_0.out zp5 x1, cell_up DB5_0.out zp5 x2, cell_up DB5_0.out zp5 x3⟩
          clear hbB M0 hTwA5_0
          refine hK.out _ _ (fun _ => hTwB5_0) ?_
          clear hK K
          (try simp only [Act.put, List.setIfInBounds_toArray, List.set_cons_zero, List.set_cons_succ])
          refine M_take (v := ?_) 5 rfl (by kernel_rfl) (by assumption) (fun _ _ _ h => h) (Or.inl ⟨by rfl, ?_⟩) ?_
          rotate_left
          · (intro w hSw; (try dsimp only at hSw); go_simp; (try with_reducible rfl))
          (try simp only [Act.put, List.setIfInBounds_toArray, List.set_cons_zero, List.set_cons_succ])
          refine M_step 6 rfl (by kernel_rfl) (fun K hK => ?_)
          go_simp
          refine hK.out _ _ (fun _ => by assumption) ?_
          clear hK K
          (try simp only [Act.put, List.setIfInBounds_toArray, List.set_cons_zero, List.set_cons_succ])
          refine M_done (by kernel_rfl) ?_ _
          as_aux_lemma =>
            obtain ⟨w6, rfl⟩ : ∃ w6 : World, w6 = wB5_0 := ⟨_, rfl⟩
            have C6 := Lib.hid (nextB C5.out DB5_0.out)
            have P6 := Lib.hid (P5.out.up DB5_0.out zp5)
            have zp6 := P6.out.lt
            have I0_6 := Lib.hid (I0_5.out.up DB5_0.out)
            have I1_6 := Lib.hid (I1_5.out.up DB5_0.out)
            have I2_6 := Lib.hid (I2_5.out.up DB5_0.out)
            have I3_6 := Lib.hid (I3_5.out.up DB5_0.out)
            have I4_6 := Lib.hid (I4_5.out.up DB5_0.out)
            have I5_6 := Lib.hid (I5_5.out.up DB5_0.out)
            have I6_6 := Lib.hid (I6_5.out.up DB5_0.out)
            clear I0_5 I1_5 I2_5 I3_5 I4_5 I5_5 I6_5
            clear DB5_0 KK1
            clear x0 x1 x2 x3
            obtain ⟨x0, x1, x2, x3⟩ := P6.out
            have hlv := Lib.hid (reaR_zero HE.out).2.1
            have hn1 : 1 ≤ n := hlv.out.1
            obtain ⟨a0, rfl, _⟩ := I0_6.out.at 0 hn1
            obtain ⟨a1, rfl, _⟩ := I1_6.out.at 0 hn1
            obtain ⟨a2, rfl, _⟩ := I2_6.out.at 0 hn1
            obtain ⟨a3, rfl, _⟩ := I3_6.out.at 0 hn1
            obtain ⟨a4, rfl, _⟩ := I4_6.out.at 0 hn1
            obtain ⟨a5, rfl, _⟩ := I5_6.out.at 0 hn1
            obtain ⟨a6, rfl, _⟩ := I6_6.out.at 0 hn1
            clear hf
            go_wp2_with fail
            as_aux_lemma =>
              go_loopw [19, 20] (fun g i wr => ∃ (k : Nat) (G : Bool), k ≤ n ∧ i = .int .i64 (k : Int) ∧ g = .bool G ∧ wr = w6 ∧ Hid (G = true ↔ ∀ i, i < k → -49000 ≤ Z i ∧ Z i ≤ 49000)) (fun _ i _ => n - (intOf i).toNat)
              case atStart => exact ⟨0, true, Nat.zero_le _, rfl, rfl, rfl, Lib.hid ⟨fun _ i hi => absurd hi (by omega), fun _ => rfl⟩⟩
              case round =>
                obtain ⟨k, G, hk, rfl, rfl, hw, HG⟩ := hrel
                have hw' := hw.symm
                subst hw'
                clear hw
                have hk0 : (0 : Int) ≤ (k : Int) := by omega
                by_cases hlt : k < n
                · have hki : (k : Int) < (n : Int) := by omega
                  obtain ⟨a', e1, c0⟩ := I0_6.out.at k hlt
                  cases e1
                  have hz := hlv.out.2.2 k hlt
                  have HZ := Lib.hid (show Z k = Z k from rfl)
                  cases G with
                  | true =>
                    have KA := Lib.hid fun W => abs_any (Z k) W (by omega)
                    obtain ⟨G2, hG2⟩ : ∃ G2, G2 = decide (max (Z k) (-Z k) ≤ 49000) := ⟨_, rfl⟩
                    have HN : Hid (G2 = true ↔ ∀ i, i < k + 1 → -49000 ≤ Z i ∧ Z i ≤ 49000) := Lib.hid (by
                      rw [hG2, decide_eq_true_iff]
                      constructor
                      · intro h i hi
                        by_cases e : i = k
                        · rw [e]; omega
                        · exact HG.out.1 rfl i (by omega)
                      · intro h
                        have := h k (by omega)
                        omega)
                    have HG2 := Lib.hid hG2.symm
                    clear hG2 hz HG
                    go_wp2_with (go_at_call 60; refine (KA.out _).mono ?_; rintro e w' ⟨rfl, rfl⟩)
                    go_roundw
                    case rel => exact ⟨k + 1, G2, by omega, by go_num, by first | rw [HG2.out] | trivial, by first | rfl | trivial, HN⟩
                    case measure => simp [intOf]; omega
                  | false =>
                    have HN : Hid (false = true ↔ ∀ i, i < k + 1 → -49000 ≤ Z i ∧ Z i ≤ 49000) := Lib.hid ⟨fun e => (by cases e), fun h => HG.out.2 fun i hi => h i (by omega)⟩
                    clear hz HG
                    go_wp2_with fail
                    go_roundw
                    case rel => exact ⟨k + 1, false, by omega, by go_num, by first | rfl | trivial, by first | rfl | trivial, HN⟩
                    case measure => simp [intOf]; omega
                · have hki : (n : Int) ≤ (k : Int) := by omega
                  obtain rfl : k = n := by omega
                  go_wp2_with fail
                  as_aux_lemma =>
                    go_cut [159] (fun v wx => v = .bool false ∧ Below w6.heap.size w6 wx)
                    case first =>
                      cases G with
                      | true =>
                        have hz := HG.out.1 rfl
                        have KK4 : Hid (∀ A' c' W, MosIn A' k (prF Z (lowF p Z k)) W.heap.size W → Calls Try.prog 32 #[p.v, .slice A' k c'] W fun e w' => e = .returned (.int .i64 0) ∧ Below W.heap.size W w') :=
                          Lib.hid fun A' c' W hm => Keeps_any p A' k c' (prF Z (lowF p Z k)) 0 W hm (lat_low HE.out hz)
                        have KK5 : Hid (∀ A' c' W, MosIn A' k (prF Z (highF p Z k)) W.heap.size W → Calls Try.prog 32 #[p.v, .slice A' k c'] W fun e w' => e = .returned (.int .i64 0) ∧ Below W.heap.size W w') :=
                          Lib.hid fun A' c' W hm => Keeps_any p A' k c' (prF Z (highF p Z k)) 0 W hm (lat_high HE.out hz)
                        have KK6 : Hid (∀ A' c' W, MosIn A' k (prF Z (nearF p Z k)) W.heap.size W → Calls Try.prog 32 #[p.v, .slice A' k c'] W fun e w' => e = .returned (.int .i64 0) ∧ Below W.heap.size W w') :=
                          Lib.hid fun A' c' W hm => Keeps_any p A' k c' (prF Z (nearF p Z k)) 0 W hm (lat_near HE.out hz)
                        clear hz
                        as_aux_lemma =>
                          refine wp_region_M [] (fun w' => w'.cell? ⟨w.heap.size, 0, none⟩ = some (.int .i64 (p.b)) ∧ w'.cell? ⟨w.heap.size, 1, none⟩ = some (.int .i64 (p.lo)) ∧ w'.cell? ⟨w.heap.size, 2, none⟩ = some (.int .i64 (p.hi)) ∧ w'.cell? ⟨w.heap.size, 3, none⟩ = some (.int .i64 (p.r))) (by kernel_rfl) (by kernel_rfl) (by (try dsimp only); (repeat' apply And.intro); all_goals first | assumption | (go_simp; done)) (fun hT0 => ?_)
                          refine M_take (v := ?_) 0 rfl (by kernel_rfl) (by assumption) (fun _ _ _ h => h) (Or.inl ⟨by rfl, ?_⟩) ?_
                          rotate_left
                          · (intro w hSw; (try dsimp only at hSw); go_simp; (try with_reducible rfl))
                          (try simp only [Act.put, List.setIfInBounds_toArray, List.set_cons_zero, List.set_cons_succ])
                          refine M_take (v := ?_) 1 rfl (by kernel_rfl) (by assumption) (fun _ _ _ h => h) (Or.inl ⟨by rfl, ?_⟩) ?_
                          rotate_left
                          · (intro w hSw; (try dsimp only at hSw); go_simp; (try with_reducible rfl))
                          (try simp only [Act.put, List.setIfInBounds_toArray, List.set_cons_zero, List.set_cons_succ])
                          refine M_take (v := ?_) 2 rfl (by kernel_rfl) (by assumption) (fun _ _ _ h => h) (Or.inl ⟨by rfl, ?_⟩) ?_
                          rotate_left
                          · (intro w hSw; (try dsimp only at hSw); go_simp; (try with_reducible rfl))
                          (try simp only [Act.put, List.setIfInBounds_toArray, List.set_cons_zero, List.set_cons_succ])
                          refine M_take (v := ?_) 3 rfl (by kernel_rfl) (by assumption) (fun _ _ _ h => h) (Or.inl ⟨by rfl, ?_⟩) ?_
                          rotate_left
                          · (intro w hSw; (try dsimp only at hSw); go_simp; (try with_reducible rfl))
                          (try simp only [Act.put, List.setIfInBounds_toArray, List.set_cons_zero, List.set_cons_succ])
                          refine M_take (v := ?_) 4 rfl (by kernel_rfl) (by assumption) (fun _ _ _ h => h) (Or.inl ⟨by rfl, ?_⟩) ?_
                          rotate_left
                          · (intro w hSw; (try dsimp only at hSw); go_simp; (try with_reducible rfl))
                          (try simp only [Act.put, List.setIfInBounds_toArray, List.set_cons_zero, List.set_cons_succ])
                          refine M_step 5 rfl (by kernel_rfl) (fun K hK => ?_)
                          go_simp
                          go_at_call 58
                          refine (mo_any k Z _ _ _ _ (I0_6.out.up ((Below.refl _ _).drew)) (I4_6.out.up ((Below.refl _ _).drew)) hn5).mono ?_
                          rintro e wA6_0 ⟨A'0, c'0, rfl, hm0, hbA⟩
                          have DA6_0 := Lib.hid (show Below w6.heap.size w6 wA6_0 from nextB ((Below.refl _ _).drew) hbA)
                          have M0 := Lib.hid hm0
                          have hTwA6_0 : (fun w' => w'.cell? ⟨w.heap.size, 0, none⟩ = some (.int .i64 (p.b)) ∧ w'.cell? ⟨w.heap.size, 1, none⟩ = some (.int .i64 (p.lo)) ∧ w'.cell? ⟨w.heap.size, 2, none⟩ = some (.int .i64 (p.hi)) ∧ w'.cell? ⟨w.heap.size, 3, none⟩ = some (.int .i64 (p.r))) wA6_0 := ⟨cell_up DA6_0.out zp6 x0, cell_up DA6_0.out zp6 x1, cell_up DA6_0.out zp6 x2, cell_up DA6_0.out zp6 x3⟩
                          clear hbA hm0
                          refine hK.out _ _ (fun _ => hTwA6_0) ?_
                          clear hK K
                          (try simp only [Act.put, List.setIfInBounds_toArray, List.set_cons_zero, List.set_cons_succ])
                          refine M_step 6 rfl (by kernel_rfl) (fun K hK => ?_)
                          go_simp
                          go_at_call 32
                          refine (KK4.out _ _ _ M0.out).mono ?_
                          rintro e wB6_0 ⟨rfl, hbB⟩
                          have DB6_0 := Lib.hid (show Below w6.heap.size w6 wB6_0 from nextB DA6_0.out hbB)
                          have hTwB6_0 : (fun w' => w'.cell? ⟨w.heap.size, 0, none⟩ = some (.int .i64 (p.b)) ∧ w'.cell? ⟨w.heap.size, 1, none⟩ = some (.int .i64 (p.lo)) ∧ w'.cell? ⟨w.heap.size, 2, none⟩ = some (.int .i64 (p.hi)) ∧ w'.cell? ⟨w.heap.size, 3, none⟩ = some (.int .i64 (p.r))) wB6_0 := ⟨cell_up DB6_0.out zp6 x0, cell_up DB6_0.out zp6 x1, cell_up DB6_0.out zp6 x2, cell_up DB6_0.out zp6 x3⟩
                          clear hbB M0 hTwA6_0
                          refine hK.out _ _ (fun _ => hTwB6_0) ?_
                          clear hK K
                          (try simp only [Act.put, List.setIfInBounds_toArray, List.set_cons_zero, List.set_cons_succ])
                          refine M_take (v := ?_) 7 rfl (by kernel_rfl) (by assumption) (fun _ _ _ h => h) (Or.inl ⟨by rfl, ?_⟩) ?_
                          rotate_left
                          · (intro w hSw; (try dsimp only at hSw); go_simp; (try with_reducible rfl))
                          (try simp only [Act.put, List.setIfInBounds_toArray, List.set_cons_zero, List.set_cons_succ])
                          refine M_take (v := ?_) 8 rfl (by kernel_rfl) (by assumption) (fun _ _ _ h => h) (Or.inl ⟨by rfl, ?_⟩) ?_
                          rotate_left
                          · (intro w hSw; (try dsimp only at hSw); go_simp; (try with_reducible rfl))
                          (try simp only [Act.put, List.setIfInBounds_toArray, List.set_cons_zero, List.set_cons_succ])
                          refine M_take (v := ?_) 9 rfl (by kernel_rfl) (by assumption) (fun _ _ _ h => h) (Or.inl ⟨by rfl, ?_⟩) ?_
                          rotate_left
                          · (intro w hSw; (try dsimp only at hSw); go_simp; (try with_reducible rfl))
                          (try simp only [Act.put, List.setIfInBounds_toArray, List.set_cons_zero, List.set_cons_succ])
                          refine M_take (v := ?_) 10 rfl (by kernel_rfl) (by assumption) (fun _ _ _ h => h) (Or.inl ⟨by rfl, ?_⟩) ?_
                          rotate_left
                          · (intro w hSw; (try dsimp only at hSw); go_simp; (try with_reducible rfl))
                          (try simp only [Act.put, List.setIfInBounds_toArray, List.set_cons_zero, List.set_cons_succ])
                          refine M_take (v := ?_) 11 rfl (by kernel_rfl) (by assumption) (fun _ _ _ h => h) (Or.inl ⟨by rfl, ?_⟩) ?_
                          rotate_left
                          · (intro w hSw; (try dsimp only at hSw); go_simp; (try with_reducible rfl))
                          (try simp only [Act.put, List.setIfInBounds_toArray, List.set_cons_zero, List.set_cons_succ])
                          refine M_step 12 rfl (by kernel_rfl) (fun K hK => ?_)
                          go_simp
                          go_at_call 58
                          refine (mo_any k Z _ _ _ _ (I0_6.out.up (DB6_0.out)) (I5_6.out.up (DB6_0.out)) hn5).mono ?_
                          rintro e wA6_1 ⟨A'1, c'1, rfl, hm1, hbA⟩
                          have DA6_1 := Lib.hid (show Below w6.heap.size w6 wA6_1 from nextB (DB6_0.out) hbA)
                          have M1 := Lib.hid hm1
                          have hTwA6_1 : (fun w' => w'.cell? ⟨w.heap.size, 0, none⟩ = some (.int .i64 (p.b)) ∧ w'.cell? ⟨w.heap.size, 1, none⟩ = some (.int .i64 (p.lo)) ∧ w'.cell? ⟨w.heap.size, 2, none⟩ = some (.int .i64 (p.hi)) ∧ w'.cell? ⟨w.heap.size, 3, none⟩ = some (.int .i64 (p.r))) wA6_1 := ⟨cell_up DA6_1.out zp6 x0, cell_up DA6_1.out zp6 x1, cell_up DA6_1.out zp6 x2, cell_up DA6_1.out zp6 x3⟩
                          clear hbA hm1
                          refine hK.out _ _ (fun _ => hTwA6_1) ?_
                          clear hK K
                          (try simp only [Act.put, List.setIfInBounds_toArray, List.set_cons_zero, List.set_cons_succ])
                          refine M_step 13 rfl (by kernel_rfl) (fun K hK => ?_)
                          go_simp
                          go_at_call 32
                          refine (KK5.out _ _ _ M1.out).mono ?_
                          rintro e wB6_1 ⟨rfl, hbB⟩
                          have DB6_1 := Lib.hid (show Below w6.heap.size w6 wB6_1 from nextB DA6_1.out hbB)
                          have hTwB6_1 : (fun w' => w'.cell? ⟨w.heap.size, 0, none⟩ = some (.int .i64 (p.b)) ∧ w'.cell? ⟨w.heap.size, 1, none⟩ = some (.int .i64 (p.lo)) ∧ w'.cell? ⟨w.heap.size, 2, none⟩ = some (.int .i64 (p.hi)) ∧ w'.cell? ⟨w.heap.size, 3, none⟩ = some (.int .i64 (p.r))) wB6_1 := ⟨cell_up DB6_1.out zp6 x0, cell_up DB6_1.out zp6 x1, cell_up DB6_1.out zp6 x2, cell_up DB6_1.out zp6 x3⟩
                          clear hbB M1 hTwA6_1
                          refine hK.out _ _ (fun _ => hTwB6_1) ?_
                          clear hK K
                          (try simp only [Act.put, List.setIfInBounds_toArray, List.set_cons_zero, List.set_cons_succ])
                          refine M_take (v := ?_) 14 rfl (by kernel_rfl) (by assumption) (fun _ _ _ h => h) (Or.inl ⟨by rfl, ?_⟩) ?_
                          rotate_left
                          · (intro w hSw; (try dsimp only at hSw); go_simp; (try with_reducible rfl))
                          (try simp only [Act.put, List.setIfInBounds_toArray, List.set_cons_zero, List.set_cons_succ])
                          refine M_take (v := ?_) 15 rfl (by kernel_rfl) (by assumption) (fun _ _ _ h => h) (Or.inl ⟨by rfl, ?_⟩) ?_
                          rotate_left
                          · (intro w hSw; (try dsimp only at hSw); go_simp; (try with_reducible rfl))
                          (try simp only [Act.put, List.setIfInBounds_toArray, List.set_cons_zero, List.set_cons_succ])
                          refine M_take (v := ?_) 16 rfl (by kernel_rfl) (by assumption) (fun _ _ _ h => h) (Or.inl ⟨by rfl, ?_⟩) ?_
                          rotate_left
                          · (intro w hSw; (try dsimp only at hSw); go_simp; (try with_reducible rfl))
                          (try simp only [Act.put, List.setIfInBounds_toArray, List.set_cons_zero, List.set_cons_succ])
                          refine M_take (v := ?_) 17 rfl (by kernel_rfl) (by assumption) (fun _ _ _ h => h) (Or.inl ⟨by rfl, ?_⟩) ?_
                          rotate_left
                          · (intro w hSw; (try dsimp only at hSw); go_simp; (try with_reducible rfl))
                          (try simp only [Act.put, List.setIfInBounds_toArray, List.set_cons_zero, List.set_cons_succ])
                          refine M_take (v := ?_) 18 rfl (by kernel_rfl) (by assumption) (fun _ _ _ h => h) (Or.inl ⟨by rfl, ?_⟩) ?_
                          rotate_left
                          · (intro w hSw; (try dsimp only at hSw); go_simp; (try with_reducible rfl))
                          (try simp only [Act.put, List.setIfInBounds_toArray, List.set_cons_zero, List.set_cons_succ])
                          refine M_take (v := ?_) 19 rfl (by kernel_rfl) (by assumption) (fun _ _ _ h => h) (Or.inl ⟨by rfl, ?_⟩) ?_
                          rotate_left
                          · (intro w hSw; (try dsimp only at hSw); go_simp; (try with_reducible rfl))
                          (try simp only [Act.put, List.setIfInBounds_toArray, List.set_cons_zero, List.set_cons_succ])
                          refine M_step 20 rfl (by kernel_rfl) (fun K hK => ?_)
                          go_simp
                          go_at_call 58
                          refine (mo_any k Z _ _ _ _ (I0_6.out.up (DB6_1.out)) (I6_6.out.up (DB6_1.out)) hn5).mono ?_
                          rintro e wA6_2 ⟨A'2, c'2, rfl, hm2, hbA⟩
                          have DA6_2 := Lib.hid (show Below w6.heap.size w6 wA6_2 from nextB (DB6_1.out) hbA)
                          have M2 := Lib.hid hm2
                          have hTwA6_2 : (fun w' => w'.cell? ⟨w.heap.size, 0, none⟩ = some (.int .i64 (p.b)) ∧ w'.cell? ⟨w.heap.size, 1, none⟩ = some (.int .i64 (p.lo)) ∧ w'.cell? ⟨w.heap.size, 2, none⟩ = some (.int .i64 (p.hi)) ∧ w'.cell? ⟨w.heap.size, 3, none⟩ = some (.int .i64 (p.r))) wA6_2 := ⟨cell_up DA6_2.out zp6 x0, cell_up DA6_2.out zp6 x1, cell_up DA6_2.out zp6 x2, cell_up DA6_2.out zp6 x3⟩
                          clear hbA hm2
                          refine hK.out _ _ (fun _ => hTwA6_2) ?_
                          clear hK K
                          (try simp only [Act.put, List.setIfInBounds_toArray, List.set_cons_zero, List.set_cons_succ])
                          refine M_step 21 rfl (by kernel_rfl) (fun K hK => ?_)
                          go_simp
                          go_at_call 32
                          refine (KK6.out _ _ _ M2.out).mono ?_
                          rintro e wB6_2 ⟨rfl, hbB⟩
                          have DB6_2 := Lib.hid (show Below w6.heap.size w6 wB6_2 from nextB DA6_2.out hbB)
                          have hTwB6_2 : (fun w' => w'.cell? ⟨w.heap.size, 0, none⟩ = some (.int .i64 (p.b)) ∧ w'.cell? ⟨w.heap.size, 1, none⟩ = some (.int .i64 (p.lo)) ∧ w'.cell? ⟨w.heap.size, 2, none⟩ = some (.int .i64 (p.hi)) ∧ w'.cell? ⟨w.heap.size, 3, none⟩ = some (.int .i64 (p.r))) wB6_2 := ⟨cell_up DB6_2.out zp6 x0, cell_up DB6_2.out zp6 x1, cell_up DB6_2.out zp6 x2, cell_up DB6_2.out zp6 x3⟩
                          clear hbB M2 hTwA6_2
                          refine hK.out _ _ (fun _ => hTwB6_2) ?_
                          clear hK K
                          (try simp only [Act.put, List.setIfInBounds_toArray, List.set_cons_zero, List.set_cons_succ])
                          refine M_take (v := ?_) 22 rfl (by kernel_rfl) (by assumption) (fun _ _ _ h => h) (Or.inl ⟨by rfl, ?_⟩) ?_
                          rotate_left
                          · (intro w hSw; (try dsimp only at hSw); go_simp; (try with_reducible rfl))
                          (try simp only [Act.put, List.setIfInBounds_toArray, List.set_cons_zero, List.set_cons_succ])
                          refine M_take (v := ?_) 23 rfl (by kernel_rfl) (by assumption) (fun _ _ _ h => h) (Or.inl ⟨by rfl, ?_⟩) ?_
                          rotate_left
                          · (intro w hSw; (try dsimp only at hSw); go_simp; (try with_reducible rfl))
                          (try simp only [Act.put, List.setIfInBounds_toArray, List.set_cons_zero, List.set_cons_succ])
                          refine M_take (v := ?_) 24 rfl (by kernel_rfl) (by assumption) (fun _ _ _ h => h) (Or.inl ⟨by rfl, ?_⟩) ?_
                          rotate_left
                          · (intro w hSw; (try dsimp only at hSw); go_simp; (try with_reducible rfl))
                          (try simp only [Act.put, List.setIfInBounds_toArray, List.set_cons_zero, List.set_cons_succ])
                          refine M_done (by kernel_rfl) ?_ _
                          as_aux_lemma =>
                            go_wp2_with fail
                            go_meet
                            exact ⟨rfl, DB6_2.out⟩
                      | false =>
                        as_aux_lemma =>
                          refine wp_region_M [] (fun w' => w'.cell? ⟨w.heap.size, 0, none⟩ = some (.int .i64 (p.b)) ∧ w'.cell? ⟨w.heap.size, 1, none⟩ = some (.int .i64 (p.lo)) ∧ w'.cell? ⟨w.heap.size, 2, none⟩ = some (.int .i64 (p.hi)) ∧ w'.cell? ⟨w.heap.size, 3, none⟩ = some (.int .i64 (p.r))) (by kernel_rfl) (by kernel_rfl) (by (try dsimp only); (repeat' apply And.intro); all_goals first | assumption | (go_simp; done)) (fun hT0 => ?_)
                          refine M_take (v := ?_) 0 rfl (by kernel_rfl) (by assumption) (fun _ _ _ h => h) (Or.inl ⟨by rfl, ?_⟩) ?_
                          rotate_left
                          · (intro w hSw; (try dsimp only at hSw); go_simp; (try with_reducible rfl))
                          (try simp only [Act.put, List.setIfInBounds_toArray, List.set_cons_zero, List.set_cons_succ])
                          refine M_take (v := ?_) 1 rfl (by kernel_rfl) (by assumption) (fun _ _ _ h => h) (Or.inl ⟨by rfl, ?_⟩) ?_
                          rotate_left
                          · (intro w hSw; (try dsimp only at hSw); go_simp; (try with_reducible rfl))
                          (try simp only [Act.put, List.setIfInBounds_toArray, List.set_cons_zero, List.set_cons_succ])
                          refine M_take 2 rfl (by kernel_rfl) (by assumption) (fun _ _ _ h => h) (Or.inr ⟨by rfl, rfl⟩) ?_
                          (try simp only [Act.put, List.setIfInBounds_toArray, List.set_cons_zero, List.set_cons_succ])
                          refine M_take 3 rfl (by kernel_rfl) (by assumption) (fun _ _ _ h => h) (Or.inr ⟨by rfl, rfl⟩) ?_
                          (try simp only [Act.put, List.setIfInBounds_toArray, List.set_cons_zero, List.set_cons_succ])
                          refine M_take 4 rfl (by kernel_rfl) (by assumption) (fun _ _ _ h => h) (Or.inr ⟨by rfl, rfl⟩) ?_
                          (try simp only [Act.put, List.setIfInBounds_toArray, List.set_cons_zero, List.set_cons_succ])
                          refine M_take 5 rfl (by kernel_rfl) (by assumption) (fun _ _ _ h => h) (Or.inr ⟨by rfl, rfl⟩) ?_
                          (try simp only [Act.put, List.setIfInBounds_toArray, List.set_cons_zero, List.set_cons_succ])
                          refine M_take 6 rfl (by kernel_rfl) (by assumption) (fun _ _ _ h => h) (Or.inr ⟨by rfl, rfl⟩) ?_
                          (try simp only [Act.put, List.setIfInBounds_toArray, List.set_cons_zero, List.set_cons_succ])
                          refine M_take 7 rfl (by kernel_rfl) (by assumption) (fun _ _ _ h => h) (Or.inr ⟨by rfl, rfl⟩) ?_
                          (try simp only [Act.put, List.setIfInBounds_toArray, List.set_cons_zero, List.set_cons_succ])
                          refine M_take 8 rfl (by kernel_rfl) (by assumption) (fun _ _ _ h => h) (Or.inr ⟨by rfl, rfl⟩) ?_
                          (try simp only [Act.put, List.setIfInBounds_toArray, List.set_cons_zero, List.set_cons_succ])
                          refine M_take 9 rfl (by kernel_rfl) (by assumption) (fun _ _ _ h => h) (Or.inr ⟨by rfl, rfl⟩) ?_
                          (try simp only [Act.put, List.setIfInBounds_toArray, List.set_cons_zero, List.set_cons_succ])
                          refine M_take 10 rfl (by kernel_rfl) (by assumption) (fun _ _ _ h => h) (Or.inr ⟨by rfl, rfl⟩) ?_
                          (try simp only [Act.put, List.setIfInBounds_toArray, List.set_cons_zero, List.set_cons_succ])
                          refine M_take 11 rfl (by kernel_rfl) (by assumption) (fun _ _ _ h => h) (Or.inr ⟨by rfl, rfl⟩) ?_
                          (try simp only [Act.put, List.setIfInBounds_toArray, List.set_cons_zero, List.set_cons_succ])
                          refine M_take 12 rfl (by kernel_rfl) (by assumption) (fun _ _ _ h => h) (Or.inr ⟨by rfl, rfl⟩) ?_
                          (try simp only [Act.put, List.setIfInBounds_toArray, List.set_cons_zero, List.set_cons_succ])
                          refine M_take 13 rfl (by kernel_rfl) (by assumption) (fun _ _ _ h => h) (Or.inr ⟨by rfl, rfl⟩) ?_
                          (try simp only [Act.put, List.setIfInBounds_toArray, List.set_cons_zero, List.set_cons_succ])
                          refine M_take 14 rfl (by kernel_rfl) (by assumption) (fun _ _ _ h => h) (Or.inr ⟨by rfl, rfl⟩) ?_
                          (try simp only [Act.put, List.setIfInBounds_toArray, List.set_cons_zero, List.set_cons_succ])
                          refine M_take 15 rfl (by kernel_rfl) (by assumption) (fun _ _ _ h => h) (Or.inr ⟨by rfl, rfl⟩) ?_
                          (try simp only [Act.put, List.setIfInBounds_toArray, List.set_cons_zero, List.set_cons_succ])
                          refine M_take 16 rfl (by kernel_rfl) (by assumption) (fun _ _ _ h => h) (Or.inr ⟨by rfl, rfl⟩) ?_
                          (try simp only [Act.put, List.setIfInBounds_toArray, List.set_cons_zero, List.set_cons_succ])
                          refine M_take 17 rfl (by kernel_rfl) (by assumption) (fun _ _ _ h => h) (Or.inr ⟨by rfl, rfl⟩) ?_
                          (try simp only [Act.put, List.setIfInBounds_toArray, List.set_cons_zero, List.set_cons_succ])
                          refine M_take 18 rfl (by kernel_rfl) (by assumption) (fun _ _ _ h => h) (Or.inr ⟨by rfl, rfl⟩) ?_
                          (try simp only [Act.put, List.setIfInBounds_toArray, List.set_cons_zero, List.set_cons_succ])
                          refine M_take 19 rfl (by kernel_rfl) (by assumption) (fun _ _ _ h => h) (Or.inr ⟨by rfl, rfl⟩) ?_
                          (try simp only [Act.put, List.setIfInBounds_toArray, List.set_cons_zero, List.set_cons_succ])
                          refine M_take 20 rfl (by kernel_rfl) (by assumption) (fun _ _ _ h => h) (Or.inr ⟨by rfl, rfl⟩) ?_
                          (try simp only [Act.put, List.setIfInBounds_toArray, List.set_cons_zero, List.set_cons_succ])
                          refine M_take 21 rfl (by kernel_rfl) (by assumption) (fun _ _ _ h => h) (Or.inr ⟨by rfl, rfl⟩) ?_
                          (try simp only [Act.put, List.setIfInBounds_toArray, List.set_cons_zero, List.set_cons_succ])
                          refine M_take 22 rfl (by kernel_rfl) (by assumption) (fun _ _ _ h => h) (Or.inr ⟨by rfl, rfl⟩) ?_
                          (try simp only [Act.put, List.setIfInBounds_toArray, List.set_cons_zero, List.set_cons_succ])
                          refine M_take 23 rfl (by kernel_rfl) (by assumption) (fun _ _ _ h => h) (Or.inr ⟨by rfl, rfl⟩) ?_
                          (try simp only [Act.put, List.setIfInBounds_toArray, List.set_cons_zero, List.set_cons_succ])
                          refine M_take (v := ?_) 24 rfl (by kernel_rfl) (by assumption) (fun _ _ _ h => h) (Or.inl ⟨by rfl, ?_⟩) ?_
                          rotate_left
                          · (intro w hSw; (try dsimp only at hSw); go_simp; (try with_reducible rfl))
                          (try simp only [Act.put, List.setIfInBounds_toArray, List.set_cons_zero, List.set_cons_succ])
                          refine M_done (by kernel_rfl) ?_ _
                          as_aux_lemma =>
                            go_wp2_with fail
                            go_meet
                            exact ⟨rfl, (Below.refl _ _).drew⟩
                    case rest =>
                      obtain ⟨rfl, hb⟩ := hcut
                      obtain ⟨w7, rfl⟩ : ∃ w7 : World, w7 = wc := ⟨_, rfl⟩
                      have C7 := Lib.hid (nextB C6.out hb)
                      have P7 := Lib.hid (P6.out.up hb zp6)
                      have zp7 := P7.out.lt
                      have I0_7 := Lib.hid (I0_6.out.up hb)
                      have I1_7 := Lib.hid (I1_6.out.up hb)
                      have I2_7 := Lib.hid (I2_6.out.up hb)
                      have I3_7 := Lib.hid (I3_6.out.up hb)
                      have I4_7 := Lib.hid (I4_6.out.up hb)
                      have I5_7 := Lib.hid (I5_6.out.up hb)
                      have I6_7 := Lib.hid (I6_6.out.up hb)
                      clear I0_6 I1_6 I2_6 I3_6 I4_6 I5_6 I6_6
                      clear hb HG
                      clear x0 x1 x2 x3
                      obtain ⟨x0, x1, x2, x3⟩ := P7.out
                      by_cases hE1 : E1 = 0
                      · subst hE1
                        have HK1 := HE1
                        obtain ⟨E2, hE2⟩ := keeR_ex p k (prF Z Y)
                        obtain ⟨E3, hE3⟩ := keeR_ex p k (prF Z V)
                        have HE2 := Lib.hid hE2
                        have HE3 := Lib.hid hE3
                        have KK2 : Hid (∀ A' c' W, MosIn A' k (prF Z Y) W.heap.size W → Calls Try.prog 32 #[p.v, .slice A' k c'] W fun e w' => e = .returned (.int .i64 E2) ∧ Below W.heap.size W w') :=
                          Lib.hid fun A' c' W hm => Keeps_any p A' k c' (prF Z Y) E2 W hm hE2
                        have KK3 : Hid (∀ A' c' W, MosIn A' k (prF Z V) W.heap.size W → Calls Try.prog 32 #[p.v, .slice A' k c'] W fun e w' => e = .returned (.int .i64 E3) ∧ Below W.heap.size W w') :=
                          Lib.hid fun A' c' W hm => Keeps_any p A' k c' (prF Z V) E3 W hm hE3
                        clear hE2 hE3
                        go_wp2_with fail
                        as_aux_lemma =>
                          go_loopw [21] (fun i wr => ∃ q : Nat, q ≤ k ∧ i = .int .i64 (q : Int) ∧ Below w7.heap.size w7 wr) (fun i _ => k - (intOf i).toNat)
                          case atStart => exact ⟨0, Nat.zero_le _, rfl, Below.refl _ _⟩
                          case round =>
                            obtain ⟨q, hq, rfl, hb⟩ := hrel
                            obtain ⟨wo, rfl⟩ : ∃ wo : World, wo = wr := ⟨_, rfl⟩
                            have hq0 : (0 : Int) ≤ (q : Int) := by omega
                            by_cases hlt2 : q < k
                            · have hqi : (q : Int) < (k : Int) := by omega
                              have HB := Lib.hid hb
                              obtain ⟨a', e1, b0⟩ := (I0_7.out.up hb).at q hlt2
                              cases e1
                              obtain ⟨a', e1, b1⟩ := (I1_7.out.up hb).at q hlt2
                              cases e1
                              obtain ⟨a', e1, b4⟩ := (I4_7.out.up hb).at q hlt2
                              cases e1
                              obtain ⟨a', e1, b5⟩ := (I5_7.out.up hb).at q hlt2
                              cases e1
                              obtain ⟨a', e1, b6⟩ := (I6_7.out.up hb).at q hlt2
                              cases e1
                              obtain ⟨l1, l2, l3⟩ := lat_in HE1.out q hlt2
                              obtain ⟨l4, l5, l6, l7⟩ := lat_bd HE.out q hlt2
                              obtain ⟨l8, l9⟩ := (kee_of HE1.out).2.2.1 q hlt2
                              clear hb
                              generalize lowF p Z k q = lq at *
                              generalize highF p Z k q = hq2 at *
                              generalize nearF p Z k q = nq at *
                              generalize X q = xq at *
                              generalize Z q = zq at *
                              have u1 : IntKind.i64.wrap (nq - zq) = nq - zq := IntWalk.i64_in _ (by omega)
                              have u2 : IntKind.i64.wrap (xq - zq) = xq - zq := IntWalk.i64_in _ (by omega)
                              have d1 : decide (xq < lq) = false := decide_eq_false (by omega)
                              have d2 : decide (xq > hq2) = false := decide_eq_false (by omega)
                              have KA1 := Lib.hid fun W => abs_any (nq - zq) W (by omega)
                              have KA2 := Lib.hid fun W => abs_any (xq - zq) W (by omega)
                              obtain ⟨m1, hm1⟩ : ∃ m1, m1 = max (nq - zq) (-(nq - zq)) := ⟨_, rfl⟩
                              obtain ⟨m2, hm2⟩ : ∃ m2, m2 = max (xq - zq) (-(xq - zq)) := ⟨_, rfl⟩
                              rw [← hm1] at KA1
                              rw [← hm2] at KA2
                              have d3 : decide (m1 > m2) = false := decide_eq_false (by omega)
                              clear hm1 hm2 l1 l2 l3 l4 l5 l6 l7 l8 l9
                              go_wp2_with fail
                              as_aux_lemma =>
                                refine wp_region_M [] (fun w' => w'.cell? (a0.add q) = some (.int .i64 zq) ∧ w'.cell? (a1.add q) = some (.int .i64 xq) ∧ w'.cell? (a4.add q) = some (.int .i64 lq) ∧ w'.cell? (a5.add q) = some (.int .i64 hq2) ∧ w'.cell? (a6.add q) = some (.int .i64 nq)) (by kernel_rfl) (by kernel_rfl) (by (try dsimp only); (repeat' apply And.intro); all_goals first | assumption | (go_simp; done)) (fun hT0 => ?_)
                                refine M_take (v := ?_) 0 rfl (by kernel_rfl) (by assumption) (fun _ _ _ h => h) (Or.inl ⟨by rfl, ?_⟩) ?_
                                rotate_left
                                · (intro w hSw; (try dsimp only at hSw); go_simp; (try with_reducible rfl))
                                (try simp only [Act.put, List.setIfInBounds_toArray, List.set_cons_zero, List.set_cons_succ])
                                refine M_take (v := ?_) 1 rfl (by kernel_rfl) (by assumption) (fun _ _ _ h => h) (Or.inl ⟨by rfl, ?_⟩) ?_
                                rotate_left
                                · (intro w hSw; (try dsimp only at hSw); go_simp; (try with_reducible rfl))
                                (try simp only [Act.put, List.setIfInBounds_toArray, List.set_cons_zero, List.set_cons_succ])
                                refine M_take (v := ?_) 2 rfl (by kernel_rfl) (by assumption) (fun _ _ _ h => h) (Or.inl ⟨by rfl, ?_⟩) ?_
                                rotate_left
                                · (intro w hSw; (try dsimp only at hSw); go_simp; (try with_reducible rfl))
                                (try simp only [Act.put, List.setIfInBounds_toArray, List.set_cons_zero, List.set_cons_succ])
                                refine M_take (v := ?_) 3 rfl (by kernel_rfl) (by assumption) (fun _ _ _ h => h) (Or.inl ⟨by rfl, ?_⟩) ?_
                                rotate_left
                                · (intro w hSw; (try dsimp only at hSw); go_simp; (try with_reducible rfl))
                                (try simp only [Act.put, List.setIfInBounds_toArray, List.set_cons_zero, List.set_cons_succ])
                                refine M_take (v := ?_) 4 rfl (by kernel_rfl) (by assumption) (fun _ _ _ h => h) (Or.inl ⟨by rfl, ?_⟩) ?_
                                rotate_left
                                · (intro w hSw; (try dsimp only at hSw); go_simp; (try with_reducible rfl))
                                (try simp only [Act.put, List.setIfInBounds_toArray, List.set_cons_zero, List.set_cons_succ])
                                refine M_take (v := ?_) 5 rfl (by kernel_rfl) (by assumption) (fun _ _ _ h => h) (Or.inl ⟨by rfl, ?_⟩) ?_
                                rotate_left
                                · (intro w hSw; (try dsimp only at hSw); go_simp; (try with_reducible rfl))
                                (try simp only [Act.put, List.setIfInBounds_toArray, List.set_cons_zero, List.set_cons_succ])
                                refine M_take (v := ?_) 6 rfl (by kernel_rfl) (by assumption) (fun _ _ _ h => h) (Or.inl ⟨by rfl, ?_⟩) ?_
                                rotate_left
                                · (intro w hSw; (try dsimp only at hSw); go_simp; (try with_reducible rfl))
                                (try simp only [Act.put, List.setIfInBounds_toArray, List.set_cons_zero, List.set_cons_succ])
                                refine M_take (v := ?_) 7 rfl (by kernel_rfl) (by assumption) (fun _ _ _ h => h) (Or.inl ⟨by rfl, ?_⟩) ?_
                                rotate_left
                                · (intro w hSw; (try dsimp only at hSw); go_simp; (try with_reducible rfl))
                                (try simp only [Act.put, List.setIfInBounds_toArray, List.set_cons_zero, List.set_cons_succ])
                                refine M_take (v := ?_) 8 rfl (by kernel_rfl) (by assumption) (fun _ _ _ h => h) (Or.inl ⟨by rfl, ?_⟩) ?_
                                rotate_left
                                · (intro w hSw; (try dsimp only at hSw); go_simp; (try with_reducible rfl))
                                (try simp only [Act.put, List.setIfInBounds_toArray, List.set_cons_zero, List.set_cons_succ])
                                refine M_take (v := ?_) 9 rfl (by kernel_rfl) (by assumption) (fun _ _ _ h => h) (Or.inl ⟨by rfl, ?_⟩) ?_
                                rotate_left
                                · (intro w hSw; (try dsimp only at hSw); go_simp; (try with_reducible rfl))
                                (try simp only [Act.put, List.setIfInBounds_toArray, List.set_cons_zero, List.set_cons_succ])
                                refine M_take (v := ?_) 10 rfl (by kernel_rfl) (by assumption) (fun _ _ _ h => h) (Or.inl ⟨by rfl, ?_⟩) ?_
                                rotate_left
                                · (intro w hSw; (try dsimp only at hSw); go_simp; (try with_reducible rfl))
                                (try simp only [Act.put, List.setIfInBounds_toArray, List.set_cons_zero, List.set_cons_succ])
                                refine M_take (v := ?_) 11 rfl (by kernel_rfl) (by assumption) (fun _ _ _ h => h) (Or.inl ⟨by rfl, ?_⟩) ?_
                                rotate_left
                                · (intro w hSw; (try dsimp only at hSw); go_simp; (try with_reducible rfl))
                                (try simp only [Act.put, List.setIfInBounds_toArray, List.set_cons_zero, List.set_cons_succ])
                                refine M_take (v := ?_) 12 rfl (by kernel_rfl) (by assumption) (fun _ _ _ h => h) (Or.inl ⟨by rfl, ?_⟩) ?_
                                rotate_left
                                · (intro w hSw; (try dsimp only at hSw); go_simp; (try with_reducible rfl))
                                (try simp only [Act.put, List.setIfInBounds_toArray, List.set_cons_zero, List.set_cons_succ])
                                refine M_take (v := ?_) 13 rfl (by kernel_rfl) (by assumption) (fun _ _ _ h => h) (Or.inl ⟨by rfl, ?_⟩) ?_
                                rotate_left
                                · (intro w hSw; (try dsimp only at hSw); go_simp; (try with_reducible rfl))
                                (try simp only [Act.put, List.setIfInBounds_toArray, List.set_cons_zero, List.set_cons_succ])
                                refine M_take (v := ?_) 14 rfl (by kernel_rfl) (by assumption) (fun _ _ _ h => h) (Or.inl ⟨by rfl, ?_⟩) ?_
                                rotate_left
                                · (intro w hSw; (try dsimp only at hSw); go_simp; (try with_reducible rfl))
                                (try simp only [Act.put, List.setIfInBounds_toArray, List.set_cons_zero, List.set_cons_succ])
                                refine M_take (v := ?_) 15 rfl (by kernel_rfl) (by assumption) (fun _ _ _ h => h) (Or.inl ⟨by rfl, ?_⟩) ?_
                                rotate_left
                                · (intro w hSw; (try dsimp only at hSw); go_simp; (try with_reducible rfl))
                                (try simp only [Act.put, List.setIfInBounds_toArray, List.set_cons_zero, List.set_cons_succ])
                                refine M_take (v := ?_) 16 rfl (by kernel_rfl) (by assumption) (fun _ _ _ h => h) (Or.inl ⟨by rfl, ?_⟩) ?_
                                rotate_left
                                · (intro w hSw; (try dsimp only at hSw); go_simp; (try with_reducible rfl))
                                (try simp only [Act.put, List.setIfInBounds_toArray, List.set_cons_zero, List.set_cons_succ])
                                refine M_take (v := ?_) 17 rfl (by kernel_rfl) (by assumption) (fun _ _ _ h => h) (Or.inl ⟨by rfl, ?_⟩) ?_
                                rotate_left
                                · (intro w hSw; (try dsimp only at hSw); go_simp; (try with_reducible rfl))
                                (try simp only [Act.put, List.setIfInBounds_toArray, List.set_cons_zero, List.set_cons_succ])
                                refine M_take (v := ?_) 18 rfl (by kernel_rfl) (by assumption) (fun _ _ _ h => h) (Or.inl ⟨by rfl, ?_⟩) ?_
                                rotate_left
                                · (intro w hSw; (try dsimp only at hSw); go_simp; (try with_reducible rfl))
                                (try simp only [Act.put, List.setIfInBounds_toArray, List.set_cons_zero, List.set_cons_succ])
                                refine M_take (v := ?_) 19 rfl (by kernel_rfl) (by assumption) (fun _ _ _ h => h) (Or.inl ⟨by rfl, ?_⟩) ?_
                                rotate_left
                                · (intro w hSw; (try dsimp only at hSw); go_simp; (try with_reducible rfl))
                                (try simp only [Act.put, List.setIfInBounds_toArray, List.set_cons_zero, List.set_cons_succ])
                                refine M_take (v := ?_) 20 rfl (by kernel_rfl) (by assumption) (fun _ _ _ h => h) (Or.inl ⟨by rfl, ?_⟩) ?_
                                rotate_left
                                · (intro w hSw; (try dsimp only at hSw); go_simp; (try with_reducible rfl))
                                (try simp only [Act.put, List.setIfInBounds_toArray, List.set_cons_zero, List.set_cons_succ])
                                refine M_take (v := ?_) 21 rfl (by kernel_rfl) (by assumption) (fun _ _ _ h => h) (Or.inl ⟨by rfl, ?_⟩) ?_
                                rotate_left
                                · (intro w hSw; (try dsimp only at hSw); go_simp; (try with_reducible rfl))
                                (try simp only [Act.put, List.setIfInBounds_toArray, List.set_cons_zero, List.set_cons_succ])
                                refine M_take (v := ?_) 22 rfl (by kernel_rfl) (by assumption) (fun _ _ _ h => h) (Or.inl ⟨by rfl, ?_⟩) ?_
                                rotate_left
                                · (intro w hSw; (try dsimp only at hSw); go_simp; (try with_reducible rfl))
                                (try simp only [Act.put, List.setIfInBounds_toArray, List.set_cons_zero, List.set_cons_succ])
                                refine M_take (v := ?_) 23 rfl (by kernel_rfl) (by assumption) (fun _ _ _ h => h) (Or.inl ⟨by rfl, ?_⟩) ?_
                                rotate_left
                                · (intro w hSw; (try dsimp only at hSw); go_simp; (try with_reducible rfl))
                                (try simp only [Act.put, List.setIfInBounds_toArray, List.set_cons_zero, List.set_cons_succ])
                                refine M_take (v := ?_) 24 rfl (by kernel_rfl) (by assumption) (fun _ _ _ h => h) (Or.inl ⟨by rfl, ?_⟩) ?_
                                rotate_left
                                · (intro w hSw; (try dsimp only at hSw); go_simp; (try with_reducible rfl))
                                (try simp only [Act.put, List.setIfInBounds_toArray, List.set_cons_zero, List.set_cons_succ])
                                refine M_take (v := ?_) 25 rfl (by kernel_rfl) (by assumption) (fun _ _ _ h => h) (Or.inl ⟨by rfl, ?_⟩) ?_
                                rotate_left
                                · (intro w hSw; (try dsimp only at hSw); go_simp; (try with_reducible rfl))
                                (try simp only [Act.put, List.setIfInBounds_toArray, List.set_cons_zero, List.set_cons_succ])
                                refine M_take (v := ?_) 26 rfl (by kernel_rfl) (by assumption) (fun _ _ _ h => h) (Or.inl ⟨by rfl, ?_⟩) ?_
                                rotate_left
                                · (intro w hSw; (try dsimp only at hSw); go_simp; (try with_reducible rfl))
                                (try simp only [Act.put, List.setIfInBounds_toArray, List.set_cons_zero, List.set_cons_succ])
                                refine M_take (v := ?_) 27 rfl (by kernel_rfl) (by assumption) (fun _ _ _ h => h) (Or.inl ⟨by rfl, ?_⟩) ?_
                                rotate_left
                                · (intro w hSw; (try dsimp only at hSw); go_simp; (try with_reducible rfl))
                                (try simp only [Act.put, List.setIfInBounds_toArray, List.set_cons_zero, List.set_cons_succ])
                                refine M_take (v := ?_) 28 rfl (by kernel_rfl) (by assumption) (fun _ _ _ h => h) (Or.inl ⟨by rfl, ?_⟩) ?_
                                rotate_left
                                · (intro w hSw; (try dsimp only at hSw); go_simp; (try with_reducible rfl))
                                (try simp only [Act.put, List.setIfInBounds_toArray, List.set_cons_zero, List.set_cons_succ])
                                refine M_take (v := ?_) 29 rfl (by kernel_rfl) (by assumption) (fun _ _ _ h => h) (Or.inl ⟨by rfl, ?_⟩) ?_
                                rotate_left
                                · (intro w hSw; (try dsimp only at hSw); go_simp; (try with_reducible rfl))
                                (try simp only [Act.put, List.setIfInBounds_toArray, List.set_cons_zero, List.set_cons_succ])
                                refine M_take (v := ?_) 31 rfl (by kernel_rfl) (by assumption) (fun _ _ _ h => h) (Or.inl ⟨by rfl, ?_⟩) ?_
                                rotate_left
                                · (intro w hSw; (try dsimp only at hSw); go_simp; (try with_reducible rfl))
                                (try simp only [Act.put, List.setIfInBounds_toArray, List.set_cons_zero, List.set_cons_succ])
                                refine M_take (v := ?_) 32 rfl (by kernel_rfl) (by assumption) (fun _ _ _ h => h) (Or.inl ⟨by rfl, ?_⟩) ?_
                                rotate_left
                                · (intro w hSw; (try dsimp only at hSw); go_simp; (try with_reducible rfl))
                                (try simp only [Act.put, List.setIfInBounds_toArray, List.set_cons_zero, List.set_cons_succ])
                                refine M_take (v := ?_) 33 rfl (by kernel_rfl) (by assumption) (fun _ _ _ h => h) (Or.inl ⟨by rfl, ?_⟩) ?_
                                rotate_left
                                · (intro w hSw; (try dsimp only at hSw); go_simp; (try with_reducible rfl))
                                (try simp only [Act.put, List.setIfInBounds_toArray, List.set_cons_zero, List.set_cons_succ])
                                refine M_take (v := ?_) 34 rfl (by kernel_rfl) (by assumption) (fun _ _ _ h => h) (Or.inl ⟨by rfl, ?_⟩) ?_
                                rotate_left
                                · (intro w hSw; (try dsimp only at hSw); go_simp; (try with_reducible rfl))
                                (try simp only [Act.put, List.setIfInBounds_toArray, List.set_cons_zero, List.set_cons_succ])
                                refine M_take (v := ?_) 35 rfl (by kernel_rfl) (by assumption) (fun _ _ _ h => h) (Or.inl ⟨by rfl, ?_⟩) ?_
                                rotate_left
                                · (intro w hSw; (try dsimp only at hSw); go_simp; (try with_reducible rfl))
                                (try simp only [Act.put, List.setIfInBounds_toArray, List.set_cons_zero, List.set_cons_succ])
                                refine M_take (v := ?_) 36 rfl (by kernel_rfl) (by assumption) (fun _ _ _ h => h) (Or.inl ⟨by rfl, ?_⟩) ?_
                                rotate_left
                                · (intro w hSw; (try dsimp only at hSw); go_simp; (try with_reducible rfl))
                                (try simp only [Act.put, List.setIfInBounds_toArray, List.set_cons_zero, List.set_cons_succ])
                                refine M_take (v := ?_) 37 rfl (by kernel_rfl) (by assumption) (fun _ _ _ h => h) (Or.inl ⟨by rfl, ?_⟩) ?_
                                rotate_left
                                · (intro w hSw; (try dsimp only at hSw); go_simp; (try with_reducible rfl))
                                (try simp only [Act.put, List.setIfInBounds_toArray, List.set_cons_zero, List.set_cons_succ])
                                refine M_take (v := ?_) 38 rfl (by kernel_rfl) (by assumption) (fun _ _ _ h => h) (Or.inl ⟨by rfl, ?_⟩) ?_
                                rotate_left
                                · (intro w hSw; (try dsimp only at hSw); go_simp; (try with_reducible rfl))
                                (try simp only [Act.put, List.setIfInBounds_toArray, List.set_cons_zero, List.set_cons_succ])
                                refine M_take (v := ?_) 39 rfl (by kernel_rfl) (by assumption) (fun _ _ _ h => h) (Or.inl ⟨by rfl, ?_⟩) ?_
                                rotate_left
                                · (intro w hSw; (try dsimp only at hSw); go_simp; (try with_reducible rfl))
                                (try simp only [Act.put, List.setIfInBounds_toArray, List.set_cons_zero, List.set_cons_succ])
                                refine M_step 30 rfl (by kernel_rfl) (fun K hK => ?_)
                                go_simp
                                go_at_call 60
                                refine (KA1.out _).mono ?_
                                rintro e w' ⟨rfl, rfl⟩
                                refine hK.out _ _ (fun _ => by assumption) ?_
                                clear hK K
                                (try simp only [Act.put, List.setIfInBounds_toArray, List.set_cons_zero, List.set_cons_succ])
                                refine M_step 40 rfl (by kernel_rfl) (fun K hK => ?_)
                                go_simp
                                go_at_call 60
                                refine (KA2.out _).mono ?_
                                rintro e w' ⟨rfl, rfl⟩
                                refine hK.out _ _ (fun _ => by assumption) ?_
                                clear hK K
                                (try simp only [Act.put, List.setIfInBounds_toArray, List.set_cons_zero, List.set_cons_succ])
                                refine M_take (v := ?_) 41 rfl (by kernel_rfl) (by assumption) (fun _ _ _ h => h) (Or.inl ⟨by rfl, ?_⟩) ?_
                                rotate_left
                                · (intro w hSw; (try dsimp only at hSw); go_simp; (try with_reducible rfl))
                                (try simp only [Act.put, List.setIfInBounds_toArray, List.set_cons_zero, List.set_cons_succ])
                                refine M_take (v := ?_) 42 rfl (by kernel_rfl) (by assumption) (fun _ _ _ h => h) (Or.inl ⟨by rfl, ?_⟩) ?_
                                rotate_left
                                · (intro w hSw; (try dsimp only at hSw); go_simp; (try with_reducible rfl))
                                (try simp only [Act.put, List.setIfInBounds_toArray, List.set_cons_zero, List.set_cons_succ])
                                refine M_done (by kernel_rfl) ?_ _
                                as_aux_lemma =>
                                  go_wp2_with fail
                                  go_roundw
                                  case rel => exact ⟨q + 1, by omega, by go_num, HB.out.drew⟩
                                  case measure => simp [intOf]; omega
                            · have hqi : (k : Int) ≤ (q : Int) := by omega
                              obtain rfl : q = k := by omega
                              obtain ⟨w8, rfl⟩ : ∃ w8 : World, w8 = wo := ⟨_, rfl⟩
                              have C8 := Lib.hid (nextB C7.out hb)
                              have P8 := Lib.hid (P7.out.up hb zp7)
                              have zp8 := P8.out.lt
                              have I0_8 := Lib.hid (I0_7.out.up hb)
                              have I1_8 := Lib.hid (I1_7.out.up hb)
                              have I2_8 := Lib.hid (I2_7.out.up hb)
                              have I3_8 := Lib.hid (I3_7.out.up hb)
                              have I4_8 := Lib.hid (I4_7.out.up hb)
                              have I5_8 := Lib.hid (I5_7.out.up hb)
                              have I6_8 := Lib.hid (I6_7.out.up hb)
                              clear I0_7 I1_7 I2_7 I3_7 I4_7 I5_7 I6_7
                              clear hb
                              clear x0 x1 x2 x3
                              obtain ⟨x0, x1, x2, x3⟩ := P8.out
                              by_cases hE2 : E2 = 0
                              · by_cases hE3 : E3 = 0
                                · subst hE2
                                  subst hE3
                                  go_wp2_with fail
                                  as_aux_lemma =>
                                    refine wp_region_M [] (fun w' => w'.cell? ⟨w.heap.size, 0, none⟩ = some (.int .i64 (p.b)) ∧ w'.cell? ⟨w.heap.size, 1, none⟩ = some (.int .i64 (p.lo)) ∧ w'.cell? ⟨w.heap.size, 2, none⟩ = some (.int .i64 (p.hi)) ∧ w'.cell? ⟨w.heap.size, 3, none⟩ = some (.int .i64 (p.r))) (by kernel_rfl) (by kernel_rfl) (by (try dsimp only); (repeat' apply And.intro); all_goals first | assumption | (go_simp; done)) (fun hT0 => ?_)
                                    refine M_take (v := ?_) 0 rfl (by kernel_rfl) (by assumption) (fun _ _ _ h => h) (Or.inl ⟨by rfl, ?_⟩) ?_
                                    rotate_left
                                    · (intro w hSw; (try dsimp only at hSw); go_simp; (try with_reducible rfl))
                                    (try simp only [Act.put, List.setIfInBounds_toArray, List.set_cons_zero, List.set_cons_succ])
                                    refine M_take (v := ?_) 1 rfl (by kernel_rfl) (by assumption) (fun _ _ _ h => h) (Or.inl ⟨by rfl, ?_⟩) ?_
                                    rotate_left
                                    · (intro w hSw; (try dsimp only at hSw); go_simp; (try with_reducible rfl))
                                    (try simp only [Act.put, List.setIfInBounds_toArray, List.set_cons_zero, List.set_cons_succ])
                                    refine M_take (v := ?_) 2 rfl (by kernel_rfl) (by assumption) (fun _ _ _ h => h) (Or.inl ⟨by rfl, ?_⟩) ?_
                                    rotate_left
                                    · (intro w hSw; (try dsimp only at hSw); go_simp; (try with_reducible rfl))
                                    (try simp only [Act.put, List.setIfInBounds_toArray, List.set_cons_zero, List.set_cons_succ])
                                    refine M_step 3 rfl (by kernel_rfl) (fun K hK => ?_)
                                    go_simp
                                    go_at_call 58
                                    refine (mo_any q Z _ _ _ _ (I0_8.out.up ((Below.refl _ _).drew)) (I2_8.out.up ((Below.refl _ _).drew)) hn5).mono ?_
                                    rintro e wA8_0 ⟨A'0, c'0, rfl, hm0, hbA⟩
                                    have DA8_0 := Lib.hid (show Below w8.heap.size w8 wA8_0 from nextB ((Below.refl _ _).drew) hbA)
                                    have M0 := Lib.hid hm0
                                    have hTwA8_0 : (fun w' => w'.cell? ⟨w.heap.size, 0, none⟩ = some (.int .i64 (p.b)) ∧ w'.cell? ⟨w.heap.size, 1, none⟩ = some (.int .i64 (p.lo)) ∧ w'.cell? ⟨w.heap.size, 2, none⟩ = some (.int .i64 (p.hi)) ∧ w'.cell? ⟨w.heap.size, 3, none⟩ = some (.int .i64 (p.r))) wA8_0 := ⟨cell_up DA8_0.out zp8 x0, cell_up DA8_0.out zp8 x1, cell_up DA8_0.out zp8 x2, cell_up DA8_0.out zp8 x3⟩
                                    clear hbA hm0
                                    refine hK.out _ _ (fun _ => hTwA8_0) ?_
                                    clear hK K
                                    (try simp only [Act.put, List.setIfInBounds_toArray, List.set_cons_zero, List.set_cons_succ])
                                    refine M_step 4 rfl (by kernel_rfl) (fun K hK => ?_)
                                    go_simp
                                    go_at_call 32
                                    refine (KK2.out _ _ _ M0.out).mono ?_
                                    rintro e wB8_0 ⟨rfl, hbB⟩
                                    have DB8_0 := Lib.hid (show Below w8.heap.size w8 wB8_0 from nextB DA8_0.out hbB)
                                    have hTwB8_0 : (fun w' => w'.cell? ⟨w.heap.size, 0, none⟩ = some (.int .i64 (p.b)) ∧ w'.cell? ⟨w.heap.size, 1, none⟩ = some (.int .i64 (p.lo)) ∧ w'.cell? ⟨w.heap.size, 2, none⟩ = some (.int .i64 (p.hi)) ∧ w'.cell? ⟨w.heap.size, 3, none⟩ = some (.int .i64 (p.r))) wB8_0 := ⟨cell_up DB8_0.out zp8 x0, cell_up DB8_0.out zp8 x1, cell_up DB8_0.out zp8 x2, cell_up DB8_0.out zp8 x3⟩
                                    clear hbB M0 hTwA8_0
                                    refine hK.out _ _ (fun _ => hTwB8_0) ?_
                                    clear hK K
                                    (try simp only [Act.put, List.setIfInBounds_toArray, List.set_cons_zero, List.set_cons_succ])
                                    refine M_take (v := ?_) 5 rfl (by kernel_rfl) (by assumption) (fun _ _ _ h => h) (Or.inl ⟨by rfl, ?_⟩) ?_
                                    rotate_left
                                    · (intro w hSw; (try dsimp only at hSw); go_simp; (try with_reducible rfl))
                                    (try simp only [Act.put, List.setIfInBounds_toArray, List.set_cons_zero, List.set_cons_succ])
                                    refine M_take (v := ?_) 6 rfl (by kernel_rfl) (by assumption) (fun _ _ _ h => h) (Or.inl ⟨by rfl, ?_⟩) ?_
                                    rotate_left
                                    · (intro w hSw; (try dsimp only at hSw); go_simp; (try with_reducible rfl))
                                    (try simp only [Act.put, List.setIfInBounds_toArray, List.set_cons_zero, List.set_cons_succ])
                                    refine M_take (v := ?_) 7 rfl (by kernel_rfl) (by assumption) (fun _ _ _ h => h) (Or.inl ⟨by rfl, ?_⟩) ?_
                                    rotate_left
                                    · (intro w hSw; (try dsimp only at hSw); go_simp; (try with_reducible rfl))
                                    (try simp only [Act.put, List.setIfInBounds_toArray, List.set_cons_zero, List.set_cons_succ])
                                    refine M_take (v := ?_) 8 rfl (by kernel_rfl) (by assumption) (fun _ _ _ h => h) (Or.inl ⟨by rfl, ?_⟩) ?_
                                    rotate_left
                                    · (intro w hSw; (try dsimp only at hSw); go_simp; (try with_reducible rfl))
                                    (try simp only [Act.put, List.setIfInBounds_toArray, List.set_cons_zero, List.set_cons_succ])
                                    refine M_take (v := ?_) 9 rfl (by kernel_rfl) (by assumption) (fun _ _ _ h => h) (Or.inl ⟨by rfl, ?_⟩) ?_
                                    rotate_left
                                    · (intro w hSw; (try dsimp only at hSw); go_simp; (try with_reducible rfl))
                                    (try simp only [Act.put, List.setIfInBounds_toArray, List.set_cons_zero, List.set_cons_succ])
                                    refine M_step 10 rfl (by kernel_rfl) (fun K hK => ?_)
                                    go_simp
                                    go_at_call 58
                                    refine (mo_any q Z _ _ _ _ (I0_8.out.up (DB8_0.out)) (I3_8.out.up (DB8_0.out)) hn5).mono ?_
                                    rintro e wA8_1 ⟨A'1, c'1, rfl, hm1, hbA⟩
                                    have DA8_1 := Lib.hid (show Below w8.heap.size w8 wA8_1 from nextB (DB8_0.out) hbA)
                                    have M1 := Lib.hid hm1
                                    have hTwA8_1 : (fun w' => w'.cell? ⟨w.heap.size, 0, none⟩ = some (.int .i64 (p.b)) ∧ w'.cell? ⟨w.heap.size, 1, none⟩ = some (.int .i64 (p.lo)) ∧ w'.cell? ⟨w.heap.size, 2, none⟩ = some (.int .i64 (p.hi)) ∧ w'.cell? ⟨w.heap.size, 3, none⟩ = some (.int .i64 (p.r))) wA8_1 := ⟨cell_up DA8_1.out zp8 x0, cell_up DA8_1.out zp8 x1, cell_up DA8_1.out zp8 x2, cell_up DA8_1.out zp8 x3⟩
                                    clear hbA hm1
                                    refine hK.out _ _ (fun _ => hTwA8_1) ?_
                                    clear hK K
                                    (try simp only [Act.put, List.setIfInBounds_toArray, List.set_cons_zero, List.set_cons_succ])
                                    refine M_step 11 rfl (by kernel_rfl) (fun K hK => ?_)
                                    go_simp
                                    go_at_call 32
                                    refine (KK3.out _ _ _ M1.out).mono ?_
                                    rintro e wB8_1 ⟨rfl, hbB⟩
                                    have DB8_1 := Lib.hid (show Below w8.heap.size w8 wB8_1 from nextB DA8_1.out hbB)
                                    have hTwB8_1 : (fun w' => w'.cell? ⟨w.heap.size, 0, none⟩ = some (.int .i64 (p.b)) ∧ w'.cell? ⟨w.heap.size, 1, none⟩ = some (.int .i64 (p.lo)) ∧ w'.cell? ⟨w.heap.size, 2, none⟩ = some (.int .i64 (p.hi)) ∧ w'.cell? ⟨w.heap.size, 3, none⟩ = some (.int .i64 (p.r))) wB8_1 := ⟨cell_up DB8_1.out zp8 x0, cell_up DB8_1.out zp8 x1, cell_up DB8_1.out zp8 x2, cell_up DB8_1.out zp8 x3⟩
                                    clear hbB M1 hTwA8_1
                                    refine hK.out _ _ (fun _ => hTwB8_1) ?_
                                    clear hK K
                                    (try simp only [Act.put, List.setIfInBounds_toArray, List.set_cons_zero, List.set_cons_succ])
                                    refine M_take (v := ?_) 12 rfl (by kernel_rfl) (by assumption) (fun _ _ _ h => h) (Or.inl ⟨by rfl, ?_⟩) ?_
                                    rotate_left
                                    · (intro w hSw; (try dsimp only at hSw); go_simp; (try with_reducible rfl))
                                    (try simp only [Act.put, List.setIfInBounds_toArray, List.set_cons_zero, List.set_cons_succ])
                                    refine M_take (v := ?_) 13 rfl (by kernel_rfl) (by assumption) (fun _ _ _ h => h) (Or.inl ⟨by rfl, ?_⟩) ?_
                                    rotate_left
                                    · (intro w hSw; (try dsimp only at hSw); go_simp; (try with_reducible rfl))
                                    (try simp only [Act.put, List.setIfInBounds_toArray, List.set_cons_zero, List.set_cons_succ])
                                    refine M_done (by kernel_rfl) ?_ _
                                    as_aux_lemma =>
                                      obtain ⟨w9, rfl⟩ : ∃ w9 : World, w9 = wB8_1 := ⟨_, rfl⟩
                                      have C9 := Lib.hid (nextB C8.out DB8_1.out)
                                      have P9 := Lib.hid (P8.out.up DB8_1.out zp8)
                                      have zp9 := P9.out.lt
                                      have I0_9 := Lib.hid (I0_8.out.up DB8_1.out)
                                      have I1_9 := Lib.hid (I1_8.out.up DB8_1.out)
                                      have I2_9 := Lib.hid (I2_8.out.up DB8_1.out)
                                      have I3_9 := Lib.hid (I3_8.out.up DB8_1.out)
                                      clear I0_8 I1_8 I2_8 I3_8
                                      clear x0 x1 x2 x3
                                      obtain ⟨x0, x1, x2, x3⟩ := P9.out
                                      have KK7 : Hid (∀ A' c' W, MosIn A' q (prF Z (minF X Y)) W.heap.size W → Calls Try.prog 32 #[p.v, .slice A' q c'] W fun e w' => e = .returned (.int .i64 0) ∧ Below W.heap.size W w') :=
                                        Lib.hid fun A' c' W hm => Keeps_any p A' q c' (prF Z (minF X Y)) 0 W hm (lat_min HE1.out HE2.out)
                                      have KK8 : Hid (∀ A' c' W, MosIn A' q (prF Z (maxF X Y)) W.heap.size W → Calls Try.prog 32 #[p.v, .slice A' q c'] W fun e w' => e = .returned (.int .i64 0) ∧ Below W.heap.size W w') :=
                                        Lib.hid fun A' c' W hm => Keeps_any p A' q c' (prF Z (maxF X Y)) 0 W hm (lat_max HE1.out HE2.out)
                                      have KK9 : Hid (∀ A' c' W, MosIn A' q (prF Z (midF X Y V)) W.heap.size W → Calls Try.prog 32 #[p.v, .slice A' q c'] W fun e w' => e = .returned (.int .i64 0) ∧ Below W.heap.size W w') :=
                                        Lib.hid fun A' c' W hm => Keeps_any p A' q c' (prF Z (midF X Y V)) 0 W hm (lat_mid HE1.out HE2.out HE3.out)
                                      obtain ⟨i0, hi0, hz0', hz1, hz2⟩ := info_parts Try.infoInt
                                      have hq5 : q ≤ 1000 := hn5
                                      clear KK2 KK3 HE HE1 HE2 HE3 HK1
                                      go_wp2_with fail
                                      as_aux_lemma =>
                                        go_loopw [22, 23, 24, 25] (fun v1 v2 v3 i wr => ∃ z : Nat, z ≤ q ∧ i = .int .i64 (z : Int) ∧ Row3 w9 (upTo (minF X Y) z) (upTo (maxF X Y) z) (upTo (midF X Y V) z) v1 v2 v3 wr) (fun _ _ _ i _ => q - (intOf i).toNat)
                                        case atStart => exact ⟨0, Nat.zero_le _, rfl, Below.refl _ _, World.ownsRow_nil _ _ _ _, World.ownsRow_nil _ _ _ _, World.ownsRow_nil _ _ _ _, fun g hg => (by cases hg), fun g hg => (by cases hg), fun g hg => (by cases hg)⟩
                                        case round =>
                                          obtain ⟨z, hz, rfl, hR⟩ := hrel
                                          obtain ⟨wo, rfl⟩ : ∃ wo : World, wo = wr := ⟨_, rfl⟩
                                          have HR := Lib.hid hR
                                          have hz0 : (0 : Int) ≤ (z : Int) := by omega
                                          have sz0 := hR.below.size
                                          clear hR
                                          by_cases hlt3 : z < q
                                          · have hzi : (z : Int) < (q : Int) := by omega
                                            have ex1 : minF X Y z = min (X z) (Y z) := rfl
                                            have ex2 : maxF X Y z = max (X z) (Y z) := rfl
                                            have ex3 : midF X Y V z = midI (X z) (Y z) (V z) := rfl
                                            have EX := Lib.hid (And.intro ex1 (And.intro ex2 ex3))
                                            have KM := Lib.hid fun W => middleL_any (X z) (Y z) (V z) W
                                            have KX : Hid (∀ W, Below w9.heap.size w9 W → W.cell? (a1.add z) = some (.int .i64 (X z)) ∧ W.cell? (a2.add z) = some (.int .i64 (Y z)) ∧ W.cell? (a3.add z) = some (.int .i64 (V z))) := Lib.hid fun W hW => by
                                              obtain ⟨b1, e1, r1⟩ := (I1_9.out.up hW).at z hlt3
                                              obtain ⟨b2, e2, r2⟩ := (I2_9.out.up hW).at z hlt3
                                              obtain ⟨b3, e3, r3⟩ := (I3_9.out.up hW).at z hlt3
                                              cases e1
                                              cases e2
                                              cases e3
                                              exact ⟨r1, r2, r3⟩
                                            clear ex1 ex2 ex3
                                            generalize X z = xq at *
                                            generalize Y z = yq at *
                                            generalize V z = vq at *
                                            obtain ⟨c1', c2', c3'⟩ := KX.out wo HR.out.below
                                            have ho1 := HR.out.o1
                                            rw [upTo_len] at ho1
                                            go_wp2_with fail
                                            as_aux_lemma =>
                                              refine wp_region_M [11, 12] (fun w' => w'.cell? (a1.add z) = some (.int .i64 xq) ∧ w'.cell? (a2.add z) = some (.int .i64 yq)) (by kernel_rfl) (by kernel_rfl) (by (try dsimp only); (repeat' apply And.intro); all_goals first | assumption | (go_simp; done)) (fun hT0 => ?_)
                                              refine M_take (v := ?_) 0 rfl (by kernel_rfl) (by assumption) (fun _ _ _ h => h) (Or.inl ⟨by rfl, ?_⟩) ?_
                                              rotate_left
                                              · (intro w hSw; (try dsimp only at hSw); go_simp; (try with_reducible rfl))
                                              (try simp only [Act.put, List.setIfInBounds_toArray, List.set_cons_zero, List.set_cons_succ])
                                              refine M_take (v := ?_) 1 rfl (by kernel_rfl) (by assumption) (fun _ _ _ h => h) (Or.inl ⟨by rfl, ?_⟩) ?_
                                              rotate_left
                                              · (intro w hSw; (try dsimp only at hSw); go_simp; (try with_reducible rfl))
                                              (try simp only [Act.put, List.setIfInBounds_toArray, List.set_cons_zero, List.set_cons_succ])
                                              refine M_take (v := ?_) 2 rfl (by kernel_rfl) (by assumption) (fun _ _ _ h => h) (Or.inl ⟨by rfl, ?_⟩) ?_
                                              rotate_left
                                              · (intro w hSw; (try dsimp only at hSw); go_simp; (try with_reducible rfl))
                                              (try simp only [Act.put, List.setIfInBounds_toArray, List.set_cons_zero, List.set_cons_succ])
                                              refine M_take (v := ?_) 3 rfl (by kernel_rfl) (by assumption) (fun _ _ _ h => h) (Or.inl ⟨by rfl, ?_⟩) ?_
                                              rotate_left
                                              · (intro w hSw; (try dsimp only at hSw); go_simp; (try with_reducible rfl))
                                              (try simp only [Act.put, List.setIfInBounds_toArray, List.set_cons_zero, List.set_cons_succ])
                                              refine M_take (v := ?_) 4 rfl (by kernel_rfl) (by assumption) (fun _ _ _ h => h) (Or.inl ⟨by rfl, ?_⟩) ?_
                                              rotate_left
                                              · (intro w hSw; (try dsimp only at hSw); go_simp; (try with_reducible rfl))
                                              (try simp only [Act.put, List.setIfInBounds_toArray, List.set_cons_zero, List.set_cons_succ])
                                              refine M_take (v := ?_) 5 rfl (by kernel_rfl) (by assumption) (fun _ _ _ h => h) (Or.inl ⟨by rfl, ?_⟩) ?_
                                              rotate_left
                                              · (intro w hSw; (try dsimp only at hSw); go_simp; (try with_reducible rfl))
                                              (try simp only [Act.put, List.setIfInBounds_toArray, List.set_cons_zero, List.set_cons_succ])
                                              refine M_take (v := ?_) 6 rfl (by kernel_rfl) (by assumption) (fun _ _ _ h => h) (Or.inl ⟨by rfl, ?_⟩) ?_
                                              rotate_left
                                              · (intro w hSw; (try dsimp only at hSw); go_simp; (try with_reducible rfl))
                                              (try simp only [Act.put, List.setIfInBounds_toArray, List.set_cons_zero, List.set_cons_succ])
                                              refine M_take (v := ?_) 7 rfl (by kernel_rfl) (by assumption) (fun _ _ _ h => h) (Or.inl ⟨by rfl, ?_⟩) ?_
                                              rotate_left
                                              · (intro w hSw; (try dsimp only at hSw); go_simp; (try with_reducible rfl))
                                              (try simp only [Act.put, List.setIfInBounds_toArray, List.set_cons_zero, List.set_cons_succ])
                                              refine M_take (v := ?_) 8 rfl (by kernel_rfl) (by assumption) (fun _ _ _ h => h) (Or.inl ⟨by rfl, ?_⟩) ?_
                                              rotate_left
                                              · (intro w hSw; (try dsimp only at hSw); go_simp; (try with_reducible rfl))
                                              (try simp only [Act.put, List.setIfInBounds_toArray, List.set_cons_zero, List.set_cons_succ])
                                              refine M_take (v := ?_) 9 rfl (by kernel_rfl) (by assumption) (fun _ _ _ h => h) (Or.inl ⟨by rfl, ?_⟩) ?_
                                              rotate_left
                                              · (intro w hSw; (try dsimp only at hSw); go_simp; (try with_reducible rfl))
                                              (try simp only [Act.put, List.setIfInBounds_toArray, List.set_cons_zero, List.set_cons_succ])
                                              refine M_step 10 rfl (by kernel_rfl) (fun K hK => ?_)
                                              go_simp
                                              have D8 := Lib.hid (show Below wo.heap.size wo (wo.drew.alloc (.cells #[.int .i64 (min xq yq)] 3)) from nextB (Below.refl _ _).drew (box1 wo.drew (.cells #[.int .i64 (min xq yq)] 3)))
                                              have hT8 : (fun w' => w'.cell? (a1.add z) = some (.int .i64 xq) ∧ w'.cell? (a2.add z) = some (.int .i64 yq)) (wo.drew.alloc (.cells #[.int .i64 (min xq yq)] 3)) := ⟨(D8.out.cell (World.block_lt_of_cell? _ _ c1')).trans c1', (D8.out.cell (World.block_lt_of_cell? _ _ c2')).trans c2'⟩
                                              refine hK.out _ _ (fun _ => hT8) ?_
                                              clear hK K
                                              (try simp only [Act.put, List.setIfInBounds_toArray, List.set_cons_zero, List.set_cons_succ])
                                              refine M_step 11 rfl (by kernel_rfl) (fun K hK => ?_)
                                              refine step_append_at rfl (.tmp 233) (.tmp 243) 28 rfl w9.heap.size 3 i0 (.int .i64 0) 1 8 Try.underlying28 hi0 hz0' hz1 hz2 rfl (by decide) _ z _ (by simp [Act.eval]) (ho1.drew.alloc _) ⟨wo.heap.size, 0, none⟩ 1 1 [.int .i64 (min xq yq)] (by simp [Act.eval]) rfl (new1 wo.drew _) (by simp [Value.oneCell']) (by unfold maxLen; omega) (by omega) (by simp only [World.size_alloc, World.size_drew]; omega) ?_
                                              intro v4 w14 hown hg hat
                                              refine hK.out _ _ (fun e => by cases e) ?_
                                              clear hK K
                                              (try simp only [Act.put, List.setIfInBounds_toArray, List.set_cons_zero, List.set_cons_succ])
                                              refine M_step 12 rfl (by kernel_rfl) (fun K hK => ?_)
                                              go_simp
                                              refine hK.out _ _ (fun e => by cases e) ?_
                                              clear hK K
                                              (try simp only [Act.put, List.setIfInBounds_toArray, List.set_cons_zero, List.set_cons_succ])
                                              refine M_done (by kernel_rfl) ?_ _
                                              as_aux_lemma =>
                                                have R4 := Lib.hid ((HR.out.up (nextB (Below.refl _ _).drew (box1 _ _))).app (z := min xq yq) hg (by rw [upTo_len]; exact hown) hat)
                                                clear hown hg hat hT8 D8
                                                have sz4 := R4.out.below.size
                                                clear c1' c2' c3' ho1 HR
                                                obtain ⟨c1', c2', c3'⟩ := KX.out w14 R4.out.below
                                                have ho2 := R4.out.o2
                                                rw [upTo_len] at ho2
                                                go_wp2_with fail
                                                as_aux_lemma =>
                                                  refine wp_region_M [11, 12] (fun w' => w'.cell? (a1.add z) = some (.int .i64 xq) ∧ w'.cell? (a2.add z) = some (.int .i64 yq)) (by kernel_rfl) (by kernel_rfl) (by (try dsimp only); (repeat' apply And.intro); all_goals first | assumption | (go_simp; done)) (fun hT0 => ?_)
                                                  refine M_take (v := ?_) 0 rfl (by kernel_rfl) (by assumption) (fun _ _ _ h => h) (Or.inl ⟨by rfl, ?_⟩) ?_
                                                  rotate_left
                                                  · (intro w hSw; (try dsimp only at hSw); go_simp; (try with_reducible rfl))
                                                  (try simp only [Act.put, List.setIfInBounds_toArray, List.set_cons_zero, List.set_cons_succ])
                                                  refine M_take (v := ?_) 1 rfl (by kernel_rfl) (by assumption) (fun _ _ _ h => h) (Or.inl ⟨by rfl, ?_⟩) ?_
                                                  rotate_left
                                                  · (intro w hSw; (try dsimp only at hSw); go_simp; (try with_reducible rfl))
                                                  (try simp only [Act.put, List.setIfInBounds_toArray, List.set_cons_zero, List.set_cons_succ])
                                                  refine M_take (v := ?_) 2 rfl (by kernel_rfl) (by assumption) (fun _ _ _ h => h) (Or.inl ⟨by rfl, ?_⟩) ?_
                                                  rotate_left
                                                  · (intro w hSw; (try dsimp only at hSw); go_simp; (try with_reducible rfl))
                                                  (try simp only [Act.put, List.setIfInBounds_toArray, List.set_cons_zero, List.set_cons_succ])
                                                  refine M_take (v := ?_) 3 rfl (by kernel_rfl) (by assumption) (fun _ _ _ h => h) (Or.inl ⟨by rfl, ?_⟩) ?_
                                                  rotate_left
                                                  · (intro w hSw; (try dsimp only at hSw); go_simp; (try with_reducible rfl))
                                                  (try simp only [Act.put, List.setIfInBounds_toArray, List.set_cons_zero, List.set_cons_succ])
                                                  refine M_take (v := ?_) 4 rfl (by kernel_rfl) (by assumption) (fun _ _ _ h => h) (Or.inl ⟨by rfl, ?_⟩) ?_
                                                  rotate_left
                                                  · (intro w hSw; (try dsimp only at hSw); go_simp; (try with_reducible rfl))
                                                  (try simp only [Act.put, List.setIfInBounds_toArray, List.set_cons_zero, List.set_cons_succ])
                                                  refine M_take (v := ?_) 5 rfl (by kernel_rfl) (by assumption) (fun _ _ _ h => h) (Or.inl ⟨by rfl, ?_⟩) ?_
                                                  rotate_left
                                                  · (intro w hSw; (try dsimp only at hSw); go_simp; (try with_reducible rfl))
                                                  (try simp only [Act.put, List.setIfInBounds_toArray, List.set_cons_zero, List.set_cons_succ])
                                                  refine M_take (v := ?_) 6 rfl (by kernel_rfl) (by assumption) (fun _ _ _ h => h) (Or.inl ⟨by rfl, ?_⟩) ?_
                                                  rotate_left
                                                  · (intro w hSw; (try dsimp only at hSw); go_simp; (try with_reducible rfl))
                                                  (try simp only [Act.put, List.setIfInBounds_toArray, List.set_cons_zero, List.set_cons_succ])
                                                  refine M_take (v := ?_) 7 rfl (by kernel_rfl) (by assumption) (fun _ _ _ h => h) (Or.inl ⟨by rfl, ?_⟩) ?_
                                                  rotate_left
                                                  · (intro w hSw; (try dsimp only at hSw); go_simp; (try with_reducible rfl))
                                                  (try simp only [Act.put, List.setIfInBounds_toArray, List.set_cons_zero, List.set_cons_succ])
                                                  refine M_take (v := ?_) 8 rfl (by kernel_rfl) (by assumption) (fun _ _ _ h => h) (Or.inl ⟨by rfl, ?_⟩) ?_
                                                  rotate_left
                                                  · (intro w hSw; (try dsimp only at hSw); go_simp; (try with_reducible rfl))
                                                  (try simp only [Act.put, List.setIfInBounds_toArray, List.set_cons_zero, List.set_cons_succ])
                                                  refine M_take (v := ?_) 9 rfl (by kernel_rfl) (by assumption) (fun _ _ _ h => h) (Or.inl ⟨by rfl, ?_⟩) ?_
                                                  rotate_left
                                                  · (intro w hSw; (try dsimp only at hSw); go_simp; (try with_reducible rfl))
                                                  (try simp only [Act.put, List.setIfInBounds_toArray, List.set_cons_zero, List.set_cons_succ])
                                                  refine M_step 10 rfl (by kernel_rfl) (fun K hK => ?_)
                                                  go_simp
                                                  have D8 := Lib.hid (show Below w14.heap.size w14 (w14.drew.alloc (.cells #[.int .i64 (max xq yq)] 3)) from nextB (Below.refl _ _).drew (box1 w14.drew (.cells #[.int .i64 (max xq yq)] 3)))
                                                  have hT8 : (fun w' => w'.cell? (a1.add z) = some (.int .i64 xq) ∧ w'.cell? (a2.add z) = some (.int .i64 yq)) (w14.drew.alloc (.cells #[.int .i64 (max xq yq)] 3)) := ⟨(D8.out.cell (World.block_lt_of_cell? _ _ c1')).trans c1', (D8.out.cell (World.block_lt_of_cell? _ _ c2')).trans c2'⟩
                                                  refine hK.out _ _ (fun _ => hT8) ?_
                                                  clear hK K
                                                  (try simp only [Act.put, List.setIfInBounds_toArray, List.set_cons_zero, List.set_cons_succ])
                                                  refine M_step 11 rfl (by kernel_rfl) (fun K hK => ?_)
                                                  refine step_append_at rfl (.tmp 245) (.tmp 255) 28 rfl w9.heap.size 3 i0 (.int .i64 0) 1 8 Try.underlying28 hi0 hz0' hz1 hz2 rfl (by decide) _ z _ (by simp [Act.eval]) (ho2.drew.alloc _) ⟨w14.heap.size, 0, none⟩ 1 1 [.int .i64 (max xq yq)] (by simp [Act.eval]) rfl (new1 w14.drew _) (by simp [Value.oneCell']) (by unfold maxLen; omega) (by omega) (by simp only [World.size_alloc, World.size_drew]; omega) ?_
                                                  intro v5 w15 hown hg hat
                                                  refine hK.out _ _ (fun e => by cases e) ?_
                                                  clear hK K
                                                  (try simp only [Act.put, List.setIfInBounds_toArray, List.set_cons_zero, List.set_cons_succ])
                                                  refine M_step 12 rfl (by kernel_rfl) (fun K hK => ?_)
                                                  go_simp
                                                  refine hK.out _ _ (fun e => by cases e) ?_
                                                  clear hK K
                                                  (try simp only [Act.put, List.setIfInBounds_toArray, List.set_cons_zero, List.set_cons_succ])
                                                  refine M_done (by kernel_rfl) ?_ _
                                                  as_aux_lemma =>
                                                    have R5 := Lib.hid ((R4.out.rot.up (nextB (Below.refl _ _).drew (box1 _ _))).app (z := max xq yq) hg (by rw [upTo_len]; exact hown) hat)
                                                    clear hown hg hat hT8 D8
                                                    have sz5 := R5.out.below.size
                                                    clear c1' c2' c3' ho2 R4
                                                    obtain ⟨c1', c2', c3'⟩ := KX.out w15 R5.out.below
                                                    have ho3 := R5.out.o2
                                                    rw [upTo_len] at ho3
                                                    go_wp2_with fail
                                                    as_aux_lemma =>
                                                      refine wp_region_M [15, 16] (fun w' => w'.cell? (a1.add z) = some (.int .i64 xq) ∧ w'.cell? (a2.add z) = some (.int .i64 yq) ∧ w'.cell? (a3.add z) = some (.int .i64 vq)) (by kernel_rfl) (by kernel_rfl) (by (try dsimp only); (repeat' apply And.intro); all_goals first | assumption | (go_simp; done)) (fun hT0 => ?_)
                                                      refine M_take (v := ?_) 0 rfl (by kernel_rfl) (by assumption) (fun _ _ _ h => h) (Or.inl ⟨by rfl, ?_⟩) ?_
                                                      rotate_left
                                                      · (intro w hSw; (try dsimp only at hSw); go_simp; (try with_reducible rfl))
                                                      (try simp only [Act.put, List.setIfInBounds_toArray, List.set_cons_zero, List.set_cons_succ])
                                                      refine M_take (v := ?_) 1 rfl (by kernel_rfl) (by assumption) (fun _ _ _ h => h) (Or.inl ⟨by rfl, ?_⟩) ?_
                                                      rotate_left
                                                      · (intro w hSw; (try dsimp only at hSw); go_simp; (try with_reducible rfl))
                                                      (try simp only [Act.put, List.setIfInBounds_toArray, List.set_cons_zero, List.set_cons_succ])
                                                      refine M_take (v := ?_) 2 rfl (by kernel_rfl) (by assumption) (fun _ _ _ h => h) (Or.inl ⟨by rfl, ?_⟩) ?_
                                                      rotate_left
                                                      · (intro w hSw; (try dsimp only at hSw); go_simp; (try with_reducible rfl))
                                                      (try simp only [Act.put, List.setIfInBounds_toArray, List.set_cons_zero, List.set_cons_succ])
                                                      refine M_take (v := ?_) 3 rfl (by kernel_rfl) (by assumption) (fun _ _ _ h => h) (Or.inl ⟨by rfl, ?_⟩) ?_
                                                      rotate_left
                                                      · (intro w hSw; (try dsimp only at hSw); go_simp; (try with_reducible rfl))
                                                      (try simp only [Act.put, List.setIfInBounds_toArray, List.set_cons_zero, List.set_cons_succ])
                                                      refine M_take (v := ?_) 4 rfl (by kernel_rfl) (by assumption) (fun _ _ _ h => h) (Or.inl ⟨by rfl, ?_⟩) ?_
                                                      rotate_left
                                                      · (intro w hSw; (try dsimp only at hSw); go_simp; (try with_reducible rfl))
                                                      (try simp only [Act.put, List.setIfInBounds_toArray, List.set_cons_zero, List.set_cons_succ])
                                                      refine M_take (v := ?_) 5 rfl (by kernel_rfl) (by assumption) (fun _ _ _ h => h) (Or.inl ⟨by rfl, ?_⟩) ?_
                                                      rotate_left
                                                      · (intro w hSw; (try dsimp only at hSw); go_simp; (try with_reducible rfl))
                                                      (try simp only [Act.put, List.setIfInBounds_toArray, List.set_cons_zero, List.set_cons_succ])
                                                      refine M_take (v := ?_) 6 rfl (by kernel_rfl) (by assumption) (fun _ _ _ h => h) (Or.inl ⟨by rfl, ?_⟩) ?_
                                                      rotate_left
                                                      · (intro w hSw; (try dsimp only at hSw); go_simp; (try with_reducible rfl))
                                                      (try simp only [Act.put, List.setIfInBounds_toArray, List.set_cons_zero, List.set_cons_succ])
                                                      refine M_take (v := ?_) 7 rfl (by kernel_rfl) (by assumption) (fun _ _ _ h => h) (Or.inl ⟨by rfl, ?_⟩) ?_
                                                      rotate_left
                                                      · (intro w hSw; (try dsimp only at hSw); go_simp; (try with_reducible rfl))
                                                      (try simp only [Act.put, List.setIfInBounds_toArray, List.set_cons_zero, List.set_cons_succ])
                                                      refine M_take (v := ?_) 8 rfl (by kernel_rfl) (by assumption) (fun _ _ _ h => h) (Or.inl ⟨by rfl, ?_⟩) ?_
                                                      rotate_left
                                                      · (intro w hSw; (try dsimp only at hSw); go_simp; (try with_reducible rfl))
                                                      (try simp only [Act.put, List.setIfInBounds_toArray, List.set_cons_zero, List.set_cons_succ])
                                                      refine M_take (v := ?_) 9 rfl (by kernel_rfl) (by assumption) (fun _ _ _ h => h) (Or.inl ⟨by rfl, ?_⟩) ?_
                                                      rotate_left
                                                      · (intro w hSw; (try dsimp only at hSw); go_simp; (try with_reducible rfl))
                                                      (try simp only [Act.put, List.setIfInBounds_toArray, List.set_cons_zero, List.set_cons_succ])
                                                      refine M_take (v := ?_) 10 rfl (by kernel_rfl) (by assumption) (fun _ _ _ h => h) (Or.inl ⟨by rfl, ?_⟩) ?_
                                                      rotate_left
                                                      · (intro w hSw; (try dsimp only at hSw); go_simp; (try with_reducible rfl))
                                                      (try simp only [Act.put, List.setIfInBounds_toArray, List.set_cons_zero, List.set_cons_succ])
                                                      refine M_take (v := ?_) 11 rfl (by kernel_rfl) (by assumption) (fun _ _ _ h => h) (Or.inl ⟨by rfl, ?_⟩) ?_
                                                      rotate_left
                                                      · (intro w hSw; (try dsimp only at hSw); go_simp; (try with_reducible rfl))
                                                      (try simp only [Act.put, List.setIfInBounds_toArray, List.set_cons_zero, List.set_cons_succ])
                                                      refine M_take (v := ?_) 12 rfl (by kernel_rfl) (by assumption) (fun _ _ _ h => h) (Or.inl ⟨by rfl, ?_⟩) ?_
                                                      rotate_left
                                                      · (intro w hSw; (try dsimp only at hSw); go_simp; (try with_reducible rfl))
                                                      (try simp only [Act.put, List.setIfInBounds_toArray, List.set_cons_zero, List.set_cons_succ])
                                                      refine M_step 13 rfl (by kernel_rfl) (fun K hK => ?_)
                                                      go_simp
                                                      go_at_call 61
                                                      refine (KM.out _).mono ?_
                                                      rintro e w' ⟨rfl, rfl⟩
                                                      refine hK.out _ _ (fun _ => by assumption) ?_
                                                      clear hK K
                                                      (try simp only [Act.put, List.setIfInBounds_toArray, List.set_cons_zero, List.set_cons_succ])
                                                      refine M_step 14 rfl (by kernel_rfl) (fun K hK => ?_)
                                                      go_simp
                                                      have D8 := Lib.hid (show Below w15.heap.size w15 (w15.drew.alloc (.cells #[.int .i64 (midI xq yq vq)] 3)) from nextB (Below.refl _ _).drew (box1 w15.drew (.cells #[.int .i64 (midI xq yq vq)] 3)))
                                                      have hT8 : (fun w' => w'.cell? (a1.add z) = some (.int .i64 xq) ∧ w'.cell? (a2.add z) = some (.int .i64 yq) ∧ w'.cell? (a3.add z) = some (.int .i64 vq)) (w15.drew.alloc (.cells #[.int .i64 (midI xq yq vq)] 3)) := ⟨(D8.out.cell (World.block_lt_of_cell? _ _ c1')).trans c1', (D8.out.cell (World.block_lt_of_cell? _ _ c2')).trans c2', (D8.out.cell (World.block_lt_of_cell? _ _ c3')).trans c3'⟩
                                                      refine hK.out _ _ (fun _ => hT8) ?_
                                                      clear hK K
                                                      (try simp only [Act.put, List.setIfInBounds_toArray, List.set_cons_zero, List.set_cons_succ])
                                                      refine M_step 15 rfl (by kernel_rfl) (fun K hK => ?_)
                                                      refine step_append_at rfl (.tmp 257) (.tmp 271) 28 rfl w9.heap.size 3 i0 (.int .i64 0) 1 8 Try.underlying28 hi0 hz0' hz1 hz2 rfl (by decide) _ z _ (by simp [Act.eval]) (ho3.drew.alloc _) ⟨w15.heap.size, 0, none⟩ 1 1 [.int .i64 (midI xq yq vq)] (by simp [Act.eval]) rfl (new1 w15.drew _) (by simp [Value.oneCell']) (by unfold maxLen; omega) (by omega) (by simp only [World.size_alloc, World.size_drew]; omega) ?_
                                                      intro v6 w16 hown hg hat
                                                      refine hK.out _ _ (fun e => by cases e) ?_
                                                      clear hK K
                                                      (try simp only [Act.put, List.setIfInBounds_toArray, List.set_cons_zero, List.set_cons_succ])
                                                      refine M_step 16 rfl (by kernel_rfl) (fun K hK => ?_)
                                                      go_simp
                                                      refine hK.out _ _ (fun e => by cases e) ?_
                                                      clear hK K
                                                      (try simp only [Act.put, List.setIfInBounds_toArray, List.set_cons_zero, List.set_cons_succ])
                                                      refine M_done (by kernel_rfl) ?_ _
                                                      as_aux_lemma =>
                                                        have R6 := Lib.hid ((R5.out.rot.up (nextB (Below.refl _ _).drew (box1 _ _))).app (z := midI xq yq vq) hg (by rw [upTo_len]; exact hown) hat)
                                                        clear hown hg hat hT8 D8
                                                        clear c1' c2' c3' ho3 R5
                                                        go_wp2_with fail
                                                        go_roundw
                                                        case rel => exact ⟨z + 1, by omega, by go_num, by rw [upTo_succ, upTo_succ, upTo_succ, EX.out.1, EX.out.2.1, EX.out.2.2]; exact R6.out.rot⟩
                                                        case measure => simp [intOf]; omega
                                          · have hzi : (q : Int) ≤ (z : Int) := by omega
                                            obtain rfl : z = q := by omega
                                            obtain ⟨B7, d7, rfl, hi7⟩ := row_in HR.out.o1 hq5
                                            obtain ⟨B8, d8, rfl, hi8⟩ := row_in HR.out.o2 hq5
                                            obtain ⟨B9, d9, rfl, hi9⟩ := row_in HR.out.o3 hq5
                                            obtain ⟨w10, rfl⟩ : ∃ w10 : World, w10 = wo := ⟨_, rfl⟩
                                            have hb := HR.out.below
                                            have I7_10 := Lib.hid hi7
                                            have I8_10 := Lib.hid hi8
                                            have I9_10 := Lib.hid hi9
                                            clear hi7 hi8 hi9
                                            have C10 := Lib.hid (nextB C9.out hb)
                                            have P10 := Lib.hid (P9.out.up hb zp9)
                                            have zp10 := P10.out.lt
                                            have I0_10 := Lib.hid (I0_9.out.up hb)
                                            clear I0_9
                                            clear hb HR
                                            clear x0 x1 x2 x3
                                            obtain ⟨x0, x1, x2, x3⟩ := P10.out
                                            go_wp2_with fail
                                            as_aux_lemma =>
                                              refine wp_region_M [] (fun w' => w'.cell? ⟨w.heap.size, 0, none⟩ = some (.int .i64 (p.b)) ∧ w'.cell? ⟨w.heap.size, 1, none⟩ = some (.int .i64 (p.lo)) ∧ w'.cell? ⟨w.heap.size, 2, none⟩ = some (.int .i64 (p.hi)) ∧ w'.cell? ⟨w.heap.size, 3, none⟩ = some (.int .i64 (p.r))) (by kernel_rfl) (by kernel_rfl) (by (try dsimp only); (repeat' apply And.intro); all_goals first | assumption | (go_simp; done)) (fun hT0 => ?_)
                                              refine M_take (v := ?_) 0 rfl (by kernel_rfl) (by assumption) (fun _ _ _ h => h) (Or.inl ⟨by rfl, ?_⟩) ?_
                                              rotate_left
                                              · (intro w hSw; (try dsimp only at hSw); go_simp; (try with_reducible rfl))
                                              (try simp only [Act.put, List.setIfInBounds_toArray, List.set_cons_zero, List.set_cons_succ])
                                              refine M_take (v := ?_) 1 rfl (by kernel_rfl) (by assumption) (fun _ _ _ h => h) (Or.inl ⟨by rfl, ?_⟩) ?_
                                              rotate_left
                                              · (intro w hSw; (try dsimp only at hSw); go_simp; (try with_reducible rfl))
                                              (try simp only [Act.put, List.setIfInBounds_toArray, List.set_cons_zero, List.set_cons_succ])
                                              refine M_take (v := ?_) 2 rfl (by kernel_rfl) (by assumption) (fun _ _ _ h => h) (Or.inl ⟨by rfl, ?_⟩) ?_
                                              rotate_left
                                              · (intro w hSw; (try dsimp only at hSw); go_simp; (try with_reducible rfl))
                                              (try simp only [Act.put, List.setIfInBounds_toArray, List.set_cons_zero, List.set_cons_succ])
                                              refine M_take (v := ?_) 3 rfl (by kernel_rfl) (by assumption) (fun _ _ _ h => h) (Or.inl ⟨by rfl, ?_⟩) ?_
                                              rotate_left
                                              · (intro w hSw; (try dsimp only at hSw); go_simp; (try with_reducible rfl))
                                              (try simp only [Act.put, List.setIfInBounds_toArray, List.set_cons_zero, List.set_cons_succ])
                                              refine M_take (v := ?_) 4 rfl (by kernel_rfl) (by assumption) (fun _ _ _ h => h) (Or.inl ⟨by rfl, ?_⟩) ?_
                                              rotate_left
                                              · (intro w hSw; (try dsimp only at hSw); go_simp; (try with_reducible rfl))
                                              (try simp only [Act.put, List.setIfInBounds_toArray, List.set_cons_zero, List.set_cons_succ])
                                              refine M_step 5 rfl (by kernel_rfl) (fun K hK => ?_)
                                              go_simp
                                              go_at_call 58
                                              refine (mo_any z Z _ _ _ _ (I0_10.out.up ((Below.refl _ _).drew)) (I7_10.out.up ((Below.refl _ _).drew)) hn5).mono ?_
                                              rintro e wA10_0 ⟨A'0, c'0, rfl, hm0, hbA⟩
                                              have DA10_0 := Lib.hid (show Below w10.heap.size w10 wA10_0 from nextB ((Below.refl _ _).drew) hbA)
                                              have M0 := Lib.hid hm0
                                              have hTwA10_0 : (fun w' => w'.cell? ⟨w.heap.size, 0, none⟩ = some (.int .i64 (p.b)) ∧ w'.cell? ⟨w.heap.size, 1, none⟩ = some (.int .i64 (p.lo)) ∧ w'.cell? ⟨w.heap.size, 2, none⟩ = some (.int .i64 (p.hi)) ∧ w'.cell? ⟨w.heap.size, 3, none⟩ = some (.int .i64 (p.r))) wA10_0 := ⟨cell_up DA10_0.out zp10 x0, cell_up DA10_0.out zp10 x1, cell_up DA10_0.out zp10 x2, cell_up DA10_0.out zp10 x3⟩
                                              clear hbA hm0
                                              refine hK.out _ _ (fun _ => hTwA10_0) ?_
                                              clear hK K
                                              (try simp only [Act.put, List.setIfInBounds_toArray, List.set_cons_zero, List.set_cons_succ])
                                              refine M_step 6 rfl (by kernel_rfl) (fun K hK => ?_)
                                              go_simp
                                              go_at_call 32
                                              refine (KK7.out _ _ _ M0.out).mono ?_
                                              rintro e wB10_0 ⟨rfl, hbB⟩
                                              have DB10_0 := Lib.hid (show Below w10.heap.size w10 wB10_0 from nextB DA10_0.out hbB)
                                              have hTwB10_0 : (fun w' => w'.cell? ⟨w.heap.size, 0, none⟩ = some (.int .i64 (p.b)) ∧ w'.cell? ⟨w.heap.size, 1, none⟩ = some (.int .i64 (p.lo)) ∧ w'.cell? ⟨w.heap.size, 2, none⟩ = some (.int .i64 (p.hi)) ∧ w'.cell? ⟨w.heap.size, 3, none⟩ = some (.int .i64 (p.r))) wB10_0 := ⟨cell_up DB10_0.out zp10 x0, cell_up DB10_0.out zp10 x1, cell_up DB10_0.out zp10 x2, cell_up DB10_0.out zp10 x3⟩
                                              clear hbB M0 hTwA10_0
                                              refine hK.out _ _ (fun _ => hTwB10_0) ?_
                                              clear hK K
                                              (try simp only [Act.put, List.setIfInBounds_toArray, List.set_cons_zero, List.set_cons_succ])
                                              refine M_take (v := ?_) 7 rfl (by kernel_rfl) (by assumption) (fun _ _ _ h => h) (Or.inl ⟨by rfl, ?_⟩) ?_
                                              rotate_left
                                              · (intro w hSw; (try dsimp only at hSw); go_simp; (try with_reducible rfl))
                                              (try simp only [Act.put, List.setIfInBounds_toArray, List.set_cons_zero, List.set_cons_succ])
                                              refine M_take (v := ?_) 8 rfl (by kernel_rfl) (by assumption) (fun _ _ _ h => h) (Or.inl ⟨by rfl, ?_⟩) ?_
                                              rotate_left
                                              · (intro w hSw; (try dsimp only at hSw); go_simp; (try with_reducible rfl))
                                              (try simp only [Act.put, List.setIfInBounds_toArray, List.set_cons_zero, List.set_cons_succ])
                                              refine M_take (v := ?_) 9 rfl (by kernel_rfl) (by assumption) (fun _ _ _ h => h) (Or.inl ⟨by rfl, ?_⟩) ?_
                                              rotate_left
                                              · (intro w hSw; (try dsimp only at hSw); go_simp; (try with_reducible rfl))
                                              (try simp only [Act.put, List.setIfInBounds_toArray, List.set_cons_zero, List.set_cons_succ])
                                              refine M_take (v := ?_) 10 rfl (by kernel_rfl) (by assumption) (fun _ _ _ h => h) (Or.inl ⟨by rfl, ?_⟩) ?_
                                              rotate_left
                                              · (intro w hSw; (try dsimp only at hSw); go_simp; (try with_reducible rfl))
                                              (try simp only [Act.put, List.setIfInBounds_toArray, List.set_cons_zero, List.set_cons_succ])
                                              refine M_take (v := ?_) 11 rfl (by kernel_rfl) (by assumption) (fun _ _ _ h => h) (Or.inl ⟨by rfl, ?_⟩) ?_
                                              rotate_left
                                              · (intro w hSw; (try dsimp only at hSw); go_simp; (try with_reducible rfl))
                                              (try simp only [Act.put, List.setIfInBounds_toArray, List.set_cons_zero, List.set_cons_succ])
                                              refine M_take (v := ?_) 12 rfl (by kernel_rfl) (by assumption) (fun _ _ _ h => h) (Or.inl ⟨by rfl, ?_⟩) ?_
                                              rotate_left
                                              · (intro w hSw; (try dsimp only at hSw); go_simp; (try with_reducible rfl))
                                              (try simp only [Act.put, List.setIfInBounds_toArray, List.set_cons_zero, List.set_cons_succ])
                                              refine M_step 13 rfl (by kernel_rfl) (fun K hK => ?_)
                                              go_simp
                                              go_at_call 58
                                              refine (mo_any z Z _ _ _ _ (I0_10.out.up (DB10_0.out)) (I8_10.out.up (DB10_0.out)) hn5).mono ?_
                                              rintro e wA10_1 ⟨A'1, c'1, rfl, hm1, hbA⟩
                                              have DA10_1 := Lib.hid (show Below w10.heap.size w10 wA10_1 from nextB (DB10_0.out) hbA)
                                              have M1 := Lib.hid hm1
                                              have hTwA10_1 : (fun w' => w'.cell? ⟨w.heap.size, 0, none⟩ = some (.int .i64 (p.b)) ∧ w'.cell? ⟨w.heap.size, 1, none⟩ = some (.int .i64 (p.lo)) ∧ w'.cell? ⟨w.heap.size, 2, none⟩ = some (.int .i64 (p.hi)) ∧ w'.cell? ⟨w.heap.size, 3, none⟩ = some (.int .i64 (p.r))) wA10_1 := ⟨cell_up DA10_1.out zp10 x0, cell_up DA10_1.out zp10 x1, cell_up DA10_1.out zp10 x2, cell_up DA10_1.out zp10 x3⟩
                                              clear hbA hm1
                                              refine hK.out _ _ (fun _ => hTwA10_1) ?_
                                              clear hK K
                                              (try simp only [Act.put, List.setIfInBounds_toArray, List.set_cons_zero, List.set_cons_succ])
                                              refine M_step 14 rfl (by kernel_rfl) (fun K hK => ?_)
                                              go_simp
                                              go_at_call 32
                                              refine (KK8.out _ _ _ M1.out).mono ?_
                                              rintro e wB10_1 ⟨rfl, hbB⟩
                                              have DB10_1 := Lib.hid (show Below w10.heap.size w10 wB10_1 from nextB DA10_1.out hbB)
                                              have hTwB10_1 : (fun w' => w'.cell? ⟨w.heap.size, 0, none⟩ = some (.int .i64 (p.b)) ∧ w'.cell? ⟨w.heap.size, 1, none⟩ = some (.int .i64 (p.lo)) ∧ w'.cell? ⟨w.heap.size, 2, none⟩ = some (.int .i64 (p.hi)) ∧ w'.cell? ⟨w.heap.size, 3, none⟩ = some (.int .i64 (p.r))) wB10_1 := ⟨cell_up DB10_1.out zp10 x0, cell_up DB10_1.out zp10 x1, cell_up DB10_1.out zp10 x2, cell_up DB10_1.out zp10 x3⟩
                                              clear hbB M1 hTwA10_1
                                              refine hK.out _ _ (fun _ => hTwB10_1) ?_
                                              clear hK K
                                              (try simp only [Act.put, List.setIfInBounds_toArray, List.set_cons_zero, List.set_cons_succ])
                                              refine M_take (v := ?_) 15 rfl (by kernel_rfl) (by assumption) (fun _ _ _ h => h) (Or.inl ⟨by rfl, ?_⟩) ?_
                                              rotate_left
                                              · (intro w hSw; (try dsimp only at hSw); go_simp; (try with_reducible rfl))
                                              (try simp only [Act.put, List.setIfInBounds_toArray, List.set_cons_zero, List.set_cons_succ])
                                              refine M_take (v := ?_) 16 rfl (by kernel_rfl) (by assumption) (fun _ _ _ h => h) (Or.inl ⟨by rfl, ?_⟩) ?_
                                              rotate_left
                                              · (intro w hSw; (try dsimp only at hSw); go_simp; (try with_reducible rfl))
                                              (try simp only [Act.put, List.setIfInBounds_toArray, List.set_cons_zero, List.set_cons_succ])
                                              refine M_take (v := ?_) 17 rfl (by kernel_rfl) (by assumption) (fun _ _ _ h => h) (Or.inl ⟨by rfl, ?_⟩) ?_
                                              rotate_left
                                              · (intro w hSw; (try dsimp only at hSw); go_simp; (try with_reducible rfl))
                                              (try simp only [Act.put, List.setIfInBounds_toArray, List.set_cons_zero, List.set_cons_succ])
                                              refine M_take (v := ?_) 18 rfl (by kernel_rfl) (by assumption) (fun _ _ _ h => h) (Or.inl ⟨by rfl, ?_⟩) ?_
                                              rotate_left
                                              · (intro w hSw; (try dsimp only at hSw); go_simp; (try with_reducible rfl))
                                              (try simp only [Act.put, List.setIfInBounds_toArray, List.set_cons_zero, List.set_cons_succ])
                                              refine M_take (v := ?_) 19 rfl (by kernel_rfl) (by assumption) (fun _ _ _ h => h) (Or.inl ⟨by rfl, ?_⟩) ?_
                                              rotate_left
                                              · (intro w hSw; (try dsimp only at hSw); go_simp; (try with_reducible rfl))
                                              (try simp only [Act.put, List.setIfInBounds_toArray, List.set_cons_zero, List.set_cons_succ])
                                              refine M_take (v := ?_) 20 rfl (by kernel_rfl) (by assumption) (fun _ _ _ h => h) (Or.inl ⟨by rfl, ?_⟩) ?_
                                              rotate_left
                                              · (intro w hSw; (try dsimp only at hSw); go_simp; (try with_reducible rfl))
                                              (try simp only [Act.put, List.setIfInBounds_toArray, List.set_cons_zero, List.set_cons_succ])
                                              refine M_step 21 rfl (by kernel_rfl) (fun K hK => ?_)
                                              go_simp
                                              go_at_call 58
                                              refine (mo_any z Z _ _ _ _ (I0_10.out.up (DB10_1.out)) (I9_10.out.up (DB10_1.out)) hn5).mono ?_
                                              rintro e wA10_2 ⟨A'2, c'2, rfl, hm2, hbA⟩
                                              have DA10_2 := Lib.hid (show Below w10.heap.size w10 wA10_2 from nextB (DB10_1.out) hbA)
                                              have M2 := Lib.hid hm2
                                              have hTwA10_2 : (fun w' => w'.cell? ⟨w.heap.size, 0, none⟩ = some (.int .i64 (p.b)) ∧ w'.cell? ⟨w.heap.size, 1, none⟩ = some (.int .i64 (p.lo)) ∧ w'.cell? ⟨w.heap.size, 2, none⟩ = some (.int .i64 (p.hi)) ∧ w'.cell? ⟨w.heap.size, 3, none⟩ = some (.int .i64 (p.r))) wA10_2 := ⟨cell_up DA10_2.out zp10 x0, cell_up DA10_2.out zp10 x1, cell_up DA10_2.out zp10 x2, cell_up DA10_2.out zp10 x3⟩
                                              clear hbA hm2
                                              refine hK.out _ _ (fun _ => hTwA10_2) ?_
                                              clear hK K
                                              (try simp only [Act.put, List.setIfInBounds_toArray, List.set_cons_zero, List.set_cons_succ])
                                              refine M_step 22 rfl (by kernel_rfl) (fun K hK => ?_)
                                              go_simp
                                              go_at_call 32
                                              refine (KK9.out _ _ _ M2.out).mono ?_
                                              rintro e wB10_2 ⟨rfl, hbB⟩
                                              have DB10_2 := Lib.hid (show Below w10.heap.size w10 wB10_2 from nextB DA10_2.out hbB)
                                              have hTwB10_2 : (fun w' => w'.cell? ⟨w.heap.size, 0, none⟩ = some (.int .i64 (p.b)) ∧ w'.cell? ⟨w.heap.size, 1, none⟩ = some (.int .i64 (p.lo)) ∧ w'.cell? ⟨w.heap.size, 2, none⟩ = some (.int .i64 (p.hi)) ∧ w'.cell? ⟨w.heap.size, 3, none⟩ = some (.int .i64 (p.r))) wB10_2 := ⟨cell_up DB10_2.out zp10 x0, cell_up DB10_2.out zp10 x1, cell_up DB10_2.out zp10 x2, cell_up DB10_2.out zp10 x3⟩
                                              clear hbB M2 hTwA10_2
                                              refine hK.out _ _ (fun _ => hTwB10_2) ?_
                                              clear hK K
                                              (try simp only [Act.put, List.setIfInBounds_toArray, List.set_cons_zero, List.set_cons_succ])
                                              refine M_take (v := ?_) 23 rfl (by kernel_rfl) (by assumption) (fun _ _ _ h => h) (Or.inl ⟨by rfl, ?_⟩) ?_
                                              rotate_left
                                              · (intro w hSw; (try dsimp only at hSw); go_simp; (try with_reducible rfl))
                                              (try simp only [Act.put, List.setIfInBounds_toArray, List.set_cons_zero, List.set_cons_succ])
                                              refine M_take (v := ?_) 24 rfl (by kernel_rfl) (by assumption) (fun _ _ _ h => h) (Or.inl ⟨by rfl, ?_⟩) ?_
                                              rotate_left
                                              · (intro w hSw; (try dsimp only at hSw); go_simp; (try with_reducible rfl))
                                              (try simp only [Act.put, List.setIfInBounds_toArray, List.set_cons_zero, List.set_cons_succ])
                                              refine M_step 25 rfl (by kernel_rfl) (fun K hK => ?_)
                                              go_simp
                                              refine hK.out _ _ (fun _ => by assumption) ?_
                                              clear hK K
                                              (try simp only [Act.put, List.setIfInBounds_toArray, List.set_cons_zero, List.set_cons_succ])
                                              refine M_done (by kernel_rfl) ?_ _
                                              as_aux_lemma =>
                                                have C11 := Lib.hid (nextB C10.out DB10_2.out)
                                                go_wp2_with fail
                                                go_ret
                                                exact ⟨rfl, C11.out⟩
                                · have h31 : (E3 == 0) = false := by simpa using hE3
                                  subst hE2
                                  go_wp2_with fail
                                  as_aux_lemma =>
                                    refine wp_region_M [] (fun w' => w'.cell? ⟨w.heap.size, 0, none⟩ = some (.int .i64 (p.b)) ∧ w'.cell? ⟨w.heap.size, 1, none⟩ = some (.int .i64 (p.lo)) ∧ w'.cell? ⟨w.heap.size, 2, none⟩ = some (.int .i64 (p.hi)) ∧ w'.cell? ⟨w.heap.size, 3, none⟩ = some (.int .i64 (p.r))) (by kernel_rfl) (by kernel_rfl) (by (try dsimp only); (repeat' apply And.intro); all_goals first | assumption | (go_simp; done)) (fun hT0 => ?_)
                                    refine M_take (v := ?_) 0 rfl (by kernel_rfl) (by assumption) (fun _ _ _ h => h) (Or.inl ⟨by rfl, ?_⟩) ?_
                                    rotate_left
                                    · (intro w hSw; (try dsimp only at hSw); go_simp; (try with_reducible rfl))
                                    (try simp only [Act.put, List.setIfInBounds_toArray, List.set_cons_zero, List.set_cons_succ])
                                    refine M_take (v := ?_) 1 rfl (by kernel_rfl) (by assumption) (fun _ _ _ h => h) (Or.inl ⟨by rfl, ?_⟩) ?_
                                    rotate_left
                                    · (intro w hSw; (try dsimp only at hSw); go_simp; (try with_reducible rfl))
                                    (try simp only [Act.put, List.setIfInBounds_toArray, List.set_cons_zero, List.set_cons_succ])
                                    refine M_take (v := ?_) 2 rfl (by kernel_rfl) (by assumption) (fun _ _ _ h => h) (Or.inl ⟨by rfl, ?_⟩) ?_
                                    rotate_left
                                    · (intro w hSw; (try dsimp only at hSw); go_simp; (try with_reducible rfl))
                                    (try simp only [Act.put, List.setIfInBounds_toArray, List.set_cons_zero, List.set_cons_succ])
                                    refine M_step 3 rfl (by kernel_rfl) (fun K hK => ?_)
                                    go_simp
                                    go_at_call 58
                                    refine (mo_any q Z _ _ _ _ (I0_8.out.up ((Below.refl _ _).drew)) (I2_8.out.up ((Below.refl _ _).drew)) hn5).mono ?_
                                    rintro e wA8_0 ⟨A'0, c'0, rfl, hm0, hbA⟩
                                    have DA8_0 := Lib.hid (show Below w8.heap.size w8 wA8_0 from nextB ((Below.refl _ _).drew) hbA)
                                    have M0 := Lib.hid hm0
                                    have hTwA8_0 : (fun w' => w'.cell? ⟨w.heap.size, 0, none⟩ = some (.int .i64 (p.b)) ∧ w'.cell? ⟨w.heap.size, 1, none⟩ = some (.int .i64 (p.lo)) ∧ w'.cell? ⟨w.heap.size, 2, none⟩ = some (.int .i64 (p.hi)) ∧ w'.cell? ⟨w.heap.size, 3, none⟩ = some (.int .i64 (p.r))) wA8_0 := ⟨cell_up DA8_0.out zp8 x0, cell_up DA8_0.out zp8 x1, cell_up DA8_0.out zp8 x2, cell_up DA8_0.out zp8 x3⟩
                                    clear hbA hm0
                                    refine hK.out _ _ (fun _ => hTwA8_0) ?_
                                    clear hK K
                                    (try simp only [Act.put, List.setIfInBounds_toArray, List.set_cons_zero, List.set_cons_succ])
                                    refine M_step 4 rfl (by kernel_rfl) (fun K hK => ?_)
                                    go_simp
                                    go_at_call 32
                                    refine (KK2.out _ _ _ M0.out).mono ?_
                                    rintro e wB8_0 ⟨rfl, hbB⟩
                                    have DB8_0 := Lib.hid (show Below w8.heap.size w8 wB8_0 from nextB DA8_0.out hbB)
                                    have hTwB8_0 : (fun w' => w'.cell? ⟨w.heap.size, 0, none⟩ = some (.int .i64 (p.b)) ∧ w'.cell? ⟨w.heap.size, 1, none⟩ = some (.int .i64 (p.lo)) ∧ w'.cell? ⟨w.heap.size, 2, none⟩ = some (.int .i64 (p.hi)) ∧ w'.cell? ⟨w.heap.size, 3, none⟩ = some (.int .i64 (p.r))) wB8_0 := ⟨cell_up DB8_0.out zp8 x0, cell_up DB8_0.out zp8 x1, cell_up DB8_0.out zp8 x2, cell_up DB8_0.out zp8 x3⟩
                                    clear hbB M0 hTwA8_0
                                    refine hK.out _ _ (fun _ => hTwB8_0) ?_
                                    clear hK K
                                    (try simp only [Act.put, List.setIfInBounds_toArray, List.set_cons_zero, List.set_cons_succ])
                                    refine M_take (v := ?_) 5 rfl (by kernel_rfl) (by assumption) (fun _ _ _ h => h) (Or.inl ⟨by rfl, ?_⟩) ?_
                                    rotate_left
                                    · (intro w hSw; (try dsimp only at hSw); go_simp; (try with_reducible rfl))
                                    (try simp only [Act.put, List.setIfInBounds_toArray, List.set_cons_zero, List.set_cons_succ])
                                    refine M_take (v := ?_) 6 rfl (by kernel_rfl) (by assumption) (fun _ _ _ h => h) (Or.inl ⟨by rfl, ?_⟩) ?_
                                    rotate_left
                                    · (intro w hSw; (try dsimp only at hSw); go_simp; (try with_reducible rfl))
                                    (try simp only [Act.put, List.setIfInBounds_toArray, List.set_cons_zero, List.set_cons_succ])
                                    refine M_take (v := ?_) 7 rfl (by kernel_rfl) (by assumption) (fun _ _ _ h => h) (Or.inl ⟨by rfl, ?_⟩) ?_
                                    rotate_left
                                    · (intro w hSw; (try dsimp only at hSw); go_simp; (try with_reducible rfl))
                                    (try simp only [Act.put, List.setIfInBounds_toArray, List.set_cons_zero, List.set_cons_succ])
                                    refine M_take (v := ?_) 8 rfl (by kernel_rfl) (by assumption) (fun _ _ _ h => h) (Or.inl ⟨by rfl, ?_⟩) ?_
                                    rotate_left
                                    · (intro w hSw; (try dsimp only at hSw); go_simp; (try with_reducible rfl))
                                    (try simp only [Act.put, List.setIfInBounds_toArray, List.set_cons_zero, List.set_cons_succ])
                                    refine M_take (v := ?_) 9 rfl (by kernel_rfl) (by assumption) (fun _ _ _ h => h) (Or.inl ⟨by rfl, ?_⟩) ?_
                                    rotate_left
                                    · (intro w hSw; (try dsimp only at hSw); go_simp; (try with_reducible rfl))
                                    (try simp only [Act.put, List.setIfInBounds_toArray, List.set_cons_zero, List.set_cons_succ])
                                    refine M_step 10 rfl (by kernel_rfl) (fun K hK => ?_)
                                    go_simp
                                    go_at_call 58
                                    refine (mo_any q Z _ _ _ _ (I0_8.out.up (DB8_0.out)) (I3_8.out.up (DB8_0.out)) hn5).mono ?_
                                    rintro e wA8_1 ⟨A'1, c'1, rfl, hm1, hbA⟩
                                    have DA8_1 := Lib.hid (show Below w8.heap.size w8 wA8_1 from nextB (DB8_0.out) hbA)
                                    have M1 := Lib.hid hm1
                                    have hTwA8_1 : (fun w' => w'.cell? ⟨w.heap.size, 0, none⟩ = some (.int .i64 (p.b)) ∧ w'.cell? ⟨w.heap.size, 1, none⟩ = some (.int .i64 (p.lo)) ∧ w'.cell? ⟨w.heap.size, 2, none⟩ = some (.int .i64 (p.hi)) ∧ w'.cell? ⟨w.heap.size, 3, none⟩ = some (.int .i64 (p.r))) wA8_1 := ⟨cell_up DA8_1.out zp8 x0, cell_up DA8_1.out zp8 x1, cell_up DA8_1.out zp8 x2, cell_up DA8_1.out zp8 x3⟩
                                    clear hbA hm1
                                    refine hK.out _ _ (fun _ => hTwA8_1) ?_
                                    clear hK K
                                    (try simp only [Act.put, List.setIfInBounds_toArray, List.set_cons_zero, List.set_cons_succ])
                                    refine M_step 11 rfl (by kernel_rfl) (fun K hK => ?_)
                                    go_simp
                                    go_at_call 32
                                    refine (KK3.out _ _ _ M1.out).mono ?_
                                    rintro e wB8_1 ⟨rfl, hbB⟩
                                    have DB8_1 := Lib.hid (show Below w8.heap.size w8 wB8_1 from nextB DA8_1.out hbB)
                                    have hTwB8_1 : (fun w' => w'.cell? ⟨w.heap.size, 0, none⟩ = some (.int .i64 (p.b)) ∧ w'.cell? ⟨w.heap.size, 1, none⟩ = some (.int .i64 (p.lo)) ∧ w'.cell? ⟨w.heap.size, 2, none⟩ = some (.int .i64 (p.hi)) ∧ w'.cell? ⟨w.heap.size, 3, none⟩ = some (.int .i64 (p.r))) wB8_1 := ⟨cell_up DB8_1.out zp8 x0, cell_up DB8_1.out zp8 x1, cell_up DB8_1.out zp8 x2, cell_up DB8_1.out zp8 x3⟩
                                    clear hbB M1 hTwA8_1
                                    refine hK.out _ _ (fun _ => hTwB8_1) ?_
                                    clear hK K
                                    (try simp only [Act.put, List.setIfInBounds_toArray, List.set_cons_zero, List.set_cons_succ])
                                    refine M_take (v := ?_) 12 rfl (by kernel_rfl) (by assumption) (fun _ _ _ h => h) (Or.inl ⟨by rfl, ?_⟩) ?_
                                    rotate_left
                                    · (intro w hSw; (try dsimp only at hSw); go_simp; (try with_reducible rfl))
                                    (try simp only [Act.put, List.setIfInBounds_toArray, List.set_cons_zero, List.set_cons_succ])
                                    refine M_take (v := ?_) 13 rfl (by kernel_rfl) (by assumption) (fun _ _ _ h => h) (Or.inl ⟨by rfl, ?_⟩) ?_
                                    rotate_left
                                    · (intro w hSw; (try dsimp only at hSw); go_simp; (try with_reducible rfl))
                                    (try simp only [Act.put, List.setIfInBounds_toArray, List.set_cons_zero, List.set_cons_succ])
                                    refine M_done (by kernel_rfl) ?_ _
                                    as_aux_lemma =>
                                      have C9 := Lib.hid (nextB C8.out DB8_1.out)
                                      go_wp2_with fail
                                      go_ret
                                      exact ⟨rfl, C9.out⟩
                              · have h21 : (E2 == 0) = false := by simpa using hE2
                                have h22 : (E2 != 0) = true := by simpa using hE2
                                go_wp2_with fail
                                as_aux_lemma =>
                                  refine wp_region_M [] (fun w' => w'.cell? ⟨w.heap.size, 0, none⟩ = some (.int .i64 (p.b)) ∧ w'.cell? ⟨w.heap.size, 1, none⟩ = some (.int .i64 (p.lo)) ∧ w'.cell? ⟨w.heap.size, 2, none⟩ = some (.int .i64 (p.hi)) ∧ w'.cell? ⟨w.heap.size, 3, none⟩ = some (.int .i64 (p.r))) (by kernel_rfl) (by kernel_rfl) (by (try dsimp only); (repeat' apply And.intro); all_goals first | assumption | (go_simp; done)) (fun hT0 => ?_)
                                  refine M_take (v := ?_) 0 rfl (by kernel_rfl) (by assumption) (fun _ _ _ h => h) (Or.inl ⟨by rfl, ?_⟩) ?_
                                  rotate_left
                                  · (intro w hSw; (try dsimp only at hSw); go_simp; (try with_reducible rfl))
                                  (try simp only [Act.put, List.setIfInBounds_toArray, List.set_cons_zero, List.set_cons_succ])
                                  refine M_take (v := ?_) 1 rfl (by kernel_rfl) (by assumption) (fun _ _ _ h => h) (Or.inl ⟨by rfl, ?_⟩) ?_
                                  rotate_left
                                  · (intro w hSw; (try dsimp only at hSw); go_simp; (try with_reducible rfl))
                                  (try simp only [Act.put, List.setIfInBounds_toArray, List.set_cons_zero, List.set_cons_succ])
                                  refine M_take (v := ?_) 2 rfl (by kernel_rfl) (by assumption) (fun _ _ _ h => h) (Or.inl ⟨by rfl, ?_⟩) ?_
                                  rotate_left
                                  · (intro w hSw; (try dsimp only at hSw); go_simp; (try with_reducible rfl))
                                  (try simp only [Act.put, List.setIfInBounds_toArray, List.set_cons_zero, List.set_cons_succ])
                                  refine M_step 3 rfl (by kernel_rfl) (fun K hK => ?_)
                                  go_simp
                                  go_at_call 58
                                  refine (mo_any q Z _ _ _ _ (I0_8.out.up ((Below.refl _ _).drew)) (I2_8.out.up ((Below.refl _ _).drew)) hn5).mono ?_
                                  rintro e wA8_0 ⟨A'0, c'0, rfl, hm0, hbA⟩
                                  have DA8_0 := Lib.hid (show Below w8.heap.size w8 wA8_0 from nextB ((Below.refl _ _).drew) hbA)
                                  have M0 := Lib.hid hm0
                                  have hTwA8_0 : (fun w' => w'.cell? ⟨w.heap.size, 0, none⟩ = some (.int .i64 (p.b)) ∧ w'.cell? ⟨w.heap.size, 1, none⟩ = some (.int .i64 (p.lo)) ∧ w'.cell? ⟨w.heap.size, 2, none⟩ = some (.int .i64 (p.hi)) ∧ w'.cell? ⟨w.heap.size, 3, none⟩ = some (.int .i64 (p.r))) wA8_0 := ⟨cell_up DA8_0.out zp8 x0, cell_up DA8_0.out zp8 x1, cell_up DA8_0.out zp8 x2, cell_up DA8_0.out zp8 x3⟩
                                  clear hbA hm0
                                  refine hK.out _ _ (fun _ => hTwA8_0) ?_
                                  clear hK K
                                  (try simp only [Act.put, List.setIfInBounds_toArray, List.set_cons_zero, List.set_cons_succ])
                                  refine M_step 4 rfl (by kernel_rfl) (fun K hK => ?_)
                                  go_simp
                                  go_at_call 32
                                  refine (KK2.out _ _ _ M0.out).mono ?_
                                  rintro e wB8_0 ⟨rfl, hbB⟩
                                  have DB8_0 := Lib.hid (show Below w8.heap.size w8 wB8_0 from nextB DA8_0.out hbB)
                                  have hTwB8_0 : (fun w' => w'.cell? ⟨w.heap.size, 0, none⟩ = some (.int .i64 (p.b)) ∧ w'.cell? ⟨w.heap.size, 1, none⟩ = some (.int .i64 (p.lo)) ∧ w'.cell? ⟨w.heap.size, 2, none⟩ = some (.int .i64 (p.hi)) ∧ w'.cell? ⟨w.heap.size, 3, none⟩ = some (.int .i64 (p.r))) wB8_0 := ⟨cell_up DB8_0.out zp8 x0, cell_up DB8_0.out zp8 x1, cell_up DB8_0.out zp8 x2, cell_up DB8_0.out zp8 x3⟩
                                  clear hbB M0 hTwA8_0
                                  refine hK.out _ _ (fun _ => hTwB8_0) ?_
                                  clear hK K
                                  (try simp only [Act.put, List.setIfInBounds_toArray, List.set_cons_zero, List.set_cons_succ])
                                  refine M_take (v := ?_) 5 rfl (by kernel_rfl) (by assumption) (fun _ _ _ h => h) (Or.inl ⟨by rfl, ?_⟩) ?_
                                  rotate_left
                                  · (intro w hSw; (try dsimp only at hSw); go_simp; (try with_reducible rfl))
                                  (try simp only [Act.put, List.setIfInBounds_toArray, List.set_cons_zero, List.set_cons_succ])
                                  refine M_take (v := ?_) 6 rfl (by kernel_rfl) (by assumption) (fun _ _ _ h => h) (Or.inl ⟨by rfl, ?_⟩) ?_
                                  rotate_left
                                  · (intro w hSw; (try dsimp only at hSw); go_simp; (try with_reducible rfl))
                                  (try simp only [Act.put, List.setIfInBounds_toArray, List.set_cons_zero, List.set_cons_succ])
                                  refine M_take 7 rfl (by kernel_rfl) (by assumption) (fun _ _ _ h => h) (Or.inr ⟨by rfl, rfl⟩) ?_
                                  (try simp only [Act.put, List.setIfInBounds_toArray, List.set_cons_zero, List.set_cons_succ])
                                  refine M_take 8 rfl (by kernel_rfl) (by assumption) (fun _ _ _ h => h) (Or.inr ⟨by rfl, rfl⟩) ?_
                                  (try simp only [Act.put, List.setIfInBounds_toArray, List.set_cons_zero, List.set_cons_succ])
                                  refine M_take 9 rfl (by kernel_rfl) (by assumption) (fun _ _ _ h => h) (Or.inr ⟨by rfl, rfl⟩) ?_
                                  (try simp only [Act.put, List.setIfInBounds_toArray, List.set_cons_zero, List.set_cons_succ])
                                  refine M_take 10 rfl (by kernel_rfl) (by assumption) (fun _ _ _ h => h) (Or.inr ⟨by rfl, rfl⟩) ?_
                                  (try simp only [Act.put, List.setIfInBounds_toArray, List.set_cons_zero, List.set_cons_succ])
                                  refine M_take 11 rfl (by kernel_rfl) (by assumption) (fun _ _ _ h => h) (Or.inr ⟨by rfl, rfl⟩) ?_
                                  (try simp only [Act.put, List.setIfInBounds_toArray, List.set_cons_zero, List.set_cons_succ])
                                  refine M_take 12 rfl (by kernel_rfl) (by assumption) (fun _ _ _ h => h) (Or.inr ⟨by rfl, rfl⟩) ?_
                                  (try simp only [Act.put, List.setIfInBounds_toArray, List.set_cons_zero, List.set_cons_succ])
                                  refine M_take (v := ?_) 13 rfl (by kernel_rfl) (by assumption) (fun _ _ _ h => h) (Or.inl ⟨by rfl, ?_⟩) ?_
                                  rotate_left
                                  · (intro w hSw; (try dsimp only at hSw); go_simp; (try with_reducible rfl))
                                  (try simp only [Act.put, List.setIfInBounds_toArray, List.set_cons_zero, List.set_cons_succ])
                                  refine M_done (by kernel_rfl) ?_ _
                                  as_aux_lemma =>
                                    have C9 := Lib.hid (nextB C8.out DB8_0.out)
                                    go_wp2_with fail
                                    go_ret
                                    exact ⟨rfl, C9.out⟩
                      · have hE10 : (E1 == 0) = false := by simpa using hE1
                        go_wp2_with fail
                        go_ret
                        exact ⟨rfl, C7.out⟩
      · have H0 := Lib.hid h0
        have h00 : (E == 0) = false := by simpa using h0
        have h01 : ¬ (E1 = 0) := fun e => H0.out (lat_E (by rw [← e]; exact HE1.out) HE.out)
        have h02 : (E1 == 0) = false := by simpa using h01
        clear h0 HE HE1
        go_wp2_with (go_at_call 20; refine (KF.out _).mono ?_; rintro e w' ⟨rfl, rfl⟩; clear KF)
        refine (K1.out _ C2.out).mono ?_
        rintro e w3 ⟨-, hq⟩
        obtain ⟨rfl, hb⟩ := hq H0.out
        have C3 := Lib.hid (nextB C2.out hb)
        have P3 := Lib.hid (P2.out.up hb zp2)
        have zp3 := P3.out.lt
        have I0_3 := Lib.hid (I0_2.out.up hb)
        have I1_3 := Lib.hid (I1_2.out.up hb)
        clear I0_2 I1_2
        clear hq hb K1
        clear x0 x1 x2 x3
        obtain ⟨x0, x1, x2, x3⟩ := P3.out
        go_wp2_with fail
        refine (K2.out _ C3.out).mono ?_
        rintro e w4 ⟨-, hq⟩
        obtain ⟨rfl, hb⟩ := hq H0.out
        have C4 := Lib.hid (nextB C3.out hb)
        have P4 := Lib.hid (P3.out.up hb zp3)
        have zp4 := P4.out.lt
        have I0_4 := Lib.hid (I0_3.out.up hb)
        have I1_4 := Lib.hid (I1_3.out.up hb)
        clear I0_3 I1_3
        clear hq hb K2
        clear x0 x1 x2 x3
        obtain ⟨x0, x1, x2, x3⟩ := P4.out
        go_wp2_with fail
        refine (K3.out _ C4.out).mono ?_
        rintro e w5 ⟨-, hq⟩
        obtain ⟨rfl, hb⟩ := hq H0.out
        have C5 := Lib.hid (nextB C4.out hb)
        have P5 := Lib.hid (P4.out.up hb zp4)
        have zp5 := P5.out.lt
        have I0_5 := Lib.hid (I0_4.out.up hb)
        have I1_5 := Lib.hid (I1_4.out.up hb)
        clear I0_4 I1_4
        clear hq hb K3
        clear x0 x1 x2 x3
        obtain ⟨x0, x1, x2, x3⟩ := P5.out
        go_wp2_with fail
        as_aux_lemma =>
          refine wp_region_M [] (fun w' => w'.cell? ⟨w.heap.size, 0, none⟩ = some (.int .i64 (p.b)) ∧ w'.cell? ⟨w.heap.size, 1, none⟩ = some (.int .i64 (p.lo)) ∧ w'.cell? ⟨w.heap.size, 2, none⟩ = some (.int .i64 (p.hi)) ∧ w'.cell? ⟨w.heap.size, 3, none⟩ = some (.int .i64 (p.r))) (by kernel_rfl) (by kernel_rfl) (by (try dsimp only); (repeat' apply And.intro); all_goals first | assumption | (go_simp; done)) (fun hT0 => ?_)
          refine M_take (v := ?_) 0 rfl (by kernel_rfl) (by assumption) (fun _ _ _ h => h) (Or.inl ⟨by rfl, ?_⟩) ?_
          rotate_left
          · (intro w hSw; (try dsimp only at hSw); go_simp; (try with_reducible rfl))
          (try simp only [Act.put, List.setIfInBounds_toArray, List.set_cons_zero, List.set_cons_succ])
          refine M_take (v := ?_) 1 rfl (by kernel_rfl) (by assumption) (fun _ _ _ h => h) (Or.inl ⟨by rfl, ?_⟩) ?_
          rotate_left
          · (intro w hSw; (try dsimp only at hSw); go_simp; (try with_reducible rfl))
          (try simp only [Act.put, List.setIfInBounds_toArray, List.set_cons_zero, List.set_cons_succ])
          refine M_take (v := ?_) 2 rfl (by kernel_rfl) (by assumption) (fun _ _ _ h => h) (Or.inl ⟨by rfl, ?_⟩) ?_
          rotate_left
          · (intro w hSw; (try dsimp only at hSw); go_simp; (try with_reducible rfl))
          (try simp only [Act.put, List.setIfInBounds_toArray, List.set_cons_zero, List.set_cons_succ])
          refine M_step 3 rfl (by kernel_rfl) (fun K hK => ?_)
          go_simp
          go_at_call 58
          refine (mo_any n Z _ _ _ _ (I0_5.out.up ((Below.refl _ _).drew)) (I1_5.out.up ((Below.refl _ _).drew)) hn5).mono ?_
          rintro e wA5_0 ⟨A'0, c'0, rfl, hm0, hbA⟩
          have DA5_0 := Lib.hid (show Below w5.heap.size w5 wA5_0 from nextB ((Below.refl _ _).drew) hbA)
          have M0 := Lib.hid hm0
          have hTwA5_0 : (fun w' => w'.cell? ⟨w.heap.size, 0, none⟩ = some (.int .i64 (p.b)) ∧ w'.cell? ⟨w.heap.size, 1, none⟩ = some (.int .i64 (p.lo)) ∧ w'.cell? ⟨w.heap.size, 2, none⟩ = some (.int .i64 (p.hi)) ∧ w'.cell? ⟨w.heap.size, 3, none⟩ = some (.int .i64 (p.r))) wA5_0 := ⟨cell_up DA5_0.out zp5 x0, cell_up DA5_0.out zp5 x1, cell_up DA5_0.out zp5 x2, cell_up DA5_0.out zp5 x3⟩
          clear hbA hm0
          refine hK.out _ _ (fun _ => hTwA5_0) ?_
          clear hK K
          (try simp only [Act.put, List.setIfInBounds_toArray, List.set_cons_zero, List.set_cons_succ])
          refine M_step 4 rfl (by kernel_rfl) (fun K hK => ?_)
          go_simp
          go_at_call 32
          refine (KK1.out _ _ _ M0.out).mono ?_
          rintro e wB5_0 ⟨rfl, hbB⟩
          have DB5_0 := Lib.hid (show Below w5.heap.size w5 wB5_0 from nextB DA5_0.out hbB)
          have hTwB5_0 : (fun w' => w'.cell? ⟨w.heap.size, 0, none⟩ = some (.int .i64 (p.b)) ∧ w'.cell? ⟨w.heap.size, 1, none⟩ = some (.int .i64 (p.lo)) ∧ w'.cell? ⟨w.heap.size, 2, none⟩ = some (.int .i64 (p.hi)) ∧ w'.cell? ⟨w.heap.size, 3, none⟩ = some (.int .i64 (p.r))) wB5_0 := ⟨cell_up DB5_0.out zp5 x0, cell_up DB5_0.out zp5 x1, cell_up DB5_0.out zp5 x2, cell_up DB5_0.out zp5 x3⟩
          clear hbB M0 hTwA5_0
          refine hK.out _ _ (fun _ => hTwB5_0) ?_
          clear hK K
          (try simp only [Act.put, List.setIfInBounds_toArray, List.set_cons_zero, List.set_cons_succ])
          refine M_take (v := ?_) 5 rfl (by kernel_rfl) (by assumption) (fun _ _ _ h => h) (Or.inl ⟨by rfl, ?_⟩) ?_
          rotate_left
          · (intro w hSw; (try dsimp only at hSw); go_simp; (try with_reducible rfl))
          (try simp only [Act.put, List.setIfInBounds_toArray, List.set_cons_zero, List.set_cons_succ])
          refine M_step 6 rfl (by kernel_rfl) (fun K hK => ?_)
          go_simp
          refine hK.out _ _ (fun _ => by assumption) ?_
          clear hK K
          (try simp only [Act.put, List.setIfInBounds_toArray, List.set_cons_zero, List.set_cons_succ])
          refine M_done (by kernel_rfl) ?_ _
          as_aux_lemma =>
            have C9 := Lib.hid (nextB C5.out DB5_0.out)
            go_wp2_with fail
            go_ret
            exact ⟨rfl, C9.out⟩
    · have hl : (¬ n1 = n) ∨ (n1 = n ∧ ¬ n2 = n) ∨ (n1 = n ∧ n2 = n ∧ ¬ n3 = n) := by
        by_cases q1 : n1 = n
        · by_cases q2 : n2 = n
          · exact .inr (.inr ⟨q1, q2, fun q3 => hall ⟨q1, q2, q3⟩⟩)
          · exact .inr (.inl ⟨q1, q2⟩)
        · exact .inl q1
      go_enter Try.func11, Try.ntmps11
      go_wp2_with fail
      refine (awake_any _).mono ?_
      rintro e w2 ⟨rfl, hb2⟩
      have C2 := Lib.hid (nextB (box1 w _) hb2)
      clear hb2 hall
      rcases hl with g1 | ⟨g1, g2⟩ | ⟨g1, g2, g3⟩
      · have r1 : ((n1 : Int) == (n : Int)) = false := by rw [beq_eq_false_iff_ne]; exact fun e => g1 (by omega)
        have r2 : ¬ (n1 : Int) = (n : Int) := fun e => g1 (by omega)
        go_wp2_with (go_at_call 20; refine (KF.out _).mono ?_; rintro e w' ⟨rfl, rfl⟩; clear KF)
        go_ret
        exact ⟨rfl, C2.out⟩
      · have r1 : ((n2 : Int) == (n : Int)) = false := by rw [beq_eq_false_iff_ne]; exact fun e => g2 (by omega)
        have r2 : ¬ (n2 : Int) = (n : Int) := fun e => g2 (by omega)
        have g1' := g1.symm
        subst g1'
        go_wp2_with (go_at_call 20; refine (KF.out _).mono ?_; rintro e w' ⟨rfl, rfl⟩; clear KF)
        go_ret
        exact ⟨rfl, C2.out⟩
      · have r1 : ((n3 : Int) == (n : Int)) = false := by rw [beq_eq_false_iff_ne]; exact fun e => g3 (by omega)
        have r2 : ¬ (n3 : Int) = (n : Int) := fun e => g3 (by omega)
        have g1' := g1.symm
        subst g1'
        have g2' := g2.symm
        subst g2'
        go_wp2_with (go_at_call 20; refine (KF.out _).mono ?_; rintro e w' ⟨rfl, rfl⟩; clear KF)
        go_ret
        exact ⟨rfl, C2.out⟩
  · have df : decide ((n : Int) ≤ 500) = false := by simpa using hf
    rw [df] at KF
    clear df hf
    go_enter Try.func11, Try.ntmps11
    go_wp2_with fail
    refine (awake_any _).mono ?_
    rintro e w2 ⟨rfl, hb2⟩
    have C2 := Lib.hid (nextB (box1 w _) hb2)
    clear hb2
    go_wp2_with (go_at_call 20; refine (KF.out _).mono ?_; rintro e w' ⟨rfl, rfl⟩; clear KF)
    go_ret
    exact ⟨rfl, C2.out⟩
end Go.Proofs.Ytkidhmajlpceeaa
