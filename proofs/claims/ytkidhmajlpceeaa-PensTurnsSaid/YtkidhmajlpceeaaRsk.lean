/- The specification's Stuck. -/
import Derived.Test.YtkidhmajlpceeaaStk
import Derived.Test.YtkidhmajlpceeaaRfg
namespace Go.Proofs.Ytkidhmajlpceeaa
open Go.RowKit
/-- a row of spans and no error, or nothing and an error -/
def PPost (w : World) (L : List (Int × Int)) (E : Int) (e : Ending) (w' : World) : Prop :=
  (E = 0 → ∃ v, e = .returned (.tuple #[v, .int .i64 0]) ∧ RowP w 23 L v w') ∧ (E ≠ 0 → e = .returned (.tuple #[.slice none 0 0, .int .i64 E]) ∧ Below w.heap.size w w')
theorem RowP.from_ {w w1 w2 : World} {t : TypeId} {L : List (Int × Int)} {v : Value} (hb : Below w.heap.size w w1) (h : RowP w1 t L v w2) : RowP w t L v w2 := by
  obtain ⟨h1, hx0, hx | ⟨gb, cap, cur, rfl, hbase, r⟩⟩ := h
  · exact ⟨hb.trans (h1.mono hb.size), hx0, .inl hx⟩
  · exact ⟨hb.trans (h1.mono hb.size), hx0, .inr ⟨gb, cap, cur, rfl, Nat.le_trans hb.size hbase, r⟩⟩
/-- what has been found ahead of an index -/
def StI (Z : Nat → Int) (n m : Nat) (L : List (Int × Int)) : Prop := m ≤ n ∧ L.length ≤ m ∧ (m < n → tlast Z m = m ∧ L = sO Z m) ∧ (m = n → L = stuckL Z n)
theorem StI.next {Z : Nat → Int} {n m k : Nat} {L : List (Int × Int)} (h : StI Z n m L) (hm : m < n) (hk : m ≤ k) (hkn : k < n) (he : ∀ j, m ≤ j → j ≤ k → Z j = Z m) (hs : k + 1 < n → Z (k + 1) ≠ Z m) :
    (m < k → StI Z n (k + 1) (L ++ [((m : Int), (k : Int))])) ∧ (¬ m < k → StI Z n (k + 1) L) := by
  obtain ⟨h1, h2, h3, h4⟩ := h
  obtain ⟨t1, t2⟩ := h3 hm
  by_cases hl : k + 1 < n
  · obtain ⟨r1, r2, r3⟩ := run_end t1 hk he (hs hl)
    refine ⟨fun a => ⟨by omega, by rw [List.length_append, List.length_singleton]; omega, fun _ => ⟨r1, by rw [r2 a, t2]⟩, fun e => absurd e (by omega)⟩, fun a => ⟨by omega, by omega, fun _ => ⟨r1, by rw [r3 a, t2]⟩, fun e => absurd e (by omega)⟩⟩
  · obtain ⟨r1, r2⟩ := run_last (n := n) t1 hm fun j a b => he j a (by omega)
    obtain rfl : k = n - 1 := by omega
    refine ⟨fun a => ⟨by omega, by rw [List.length_append, List.length_singleton]; omega, fun e => absurd e (by omega), fun _ => by rw [r1 a, t2]⟩, fun a => ⟨by omega, by omega, fun e => absurd e (by omega), fun _ => by rw [r2 a, t2]⟩⟩
set_option maxRecDepth 100000 in
set_option maxHeartbeats 4000000 in
theorem RStuck_any (p : Pn) (A : Option Addr) (n c : Nat) (Z : Nat → Int) (E : Int) (w : World) (hin : IntsIn A n Z w.heap.size w) (hE : memR p n Z E) :
    Calls Try.prog 47 #[p.v, .slice A n c] w fun e w' => PPost w (stuckL Z n) E e w' := by
  have HIN := Lib.hid hin
  have hn := hin.1
  clear hin
  have KC : Hid (∀ W, Below w.heap.size w W → Calls Try.prog 79 #[p.v, .slice A n c] W fun e w' => e = .returned (.int .i64 E) ∧ Below W.heap.size W w') :=
    Lib.hid fun W hW => checkShown_any p A n c Z E W ((HIN.out.up hW (Nat.le_refl _)).more hW.size) hE
  by_cases hck : p.Ok ∧ LsOk Z n
  · obtain ⟨h, hl⟩ := hck
    obtain rfl : E = 0 := by
      rcases hE with ⟨h1, _⟩ | ⟨_, ⟨h1, _⟩ | ⟨_, h1⟩⟩
      · exact absurd h h1
      · exact absurd hl h1
      · exact h1
    have hn0 := hl.1
    have hn4 := hl.2.1
    have HWr : Hid (∀ x : Int, -1000000 ≤ x → x ≤ 1000000 → IntKind.i64.wrap x = x) := Lib.hid fun x h1 h2 => IntWalk.i64_in _ (by omega)
    obtain ⟨a, ha, _, _⟩ := HIN.out.2 0 (by omega)
    subst ha
    clear h hl hE
    obtain ⟨i0, hi0, hz0, hz1, hz2⟩ := info_parts Try.infoSpan
    go_enter Try.func47, Try.ntmps47
    go_wp2_with fail
    refine (KC.out _ (box1 _ _)).mono ?_
    rintro e w1 ⟨rfl, hb⟩
    have C1 := Lib.hid (nextB (box1 w _) hb)
    clear hb KC
    go_wp2_with fail
    go_loopw [7, 8, 9] (fun out i _ wr => ∃ (m : Nat) (L : List (Int × Int)), i = .int .i64 (m : Int) ∧ Hid (StI Z n m L) ∧ RowP w1 23 L out wr) (fun _ i _ _ => n - (intOf i).toNat)
    case atStart => exact ⟨0, [], rfl, Lib.hid ⟨by omega, Nat.le_refl _, fun _ => ⟨rfl, rfl⟩, fun e => absurd e (by omega)⟩, Below.refl _ _, World.ownsRow_nil _ _ _ _⟩
    case round =>
      obtain ⟨m, L, rfl, HS, hR⟩ := hrel
      obtain ⟨wo, rfl⟩ : ∃ wo : World, wo = wr := ⟨_, rfl⟩
      have HR := Lib.hid hR
      have C2 := Lib.hid (nextB C1.out hR.below)
      have hk0 : (0 : Int) ≤ (m : Int) := by omega
      have hm := HS.out.1
      have hLm := HS.out.2.1
      clear hR
      by_cases hlt : m < n
      · have hki : (m : Int) < (n : Int) := by omega
        go_wp2_with fail
        go_loopw [9] (fun k wr => ∃ d : Nat, m + d < n ∧ k = .int .i64 ((m + d : Nat) : Int) ∧ Hid (∀ j, m ≤ j → j ≤ m + d → Z j = Z m) ∧ Below wo.heap.size wo wr) (fun k _ => n - (intOf k).toNat)
        case atStart => exact ⟨0, hlt, rfl, Lib.hid fun j h1 h2 => by rw [show j = m by omega], Below.refl _ _⟩
        case round =>
          obtain ⟨d, hd, rfl, HJ, hb⟩ := hrel
          obtain ⟨w3, rfl⟩ : ∃ w3 : World, w3 = wr := ⟨_, rfl⟩
          have D3 := Lib.hid hb
          have C3 := Lib.hid (nextB C2.out hb)
          obtain ⟨a', e1, _, c1⟩ := (HIN.out.up C3.out (Nat.le_refl _)).2 m hlt
          cases e1
          clear hb
          have hd0 : (0 : Int) ≤ ((m + d : Nat) : Int) := by omega
          have w1' : IntKind.i64.wrap (((m + d : Nat) : Int) + 1) = ((m + (d + 1) : Nat) : Int) := by rw [show ((m + d : Nat) : Int) + 1 = ((m + (d + 1) : Nat) : Int) by omega]; exact HWr.out _ (by omega) (by omega)
          by_cases hg : m + (d + 1) < n ∧ Z (m + (d + 1)) = Z m
          · obtain ⟨g1, g2⟩ := hg
            obtain ⟨a', e1, _, c2⟩ := (HIN.out.up C3.out (Nat.le_refl _)).2 (m + (d + 1)) g1
            cases e1
            rw [g2] at c2
            have HN : Hid (∀ j, m ≤ j → j ≤ m + (d + 1) → Z j = Z m) := Lib.hid fun j h1 h2 => by
              rcases Nat.lt_or_ge (m + d) j with h3 | h3
              · rw [show j = m + (d + 1) by omega, g2]
              · exact HJ.out j h1 h3
            have g3 : ((m + (d + 1) : Nat) : Int) < (n : Int) := by omega
            have g4 : (0 : Int) ≤ ((m + (d + 1) : Nat) : Int) := by omega
            clear g2
            generalize hs : m + (d + 1) = s at *
            have HSS := Lib.hid hs
            generalize hq : m + d = q at *
            clear hs
            go_wp2_with fail
            go_quiet (fail)
            go_wp2_with fail
            refine ⟨⟨d + 1, by have := HSS.out; omega, by rw [HSS.out], (by rw [HSS.out]; exact HN), below_drewN D3.out _⟩, ?_⟩
            have := HSS.out
            simp only [intOf]
            omega
          · have hgo : m + (d + 1) < n → Z (m + (d + 1)) ≠ Z m := fun h1 h2 => hg ⟨h1, h2⟩
            have HGO := Lib.hid hgo
            have hnx := HS.out.next (k := m + d) hlt (by omega) hd HJ.out (fun h => hgo h)
            have HNX := Lib.hid hnx
            clear hg hgo hnx
            go_wp2_with fail
            go_cut [37] (fun v wx => v = .bool false ∧ Below w3.heap.size w3 wx)
            case first =>
              by_cases g1 : m + (d + 1) < n
              · obtain ⟨a', e1, _, c2⟩ := (HIN.out.up C3.out (Nat.le_refl _)).2 (m + (d + 1)) g1
                cases e1
                have u1 : decide (Z (m + (d + 1)) = Z m) = false := decide_eq_false (HGO.out g1)
                have hne := HGO.out g1
                have g3 : ((m + (d + 1) : Nat) : Int) < (n : Int) := by omega
                have g4 : (0 : Int) ≤ ((m + (d + 1) : Nat) : Int) := by omega
                generalize Z m = zm at c1 c2 u1 hne
                generalize Z (m + (d + 1)) = zk at c2 u1 hne
                generalize m + (d + 1) = s at *
                generalize m + d = q at *
                go_quiet (fail)
                go_wp2_with fail
                go_meet
                exact ⟨by rw [show (zk == zm) = false by simpa using hne], below_drewN (Below.refl _ _) _⟩
              · have g3 : (n : Int) ≤ ((m + (d + 1) : Nat) : Int) := by omega
                generalize m + (d + 1) = s at *
                generalize m + d = q at *
                go_quiet (fail)
                go_wp2_with fail
                go_meet
                exact ⟨rfl, below_drewN (Below.refl _ _) _⟩
            case rest =>
              obtain ⟨rfl, hb4⟩ := hcut
              obtain ⟨w4, rfl⟩ : ∃ w4 : World, w4 = wc := ⟨_, rfl⟩
              have hR4 := HR.out.up (nextB D3.out hb4)
              have HR4 := Lib.hid hR4
              have hown := hR4.own
              have hsz := hR4.below.size
              clear hR4 hb4 c1
              by_cases hd1 : 0 < d
              · have g1 : (m : Int) < ((m + d : Nat) : Int) := by omega
                have HQ := Lib.hid (HNX.out.1 (by omega))
                have u1 : decide ((m : Int) < ((m + d : Nat) : Int)) = true := decide_eq_true g1
                clear HNX HGO
                generalize hq : m + d = q at *
                have HQQ := Lib.hid hq
                clear hq
                go_wp2_with (at_builtin; refine wpList_append_own _ rfl _ _ 48 rfl w1.heap.size 23 i0 (.agg #[.int .i64 0, .int .i64 0]) 2 16 Try.underlying48 hi0 hz0 hz1 hz2 rfl (by decide) _ _ _ rfl (hown.alloc _) ⟨w4.heap.size, 0, none⟩ 1 1 [.int .i64 (m : Int), .int .i64 (q : Int)] rfl rfl (new2 _ _ _ _) (by simp [Value.oneCell']) (by unfold maxLen; omega) (by omega) (by rw [World.size_alloc]; omega) ?_; intro v8 w8 hown8 hg8 _; have HN8 := Lib.hid (HR4.out.app (box1 _ _) hg8 hown8); clear hown hown8 hg8)
                refine ⟨⟨q + 1, L ++ [((m : Int), (q : Int))], by have := HQQ.out; rw [show ((q + 1 : Nat) : Int) = (m : Int) + ((d : Int) + 1) by omega], Lib.hid HQ.out, HN8.out⟩, ?_⟩
                have := HQQ.out
                simp only [intOf]
                omega
              · obtain rfl : d = 0 := by omega
                have HQ := Lib.hid (HNX.out.2 (by omega))
                clear HNX HGO
                simp only [Nat.add_zero, Nat.zero_add] at *
                have u1 : decide ((m : Int) < (m : Int)) = false := decide_eq_false (by omega)
                go_wp2_with fail
                refine ⟨⟨m + 1, L, by go_num, Lib.hid HQ.out, HR4.out⟩, ?_⟩
                simp only [intOf]
                omega
      · have hki : (n : Int) ≤ (m : Int) := by omega
        have HL := Lib.hid (HS.out.2.2.2 (by omega))
        go_wp2_with fail
        go_ret2
        exact ⟨fun _ => ⟨_, rfl, by rw [← HL.out]; exact HR.out.from_ C1.out⟩, fun e => absurd rfl e⟩
  · have hne : E ≠ 0 := by
      intro e
      subst e
      rcases hE with ⟨_, h1⟩ | ⟨h0, ⟨_, h1⟩ | ⟨h2, _⟩⟩
      · cases h1
      · cases h1
      · exact hck ⟨h0, h2⟩
    have e0 : (E == 0) = false := by simpa using hne
    clear hE hck
    go_enter Try.func47, Try.ntmps47
    go_wp2_with fail
    refine (KC.out _ (box1 _ _)).mono ?_
    rintro e w1 ⟨rfl, hb⟩
    have C1 := Lib.hid (nextB (box1 w _) hb)
    clear hb KC
    go_wp2_with fail
    go_ret2
    exact ⟨fun e => absurd e hne, fun _ => ⟨rfl, C1.out⟩⟩
end Go.Proofs.Ytkidhmajlpceeaa
