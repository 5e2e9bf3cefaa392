/- The specification's next and rest. -/
import Derived.Test.YtpikaohodieeaaaRpa
namespace Go.Proofs.Ytpikaohodieeaaa
open Go.RowKit
set_option linter.unusedSimpArgs false
set_option linter.unusedVariables false
theorem rowI_at {A : Option Addr} {n B : Nat} {Z : Nat → Int} {w : World} {a : Addr} (h : IntsIn A n Z B w) (ha : A = some a) : ∀ j u, (rowI Z n)[j]? = some u → w.cell? (a.add j) = some u := by
  subst ha
  intro j u hj
  have hlt : j < n := by
    have := (List.getElem?_eq_some_iff.1 hj).1
    rwa [rowI_len] at this
  rw [rowI_get Z hlt] at hj
  cases hj
  obtain ⟨a', e, _, hc⟩ := h.2 j hlt
  cases e
  exact hc
theorem run_none_int (w : World) (ty : TypeId) (g l cap c : Nat) (h : l ≤ cap) : (Builtin.append_ #[29, 29] ty #[.slice (some ⟨g, 0, none⟩) l cap, .slice none 0 c]).run Try.prog w = .ok (.slice (some ⟨g, 0, none⟩) l cap) w := by
  obtain ⟨i0, hi0, hz0, hz1, hz2⟩ := info_parts Try.infoInt
  simp [Builtin.append_, run_underlying Try.underlying29, Builtin.lenOf, Builtin.firstCells, sizeOf, typeInfo, hi0, hz1, h, storeCells]
theorem app_int {V : World} {B : Nat} {v : Value} {n m c : Nat} {xs : List Value} {A : Option Addr} {F : Nat → Int} (hown : V.ownsRow B 3 1 v n xs) (hne : v ≠ .slice none 0 0) (hA : IntsIn A m F V.heap.size V) (hn : n + m ≤ 1000) (hB : B ≤ V.heap.size) (ty : TypeId) :
    ∃ v' V', (Builtin.append_ #[29, 29] ty #[v, .slice A m c]).run Try.prog V = .ok v' V' ∧ V'.ownsRow B 3 1 v' (n + m) (xs ++ rowI F m) ∧ V.grownBy V' v.ownBlock ∧ v' ≠ .slice none 0 0 ∧ (v'.ownBlock = v.ownBlock ∨ v'.ownBlock = some V.heap.size) := by
  obtain ⟨i0, hi0, hz0, hz1, hz2⟩ := info_parts Try.infoInt
  cases A with
  | none =>
    have hm : m = 0 := by
      by_cases e : m = 0
      · exact e
      · obtain ⟨a, ea, _⟩ := hA.2 0 (by omega)
        cases ea
    subst hm
    obtain ⟨h0, ⟨f, _⟩ | ⟨g, cap, cur, f1, f2, f3, f4⟩⟩ := id hown
    · exact absurd f hne
    · subst f1
      refine ⟨_, V, run_none_int V ty g n cap c f4.1, ?_, grown_refl _ _, hne, .inl rfl⟩
      rw [Nat.add_zero, show rowI F 0 = [] from rfl, List.append_nil]
      exact hown
  | some ad =>
    obtain ⟨v', V', h1, h2, h3, h4, h5⟩ := run_append_own_at (P := Try.prog) (w := V) B 29 ty 3 i0 (.int .i64 0) 1 8 Try.underlying29 hi0 hz0 hz1 hz2 rfl (by decide) v n xs hown ad m c (rowI F m) (by rw [rowI_len, Nat.mul_one]) (rowI_at hA rfl) (rowI_one _ _) (by unfold maxLen; omega) (by omega) hB
    exact ⟨v', V', h1, h2, h3, fun e => hne (h4.1 e).1, h5⟩
theorem own_InR {w : World} {B n g cap : Nat} {Z : Nat → Int} (h : w.ownsRow B 3 1 (.slice (some ⟨g, 0, none⟩) n cap) n (rowI Z n)) : InR g n Z w ∧ B ≤ g ∧ n ≤ cap := by
  have h' := h
  obtain ⟨e1, ⟨e2, _⟩ | ⟨b, cap', cur, e2, e3, e4, e5⟩⟩ := h
  · cases e2
  · cases e2
    have hc := h'.cells (g := g) rfl
    refine ⟨⟨(Array.getElem?_eq_some_iff.1 e4).1, fun i hi => ?_, fun o => by simp [World.frozen?, e4]⟩, e3, e5.1⟩
    have h1 := hc _ _ (rowI_get Z hi)
    rwa [Addr.add_lit, Nat.zero_add] at h1
theorem isInts.setS {w : World} {b i : Nat} {v : Value} (h : isInts w b) : isInts (w.setCell ⟨b, i, none⟩ v) b := by
  obtain ⟨cur, fz, e⟩ := h
  exact ⟨cur.setIfInBounds i v, fz, by simp [World.setCell, Array.getElem?_modify, e]⟩
theorem own_isInts {w : World} {B n g cap : Nat} {xs : List Value} (h : w.ownsRow B 3 1 (.slice (some ⟨g, 0, none⟩) n cap) n xs) : isInts w g := by
  obtain ⟨e1, ⟨e2, _⟩ | ⟨b, cap', cur, e2, e3, e4, e5⟩⟩ := h
  · cases e2
  · cases e2
    exact ⟨_, _, e4⟩
theorem InR.rls {g cap : Nat} {l : List Int} {w : World} (h : InR g l.length (fun i => l.getD i 0) w) (hi : isInts w g) (hc : l.length ≤ cap) : RlS 0 l #[.slice (some ⟨g, 0, none⟩) l.length cap] (fun _ => False) w :=
  ⟨_, _, rfl, fun i hl => ⟨g, rfl, h.lt, id, Nat.zero_le _, h.c i hl, hi, hc⟩⟩
theorem InR.congr {g n : Nat} {Z Y : Nat → Int} {w : World} (h : InR g n Z w) (e : ∀ i, i < n → Z i = Y i) : InR g n Y w := ⟨h.lt, fun i hi => by rw [← e i hi]; exact h.c i hi, h.f⟩
/-- the numbers behind the one that grows -/
def nxZ (Z : Nat → Int) (j k i : Nat) : Int := if i < j then Z i else if i < k then Z j + 1 + ((i : Int) - (j : Int)) else Z i
theorem nx_list {l : List Int} {j : Nat} (hj : j < l.length) : (l.take j ++ runL (l.getD j 0 + 1) (l.length - j)).length = l.length ∧ ∀ i, i < l.length → (l.take j ++ runL (l.getD j 0 + 1) (l.length - j)).getD i 0 = nxZ (fun i => l.getD i 0) j l.length i := by
  have hl : (l.take j).length = j := by rw [List.length_take]; omega
  refine ⟨by rw [List.length_append, hl, runL_len]; omega, fun i hi => ?_⟩
  unfold nxZ
  by_cases h : i < j
  · rw [if_pos h, List.getD_eq_getElem?_getD, List.getElem?_append_left (by omega), List.getElem?_take_of_lt h, ← List.getD_eq_getElem?_getD]
  · rw [if_neg h, if_pos hi, List.getD_eq_getElem?_getD, List.getElem?_append_right (by omega), hl, ← List.getD_eq_getElem?_getD, runL_at _ _ _ (by omega)]
    show _ = l.getD j 0 + 1 + ((i : Int) - (j : Int))
    omega
set_option maxRecDepth 100000 in
set_option maxHeartbeats 4000000 in
theorem Rnext_any (A : Option Addr) (c : Nat) (l : List Int) (cnt : Nat) (w : World) (hl : LiIn A l w) (hn : l.length ≤ 100) (hb : ∀ i, i < l.length → 0 ≤ l.getD i 0 ∧ l.getD i 0 ≤ 1000) (hc : cnt ≤ 1000) :
    Calls Try.prog 109 #[.slice A l.length c, .int .i64 (cnt : Int)] w fun e w' => Below w.heap.size w w' ∧ ((nx cnt l = none ∧ e = .returned (.slice none 0 0)) ∨ ∃ l' b cap, nx cnt l = some l' ∧ e = .returned (.slice (some ⟨b, 0, none⟩) l'.length cap) ∧ RlS 0 l' #[.slice (some ⟨b, 0, none⟩) l'.length cap] (fun _ => False) w') := by
  obtain ⟨n, hnl⟩ : ∃ n, n = l.length := ⟨_, rfl⟩
  obtain ⟨Z, hZ⟩ : ∃ Z : Nat → Int, Z = fun i => l.getD i 0 := ⟨_, rfl⟩
  have hin : IntsIn A n Z (w.alloc (.cells #[] 3)).heap.size (w.alloc (.cells #[] 3)) := by rw [hnl, hZ]; exact (IntsIn.up hl (box1 _ _) (Nat.le_refl _)).more (box1 _ _).size
  have hbZ : ∀ i, i < n → 0 ≤ Z i ∧ Z i ≤ 1000 := by rw [hnl, hZ]; exact hb
  have hn1 : n ≤ 100 := by omega
  obtain ⟨v, V, hrun, hown, hg, hne, _⟩ := app_int (c := c) (own_empty w 3 1) (by intro e; cases e) hin (by omega) (by simp) 29
  rw [Nat.zero_add, List.nil_append] at hown
  obtain ⟨g, cap, rfl⟩ := own_some hown hne
  obtain ⟨hI, hge, hcap⟩ := own_InR hown
  have HIS := Lib.hid (own_isInts hown)
  have HCAP := Lib.hid hcap
  have hbV : Below w.heap.size w V := (box1 w _).grown hg (by simp) (fun r e => (own_block (own_empty w 3 1) e).1)
  have HRUN := Lib.hid hrun
  have HI := Lib.hid hI
  have HGE0 : Hid (w.heap.size ≤ g) := Lib.hid hge
  have HBV := Lib.hid hbV
  have HB := Lib.hid hbZ
  obtain ⟨q, q1, q2, q3⟩ := first_bad (fun s => ¬ Z (n - 1 - s) < (cnt : Int) - n + ((n - 1 - s : Nat) : Int)) n
  have Q2 := Lib.hid q2
  have Q3 := Lib.hid q3
  have HNL := Lib.hid hnl
  have HZ := Lib.hid hZ
  rw [← hnl]
  have wn : IntKind.i64.wrap ((n : Int) - 1) = (n : Int) - 1 := IntWalk.i64_in _ (by omega)
  have wcn : IntKind.i64.wrap ((cnt : Int) - (n : Int)) = (cnt : Int) - (n : Int) := IntWalk.i64_in _ (by omega)
  have WCN := Lib.hid wcn
  clear hl hb hin hbZ hown hg hne hI hbV q2 q3 hnl hZ hrun hge hcap wcn
  go_enter Try.func109, Try.ntmps109
  go_wp2_with (at_builtin; refine Lib.wpList_append_run _ rfl _ _ _ _ rfl _ _ rfl rfl _ _ HRUN.out ?_)
  clear wn
  go_loopw [6, 7] (fun v _ wr => ∃ (r : Nat) (z : Int), r ≤ q ∧ v = .int .i64 z ∧ Hid (z = (n : Int) - 1 - r) ∧ wr = V) (fun v _ _ => (intOf v + 1).toNat)
  case atStart => exact ⟨0, _, Nat.zero_le _, rfl, Lib.hid (by omega), rfl⟩
  case round =>
    obtain ⟨r, z, hr, rfl, hz, hw9⟩ := hrel
    rw [hw9]
    clear hw9 wr
    have hz1 := hz.out
    by_cases hrn : r < n
    · obtain ⟨j, rfl⟩ : ∃ j : Nat, z = (j : Int) := ⟨z.toNat, by omega⟩
      have hj : j = n - 1 - r := by omega
      have hjn : j < n := by omega
      have hji : (j : Int) < (n : Int) := by omega
      have hj0 : (0 : Int) ≤ (j : Int) := by omega
      have hj0' : decide ((j : Int) ≥ 0) = true := decide_eq_true (by omega)
      have wj1 : IntKind.i64.wrap ((j : Int) - 1) = (j : Int) - 1 := IntWalk.i64_in _ (by omega)
      have wj2 : IntKind.i64.wrap ((cnt : Int) - (n : Int) + (j : Int)) = (cnt : Int) - (n : Int) + (j : Int) := IntWalk.i64_in _ (by omega)
      have wcn := WCN.out
      have hq2 := Q2.out r
      have hq3 := fun h : r = q => Q3.out (h ▸ hrn)
      rw [← hj] at hq2
      have hq4 : r = q → Z j < (cnt : Int) - n + (j : Int) := fun h => by
        have h2 := hq3 h
        rw [← h, ← hj] at h2
        omega
      have g0 := HI.out.c j hjn
      have gl := HI.out.lt
      have hbj := HB.out j hjn
      obtain ⟨y, hy⟩ : ∃ y, y = Z j := ⟨_, rfl⟩
      rw [← hy] at g0 hq2 hq4 hbj
      have HY := Lib.hid hy
      have HJ := Lib.hid hj
      have HZ1 := Lib.hid hz1
      clear hq3 hy hj hz1 hz
      by_cases hrq : r < q
      · have d1 : decide (y < (cnt : Int) - (n : Int) + (j : Int)) = false := decide_eq_false (by have := hq2 hrq; omega)
        clear hq2 hq4
        go_wp2_with fail
        go_roundw
        case rel => exact ⟨r + 1, (j : Int) - 1, by omega, by first | rfl | go_num, Lib.hid (by have := HZ1.out; omega), by first | trivial | rfl⟩
        case measure => (simp [intOf] <;> omega)
      · have d1 : decide (y < (cnt : Int) - (n : Int) + (j : Int)) = true := decide_eq_true (hq4 (by omega))
        have wy : IntKind.i64.wrap (y + 1) = y + 1 := IntWalk.i64_in _ (by omega)
        have wj3 : IntKind.i64.wrap ((j : Int) + 1) = ((j + 1 : Nat) : Int) := by rw [show ((j : Int) + 1) = ((j + 1 : Nat) : Int) by omega]; exact IntWalk.i64_in _ (by omega)
        have f0 := HI.out.f j
        have hnx : nx cnt l = some (l.take j ++ runL (l.getD j 0 + 1) (l.length - j)) := nx_at (by rw [← HNL.out]; exact hjn) (by rw [← HNL.out]; have h := hq4 (by omega); rw [HY.out, HZ.out] at h; exact h) fun i hi hil => by
          have h := Q2.out (n - 1 - i) (by have := HJ.out; have := HNL.out; omega)
          rw [show n - 1 - (n - 1 - i) = i by have := HNL.out; omega] at h
          rw [HZ.out] at h
          simp only at h
          rw [← HNL.out]
          omega
        have HNX := Lib.hid hnx
        have HST : Hid (InR g n (nxZ Z j (j + 1)) (V.setCell ⟨g, j, none⟩ (.int .i64 (y + 1)))) := Lib.hid ((HI.out.set (x := y + 1) hjn).congr fun i hi => by
          unfold nxZ
          show (if i = j then _ else _) = _
          by_cases e : i = j
          · subst e; rw [if_pos rfl, if_neg (by omega), if_pos (by omega), ← HY.out]; omega
          · rw [if_neg e]
            by_cases h : i < j
            · rw [if_pos h]
            · rw [if_neg h, if_neg (by omega)])
        clear hq2 hq4 hnx
        have HGE := HGE0
        have HB2 := Lib.hid (set1 HBV.out HGE.out j (.int .i64 (y + 1)))
        go_wp2_with fail
        clear g0 gl f0 wy wj1 wj2 wj3 d1 hj0' wcn
        go_loopw [7] (fun v wr => ∃ k : Nat, j + 1 ≤ k ∧ k ≤ n ∧ v = .int .i64 k ∧ InR g n (nxZ Z j k) wr ∧ Below w.heap.size w wr ∧ isInts wr g) (fun v _ => n - (intOf v).toNat)
        case atStart => exact ⟨j + 1, Nat.le_refl _, by omega, by first | rfl | go_num, HST.out, HB2.out, HIS.out.setS⟩
        case round =>
          obtain ⟨k, hk1, hk, rfl, hI, hbl, his⟩ := hrel
          obtain ⟨w3, rfl⟩ : ∃ w3 : World, w3 = wr := ⟨_, rfl⟩
          have HI3 := Lib.hid hI
          have HB3 := Lib.hid hbl
          have HIS3 := Lib.hid his
          clear hI hbl his
          have hk0 : (0 : Int) ≤ (k : Int) := by omega
          by_cases hkn : k < n
          · have hki : (k : Int) < (n : Int) := by omega
            obtain ⟨p, hp⟩ : ∃ p, p + 1 = k := ⟨k - 1, by omega⟩
            have hpn : p < n := by omega
            have hpi : (p : Int) < (n : Int) := by omega
            have hp0 : (0 : Int) ≤ (p : Int) := by omega
            have wk1 : IntKind.i64.wrap ((k : Int) - 1) = (p : Int) := by rw [show ((k : Int) - 1) = (p : Int) by omega]; exact IntWalk.i64_in _ (by omega)
            have wk : IntKind.i64.wrap ((k : Int) + 1) = ((k + 1 : Nat) : Int) := by rw [show ((k : Int) + 1) = ((k + 1 : Nat) : Int) by omega]; exact IntWalk.i64_in _ (by omega)
            have g0 := HI3.out.c p hpn
            have g1 := HI3.out.c k hkn
            have f1 := HI3.out.f k
            have gl := HI3.out.lt
            have hvp : nxZ Z j k p = y + 1 + ((p : Int) - (j : Int)) := by unfold nxZ; rw [if_neg (by omega), if_pos (by omega), ← HY.out]
            rw [hvp] at g0
            obtain ⟨u, hu⟩ : ∃ u, u = y + 1 + ((p : Int) - (j : Int)) := ⟨_, rfl⟩
            rw [← hu] at g0
            have wu : IntKind.i64.wrap (u + 1) = u + 1 := IntWalk.i64_in _ (by omega)
            have HST3 : Hid (InR g n (nxZ Z j (k + 1)) (w3.setCell ⟨g, k, none⟩ (.int .i64 (u + 1)))) := Lib.hid ((HI3.out.set (x := u + 1) hkn).congr fun i hi => by
              unfold nxZ
              show (if i = k then _ else _) = _
              by_cases e : i = k
              · subst e; rw [if_pos rfl, if_neg (by omega), if_pos (by omega), ← HY.out, hu]; omega
              · rw [if_neg e]
                by_cases h : i < j
                · rw [if_pos h, if_pos h]
                · rw [if_neg h, if_neg h]
                  by_cases h2 : i < k
                  · rw [if_pos h2, if_pos (by omega)]
                  · rw [if_neg h2, if_neg (by omega)])
            have HB4 := Lib.hid (set1 HB3.out HGE.out k (.int .i64 (u + 1)))
            generalize nxZ Z j k k = y9 at g1
            clear hp hu hvp
            go_wp2_with fail
            go_roundw
            case rel => exact ⟨k + 1, by omega, by omega, by first | rfl | go_num, HST3.out, HB4.out, HIS3.out.setS⟩
            case measure => (simp [intOf] <;> omega)
          · have hkn2 : k = n := by omega
            have hki : ¬ ((k : Int) < (n : Int)) := by omega
            rw [hkn2] at HI3
            obtain ⟨hl1, hl2⟩ := nx_list (l := l) (j := j) (by rw [← HNL.out]; exact hjn)
            have HLI : Hid (RlS 0 (l.take j ++ runL (l.getD j 0 + 1) (l.length - j)) #[.slice (some ⟨g, 0, none⟩) (l.take j ++ runL (l.getD j 0 + 1) (l.length - j)).length cap] (fun _ => False) w3) := Lib.hid (by
              refine InR.rls ?_ HIS3.out (by rw [hl1, ← HNL.out]; exact HCAP.out)
              rw [hl1]
              have hI9 : InR g l.length (nxZ Z j l.length) w3 := by have h := HI3.out; rw [HNL.out] at h; exact h
              exact hI9.congr fun i hi => by rw [hl2 i hi, HZ.out])
            have HL1 := Lib.hid (hl1.trans HNL.out.symm)
            clear hl1 hl2 hkn2
            go_wp2_with fail
            go_ret
            have HV : Hid (Ending.returned (.slice (some ⟨g, 0, none⟩) n cap) = .returned (.slice (some ⟨g, 0, none⟩) (l.take j ++ runL (l.getD j 0 + 1) (l.length - j)).length cap)) := Lib.hid (by rw [HL1.out])
            first | exact ⟨HB3.out, .inr ⟨_, HNX.out, g, cap, HV.out, HLI.out⟩⟩ | exact ⟨HB3.out, .inr ⟨_, g, cap, HNX.out, HV.out, HLI.out⟩⟩ | exact ⟨HB3.out, .inr ⟨_, HNX.out, g, ⟨cap, HV.out, HLI.out⟩⟩⟩ | exact ⟨HB3.out, .inr ⟨_, g, HNX.out, cap, HV.out, HLI.out⟩⟩
    · have hz0 : decide (z ≥ 0) = false := decide_eq_false (by omega)
      have hz0' : decide (0 ≤ z) = false := hz0
      have hnone : nx cnt l = none := nx_none fun i hi h => by
        have h2 := Q2.out (n - 1 - i) (by have := HNL.out; omega)
        rw [show n - 1 - (n - 1 - i) = i by have := HNL.out; omega, HZ.out] at h2
        simp only at h2
        rw [← HNL.out] at h
        omega
      have HNO := Lib.hid hnone
      clear hnone hz hz1
      go_wp2_with fail
      go_ret
      exact ⟨HBV.out, .inl ⟨HNO.out, rfl⟩⟩
theorem own_form00 {w : World} {B n s : Nat} {e : TypeId} {v : Value} {xs : List Value} (h : w.ownsRow B e s v n xs) : ∃ A cap, v = .slice A n cap := by
  obtain ⟨_, ⟨f, f2⟩ | ⟨g, cap, cur, f1, _⟩⟩ := h
  · subst f2; exact ⟨none, 0, f⟩
  · exact ⟨_, cap, f1⟩
/-- the numbers below k that a set does not have -/
def restL (l : List Int) (k : Nat) : List Int := ((List.range k).filter fun (i : Nat) => !(List.range l.length).any fun a => l.getD a 0 == (i : Int)).map fun (i : Nat) => (i : Int)
theorem restL_next (l : List Int) (k : Nat) : restL l (k + 1) = restL l k ++ if ((List.range l.length).any fun a => l.getD a 0 == (k : Int)) = true then [] else [(k : Int)] := by
  unfold restL
  rw [List.range_succ, List.filter_append, List.map_append]
  rw [List.filter_cons, List.filter_nil]
  generalize ((List.range l.length).any fun a => l.getD a 0 == (k : Int)) = b
  cases b <;> rfl
theorem restL_lenle (l : List Int) (k : Nat) : (restL l k).length ≤ k := by
  unfold restL
  rw [List.length_map]
  have := List.length_filter_le (fun (i : Nat) => !(List.range l.length).any fun a => l.getD a 0 == (i : Int)) (List.range k)
  rw [List.length_range] at this
  exact this
set_option maxRecDepth 100000 in
set_option maxHeartbeats 4000000 in
theorem Rrest_any (A : Option Addr) (c : Nat) (l : List Int) (cnt : Nat) (w : World) (hl : LiIn A l w) (hc : cnt ≤ 900) :
    Calls Try.prog 108 #[.slice A l.length c, .int .i64 (cnt : Int)] w fun e w' => ∃ B k, e = .returned (.slice B (restL l cnt).length k) ∧ LiIn B (restL l cnt) w' ∧ Below w.heap.size w w' := by
  have LL : Hid (∀ W, Below w.heap.size w W → LiIn A l W) := Lib.hid fun W h => hl.up h
  have hn := hl.1
  obtain ⟨i0, hi0, hz0, hz1, hz2⟩ := info_parts Try.infoInt
  clear hl
  go_enter Try.func108, Try.ntmps108
  go_wp2_with fail
  go_loopw [5, 6, 7, 8] (fun v i _ _ wr => ∃ k : Nat, k ≤ cnt ∧ i = .int .i64 k ∧ RowZ w (restL l k) v wr) (fun _ i _ _ _ => cnt - (intOf i).toNat)
  case atStart => exact ⟨0, Nat.zero_le _, rfl, Below.refl _ _, World.ownsRow_nil _ _ _ _⟩
  case round =>
    obtain ⟨k, hk, rfl, hR⟩ := hrel
    obtain ⟨wo, rfl⟩ : ∃ wo : World, wo = wr := ⟨_, rfl⟩
    obtain ⟨fA, fc, ef⟩ := own_form00 hR.own
    subst ef
    have HR := Lib.hid hR
    have hs := hR.below.size
    have hrl := restL_lenle l k
    clear hR
    have hk0 : (0 : Int) ≤ (k : Int) := by omega
    by_cases hlt : k < cnt
    · have hki : (k : Int) < (cnt : Int) := by omega
      have wk : IntKind.i64.wrap ((k : Int) + 1) = ((k + 1 : Nat) : Int) := by rw [show ((k : Int) + 1) = ((k + 1 : Nat) : Int) by omega]; exact IntWalk.i64_in _ (by omega)
      have WK := Lib.hid wk
      have HN := Lib.hid (restL_next l k)
      obtain ⟨Lr, hLr⟩ : ∃ Lr, Lr = restL l k := ⟨_, rfl⟩
      rw [← hLr] at HR HN hrl
      rw [← hLr]
      clear wk hLr
      go_wp2_with fail
      go_loopw [7, 8] (fun h b wr => ∃ j : Nat, j ≤ l.length ∧ b = .int .i64 j ∧ h = .bool ((List.range j).any fun a => l.getD a 0 == (k : Int)) ∧ wr = wo) (fun _ b _ => l.length - (intOf b).toNat)
      case atStart => exact ⟨0, Nat.zero_le _, rfl, rfl, rfl⟩
      case round =>
        obtain ⟨j, hj, rfl, rfl, hw9⟩ := hrel
        rw [hw9]
        clear hw9 wr
        have hj0 : (0 : Int) ≤ (j : Int) := by omega
        by_cases hjl : j < l.length
        · have hji : (j : Int) < (l.length : Int) := by omega
          have wj : IntKind.i64.wrap ((j : Int) + 1) = ((j + 1 : Nat) : Int) := by rw [show ((j : Int) + 1) = ((j + 1 : Nat) : Int) by omega]; exact IntWalk.i64_in _ (by omega)
          obtain ⟨a, ea, _, c0⟩ := (LL.out wo HR.out.below).2 j hjl
          have HA : Hid ((List.range (j + 1)).any (fun a => l.getD a 0 == (k : Int)) = ((List.range j).any (fun a => l.getD a 0 == (k : Int)) || l.getD j 0 == (k : Int))) := Lib.hid (by rw [List.range_succ, List.any_append]; simp)
          simp only at c0
          generalize (List.range j).any (fun a => l.getD a 0 == (k : Int)) = gb at HA ⊢
          generalize l.getD j 0 = y at c0 HA
          subst ea
          cases gb with
          | true =>
            go_wp2_with fail
            go_roundw
            case rel => exact ⟨j + 1, by omega, by first | rfl | go_num, by rw [HA.out]; rfl, by first | trivial | rfl⟩
            case measure => (simp [intOf] <;> omega)
          | false =>
            obtain ⟨ge, hge⟩ : ∃ ge, ge = (y == (k : Int)) := ⟨_, rfl⟩
            have HA2 : Hid ((List.range (j + 1)).any (fun a => l.getD a 0 == (k : Int)) = ge) := Lib.hid (by rw [HA.out, hge]; rfl)
            have hge2 := hge.symm
            clear hge
            go_wp2_with fail
            go_roundw
            case rel => exact ⟨j + 1, by omega, by first | rfl | go_num, by rw [HA2.out], by first | trivial | rfl⟩
            case measure => (simp [intOf] <;> omega)
        · have hjl2 : j = l.length := by omega
          have hji : ¬ ((j : Int) < (l.length : Int)) := by omega
          rw [← hjl2] at HN
          generalize (List.range j).any (fun a => l.getD a 0 == (k : Int)) = gb at HN ⊢
          clear hjl2
          cases gb with
          | true =>
            have HS : Hid (restL l (k + 1) = Lr) := Lib.hid (by rw [HN.out]; simp)
            have wk := WK.out
            go_wp2_with fail
            go_roundw
            case rel => exact ⟨k + 1, by omega, by first | rfl | go_num, by rw [HS.out]; exact HR.out⟩
            case measure => (simp [intOf] <;> omega)
          | false =>
            have HS : Hid (restL l (k + 1) = Lr ++ [(k : Int)]) := Lib.hid (by rw [HN.out]; simp)
            have HOWN := Lib.hid HR.out.own
            go_wp2_with (at_builtin; refine wpList_append_own _ rfl _ _ 29 rfl w.heap.size 3 i0 (.int .i64 0) 1 8 Try.underlying29 hi0 hz0 hz1 hz2 rfl (by decide) _ _ _ rfl (HOWN.out.alloc _) ⟨wo.heap.size, 0, none⟩ 1 1 [.int .i64 (k : Int)] rfl rfl (new1 _ _) (by simp [Value.oneCell']) (by unfold maxLen; omega) (by omega) (by simp only [World.size_alloc]; omega) ?_; intro v8 w8 hown8 hg8 _; have HN8 := Lib.hid (RowZ.app HR.out hg8 hown8); obtain ⟨g8, cc8, rfl⟩ := own_formh hown8; clear hown8 hg8)
            have wk := WK.out
            try go_wp2_with fail
            go_roundw
            case rel => exact ⟨k + 1, by omega, by first | rfl | go_num, by rw [HS.out]; exact HN8.out⟩
            case measure => (simp [intOf] <;> omega)
    · have hlt2 : k = cnt := by omega
      subst hlt2
      have hki : ¬ ((k : Int) < (k : Int)) := by omega
      obtain ⟨B, q, ev, hi⟩ := row_ints HR.out.own (by omega)
      cases ev
      have HI := Lib.hid hi
      have HBL := Lib.hid HR.out.below
      clear hi
      go_wp2_with fail
      go_ret
      first | exact ⟨fA, ⟨fc, rfl⟩, HI.out, HBL.out⟩ | exact ⟨fA, fc, rfl, HI.out, HBL.out⟩ | exact ⟨fA, fc, HI.out, HBL.out⟩ | exact ⟨fA, HI.out, HBL.out⟩
end Go.Proofs.Ytpikaohodieeaaa
