import Derived.Test.YtmeljcbefnojfaaRal
import Derived.Test.YtmeljcbefnojfaaJoj
import Derived.Test.YtmeljcbefnojfaaLif
namespace Go.Proofs.Ytmeljcbefnojfaa
open Go.RowKit
/-- a slice value that reads as a list of spans -/
def RdS (v : Value) (L : List (Int × Int)) (w : World) : Prop :=
  ∃ A cap, v = .slice A L.length cap ∧ L.length ≤ cap ∧ cap ≤ maxLen ∧ (v = .slice none 0 0 ∨ L ≠ []) ∧ ∀ i s, L[i]? = some s → ∃ g o, A = some ⟨g, o, none⟩ ∧ g < w.heap.size ∧ w.cell? ⟨g, o + i * 2, none⟩ = some (.int .i64 s.1) ∧ w.cell? ⟨g, o + i * 2 + 1, none⟩ = some (.int .i64 s.2)
theorem RdS.up {v : Value} {L : List (Int × Int)} {w w' : World} (h : RdS v L w) (hb : Below w.heap.size w w') : RdS v L w' := by
  obtain ⟨A, cap, e, h1, h2, h3, h4⟩ := h
  refine ⟨A, cap, e, h1, h2, h3, fun i s hs => ?_⟩
  obtain ⟨g, o, e', hl, c0, c1⟩ := h4 i s hs
  exact ⟨g, o, e', Nat.lt_of_lt_of_le hl hb.size, cell_up hb hl c0, cell_up hb hl c1⟩
theorem RdS.own {v : Value} {L : List (Int × Int)} {w : World} {B : Nat} (h : w.ownsRow B 23 2 v L.length (flatL L)) (hL : L ≠ []) : RdS v L w := by
  have h' := h
  obtain ⟨h0, hx | ⟨g, cap, cur, e1, e2, e3, e4, e5, e6⟩⟩ := h
  · exact absurd (List.eq_nil_of_length_eq_zero hx.2) hL
  · subst e1
    refine ⟨_, cap, rfl, e4, e5, .inr hL, fun i s hs => ⟨g, 0, rfl, (Array.getElem?_eq_some_iff.1 e3).1, ?_⟩⟩
    have := own_span h' i s hs
    simpa using this
theorem RdS.nil (w : World) : RdS (.slice none 0 0) [] w := ⟨none, 0, rfl, Nat.le_refl _, Nat.zero_le _, .inl rfl, fun i s hs => by simp at hs⟩
theorem spot_none {w : World} {a : Addr} {v : Value} (h : w.cell? a = some v) : a.spot = none := by
  unfold World.cell? at h
  split at h
  · cases hs : a.spot with
    | none => rfl
    | some s => rw [hs] at h; simp at h
  · cases h
/-- a row of a sheet, as a list -/
theorem RdS.row {w : World} {A : Option Addr} {n c : Nat} {S : Nat → Int × Int} (h : SpsIn A n S w.heap.size w) (hn : 0 < n) (hc : n ≤ c) (hm : c ≤ maxLen) : RdS (.slice A n c) (firstK S n) w := by
  obtain ⟨a, rfl, hl, c0, _⟩ := h.2 0 hn
  have hs := spot_none c0
  rw [Nat.zero_mul] at hs c0
  have ha : a = ⟨a.block, a.off, none⟩ := by
    have e : a.add 0 = a := add_zero a
    rw [e] at hs
    cases a
    simp at hs
    simp [hs]
  refine ⟨some a, c, by rw [firstK_length], by rw [firstK_length]; exact hc, hm, .inr (fun e => by have := congrArg List.length e; rw [firstK_length] at this; simp at this; omega), fun i s hsi => ?_⟩
  have hi : i < n := by have := (List.getElem?_eq_some_iff.1 hsi).1; rw [firstK_length] at this; exact this
  have hv : S i = s := by simpa [firstK, hi] using hsi
  obtain ⟨b, e, hlb, c0, c1⟩ := h.2 i hi
  cases e
  refine ⟨a.block, a.off, by rw [← ha], hl, ?_, ?_⟩
  · rw [← hv, ← c0]
    congr 1
    by_cases h0 : i = 0
    · subst h0; rw [Nat.zero_mul, add_zero, Nat.add_zero]; exact ha.symm
    · rw [add_pos _ _ (by omega)]
  · rw [← hv, ← c1]
    congr 1
    by_cases h0 : i = 0
    · subst h0; rw [Nat.zero_mul, add_zero]
    · rw [add_pos _ _ (by omega)]
theorem Join_rd (v : Value) (L : List (Int × Int)) (x : Int × Int) (w : World) (h : RdS v L w) (hx : x.1 ≤ x.2) (hsx : Sm x) (hsl : ∀ q ∈ L, Sm q) (hn : L.length ≤ 1000000) :
    Calls Try.prog 107 #[v, .agg #[.int .i64 x.1, .int .i64 x.2]] w (JPost w (joinL L x)) := by
  obtain ⟨A, cap, rfl, h1, h2, h3, h4⟩ := h
  by_cases hL : L = []
  · subst hL
    rcases h3 with h3 | h3
    · rw [h3]
      have e : joinL [] x = [x] := by unfold joinL jst; rw [if_neg (by omega)]; simp
      rw [e]
      exact Join_nil x w hx
    · exact absurd rfl h3
  · obtain ⟨q, L', rfl⟩ : ∃ q L', L = q :: L' := by cases L with | nil => exact absurd rfl hL | cons q L' => exact ⟨q, L', rfl⟩
    obtain ⟨g, o, rfl, hl, _, _⟩ := h4 0 q rfl
    exact Join_row (q :: L') x g o cap w hx hsx hsl hn h1 h2 hl (fun i s hs => by
      obtain ⟨g', o', e, _, c0, c1⟩ := h4 i s hs
      cases e
      exact ⟨c0, c1⟩)
end Go.Proofs.Ytmeljcbefnojfaa
namespace Go.Proofs.Ytmeljcbefnojfaa
open Go.RowKit
theorem putL_ok (L : List (Int × Int)) : ∀ (s : Int × Int), Okl L → (s.1 ≤ s.2 ∧ 0 ≤ s.1 ∧ s.2 ≤ 100000000) → Okl (putL L s) := by
  induction L with
  | nil => intro s _ hs r hr; simp [putL] at hr; subst hr; exact hs
  | cons q L ih =>
    intro s hL hs
    have hq := hL q List.mem_cons_self
    have ht : Okl L := fun r hr => hL r (List.mem_cons_of_mem _ hr)
    unfold putL
    split
    · intro r hr
      rcases List.mem_cons.1 hr with rfl | hr
      · exact hq
      · exact ih s ht hs r hr
    · split
      · intro r hr
        rcases List.mem_cons.1 hr with rfl | hr
        · exact hs
        · exact hL r hr
      · exact ih (min s.1 q.1, max s.2 q.2) ht (by simp only; omega)
theorem putAll_ok {acc l : List (Int × Int)} (h : Okl acc) (hl : Okl l) : Okl (putAll acc l) := by
  induction l generalizing acc with
  | nil => exact h
  | cons s l ih => exact ih (putL_ok acc s h (hl s List.mem_cons_self)) (fun r hr => hl r (List.mem_cons_of_mem _ hr))
theorem putL_ne (L : List (Int × Int)) : ∀ s, putL L s ≠ [] := by
  induction L with
  | nil => intro s; simp [putL]
  | cons q L ih => intro s; unfold putL; split <;> try simp
                   split
                   · simp
                   · exact ih _
theorem putAll_ne {acc l : List (Int × Int)} (h : acc ≠ []) : putAll acc l ≠ [] := by
  induction l generalizing acc with
  | nil => exact h
  | cons s l ih => exact ih (putL_ne acc s)
theorem SetOk.gap {S : Nat → Int × Int} {n : Nat} (h : SetOk S n) : ∀ j i, i < j → j < n → (S i).2 + 2 ≤ (S j).1 := by
  intro j
  induction j with
  | zero => intro i hi; omega
  | succ j ih =>
    intro i hi hj
    have h1 := h (j + 1) hj
    have h2 := h j (by omega)
    have e : lst S (j + 1) = (S j).2 + 2 := rfl
    by_cases hij : i = j
    · subst hij; omega
    · have := ih i (by omega) (by omega); omega
theorem SetOk.srt {S : Nat → Int × Int} {n k : Nat} (h : SetOk S n) (hk : k ≤ n) : Srt (firstK S k) := by
  refine ⟨fun q hq => ?_, ?_⟩
  · simp [firstK] at hq
    obtain ⟨i, hi, rfl⟩ := hq
    exact (h i (by omega)).2.1
  · induction k with
    | zero => simp [firstK]
    | succ k ih =>
      rw [firstK_succ, List.pairwise_append]
      refine ⟨ih (by omega), by simp, fun p hp q hq => ?_⟩
      simp [firstK] at hp hq
      obtain ⟨i, hi, rfl⟩ := hp
      subst hq
      exact h.gap k i hi (by omega)
/-- a set put together out of its own spans is itself -/
theorem putL_last (L : List (Int × Int)) : ∀ s : Int × Int, (∀ q ∈ L, q.2 + 1 < s.1) → putL L s = L ++ [s] := by
  induction L with
  | nil => intro s _; simp [putL]
  | cons q L ih =>
    intro s h
    unfold putL
    rw [if_pos (h q List.mem_cons_self), ih s (fun r hr => h r (List.mem_cons_of_mem _ hr))]
    simp
theorem putAll_self {S : Nat → Int × Int} {n : Nat} (h : SetOk S n) : ∀ k, k ≤ n → putAll [] (firstK S k) = firstK S k := by
  intro k
  induction k with
  | zero => intro _; simp [firstK, putAll]
  | succ k ih =>
    intro hk
    rw [firstK_succ, putAll_snoc, ih (by omega), putL_last]
    intro q hq
    simp [firstK] at hq
    obtain ⟨i, hi, rfl⟩ := hq
    have := h.gap k i hi (by omega)
    omega
/-- a value is returned that reads as a list -/
def RdP (w : World) (L : List (Int × Int)) (e : Ending) (w' : World) : Prop := ∃ v, e = .returned v ∧ Below w.heap.size w w' ∧ RdS v L w'
set_option maxRecDepth 100000 in
set_option maxHeartbeats 2000000 in
theorem union_any (A B : Option Addr) (n c m d : Nat) (S R : Nat → Int × Int) (w : World) (hn : 0 < n ∧ n ≤ 8) (hm : m ≤ 8) (hc : n ≤ c ∧ c ≤ maxLen) (ha : SpsIn A n S w.heap.size w) (hb : SpsIn B m R w.heap.size w) (hS : SetOk S n) (hR : SetOk R m) :
    Calls Try.prog 114 #[.slice A n c, .slice B m d] w (RdP w (putAll (firstK S n) (firstK R m))) := by
  have hm' : (m : Int) ≤ 8 := by omega
  have HA := Lib.hid (RdS.row ha hn.1 hc.1 hc.2)
  have HB := Lib.hid hb
  have HS := Lib.hid hS
  have HR := Lib.hid hR
  have hsr : Srt (firstK S n) := hS.srt (Nat.le_refl _)
  have hok : Okl (firstK S n) := firstK_ok hS.spok (Nat.le_refl _)
  have HSR := Lib.hid hsr
  have HOK := Lib.hid hok
  have hne : firstK S n ≠ [] := fun e => by have := congrArg List.length e; rw [firstK_length] at this; simp at this; omega
  have HNE := Lib.hid hne
  clear ha hb hS hR hsr hok hne
  go_enter Try.func114, Try.ntmps114
  go_wp2_with fail
  go_loopw [5, 6] (fun v i wr => ∃ k : Nat, k ≤ m ∧ i = .int .i64 k ∧ RdS v (putAll (firstK S n) (firstK R k)) wr ∧ Below w.heap.size w wr) (fun _ i _ => m - (intOf i).toNat)
  case atStart => exact ⟨0, Nat.zero_le _, rfl, HA.out, Below.refl _ _⟩
  case round =>
    obtain ⟨k, hk, rfl, hv, hBw⟩ := hrel
    obtain ⟨wo, rfl⟩ : ∃ wo : World, wo = wr := ⟨_, rfl⟩
    have HV := Lib.hid hv
    have HBW := Lib.hid hBw
    have hk0 : (0 : Int) ≤ (k : Int) := by omega
    by_cases hlt : k < m
    · obtain ⟨a, rfl, _, c0, c1⟩ := (HB.out.up hBw (Nat.le_refl _)).2 k hlt
      have hki : (k : Int) < (m : Int) := by omega
      have hrk := HR.out.spok k hlt
      have hrl : Okl (firstK R k) := firstK_ok HR.out.spok (by omega)
      have hall : Srt (putAll (firstK S n) (firstK R k)) := putAll_srt HSR.out hrl
      have hlen : (putAll (firstK S n) (firstK R k)).length ≤ 16 := by have := putAll_length (firstK S n) (firstK R k); rw [firstK_length, firstK_length] at this; omega
      have KJ : Hid (Calls Try.prog 107 #[u5, .agg #[.int .i64 (R k).1, .int .i64 (R k).2]] wo fun e w' => ∃ v, e = .returned v ∧ Below wo.heap.size wo w' ∧ Hid (RdS v (putAll (firstK S n) (firstK R (k + 1))) w')) := Lib.hid (by
        refine (Join_rd u5 _ (R k) wo hv hrk.1 ⟨by omega, by omega, by omega, by omega⟩ (fun q hq => by have := putAll_ok HOK.out hrl q hq; exact ⟨by omega, by omega, by omega, by omega⟩) (by omega)).mono fun e w' h => ?_
        obtain ⟨v, h1, h2, h3⟩ := h
        rw [joinL_put hall hrk.1] at h3
        rw [firstK_succ, putAll_snoc]
        exact ⟨v, h1, h2, Lib.hid (RdS.own h3 (putL_ne _ _))⟩)
      clear hv hBw hall hrl hlen
      go_wp2_with fail
      refine KJ.out.mono ?_
      rintro e w1 ⟨v1, rfl, hb1, HV1⟩
      have HB1 := Lib.hid (HBW.out.trans (hb1.mono HBW.out.size))
      clear hb1 c0 c1
      go_wp2_with fail
      go_roundw
      case rel => exact ⟨k + 1, by omega, by go_num, HV1.out, HB1.out⟩
      case measure => simp [intOf]; omega
    · have hki : (m : Int) ≤ (k : Int) := by omega
      obtain rfl : m = k := by omega
      clear hv hBw
      go_wp2_with fail
      go_ret
      exact ⟨_, rfl, HBW.out, HV.out⟩
end Go.Proofs.Ytmeljcbefnojfaa
namespace Go.Proofs.Ytmeljcbefnojfaa
open Go.RowKit
def Oks (s : Int × Int) : Prop := s.1 ≤ s.2 ∧ 0 ≤ s.1 ∧ s.2 ≤ 100000000
theorem bothIn_ok {s : Int × Int} {l : List (Int × Int)} (hs : Oks s) (hl : Okl l) : ∀ {acc : List (Int × Int)}, Okl acc → Okl (bothIn acc s l) := by
  induction l with
  | nil => intro acc h; exact h
  | cons t l ih =>
    intro acc h
    refine ih (fun r hr => hl r (List.mem_cons_of_mem _ hr)) (acc := bothStep s acc t) ?_
    have ht := hl t List.mem_cons_self
    unfold bothStep
    split
    · rename_i c
      have h1 := hs.2.1
      have h2 := hs.2.2
      exact putL_ok acc _ h ⟨c, by simp only; omega, by simp only; omega⟩
    · exact h
theorem bothL_ok {S : Nat → Int × Int} {n k : Nat} {r : List (Int × Int)} (hS : SpOk S n) (hr : Okl r) (hk : k ≤ n) : Okl (bothL (firstK S k) r) := by
  induction k with
  | zero => intro q hq; simp [firstK, bothL] at hq
  | succ k ih => rw [firstK_succ, bothL_snoc]; exact bothIn_ok (hS k (by omega)) hr (ih (by omega))
set_option maxRecDepth 100000 in
set_option maxHeartbeats 4000000 in
theorem meet_any (A B : Option Addr) (n c m d : Nat) (S R : Nat → Int × Int) (w : World) (hn : n ≤ 8) (hm : m ≤ 8) (ha : SpsIn A n S w.heap.size w) (hb : SpsIn B m R w.heap.size w) (hS : SpOk S n) (hR : SpOk R m) :
    Calls Try.prog 111 #[.slice A n c, .slice B m d] w (RdP w (bothL (firstK S n) (firstK R m))) := by
  have hn' : (n : Int) ≤ 8 := by omega
  have hm' : (m : Int) ≤ 8 := by omega
  have HA := Lib.hid ha
  have HB := Lib.hid hb
  have HS := Lib.hid hS
  have HR := Lib.hid hR
  clear ha hb hS hR
  go_enter Try.func111, Try.ntmps111
  go_wp2_with fail
  go_loopw [5, 6] (fun v i wr => ∃ k : Nat, k ≤ n ∧ i = .int .i64 k ∧ RdS v (bothL (firstK S k) (firstK R m)) wr ∧ Below w.heap.size w wr) (fun _ i _ => n - (intOf i).toNat)
  case atStart => exact ⟨0, Nat.zero_le _, rfl, RdS.nil _, Below.refl _ _⟩
  case round =>
    obtain ⟨k, hk, rfl, hv, hBw⟩ := hrel
    obtain ⟨wo, rfl⟩ : ∃ wo : World, wo = wr := ⟨_, rfl⟩
    have HV := Lib.hid hv
    have HBW := Lib.hid hBw
    have hk0 : (0 : Int) ≤ (k : Int) := by omega
    by_cases hlt : k < n
    · obtain ⟨LK, hLK⟩ : ∃ LK, LK = bothL (firstK S k) (firstK R m) := ⟨_, rfl⟩
      have hrl : Okl (firstK R m) := firstK_ok HR.out (Nat.le_refl _)
      have hlok : Okl LK := by rw [hLK]; exact bothL_ok HS.out hrl (by omega)
      have hlsr : Srt LK := by rw [hLK]; exact bothL_srt _ _ _
      have hlen : LK.length ≤ 64 := by
        rw [hLK]
        have h1 := bothL_length S (firstK R m) k
        rw [firstK_length] at h1
        have h2 : k * m ≤ 8 * 8 := Nat.mul_le_mul (by omega) hm
        omega
      rw [← hLK] at HV
      have HLK := Lib.hid hLK
      have HLO := Lib.hid hlok
      have HLS := Lib.hid hlsr
      clear hv hBw hLK hrl hlok hlsr
      have hki : (k : Int) < (n : Int) := by omega
      go_wp2_with fail
      go_loopw [5, 7] (fun v i wr => ∃ j : Nat, j ≤ m ∧ i = .int .i64 j ∧ RdS v (bothIn LK (S k) (firstK R j)) wr ∧ Below w.heap.size w wr) (fun _ i _ => m - (intOf i).toNat)
      case atStart => exact ⟨0, Nat.zero_le _, rfl, HV.out, HBW.out⟩
      case round =>
        obtain ⟨j, hj, rfl, hv, hBw⟩ := hrel
        obtain ⟨wi, rfl⟩ : ∃ wi : World, wi = wr := ⟨_, rfl⟩
        have HVI := Lib.hid hv
        have HBI := Lib.hid hBw
        have hj0 : (0 : Int) ≤ (j : Int) := by omega
        by_cases hjm : j < m
        · obtain ⟨a, rfl, _, c0, c1⟩ := (HA.out.up hBw (Nat.le_refl _)).2 k hlt
          obtain ⟨b, rfl, _, e0, e1⟩ := (HB.out.up hBw (Nat.le_refl _)).2 j hjm
          have hji : (j : Int) < (m : Int) := by omega
          have hsk := HS.out k hlt
          have hrj := HR.out j hjm
          have hle : (bothIn LK (S k) (firstK R j)).length ≤ 100 := by
            have := bothIn_length (S k) (firstK R j) LK
            rw [firstK_length] at this
            omega
          have hsr : Srt (bothIn LK (S k) (firstK R j)) := bothIn_srt HLS.out
          have hok : Okl (bothIn LK (S k) (firstK R j)) := bothIn_ok hsk (firstK_ok HR.out (by omega)) HLO.out
          have hnx : bothIn LK (S k) (firstK R (j + 1)) = bothStep (S k) (bothIn LK (S k) (firstK R j)) (R j) := by rw [firstK_succ, bothIn_snoc]
          have KJ : Hid (Calls Try.prog 107 #[u5, .agg #[.int .i64 (max (S k).1 (R j).1), .int .i64 (min (S k).2 (R j).2)]] wi.drew fun e w' => ∃ v, e = .returned v ∧ Below wi.drew.heap.size wi.drew w' ∧ Hid (RdS v (bothIn LK (S k) (firstK R (j + 1))) w')) := Lib.hid (by
            have hvd : RdS u5 (bothIn LK (S k) (firstK R j)) wi.drew := hv.up (Below.refl _ _).drew
            rw [hnx]
            by_cases hmx : max (S k).1 (R j).1 ≤ min (S k).2 (R j).2
            · have e : bothStep (S k) (bothIn LK (S k) (firstK R j)) (R j) = joinL (bothIn LK (S k) (firstK R j)) (max (S k).1 (R j).1, min (S k).2 (R j).2) := by unfold bothStep; rw [if_pos hmx, joinL_put hsr hmx]
              have e2 : joinL (bothIn LK (S k) (firstK R j)) (max (S k).1 (R j).1, min (S k).2 (R j).2) ≠ [] := by rw [joinL_put hsr hmx]; exact putL_ne _ _
              rw [e]
              refine (Join_rd u5 _ (max (S k).1 (R j).1, min (S k).2 (R j).2) wi.drew hvd hmx ⟨by simp only; omega, by simp only; omega, by simp only; omega, by simp only; omega⟩ (fun q hq => by have := hok q hq; exact ⟨by omega, by omega, by omega, by omega⟩) (by omega)).mono fun e w' h => ?_
              obtain ⟨v, h1, h2, h3⟩ := h
              exact ⟨v, h1, h2, Lib.hid (RdS.own h3 e2)⟩
            · have e : bothStep (S k) (bothIn LK (S k) (firstK R j)) (R j) = bothIn LK (S k) (firstK R j) := by unfold bothStep; rw [if_neg hmx]
              rw [e]
              have h1c : u5.oneCell' = true := by obtain ⟨A', cap', e', _⟩ := hv; rw [e']; rfl
              refine (Join_none u5 _ _ wi.drew (by omega) h1c).mono fun e w' h => ?_
              exact ⟨u5, h.1, h.2, Lib.hid (hvd.up h.2)⟩)
          clear hv hBw hsr hok hnx hle
          go_wp2_with fail
          refine still_tail 24 (by kernel_rfl) (by kernel_rfl) ?_
          simp only [List.take_succ_cons, List.take_zero, List.drop_succ_cons, List.drop_zero]
          repeat still_step
          refine wpStill_nil ?_
          go_wp2_with fail
          refine KJ.out.mono ?_
          rintro e w1 ⟨v1, rfl, hb1, HV1⟩
          have HB1 := Lib.hid (HBI.out.drew.trans (hb1.mono HBI.out.size))
          clear hb1 c0 c1 e0 e1
          go_wp2_with fail
          go_roundw
          case rel => exact ⟨j + 1, by omega, by go_num, HV1.out, HB1.out⟩
          case measure => simp [intOf]; omega
        · have hji : (m : Int) ≤ (j : Int) := by omega
          obtain rfl : m = j := by omega
          have hfin : RdS u5 (bothL (firstK S (k + 1)) (firstK R m)) wi := by rw [firstK_succ, bothL_snoc, ← HLK.out]; exact hv
          have HFIN := Lib.hid hfin
          clear hv hBw hfin
          go_wp2_with fail
          go_roundw
          case rel => exact ⟨k + 1, by omega, by go_num, HFIN.out, HBI.out⟩
          case measure => simp [intOf]; omega
    · have hki : (n : Int) ≤ (k : Int) := by omega
      obtain rfl : n = k := by omega
      clear hv hBw
      go_wp2_with fail
      go_ret
      exact ⟨_, rfl, HBW.out, HV.out⟩
end Go.Proofs.Ytmeljcbefnojfaa
namespace Go.Proofs.Ytmeljcbefnojfaa
open Go.RowKit
/-- a number that lies in one of the spans -/
def Has (L : List (Int × Int)) (t : Int) : Prop := ∃ q ∈ L, q.1 ≤ t ∧ t ≤ q.2
theorem Has.cons (a : Int × Int) (M : List (Int × Int)) (t : Int) : Has (a :: M) t ↔ (a.1 ≤ t ∧ t ≤ a.2) ∨ Has M t := by simp [Has]
theorem putL_has (L : List (Int × Int)) : ∀ (s : Int × Int), (∀ q ∈ L, q.1 ≤ q.2) → s.1 ≤ s.2 → ∀ t, Has (putL L s) t ↔ Has L t ∨ (s.1 ≤ t ∧ t ≤ s.2) := by
  induction L with
  | nil => intro s _ _ t; simp [putL, Has]
  | cons q L ih =>
    intro s h hs t
    have hq := h q List.mem_cons_self
    have ht : ∀ r ∈ L, r.1 ≤ r.2 := fun r hr => h r (List.mem_cons_of_mem _ hr)
    unfold putL
    split
    · rw [Has.cons, Has.cons, ih s ht hs t, or_assoc]
    · split
      · rw [Has.cons, or_comm]
      · rename_i c1 c2
        rw [Has.cons, ih (min s.1 q.1, max s.2 q.2) ht (by show min s.1 q.1 ≤ max s.2 q.2; omega) t]
        show _ ∨ (min s.1 q.1 ≤ t ∧ t ≤ max s.2 q.2) ↔ _
        constructor
        · rintro (h1 | h1)
          · exact Or.inl (Or.inr h1)
          · by_cases c : q.1 ≤ t ∧ t ≤ q.2
            · exact Or.inl (Or.inl c)
            · exact Or.inr (by omega)
        · rintro ((h1 | h1) | h1)
          · exact Or.inr (by omega)
          · exact Or.inl h1
          · exact Or.inr (by omega)
theorem bothIn_has (s : Int × Int) (l : List (Int × Int)) : ∀ (acc : List (Int × Int)), Srt acc → ∀ t, Has (bothIn acc s l) t ↔ Has acc t ∨ ((s.1 ≤ t ∧ t ≤ s.2) ∧ Has l t) := by
  induction l with
  | nil => intro acc _ t; simp [bothIn, Has]
  | cons r l ih =>
    intro acc ha t
    have e : bothIn acc s (r :: l) = bothIn (bothStep s acc r) s l := rfl
    rw [e, ih _ (bothStep_srt ha) t, Has.cons]
    have k : Has (bothStep s acc r) t ↔ Has acc t ∨ ((s.1 ≤ t ∧ t ≤ s.2) ∧ r.1 ≤ t ∧ t ≤ r.2) := by
      unfold bothStep
      split
      · rename_i c
        rw [putL_has acc (max s.1 r.1, min s.2 r.2) ha.1 c t]
        show _ ∨ (max s.1 r.1 ≤ t ∧ t ≤ min s.2 r.2) ↔ _
        have : (max s.1 r.1 ≤ t ∧ t ≤ min s.2 r.2) ↔ ((s.1 ≤ t ∧ t ≤ s.2) ∧ r.1 ≤ t ∧ t ≤ r.2) := by omega
        rw [this]
      · constructor
        · exact Or.inl
        · rintro (h1 | h1)
          · exact h1
          · omega
    rw [k]
    constructor
    · rintro ((h1 | ⟨h1, h2⟩) | ⟨h1, h2⟩)
      · exact Or.inl h1
      · exact Or.inr ⟨h1, Or.inl h2⟩
      · exact Or.inr ⟨h1, Or.inr h2⟩
    · rintro (h1 | ⟨h1, (h2 | h2)⟩)
      · exact Or.inl (Or.inl h1)
      · exact Or.inl (Or.inr ⟨h1, h2⟩)
      · exact Or.inr ⟨h1, h2⟩
theorem bothFold_has (r : List (Int × Int)) (l : List (Int × Int)) : ∀ (acc : List (Int × Int)), Srt acc → ∀ t, Has (l.foldl (fun a s => bothIn a s r) acc) t ↔ Has acc t ∨ (Has l t ∧ Has r t) := by
  induction l with
  | nil => intro acc _ t; simp [Has]
  | cons s l ih =>
    intro acc ha t
    rw [List.foldl_cons, ih _ (bothIn_srt ha) t, bothIn_has s r acc ha t, Has.cons]
    constructor
    · rintro ((h1 | ⟨h1, h2⟩) | ⟨h1, h2⟩)
      · exact Or.inl h1
      · exact Or.inr ⟨Or.inl h1, h2⟩
      · exact Or.inr ⟨Or.inr h1, h2⟩
    · rintro (h1 | ⟨(h1 | h1), h2⟩)
      · exact Or.inl (Or.inl h1)
      · exact Or.inl (Or.inr ⟨h1, h2⟩)
      · exact Or.inr ⟨h1, h2⟩
theorem Srt.nil : Srt [] := ⟨by simp, by simp⟩
/-- what two sets have in common holds the numbers that lie in both -/
theorem bothL_has (l r : List (Int × Int)) (t : Int) : Has (bothL l r) t ↔ Has l t ∧ Has r t := by
  have h := bothFold_has r l [] Srt.nil t
  have e : ¬ Has [] t := by simp [Has]
  rw [bothL, h]
  exact ⟨fun h => h.resolve_left e, Or.inr⟩
/-- a span behind all others is put at the end -/
theorem putL_behind (acc : List (Int × Int)) (s : Int × Int) (h : ∀ q ∈ acc, q.2 + 2 ≤ s.1) : putL acc s = acc ++ [s] := by
  induction acc with
  | nil => rfl
  | cons q L ih =>
    unfold putL
    rw [if_pos (by have := h q List.mem_cons_self; omega), ih (fun r hr => h r (List.mem_cons_of_mem _ hr))]
    rfl
theorem putAll_behind (l : List (Int × Int)) : ∀ acc, Srt (acc ++ l) → putAll acc l = acc ++ l := by
  induction l with
  | nil => intro acc _; simp [putAll]
  | cons s l ih =>
    intro acc h
    have e : putAll acc (s :: l) = putAll (putL acc s) l := rfl
    have hp := List.pairwise_append.1 h.2
    rw [e, putL_behind acc s (fun q hq => hp.2.2 q hq s List.mem_cons_self), ih (acc ++ [s]) (by simpa using h)]
    simp
theorem putAll_nil {l : List (Int × Int)} (h : Srt l) : putAll [] l = l := putAll_behind l [] h
/-- in order, a span that lies in one of r adds itself, and nothing else -/
theorem bothIn_one {r : List (Int × Int)} (hr : Srt r) {acc : List (Int × Int)} {s y : Int × Int} (hs : s.1 ≤ s.2) (hy : y ∈ r) (h1 : y.1 ≤ s.1) (h2 : s.2 ≤ y.2) : bothIn acc s r = putL acc s := by
  have skip : ∀ (l : List (Int × Int)) (acc : List (Int × Int)), (∀ q ∈ l, s.2 < q.1 ∨ q.2 < s.1) → bothIn acc s l = acc := by
    intro l
    induction l with
    | nil => intro acc _; rfl
    | cons q l ih =>
      intro acc h
      have e : bothIn acc s (q :: l) = bothIn (bothStep s acc q) s l := rfl
      have hq := h q List.mem_cons_self
      rw [e, ih _ (fun p hp => h p (List.mem_cons_of_mem _ hp))]
      unfold bothStep
      rw [if_neg (by omega)]
  induction r generalizing acc with
  | nil => simp at hy
  | cons q r ih =>
    have hp := (List.pairwise_cons.1 hr.2).1
    have e : bothIn acc s (q :: r) = bothIn (bothStep s acc q) s r := rfl
    rw [e]
    rcases List.mem_cons.1 hy with hy | hy
    · subst hy
      rw [skip r _ (fun p hp' => Or.inl (by have := hp p hp'; omega))]
      unfold bothStep
      rw [if_pos (by omega), show max s.1 y.1 = s.1 by omega, show min s.2 y.2 = s.2 by omega]
    · rw [show bothStep s acc q = acc by
        unfold bothStep
        have := hp y hy
        rw [if_neg (by omega)]]
      exact ih hr.tail hy
/-- of two sets: the first lies in the second iff it is what both have in common -/
theorem within_iff {l r : List (Int × Int)} (hl : Srt l) (hr : Srt r) : (∀ x ∈ l, ∃ y ∈ r, y.1 ≤ x.1 ∧ x.2 ≤ y.2) ↔ bothL l r = l := by
  constructor
  · intro h
    have key : ∀ (m acc : List (Int × Int)), (∀ x ∈ m, x ∈ l) → m.foldl (fun a s => bothIn a s r) acc = putAll acc m := by
      intro m
      induction m with
      | nil => intro acc _; rfl
      | cons s m ih =>
        intro acc hm
        have hs := hm s List.mem_cons_self
        obtain ⟨y, hy, h1, h2⟩ := h s hs
        rw [List.foldl_cons, bothIn_one hr (hl.1 s hs) hy h1 h2]
        exact ih _ (fun x hx => hm x (List.mem_cons_of_mem _ hx))
    rw [bothL, key l [] (fun _ hx => hx)]
    exact putAll_nil hl
  · intro h x hx
    have all : ∀ t, x.1 ≤ t → t ≤ x.2 → Has r t := fun t h1 h2 => ((bothL_has l r t).1 (by rw [h]; exact ⟨x, hx, h1, h2⟩)).2
    have hxx := hl.1 x hx
    obtain ⟨y, hy, h1, h2⟩ := all x.1 (Int.le_refl _) hxx
    refine ⟨y, hy, h1, ?_⟩
    by_cases c : x.2 ≤ y.2
    · exact c
    · obtain ⟨z, hz, h3, h4⟩ := all (y.2 + 1) (by omega) (by omega)
      exfalso
      have far : ∀ (m : List (Int × Int)), Srt m → y ∈ m → z ∈ m → y = z ∨ y.2 + 2 ≤ z.1 ∨ z.2 + 2 ≤ y.1 := by
        intro m
        induction m with
        | nil => intro _ hy _; simp at hy
        | cons q m ih =>
          intro hm hy hz
          have hp := (List.pairwise_cons.1 hm.2).1
          rcases List.mem_cons.1 hy with hy | hy <;> rcases List.mem_cons.1 hz with hz | hz
          · exact Or.inl (hy.trans hz.symm)
          · exact Or.inr (Or.inl (hy ▸ hp z hz))
          · exact Or.inr (Or.inr (hz ▸ hp y hy))
          · exact ih hm.tail hy hz
      have hyy := hr.1 y hy
      rcases far r hr hy hz with e | e | e
      · subst e; omega
      · omega
      · omega
end Go.Proofs.Ytmeljcbefnojfaa
