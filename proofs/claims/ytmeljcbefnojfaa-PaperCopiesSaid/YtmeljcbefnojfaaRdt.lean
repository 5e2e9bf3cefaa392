import Derived.Test.YtmeljcbefnojfaaRwi
namespace Go.Proofs.Ytmeljcbefnojfaa
open Go.RowKit
/-- a value that reads as a list of spans, out of blocks below B or of spans -/
def RdT (B : Nat) (v : Value) (L : List (Int × Int)) (w : World) : Prop :=
  RdS v L w ∧ ∀ g, v.ownBlock = some g → g < w.heap.size ∧ (g < B ∨ ∃ cur f, w.heap[g]? = some (.cells cur 23 f))
theorem RdT.up {B : Nat} {v : Value} {L : List (Int × Int)} {w w' : World} (h : RdT B v L w) (hb : Below w.heap.size w w') : RdT B v L w' := by
  refine ⟨h.1.up hb, fun g hg => ?_⟩
  obtain ⟨hl, h2⟩ := h.2 g hg
  refine ⟨Nat.lt_of_lt_of_le hl hb.size, h2.imp id fun ⟨cur, f, e⟩ => ⟨cur, f, (hb.block g hl).trans e⟩⟩
theorem RdT.own {C B : Nat} {v : Value} {L : List (Int × Int)} {w : World} (h : w.ownsRow C 23 2 v L.length (flatL L)) (hL : L ≠ []) : RdT B v L w := by
  refine ⟨RdS.own h hL, fun g hg => ?_⟩
  obtain ⟨_, hx | ⟨g', cap, cur, e1, _, e3, _⟩⟩ := h
  · exact absurd (List.eq_nil_of_length_eq_zero hx.2) hL
  · subst e1
    have : g' = g := by simpa [Value.ownBlock] using hg
    subst this
    exact ⟨(Array.getElem?_eq_some_iff.1 e3).1, .inr ⟨cur, _, e3⟩⟩
theorem RdT.nil (B : Nat) (w : World) : RdT B (.slice none 0 0) [] w := ⟨RdS.nil w, fun g hg => by simp [Value.ownBlock] at hg⟩
theorem RdT.row {B : Nat} {w : World} {A : Option Addr} {n c : Nat} {S : Nat → Int × Int} (h : SpsIn A n S B w) (hB : B ≤ w.heap.size) (hn : 0 < n) (hc : n ≤ c) (hm : c ≤ maxLen) : RdT B (.slice A n c) (firstK S n) w := by
  refine ⟨RdS.row (h.more hB) hn hc hm, fun g hg => ?_⟩
  obtain ⟨a, rfl, hl, _⟩ := h.2 0 hn
  have : a.block = g := by simpa [Value.ownBlock] using hg
  subst this
  exact ⟨by omega, .inl hl⟩
def RdQ (B : Nat) (w : World) (L : List (Int × Int)) (e : Ending) (w' : World) : Prop := ∃ v, e = .returned v ∧ Below w.heap.size w w' ∧ RdT B v L w'
set_option maxRecDepth 100000 in
set_option maxHeartbeats 2000000 in
theorem union_T (A B : Option Addr) (n c m d : Nat) (S R : Nat → Int × Int) (w : World) (hn : 0 < n ∧ n ≤ 8) (hm : m ≤ 8) (hc : n ≤ c ∧ c ≤ maxLen) (B0 : Nat) (hB0 : B0 ≤ w.heap.size) (ha : SpsIn A n S B0 w) (hb : SpsIn B m R w.heap.size w) (hS : SetOk S n) (hR : SetOk R m) :
    Calls Try.prog 114 #[.slice A n c, .slice B m d] w (RdQ B0 w (putAll (firstK S n) (firstK R m))) := by
  have hm' : (m : Int) ≤ 8 := by omega
  have HA := Lib.hid (RdT.row ha hB0 hn.1 hc.1 hc.2)
  have HB := Lib.hid hb
  have HS := Lib.hid hS
  have HR := Lib.hid hR
  have hsr : Srt (firstK S n) := hS.srt (Nat.le_refl _)
  have hok : Okl (firstK S n) := firstK_ok hS.spok (Nat.le_refl _)
  have HSR := Lib.hid hsr
  have HOK := Lib.hid hok
  have hne : firstK S n ≠ [] := fun e => by have := congrArg List.length e; rw [firstK_length] at this; simp at this; omega
  have HNE := Lib.hid hne
  clear ha hb hS hR hsr hok hne
  go_enter Try.func114, Try.ntmps114
  go_wp2_with fail
  go_loopw [5, 6] (fun v i wr => ∃ k : Nat, k ≤ m ∧ i = .int .i64 k ∧ RdT B0 v (putAll (firstK S n) (firstK R k)) wr ∧ Below w.heap.size w wr) (fun _ i _ => m - (intOf i).toNat)
  case atStart => exact ⟨0, Nat.zero_le _, rfl, HA.out, Below.refl _ _⟩
  case round =>
    obtain ⟨k, hk, rfl, hv, hBw⟩ := hrel
    obtain ⟨wo, rfl⟩ : ∃ wo : World, wo = wr := ⟨_, rfl⟩
    have HV := Lib.hid hv
    have HBW := Lib.hid hBw
    have hk0 : (0 : Int) ≤ (k : Int) := by omega
    by_cases hlt : k < m
    · obtain ⟨a, rfl, _, c0, c1⟩ := (HB.out.up hBw (Nat.le_refl _)).2 k hlt
      have hki : (k : Int) < (m : Int) := by omega
      have hrk := HR.out.spok k hlt
      have hrl : Okl (firstK R k) := firstK_ok HR.out.spok (by omega)
      have hall : Srt (putAll (firstK S n) (firstK R k)) := putAll_srt HSR.out hrl
      have hlen : (putAll (firstK S n) (firstK R k)).length ≤ 16 := by have := putAll_length (firstK S n) (firstK R k); rw [firstK_length, firstK_length] at this; omega
      have KJ : Hid (Calls Try.prog 107 #[u5, .agg #[.int .i64 (R k).1, .int .i64 (R k).2]] wo fun e w' => ∃ v, e = .returned v ∧ Below wo.heap.size wo w' ∧ Hid (RdT B0 v (putAll (firstK S n) (firstK R (k + 1))) w')) := Lib.hid (by
        refine (Join_rd u5 _ (R k) wo hv.1 hrk.1 ⟨by omega, by omega, by omega, by omega⟩ (fun q hq => by have := putAll_ok HOK.out hrl q hq; exact ⟨by omega, by omega, by omega, by omega⟩) (by omega)).mono fun e w' h => ?_
        obtain ⟨v, h1, h2, h3⟩ := h
        rw [joinL_put hall hrk.1] at h3
        rw [firstK_succ, putAll_snoc]
        exact ⟨v, h1, h2, Lib.hid (RdT.own h3 (putL_ne _ _))⟩)
      clear hv hBw hall hrl hlen
      go_wp2_with fail
      refine KJ.out.mono ?_
      rintro e w1 ⟨v1, rfl, hb1, HV1⟩
      have HB1 := Lib.hid (HBW.out.trans (hb1.mono HBW.out.size))
      clear hb1 c0 c1
      go_wp2_with fail
      go_roundw
      case rel => exact ⟨k + 1, by omega, by go_num, HV1.out, HB1.out⟩
      case measure => simp [intOf]; omega
    · have hki : (m : Int) ≤ (k : Int) := by omega
      obtain rfl : m = k := by omega
      clear hv hBw
      go_wp2_with fail
      go_ret
      exact ⟨_, rfl, HBW.out, HV.out⟩
set_option maxRecDepth 100000 in
set_option maxHeartbeats 4000000 in
theorem meet_T (A B : Option Addr) (n c m d : Nat) (S R : Nat → Int × Int) (w : World) (hn : n ≤ 8) (hm : m ≤ 8) (B0 : Nat) (ha : SpsIn A n S w.heap.size w) (hb : SpsIn B m R w.heap.size w) (hS : SpOk S n) (hR : SpOk R m) :
    Calls Try.prog 111 #[.slice A n c, .slice B m d] w (RdQ B0 w (bothL (firstK S n) (firstK R m))) := by
  have hn' : (n : Int) ≤ 8 := by omega
  have hm' : (m : Int) ≤ 8 := by omega
  have HA := Lib.hid ha
  have HB := Lib.hid hb
  have HS := Lib.hid hS
  have HR := Lib.hid hR
  clear ha hb hS hR
  go_enter Try.func111, Try.ntmps111
  go_wp2_with fail
  go_loopw [5, 6] (fun v i wr => ∃ k : Nat, k ≤ n ∧ i = .int .i64 k ∧ RdT B0 v (bothL (firstK S k) (firstK R m)) wr ∧ Below w.heap.size w wr) (fun _ i _ => n - (intOf i).toNat)
  case atStart => exact ⟨0, Nat.zero_le _, rfl, RdT.nil _ _, Below.refl _ _⟩
  case round =>
    obtain ⟨k, hk, rfl, hv, hBw⟩ := hrel
    obtain ⟨wo, rfl⟩ : ∃ wo : World, wo = wr := ⟨_, rfl⟩
    have HV := Lib.hid hv
    have HBW := Lib.hid hBw
    have hk0 : (0 : Int) ≤ (k : Int) := by omega
    by_cases hlt : k < n
    · obtain ⟨LK, hLK⟩ : ∃ LK, LK = bothL (firstK S k) (firstK R m) := ⟨_, rfl⟩
      have hrl : Okl (firstK R m) := firstK_ok HR.out (Nat.le_refl _)
      have hlok : Okl LK := by rw [hLK]; exact bothL_ok HS.out hrl (by omega)
      have hlsr : Srt LK := by rw [hLK]; exact bothL_srt _ _ _
      have hlen : LK.length ≤ 64 := by
        rw [hLK]
        have h1 := bothL_length S (firstK R m) k
        rw [firstK_length] at h1
        have h2 : k * m ≤ 8 * 8 := Nat.mul_le_mul (by omega) hm
        omega
      rw [← hLK] at HV
      have HLK := Lib.hid hLK
      have HLO := Lib.hid hlok
      have HLS := Lib.hid hlsr
      clear hv hBw hLK hrl hlok hlsr
      have hki : (k : Int) < (n : Int) := by omega
      go_wp2_with fail
      go_loopw [5, 7] (fun v i wr => ∃ j : Nat, j ≤ m ∧ i = .int .i64 j ∧ RdT B0 v (bothIn LK (S k) (firstK R j)) wr ∧ Below w.heap.size w wr) (fun _ i _ => m - (intOf i).toNat)
      case atStart => exact ⟨0, Nat.zero_le _, rfl, HV.out, HBW.out⟩
      case round =>
        obtain ⟨j, hj, rfl, hv, hBw⟩ := hrel
        obtain ⟨wi, rfl⟩ : ∃ wi : World, wi = wr := ⟨_, rfl⟩
        have HVI := Lib.hid hv
        have HBI := Lib.hid hBw
        have hj0 : (0 : Int) ≤ (j : Int) := by omega
        by_cases hjm : j < m
        · obtain ⟨a, rfl, _, c0, c1⟩ := (HA.out.up hBw (Nat.le_refl _)).2 k hlt
          obtain ⟨b, rfl, _, e0, e1⟩ := (HB.out.up hBw (Nat.le_refl _)).2 j hjm
          have hji : (j : Int) < (m : Int) := by omega
          have hsk := HS.out k hlt
          have hrj := HR.out j hjm
          have hle : (bothIn LK (S k) (firstK R j)).length ≤ 100 := by
            have := bothIn_length (S k) (firstK R j) LK
            rw [firstK_length] at this
            omega
          have hsr : Srt (bothIn LK (S k) (firstK R j)) := bothIn_srt HLS.out
          have hok : Okl (bothIn LK (S k) (firstK R j)) := bothIn_ok hsk (firstK_ok HR.out (by omega)) HLO.out
          have hnx : bothIn LK (S k) (firstK R (j + 1)) = bothStep (S k) (bothIn LK (S k) (firstK R j)) (R j) := by rw [firstK_succ, bothIn_snoc]
          have KJ : Hid (Calls Try.prog 107 #[u5, .agg #[.int .i64 (max (S k).1 (R j).1), .int .i64 (min (S k).2 (R j).2)]] wi.drew fun e w' => ∃ v, e = .returned v ∧ Below wi.drew.heap.size wi.drew w' ∧ Hid (RdT B0 v (bothIn LK (S k) (firstK R (j + 1))) w')) := Lib.hid (by
            have hvd : RdT B0 u5 (bothIn LK (S k) (firstK R j)) wi.drew := hv.up (Below.refl _ _).drew
            rw [hnx]
            by_cases hmx : max (S k).1 (R j).1 ≤ min (S k).2 (R j).2
            · have e : bothStep (S k) (bothIn LK (S k) (firstK R j)) (R j) = joinL (bothIn LK (S k) (firstK R j)) (max (S k).1 (R j).1, min (S k).2 (R j).2) := by unfold bothStep; rw [if_pos hmx, joinL_put hsr hmx]
              have e2 : joinL (bothIn LK (S k) (firstK R j)) (max (S k).1 (R j).1, min (S k).2 (R j).2) ≠ [] := by rw [joinL_put hsr hmx]; exact putL_ne _ _
              rw [e]
              refine (Join_rd u5 _ (max (S k).1 (R j).1, min (S k).2 (R j).2) wi.drew hvd.1 hmx ⟨by simp only; omega, by simp only; omega, by simp only; omega, by simp only; omega⟩ (fun q hq => by have := hok q hq; exact ⟨by omega, by omega, by omega, by omega⟩) (by omega)).mono fun e w' h => ?_
              obtain ⟨v, h1, h2, h3⟩ := h
              exact ⟨v, h1, h2, Lib.hid (RdT.own h3 e2)⟩
            · have e : bothStep (S k) (bothIn LK (S k) (firstK R j)) (R j) = bothIn LK (S k) (firstK R j) := by unfold bothStep; rw [if_neg hmx]
              rw [e]
              have h1c : u5.oneCell' = true := by obtain ⟨A', cap', e', _⟩ := hv.1; rw [e']; rfl
              refine (Join_none u5 _ _ wi.drew (by omega) h1c).mono fun e w' h => ?_
              exact ⟨u5, h.1, h.2, Lib.hid (hvd.up h.2)⟩)
          clear hv hBw hsr hok hnx hle
          go_wp2_with fail
          refine still_tail 24 (by kernel_rfl) (by kernel_rfl) ?_
          simp only [List.take_succ_cons, List.take_zero, List.drop_succ_cons, List.drop_zero]
          repeat still_step
          refine wpStill_nil ?_
          go_wp2_with fail
          refine KJ.out.mono ?_
          rintro e w1 ⟨v1, rfl, hb1, HV1⟩
          have HB1 := Lib.hid (HBI.out.drew.trans (hb1.mono HBI.out.size))
          clear hb1 c0 c1 e0 e1
          go_wp2_with fail
          go_roundw
          case rel => exact ⟨j + 1, by omega, by go_num, HV1.out, HB1.out⟩
          case measure => simp [intOf]; omega
        · have hji : (m : Int) ≤ (j : Int) := by omega
          obtain rfl : m = j := by omega
          have hfin : RdT B0 u5 (bothL (firstK S (k + 1)) (firstK R m)) wi := by rw [firstK_succ, bothL_snoc, ← HLK.out]; exact hv
          have HFIN := Lib.hid hfin
          clear hv hBw hfin
          go_wp2_with fail
          go_roundw
          case rel => exact ⟨k + 1, by omega, by go_num, HFIN.out, HBI.out⟩
          case measure => simp [intOf]; omega
    · have hki : (n : Int) ≤ (k : Int) := by omega
      obtain rfl : n = k := by omega
      clear hv hBw
      go_wp2_with fail
      go_ret
      exact ⟨_, rfl, HBW.out, HV.out⟩
end Go.Proofs.Ytmeljcbefnojfaa
namespace Go.Proofs.Ytmeljcbefnojfaa
open Go.RowKit
theorem RdT.grow {B : Nat} {v : Value} {L : List (Int × Int)} {w w1 : World} {r : Option Nat} (h : RdT B v L w) (hg : w.grownBy w1 r) (hne : ∀ g, v.ownBlock = some g → some g ≠ r) : RdT B v L w1 := by
  obtain ⟨⟨A, cap, e, h1, h2, h3, h4⟩, h5⟩ := h
  refine ⟨⟨A, cap, e, h1, h2, h3, fun i s hs => ?_⟩, fun g hv => ?_⟩
  · obtain ⟨g, o, e', hl, c0, c1⟩ := h4 i s hs
    have hb : w1.heap[g]? = w.heap[g]? := hg.block g hl (hne g (by rw [e, e']; rfl))
    exact ⟨g, o, e', Nat.lt_of_lt_of_le hl hg.size, (World.cell?_of_block (a := ⟨g, o + i * 2, none⟩) hb).trans c0, (World.cell?_of_block (a := ⟨g, o + i * 2 + 1, none⟩) hb).trans c1⟩
  · obtain ⟨hl, h6⟩ := h5 g hv
    have hb : w1.heap[g]? = w.heap[g]? := hg.block g hl (hne g hv)
    exact ⟨Nat.lt_of_lt_of_le hl hg.size, h6.imp id fun ⟨cur, f, e⟩ => ⟨cur, f, hb.trans e⟩⟩
/-- rows that are being gathered in a slice of the call's own -/
def RowsO (w : World) (Lc : Nat → List (Int × Int)) (k : Nat) (v : Value) (wr : World) : Prop := ∃ xs : List Value, wr.ownsRow (w.heap.size + 3) 52 1 v k xs ∧ ∀ c, c < k → ∃ u, xs[c]? = some u ∧ RdT w.heap.size u (Lc c) wr
theorem RowsO.up {w wr w' : World} {Lc : Nat → List (Int × Int)} {k : Nat} {v : Value} (h : RowsO w Lc k v wr) (hb : Below wr.heap.size wr w') : RowsO w Lc k v w' := by
  obtain ⟨xs, h1, h2⟩ := h
  refine ⟨xs, own_keep2 h1 hb, fun c hc => ?_⟩
  obtain ⟨u, e, hu⟩ := h2 c hc
  exact ⟨u, e, hu.up hb⟩
theorem RowsO.nil (w wr : World) (Lc : Nat → List (Int × Int)) : RowsO w Lc 0 (.slice none 0 0) wr := ⟨[], World.ownsRow_nil wr _ _ 1, fun c hc => absurd hc (by omega)⟩
theorem RowsO.put {w wr w1 : World} {Lc : Nat → List (Int × Int)} {k : Nat} {v v' u : Value} {o : Obj} {xs : List Value} (h1 : wr.ownsRow (w.heap.size + 3) 52 1 v k xs) (h2 : ∀ c, c < k → ∃ u, xs[c]? = some u ∧ RdT w.heap.size u (Lc c) wr) (hu : RdT w.heap.size u (Lc k) wr) (h' : w1.ownsRow (w.heap.size + 3) 52 1 v' (k + 1) (xs ++ [u])) (hg : (wr.alloc o).grownBy w1 v.ownBlock) : RowsO w Lc (k + 1) v' w1 := by
  have hlen : xs.length = k := by have := h1.1; omega
  have hmove : ∀ {z : Value} {L : List (Int × Int)}, RdT w.heap.size z L wr → RdT w.heap.size z L w1 := fun {z L} hz => by
    refine (hz.up (box1 wr o)).grow hg fun g hzg e => ?_
    obtain ⟨hl, h6⟩ := hz.2 g hzg
    obtain ⟨_, hx | ⟨r, cap, cur, e1, e2, e3, _⟩⟩ := h1
    · rw [hx.1] at e; simp [Value.ownBlock] at e
    · rw [e1] at e
      have : g = r := by simpa [Value.ownBlock] using e
      subst this
      rcases h6 with h6 | ⟨cur', f, h6⟩
      · omega
      · rw [e3] at h6
        simp at h6
  refine ⟨_, h', fun c hc => ?_⟩
  by_cases hck : c = k
  · subst hck
    exact ⟨u, by rw [List.getElem?_append_right (by omega), hlen, Nat.sub_self]; rfl, hmove hu⟩
  · obtain ⟨z, e, hz⟩ := h2 c (by omega)
    exact ⟨z, by rw [List.getElem?_append_left (by omega)]; exact e, hmove hz⟩
theorem own_setg {w : World} {B n size : Nat} {e : TypeId} {v : Value} {xs : List Value} (h : w.ownsRow B e size v n xs) {b : Nat} (hb : b < B) (o : Nat) (u : Value) : (w.setCell ⟨b, o, none⟩ u).ownsRow B e size v n xs := by
  obtain ⟨h0, hx | ⟨g, cap, c2, e1, e2, e3, e4⟩⟩ := h
  · exact ⟨h0, .inl hx⟩
  · exact ⟨h0, .inr ⟨g, cap, c2, e1, e2, (Below.heap_setCell w ⟨b, o, none⟩ u g (show g ≠ b by omega)).trans e3, e4⟩⟩
/-- a store to the result's box, which is no row -/
theorem RowsO.set {w wr : World} {Lc : Nat → List (Int × Int)} {k b : Nat} {v : Value} (h : RowsO w Lc k v wr) (hb : w.heap.size ≤ b ∧ b < w.heap.size + 3) {cur : Array Value} {t : TypeId} {f : Nat × Nat} (ht : wr.heap[b]? = some (.cells cur t f)) (hne : t ≠ 23) (o : Nat) (u : Value) : RowsO w Lc k v (wr.setCell ⟨b, o, none⟩ u) := by
  obtain ⟨xs, h1, h2⟩ := h
  refine ⟨xs, own_setg h1 hb.2 o u, fun c hc => ?_⟩
  obtain ⟨z, e, hz⟩ := h2 c hc
  refine ⟨z, e, hz.grow (grown_set wr b o u) fun g hg e => ?_⟩
  cases e
  rcases (hz.2 b hg).2 with h6 | ⟨cur', f', h6⟩
  · omega
  · rw [ht] at h6
    simp at h6
    exact hne h6.2.1
theorem below_grow {B : Nat} {w0 wr w2 : World} {o : Obj} {r : Option Nat} (h : Below B w0 wr) (hB : B ≤ w0.heap.size) (hg : (wr.alloc o).grownBy w2 r) (hr : ∀ g, r = some g → B ≤ g) : Below B w0 w2 := by
  have h1 : Below B w0 (wr.alloc o) := h.alloc (by have := h.size; omega) _
  exact ⟨hg.os.trans h1.os, hg.tape.trans h1.tape, hg.output.trans h1.output, Nat.le_trans h1.size hg.size, fun k hk => (hg.block k (by have := h1.size; omega) (fun e => by have := hr k e.symm; omega)).trans (h1.block k hk)⟩
theorem newv (W : World) (u : Value) : ∀ j z, ([u] : List Value)[j]? = some z → (W.alloc (.cells #[u] 52)).cell? ((⟨W.heap.size, 0, none⟩ : Addr).add j) = some z := by
  intro j z hz
  cases j with
  | zero => simp at hz; subst hz; rw [add_zero]; go_simp
  | succ j => simp at hz
end Go.Proofs.Ytmeljcbefnojfaa
namespace Go.Proofs.Ytmeljcbefnojfaa
open Go.RowKit
/-- rows that have been gathered read as columns -/
theorem rows_cls {w wr : World} {Lc : Nat → List (Int × Int)} {n : Nat} {v : Value} (h : RowsO w Lc n v wr) (hn : n ≤ 1000) : ∃ A cap, ∃ X : Cls, v = .slice A n cap ∧ ClsIn A n X wr.heap.size wr ∧ ∀ c, c < n → X.L c = (Lc c).length ∧ firstK (X.S c) (X.L c) = Lc c := by
  obtain ⟨xs, h1, h2⟩ := h
  have each : ∀ c, c < n → ∃ r : Option Addr × Nat × Nat × (Nat → Int × Int), xs[c]? = some (.slice r.1 r.2.1 r.2.2.1) ∧ r.2.1 = (Lc c).length ∧ firstK r.2.2.2 r.2.1 = Lc c ∧ SpsIn r.1 r.2.1 r.2.2.2 wr.heap.size wr := by
    intro c hc
    obtain ⟨u, e, hu, _⟩ := h2 c hc
    obtain ⟨A, cp, rfl, hs⟩ := hu.sps
    refine ⟨(A, (Lc c).length, cp, fun i => (Lc c)[i]?.getD (0, 0)), e, rfl, ?_, hs⟩
    exact ((eq_firstK (Lc c) _ (Lc c).length).1 ⟨rfl, fun _ _ => rfl⟩).symm
  haveI : Inhabited (Option Addr × Nat × Nat × (Nat → Int × Int)) := ⟨(none, 0, 0, fun _ => (0, 0))⟩
  obtain ⟨f, hf⟩ : ∃ f : Nat → Option Addr × Nat × Nat × (Nat → Int × Int), ∀ c, c < n → xs[c]? = some (.slice (f c).1 (f c).2.1 (f c).2.2.1) ∧ (f c).2.1 = (Lc c).length ∧ firstK (f c).2.2.2 (f c).2.1 = Lc c ∧ SpsIn (f c).1 (f c).2.1 (f c).2.2.2 wr.heap.size wr :=
    ⟨fun c => if hc : c < n then Classical.choose (each c hc) else default, fun c hc => by simp only [dif_pos hc]; exact Classical.choose_spec (each c hc)⟩
  obtain ⟨hx, hy | ⟨g, cap, cur, e1, e2, e3, e4, e5, e6, e7⟩⟩ := h1
  · obtain ⟨rfl, h0⟩ := hy
    subst h0
    exact ⟨none, 0, ⟨fun _ => none, fun _ => 0, fun _ => 0, fun _ _ => (0, 0)⟩, rfl, ⟨by omega, fun i hi => absurd hi (by omega)⟩, fun c hc => absurd hc (by omega)⟩
  · subst e1
    refine ⟨_, cap, ⟨fun c => (f c).1, fun c => (f c).2.1, fun c => (f c).2.2.1, fun c => (f c).2.2.2⟩, rfl, ⟨by omega, fun c hc => ?_⟩, fun c hc => ⟨(hf c hc).2.1, (hf c hc).2.2.1⟩⟩
    refine ⟨⟨g, 0, none⟩, rfl, (Array.getElem?_eq_some_iff.1 e3).1, ?_, (hf c hc).2.2.2⟩
    have hxc := (hf c hc).1
    have hcu : cur[c]? = some (.slice (f c).1 (f c).2.1 (f c).2.2.1) := by
      rw [← e7, List.getElem?_take, if_pos (by omega), Array.getElem?_toList] at hxc
      exact hxc
    rw [Addr.add_lit, Nat.zero_add]
    simp [World.cell?, e3, hcu]
theorem step_append_own {ops : Array Oper} {o : Oper} {a : Act} {w : World} {K : Act → World → Prop} {Q : Exit → Act → World → Prop} {E : Prop} (hgd : o.guard = none) (s x : Operand) (t : TypeId)
    (ho : o.op = .call { callee := .builtin .append, args := #[s, x], argTypes := #[t, t] })
    (base : Nat) (e : TypeId) (i : TypeInfo) (z : Value) (size bytes : Nat) (ht : Try.prog.underlying t = some (.slice e)) (hi : Try.prog.info? e = some i) (hz : i.zero = some z)
    (hsize : i.size = size) (hby : i.bytes = bytes) (hzs : z.cells.size = size) (hsz : 0 < size)
    (v : Value) (n : Nat) (xs : List Value) (hs : a.eval s = v) (hown : w.ownsRow base e size v n xs)
    (ad : Addr) (m c : Nat) (news : List Value) (hx : a.eval x = .slice (some ad) m c) (hl : news.length = m * size) (hnews : ∀ j u, news[j]? = some u → w.cell? (ad.add j) = some u) (h1 : ∀ u ∈ news, u.oneCell' = true)
    (h63 : n + m ≤ maxLen) (hbytes : (n + m) * bytes ≤ 140737488355328) (hbase : base ≤ w.heap.size)
    (hK : ∀ v' w', w'.ownsRow base e size v' (n + m) (xs ++ news) → w.grownBy w' v.ownBlock → K (a.put o.dst v') w') :
    if Region.wanted o (yielded ops a.tmps) = true then Oper.wp Try.prog o a w K Q else E := by
  have hw : Region.wanted o (yielded ops a.tmps) = true := by simp [Region.wanted, hgd]
  rw [if_pos hw]
  obtain ⟨v', w', hrun, r1, r2, _⟩ := run_append_own (P := Try.prog) w base t o.type e i z size bytes ht hi hz hsize hby hzs hsz v n xs hown ad m c news hl hnews h1 h63 hbytes hbase
  unfold Oper.wp
  simp [execOp, ho, resolve, invoke, builtin, hs, hx, hrun, Result.andThen]
  exact hK v' w' r1 r2
/-- what the specification's Either returns: rows that read as they should, or nothing -/
def RowsP (w : World) (n : Nat) (Lc : Nat → List (Int × Int)) (E : Int) (e : Ending) (w' : World) : Prop := ∃ A k c, e = .returned (.tuple #[.agg #[.slice A k c], .int .i64 E]) ∧ Below w.heap.size w w' ∧ (E = 0 ∧ k = n ∧ (∃ X : Cls, ClsIn A n X w'.heap.size w' ∧ ∀ c, c < n → X.L c = (Lc c).length ∧ firstK (X.S c) (X.L c) = Lc c) ∨ E ≠ 0 ∧ k = 0)
set_option maxRecDepth 100000 in
set_option maxHeartbeats 4000000 in
theorem REither_ok (A B : Option Addr) (n c d : Nat) (x y : Cls) (w : World) (ha : ClsIn A n x w.heap.size w) (hb : ClsIn B n y w.heap.size w) (hx : InkOk x n) (hy : InkOk y n) (hcx : ∀ i, i < n → x.L i ≤ x.C i ∧ x.C i ≤ maxLen) (Lc : Nat → List (Int × Int)) (hLc : Lc = fun k => eitL (x.S k) (y.S k) (x.L k) (y.L k)) (E : Int) (hE : E = 0 ∧ (∀ c, c < n → (Lc c).length ≤ 8) ∨ E = 2 ∧ ¬ (∀ c, c < n → (Lc c).length ≤ 8)) :
    Calls Try.prog 59 #[.agg #[.slice A n c], .agg #[.slice B n d]] w (RowsP w n Lc E) := by
  obtain ⟨i0, hi0, hz0, hz1, hz2⟩ := info_parts Try.infoRow
  have hn := ha.1
  have hn200 := hx.2.1
  have HA := Lib.hid ha
  have HB := Lib.hid hb
  have HX := Lib.hid hx
  have HY := Lib.hid hy
  have HC := Lib.hid hcx
  have HL := Lib.hid hLc
  have HE := Lib.hid hE
  have KA : Hid (∀ W, Below w.heap.size w W → Calls Try.prog 110 #[.agg #[.slice A n c], .agg #[.slice B n d]] W fun e w' => e = .returned (.int .i64 0) ∧ Below W.heap.size W w') := Lib.hid fun W h => alike_any A B n n c d x y 0 W ((ha.up h (Nat.le_refl _)).more h.size) ((hb.up h (Nat.le_refl _)).more h.size) (.inr (.inr (.inr ⟨hx, hy, rfl, rfl⟩)))
  clear ha hb hx hy hcx hLc hE
  go_enter Try.func59, Try.ntmps59
  go_wp2_with fail
  refine (KA.out _ (box3 _ _ _ _)).mono ?_
  rintro e w1 ⟨rfl, hb1⟩
  have r0 := low_cell (b := w.heap.size) (o := 0) (v := .slice A n c) hb1 (by simp only [World.size_alloc]; omega) (by go_simp)
  have r1 := low_cell (b := w.heap.size + 1) (o := 0) (v := .slice B n d) hb1 (by simp only [World.size_alloc]; omega) (by go_simp)
  have hB : Below w.heap.size w w1 := (box3 w _ _ _).trans (hb1.mono (by simp only [World.size_alloc]; omega))
  have z0 : w.heap.size + 1 < w1.heap.size := by have := hb1.size; simp only [World.size_alloc] at this; omega
  have r2 : w1.heap[w.heap.size + 1 + 1]? = some (.cells #[.slice none 0 0] 29 (0, 0)) := (hb1.block _ (by simp only [World.size_alloc]; omega)).trans (by have h := heap_alloc_new ((w.alloc (.cells #[.slice A n c] 29)).alloc (.cells #[.slice B n d] 29)) (.cells #[.slice none 0 0] 29); simp only [World.size_alloc] at h; exact h)
  clear hb1
  go_wp2_with fail
  have R0 := Lib.hid r0
  have R1 := Lib.hid r1
  have R2 := Lib.hid r2
  have z2 : w.heap.size + 3 ≤ w1.heap.size := by have := (Array.getElem?_eq_some_iff.1 r2).1; omega
  have HB1 := Lib.hid hB
  clear r0 r1 r2 hB
  go_loopw [7, 8] (fun v i wr => ∃ k : Nat, k ≤ n ∧ i = .int .i64 k ∧ RowsO w Lc k v wr ∧ Below (w.heap.size + 3) w1 wr) (fun _ i _ => n - (intOf i).toNat)
  case atStart => exact ⟨0, Nat.zero_le _, rfl, RowsO.nil _ _ _, Below.refl _ _⟩
  case round =>
    obtain ⟨k, hk, rfl, hv, hBw⟩ := hrel
    obtain ⟨wo, rfl⟩ : ∃ wo : World, wo = wr := ⟨_, rfl⟩
    have HV := Lib.hid hv
    have HBW := Lib.hid hBw
    have HBO : Hid (Below w.heap.size w wo) := Lib.hid (HB1.out.trans (hBw.mono (by omega)))
    have hws := HBO.out.size
    have hwo : w.heap.size + 3 ≤ wo.heap.size := by have := hBw.size; omega
    have r0 := low_cell hBw (by omega) R0.out
    have r1 := low_cell hBw (by omega) R1.out
    clear hv hBw
    have hk0 : (0 : Int) ≤ (k : Int) := by omega
    by_cases hlt : k < n
    · obtain ⟨a, rfl, _, a0, aS⟩ := (HA.out.up HBO.out (Nat.le_refl _)).2 k hlt
      obtain ⟨b, rfl, _, b0, bS⟩ := (HB.out.up HBO.out (Nat.le_refl _)).2 k hlt
      have hki : (k : Int) < (n : Int) := by omega
      obtain ⟨xs, hown, hrows⟩ := HV.out
      have AS := Lib.hid aS
      have BS := Lib.hid (bS.more HBO.out.size)
      clear aS bS
      by_cases tx : x.L k = 0
      · have hk0l : Lc k = [] := by rw [HL.out]; simp [eitL, tx]
        have e3 : Value.slice (x.A k) (x.L k) (x.C k) = .slice (x.A k) 0 (x.C k) := by rw [tx]
        rw [e3] at a0
        clear e3 tx
        go_wp2_with (first | (at_builtin; refine wpList_append_own _ rfl _ _ 27 rfl (w.heap.size + 3) 52 i0 (.slice none 0 0) 1 24 Try.underlying27 hi0 hz0 hz1 hz2 rfl (by decide) _ k _ rfl (hown.alloc _) ⟨wo.heap.size, 0, none⟩ 1 1 [.slice none 0 0] rfl rfl (newv wo _) (by simp [Value.oneCell']) (by skip; unfold maxLen; omega) (by skip; omega) (by simp only [World.size_alloc]; omega) ?_; intro v2 w2 hown2 hg2 _) | fail)
        have hP := RowsO.put hown hrows (by rw [hk0l]; exact RdT.nil _ _) hown2 hg2
        have hB2 := below_grow HBW.out (by omega) hg2 (fun g hg => own_ge hown g hg)
        go_roundw
        case rel => exact ⟨k + 1, by omega, by go_num, hP, hB2⟩
        case measure => simp [intOf]; omega
      · have f1 : (x.L k == 0) = false := by simpa using tx
        have f2 : ((x.L k : Int) == 0) = false := by simpa using tx
        by_cases ty : y.L k = 0
        · have hk0l : Lc k = [] := by rw [HL.out]; simp [eitL, ty]
          have e3 : Value.slice (y.A k) (y.L k) (y.C k) = .slice (y.A k) 0 (y.C k) := by rw [ty]
          rw [e3] at b0
          clear e3 ty
          go_wp2_with (first | (at_builtin; refine wpList_append_own _ rfl _ _ 27 rfl (w.heap.size + 3) 52 i0 (.slice none 0 0) 1 24 Try.underlying27 hi0 hz0 hz1 hz2 rfl (by decide) _ k _ rfl (hown.alloc _) ⟨wo.heap.size, 0, none⟩ 1 1 [.slice none 0 0] rfl rfl (newv wo _) (by simp [Value.oneCell']) (by skip; unfold maxLen; omega) (by skip; omega) (by simp only [World.size_alloc]; omega) ?_; intro v2 w2 hown2 hg2 _) | fail)
          have hP := RowsO.put hown hrows (by rw [hk0l]; exact RdT.nil _ _) hown2 hg2
          have hB2 := below_grow HBW.out (by omega) hg2 (fun g hg => own_ge hown g hg)
          go_roundw
          case rel => exact ⟨k + 1, by omega, by go_num, hP, hB2⟩
          case measure => simp [intOf]; omega
        · have g1 : (y.L k == 0) = false := by simpa using ty
          have g2 : ((y.L k : Int) == 0) = false := by simpa using ty
          have KU : Hid (∀ W, Below wo.heap.size wo W → Calls Try.prog 114 #[.slice (x.A k) (x.L k) (x.C k), .slice (y.A k) (y.L k) (y.C k)] W fun e w' => ∃ A' m' c', e = .returned (.slice A' m' c') ∧ Below wo.heap.size wo w' ∧ Hid (RdT w.heap.size (.slice A' m' c') (Lc k) w')) := Lib.hid fun W hWo => by
            have rx := HX.out.2.2 k hlt
            have ry := HY.out.2.2 k hlt
            refine (union_T _ _ _ _ _ _ _ _ W ⟨by omega, rx.1⟩ ry.1 (HC.out k hlt) w.heap.size (by have := hWo.size; omega) (AS.out.up hWo (by omega)) ((BS.out.up hWo (Nat.le_refl _)).more hWo.size) rx.2 ry.2).mono fun e w' ⟨v, h1, h2, h3⟩ => ?_
            have e0 : putAll (firstK (x.S k) (x.L k)) (firstK (y.S k) (y.L k)) = Lc k := by
              rw [HL.out]
              show _ = eitL (x.S k) (y.S k) (x.L k) (y.L k)
              unfold eitL
              rw [if_neg (by omega), putAll_self rx.2 _ (Nat.le_refl _)]
            rw [e0] at h3
            have h3' := h3
            obtain ⟨⟨A', cap', rfl, _⟩, _⟩ := h3
            exact ⟨A', _, cap', h1, hWo.trans (h2.mono hWo.size), Lib.hid h3'⟩
          clear tx ty
          go_wp2_with fail
          go_region_law (first
            | (go_simp; go_at_call 114; ((with_reducible refine (KU.out _ (by repeat' first | with_reducible exact Below.refl _ _ | with_reducible refine below_drewN ?_ _ | with_reducible refine Below.drew ?_)).mono ?_); rintro e wU ⟨A', m', c', rfl, hbU, HU⟩; have hownU := own_keep2 hown hbU; have hwu := hbU.size))
            | (refine step_append_own rfl (.tmp 42) (.tmp 54) 27 rfl (w.heap.size + 3) 52 i0 (.slice none 0 0) 1 24 Try.underlying27 hi0 hz0 hz1 hz2 rfl (by decide) u7 k _ (by simp [Act.eval]) (hownU.alloc _) ⟨wU.heap.size, 0, none⟩ 1 1 [.slice A' m' c'] (by simp [Act.eval]) rfl (newv wU _) (by simp [Value.oneCell']) (by unfold maxLen; omega) (by omega) (by simp only [World.size_alloc]; omega) ?_; intro v2 w2 hown2 hg2))
          all_goals
            have hP := Lib.hid (RowsO.put hownU (fun c hc => by obtain ⟨z, e, hz⟩ := hrows c hc; exact ⟨z, e, hz.up hbU⟩) HU.out hown2 hg2)
            have hB2 := Lib.hid (below_grow (HBW.out.trans (hbU.mono hwo)) (by omega) hg2 (fun g hg => own_ge hownU g hg))
            clear hown2 hg2 hownU hbU
            go_wp2_with fail
            go_roundw
            case rel => exact ⟨k + 1, by omega, by go_num, hP.out, hB2.out⟩
            case measure => simp [intOf]; omega
    · have hki : (n : Int) ≤ (k : Int) := by omega
      obtain rfl : n = k := by omega
      have b2 : wo.heap[w.heap.size + 1 + 1]? = some (.cells #[.slice none 0 0] 29 (0, 0)) := (HBW.out.block _ (by omega)).trans R2.out
      obtain ⟨A', cap', X, rfl, hX, hXr⟩ := rows_cls HV.out (by omega)
      have hlen : ∀ c, c < n → (Lc c).length ≤ 16 := fun c hc => by
        rw [HL.out]
        unfold eitL
        have h1 := (HX.out.2.2 c hc).1
        have h2 := (HY.out.2.2 c hc).1
        have h3 := putAll_len2 (x.S c) (y.S c) (x.L c) (y.L c)
        simp only
        split <;> simp <;> omega
      have KL : ∀ G : Bool, (G = true ↔ ∀ c, c < n → (Lc c).length ≤ 8) → Hid (Calls Try.prog 112 #[.slice A' n cap'] wo (LimQ A' n cap' G wo)) := fun G hG => Lib.hid (limited_any A' n cap' X G wo hn200 hX (fun i hi => by have := hlen i hi; have := (hXr i hi).1; omega) (hG.trans ⟨fun h i hi => by rw [(hXr i hi).1]; exact h i hi, fun h i hi => by rw [← (hXr i hi).1]; exact h i hi⟩))
      clear hX hXr hlen
      rcases HE.out with ⟨rfl, h8⟩ | ⟨rfl, h8⟩
      · have K := KL true ⟨fun _ => h8, fun _ => rfl⟩
        clear KL h8
        go_wp2_with fail
        refine K.out.mono ?_
        rintro e w2 ⟨rfl, hb2⟩
        have b3 := Lib.hid ((hb2.block _ (by omega)).trans b2)
        have k0 : w2.cell? ⟨w.heap.size + 1 + 1, 0, none⟩ = some (.slice none 0 0) := by simp [World.cell?, b3.out]
        have k1 : w2.frozen? ⟨w.heap.size + 1 + 1, 0, none⟩ = false := by simp [World.frozen?, b3.out]
        have HV2 := Lib.hid (HV.out.up hb2)
        have HB2 := Lib.hid (HBO.out.trans (hb2.mono HBO.out.size))
        have hz2' : w.heap.size + 1 + 1 < w2.heap.size := by have := hb2.size; omega
        clear hb2 b2
        go_wp2_with fail
        have hset := HV2.out.set (b := w.heap.size + 1 + 1) ⟨by omega, by omega⟩ b3.out (by decide) 0 (.slice A' n cap')
        obtain ⟨A2, cap2, X2, e2, hX2, hr2⟩ := rows_cls hset (by omega)
        cases e2
        refine bodyPost_ret (v := .tuple #[.agg #[.slice A' n cap'], .int .i64 0]) ?_ rfl ⟨A', n, cap', rfl, set1 HB2.out (by omega) _ _, .inl ⟨rfl, rfl, X2, hX2, hr2⟩⟩
        simp [results, Try.results59, go_sem, k0]
      · have K := KL false ⟨fun h => (Bool.false_ne_true h).elim, fun h => absurd h h8⟩
        clear KL h8
        go_wp2_with fail
        refine K.out.mono ?_
        rintro e w2 ⟨rfl, hb2⟩
        have b3 := Lib.hid ((hb2.block _ (by omega)).trans b2)
        have k0 : w2.cell? ⟨w.heap.size + 1 + 1, 0, none⟩ = some (.slice none 0 0) := by simp [World.cell?, b3.out]
        have k1 : w2.frozen? ⟨w.heap.size + 1 + 1, 0, none⟩ = false := by simp [World.frozen?, b3.out]
        have HB2 := Lib.hid (HBO.out.trans (hb2.mono HBO.out.size))
        have hz2' : w.heap.size + 1 + 1 < w2.heap.size := by have := hb2.size; omega
        clear hb2 b2
        go_wp2_with fail
        refine bodyPost_ret (v := .tuple #[.agg #[.slice none 0 0], .int .i64 2]) ?_ rfl ⟨none, 0, 0, rfl, set1 HB2.out (by omega) _ _, .inr ⟨by decide, rfl⟩⟩
        simp [results, Try.results59, go_sem, k0]
end Go.Proofs.Ytmeljcbefnojfaa
namespace Go.Proofs.Ytmeljcbefnojfaa
open Go.RowKit
set_option maxRecDepth 100000 in
set_option maxHeartbeats 4000000 in
theorem REither_err (A B : Option Addr) (n m c d : Nat) (x y : Cls) (E : Int) (w : World) (ha : ClsIn A n x w.heap.size w) (hb : ClsIn B m y w.heap.size w) (hE : alkE x y n m E) (he : E ≠ 0) (Lc : Nat → List (Int × Int)) :
    Calls Try.prog 59 #[.agg #[.slice A n c], .agg #[.slice B m d]] w (RowsP w n Lc E) := by
  have KA : Hid (∀ W, Below w.heap.size w W → Calls Try.prog 110 #[.agg #[.slice A n c], .agg #[.slice B m d]] W fun e w' => e = .returned (.int .i64 E) ∧ Below W.heap.size W w') := Lib.hid fun W h => alike_any A B n m c d x y E W ((ha.up h (Nat.le_refl _)).more h.size) ((hb.up h (Nat.le_refl _)).more h.size) hE
  have d1 : (E == 0) = false := by simpa using he
  have d2 : (E != 0) = true := by simpa using he
  have HE := Lib.hid he
  clear ha hb hE he
  go_enter Try.func59, Try.ntmps59
  go_wp2_with fail
  refine (KA.out _ (box3 _ _ _ _)).mono ?_
  rintro e w1 ⟨rfl, hb1⟩
  have r0 := low_cell (b := w.heap.size + 1 + 1) (o := 0) (v := .slice none 0 0) hb1 (by simp only [World.size_alloc]; omega) (by go_simp)
  have r1 := low_frozen (b := w.heap.size + 1 + 1) (o := 0) (v := false) hb1 (by simp only [World.size_alloc]; omega) (by go_simp)
  have hB := Lib.hid ((box3 w _ _ _).trans (hb1.mono (by simp only [World.size_alloc]; omega)))
  clear hb1
  go_wp2_with fail
  refine bodyPost_ret (v := .tuple #[.agg #[.slice none 0 0], .int .i64 E]) ?_ rfl ⟨none, 0, 0, rfl, ?_, .inr ⟨HE.out, rfl⟩⟩
  · simp [results, Try.results59, go_sem, r0]
  · first | exact set1 hB.out (by omega) _ _ | exact hB.out
set_option maxRecDepth 100000 in
set_option maxHeartbeats 4000000 in
theorem RBoth_err (A B : Option Addr) (n m c d : Nat) (x y : Cls) (E : Int) (w : World) (ha : ClsIn A n x w.heap.size w) (hb : ClsIn B m y w.heap.size w) (hE : alkE x y n m E) (he : E ≠ 0) (Lc : Nat → List (Int × Int)) :
    Calls Try.prog 57 #[.agg #[.slice A n c], .agg #[.slice B m d]] w (RowsP w n Lc E) := by
  have KA : Hid (∀ W, Below w.heap.size w W → Calls Try.prog 110 #[.agg #[.slice A n c], .agg #[.slice B m d]] W fun e w' => e = .returned (.int .i64 E) ∧ Below W.heap.size W w') := Lib.hid fun W h => alike_any A B n m c d x y E W ((ha.up h (Nat.le_refl _)).more h.size) ((hb.up h (Nat.le_refl _)).more h.size) hE
  have d1 : (E == 0) = false := by simpa using he
  have d2 : (E != 0) = true := by simpa using he
  have HE := Lib.hid he
  clear ha hb hE he
  go_enter Try.func57, Try.ntmps57
  go_wp2_with fail
  refine (KA.out _ (box3 _ _ _ _)).mono ?_
  rintro e w1 ⟨rfl, hb1⟩
  have r0 := low_cell (b := w.heap.size + 1 + 1) (o := 0) (v := .slice none 0 0) hb1 (by simp only [World.size_alloc]; omega) (by go_simp)
  have r1 := low_frozen (b := w.heap.size + 1 + 1) (o := 0) (v := false) hb1 (by simp only [World.size_alloc]; omega) (by go_simp)
  have hB := Lib.hid ((box3 w _ _ _).trans (hb1.mono (by simp only [World.size_alloc]; omega)))
  clear hb1
  go_wp2_with fail
  refine bodyPost_ret (v := .tuple #[.agg #[.slice none 0 0], .int .i64 E]) ?_ rfl ⟨none, 0, 0, rfl, ?_, .inr ⟨HE.out, rfl⟩⟩
  · simp [results, Try.results57, go_sem, r0]
  · first | exact set1 hB.out (by omega) _ _ | exact hB.out
end Go.Proofs.Ytmeljcbefnojfaa
