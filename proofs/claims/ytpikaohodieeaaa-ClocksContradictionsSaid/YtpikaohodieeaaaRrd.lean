/- The specification's readings: told, ends, Earliest, Latest, Feasible, Span. -/
import Derived.Test.YtpikaohodieeaaaRsp
namespace Go.Proofs.Ytpikaohodieeaaa
open Go.RowKit
set_option linter.unusedSimpArgs false
set_option linter.unusedVariables false
set_option maxRecDepth 100000 in
set_option maxHeartbeats 4000000 in
theorem Rtold_any (d : Drm) (MA : Option Addr) (m mc : Nat) (F : Nat → Int × Int × Int) (E : Int) (S : Nat → Int × Int) (w : World) (hin : DrIn d w.heap.size w) (hm : TrsIn MA m F w.heap.size w) (hE : RdR d m F true E S) :
    Calls Try.prog 91 #[d.v, .slice MA m mc] w fun e w' => ∃ v, e = .returned (.tuple #[v, .int .i64 E]) ∧ RdV d.n E S v w w' := by
  have DD : Hid (∀ W, Below w.heap.size w W → DrIn d W.heap.size W) := Lib.hid fun W h => (hin.up h (Nat.le_refl _)).more h.size
  have MM : Hid (∀ W, Below w.heap.size w W → TrsIn MA m F W.heap.size W) := Lib.hid fun W h => (hm.up h (Nat.le_refl _)).more h.size
  obtain ⟨w1, hw1⟩ : ∃ w1 : World, w1 = w.alloc (drO d) := ⟨_, rfl⟩
  have B1 : Below w.heap.size w w1 := by rw [hw1]; exact box1 _ _
  have P1 : HasDr d w.heap.size w1 := by rw [hw1]; exact dr_new w d
  have D := Lib.hid B1
  have P := Lib.hid P1
  have HW := Lib.hid hw1
  have K1 := Lib.hid fun E (h : ChR d m F E) => Rasked_any d MA m mc F E w1 (DD.out w1 B1) (MM.out w1 B1) h
  clear hin hm B1 P1 hw1
  obtain ⟨x0, x1⟩ := P.out
  rcases hE with ⟨hE, hC⟩ | ⟨hd, hk, hE⟩
  · have hne : ¬ E = 0 := by omega
    have hn1 : (E != 0) = true := by simpa using hne
    have K2 := Lib.hid (K1.out E hC)
    have HNE := Lib.hid hne
    clear hE hne hC
    go_enter Try.func91, Try.ntmps91
    go_wp2_with fail
    rw [← HW.out]
    refine K2.out.mono ?_
    rintro e w2 ⟨rfl, hb2⟩
    have D := Lib.hid (nextB D.out hb2)
    have P := Lib.hid (P.out.up hb2)
    clear hb2 x0 x1
    obtain ⟨x0, x1⟩ := P.out
    go_wp2_with fail
    go_ret2
    exact ⟨_, by simp, D.out, .inl ⟨HNE.out, rfl⟩⟩
  · obtain ⟨R, hR, hRE⟩ : ∃ R : Bool, ((R = true ∧ Ends d.n (Rdg d.n (gapF d) m F) S) ∨ (R = false ∧ ∀ T, ¬ Rdg d.n (gapF d) m F T)) ∧ ((R = true ∧ E = 0) ∨ (R = false ∧ E = 22)) := by
      rcases hE with ⟨h, _⟩ | ⟨_, h, h2⟩ | ⟨_, h, h2⟩
      · cases h
      · exact ⟨false, .inr ⟨rfl, h2⟩, .inr ⟨rfl, h⟩⟩
      · exact ⟨true, .inl ⟨rfl, h2⟩, .inl ⟨rfl, h⟩⟩
    have K2 := Lib.hid (K1.out 0 (.inr (.inr ⟨rfl, hd, hk⟩)))
    have KS := Lib.hid fun W h => Rspans_any d MA m mc F R S W (DD.out W h) (MM.out W h) hd ⟨by have := hk.1; omega, hk.2⟩ hR
    clear hE hd hk hR
    go_enter Try.func91, Try.ntmps91
    go_wp2_with fail
    rw [← HW.out]
    refine K2.out.mono ?_
    rintro e w2 ⟨rfl, hb2⟩
    have D := Lib.hid (nextB D.out hb2)
    have P := Lib.hid (P.out.up hb2)
    clear hb2 x0 x1
    obtain ⟨x0, x1⟩ := P.out
    go_wp2_with fail
    refine (KS.out _ D.out).mono ?_
    rintro e w3 ⟨v, rfl, hb3, hv⟩
    have HB3 := Lib.hid hb3
    have D := Lib.hid (nextB D.out hb3)
    have HSZ := Lib.hid D.out.size
    clear hb3 x0 x1
    have hsz : w.heap.size ≤ w2.heap.size := by have := HW.out; first | exact Nat.le_of_lt P.out.lt | omega
    rcases hRE with ⟨rfl, rfl⟩ | ⟨rfl, rfl⟩
    · rcases hv with ⟨h, _⟩ | ⟨_, t, rfl, ht, hS⟩
      · exact absurd rfl h
      · have HS := Lib.hid hS
        have HT := Lib.hid (Nat.le_trans hsz ht)
        clear hS ht hsz
        go_wp2_with fail
        go_ret2
        exact ⟨_, by simp, D.out, .inr ⟨rfl, t, rfl, HT.out, HS.out⟩⟩
    · rcases hv with ⟨_, rfl⟩ | ⟨h, _⟩
      · clear hsz
        go_wp2_with fail
        go_ret2
        exact ⟨_, by simp, D.out, .inl ⟨by decide, rfl⟩⟩
      · exact absurd h (by decide)
set_option maxRecDepth 100000 in
set_option maxHeartbeats 4000000 in
theorem RFeasible_any (d : Drm) (MA : Option Addr) (m mc : Nat) (F : Nat → Int × Int × Int) (R : Bool) (E : Int) (w : World) (hin : DrIn d w.heap.size w) (hm : TrsIn MA m F w.heap.size w) (hE : FeR d m F R E) :
    Calls Try.prog 34 #[d.v, .slice MA m mc] w fun e w' => e = .returned (.tuple #[.bool R, .int .i64 E]) ∧ Below w.heap.size w w' := by
  have DD : Hid (∀ W, Below w.heap.size w W → DrIn d W.heap.size W) := Lib.hid fun W h => (hin.up h (Nat.le_refl _)).more h.size
  have MM : Hid (∀ W, Below w.heap.size w W → TrsIn MA m F W.heap.size W) := Lib.hid fun W h => (hm.up h (Nat.le_refl _)).more h.size
  obtain ⟨w1, hw1⟩ : ∃ w1 : World, w1 = w.alloc (drO d) := ⟨_, rfl⟩
  have B1 : Below w.heap.size w w1 := by rw [hw1]; exact box1 _ _
  have P1 : HasDr d w.heap.size w1 := by rw [hw1]; exact dr_new w d
  have D := Lib.hid B1
  have P := Lib.hid P1
  have HW := Lib.hid hw1
  have K1 := Lib.hid fun E (h : ChR d m F E) => Rasked_any d MA m mc F E w1 (DD.out w1 B1) (MM.out w1 B1) h
  clear hin hm B1 P1 hw1
  obtain ⟨x0, x1⟩ := P.out
  rcases hE with ⟨hE, rfl, hC⟩ | ⟨rfl, hd, hk, hR⟩
  · have hne : ¬ E = 0 := by omega
    have hn1 : (E != 0) = true := by simpa using hne
    have K2 := Lib.hid (K1.out E hC)
    clear hE hne hC
    go_enter Try.func34, Try.ntmps34
    go_wp2_with fail
    rw [← HW.out]
    refine K2.out.mono ?_
    rintro e w2 ⟨rfl, hb2⟩
    have D := Lib.hid (nextB D.out hb2)
    have P := Lib.hid (P.out.up hb2)
    clear hb2 x0 x1
    obtain ⟨x0, x1⟩ := P.out
    go_wp2_with fail
    go_ret2
    exact ⟨by simp, D.out⟩
  · obtain ⟨S, hS⟩ : ∃ S, (R = true ∧ Ends d.n (Rdg d.n (gapF d) m F) S) ∨ (R = false ∧ ∀ T, ¬ Rdg d.n (gapF d) m F T) := by
      rcases ends_ex (gpOk hd) (mkOk_of hk) with ⟨S, h⟩ | h
      · exact ⟨S, .inl ⟨hR.2 ⟨_, h.lo⟩, h⟩⟩
      · refine ⟨fun _ => (0, 0), .inr ⟨?_, h⟩⟩
        cases R with
        | false => rfl
        | true => obtain ⟨T, hT⟩ := hR.1 rfl; exact absurd hT (h T)
    have K2 := Lib.hid (K1.out 0 (.inr (.inr ⟨rfl, hd, hk⟩)))
    have KS := Lib.hid fun W h => Rspans_any d MA m mc F R S W (DD.out W h) (MM.out W h) hd ⟨by have := hk.1; omega, hk.2⟩ hS
    clear hd hk hR hS
    go_enter Try.func34, Try.ntmps34
    go_wp2_with fail
    rw [← HW.out]
    refine K2.out.mono ?_
    rintro e w2 ⟨rfl, hb2⟩
    have D := Lib.hid (nextB D.out hb2)
    have P := Lib.hid (P.out.up hb2)
    clear hb2 x0 x1
    obtain ⟨x0, x1⟩ := P.out
    go_wp2_with fail
    refine (KS.out _ D.out).mono ?_
    rintro e w3 ⟨v, rfl, hb3, hv⟩
    have D := Lib.hid (nextB D.out hb3)
    obtain ⟨A, q, c, rfl⟩ : ∃ A q c, v = .slice A q c := by
      rcases hv with ⟨_, h⟩ | ⟨_, t, h, _⟩
      · exact ⟨_, _, _, h⟩
      · exact ⟨_, _, _, h⟩
    clear hb3 x0 x1 hv
    go_wp2_with fail
    go_ret2
    exact ⟨by simp, D.out⟩
set_option maxRecDepth 100000 in
set_option maxHeartbeats 2000000 in
theorem Rends_any (A : Option Addr) (n c : Nat) (S : Nat → Int × Int) (late : Bool) (w : World) (hin : SpsIn A n S w.heap.size w) (hn : n ≤ 1000) :
    Calls Try.prog 92 #[.slice A n c, .bool late] w fun e w' => RPost w n (fun i => if late = true then (S i).2 else (S i).1) e w' := by
  have HIN := Lib.hid hin
  clear hin
  obtain ⟨i0, hi0, hz0, hz1, hz2⟩ := info_parts Try.infoInt
  cases late with
  | true =>
    rw [show (fun i => if true = true then (S i).2 else (S i).1) = fun i => (S i).2 from rfl]
    go_enter Try.func92, Try.ntmps92
    go_wp2_with fail
    go_loopw [5, 6] (fun v i wr => ∃ k : Nat, k ≤ n ∧ i = .int .i64 k ∧ RowZ w (upTo (fun i => (S i).2) k) v wr) (fun _ i _ => n - (intOf i).toNat)
    case atStart => exact ⟨0, Nat.zero_le _, rfl, Below.refl _ _, World.ownsRow_nil _ _ _ _⟩
    case round =>
      obtain ⟨k, hk, rfl, hR⟩ := hrel
      obtain ⟨wo, rfl⟩ : ∃ wo : World, wo = wr := ⟨_, rfl⟩
      have hk0 : (0 : Int) ≤ (k : Int) := by omega
      have HR := Lib.hid hR
      have hs := HR.out.below.size
      clear hR
      by_cases hlt : k < n
      · have hki : (k : Int) < (n : Int) := by omega
        obtain ⟨a, rfl, ab, c0, c1⟩ := (HIN.out.up HR.out.below (Nat.le_refl _)).2 k hlt
        have hown := HR.out.own
        rw [upTo_len] at hown
        go_wp2_with (at_builtin; refine wpList_append_own _ rfl _ _ 29 rfl w.heap.size 3 i0 (.int .i64 0) 1 8 Try.underlying29 hi0 hz0 hz1 hz2 rfl (by decide) _ _ _ rfl (hown.alloc _) ⟨wo.heap.size, 0, none⟩ 1 1 [.int .i64 (S k).2] rfl rfl (new1 _ _) (by simp [Value.oneCell']) (by unfold maxLen; omega) (by omega) (by simp only [World.size_alloc]; omega) ?_; intro v8 w8 hown8 hg8 _)
        have h9 : RowZ w (upTo (fun i => (S i).2) k ++ [(S k).2]) v8 w8 := RowZ.app HR.out hg8 (by rw [upTo_len]; exact hown8)
        refine ⟨⟨k + 1, by omega, by go_num, ?_⟩, by simp [intOf]; omega⟩
        rw [upTo_succ]
        exact h9
      · have hki : (n : Int) ≤ (k : Int) := by omega
        obtain rfl : k = n := by omega
        have ho := HR.out.own
        rw [upTo_len] at ho
        obtain ⟨B, d, rfl, hi⟩ := row_upTo ho hn
        have HI := Lib.hid hi
        clear hi ho
        go_wp2_with fail
        go_ret
        exact ⟨_, _, rfl, HI.out, HR.out.below⟩
  | false =>
    rw [show (fun i => if false = true then (S i).2 else (S i).1) = fun i => (S i).1 from rfl]
    go_enter Try.func92, Try.ntmps92
    go_wp2_with fail
    go_loopw [5, 6] (fun v i wr => ∃ k : Nat, k ≤ n ∧ i = .int .i64 k ∧ RowZ w (upTo (fun i => (S i).1) k) v wr) (fun _ i _ => n - (intOf i).toNat)
    case atStart => exact ⟨0, Nat.zero_le _, rfl, Below.refl _ _, World.ownsRow_nil _ _ _ _⟩
    case round =>
      obtain ⟨k, hk, rfl, hR⟩ := hrel
      obtain ⟨wo, rfl⟩ : ∃ wo : World, wo = wr := ⟨_, rfl⟩
      have hk0 : (0 : Int) ≤ (k : Int) := by omega
      have HR := Lib.hid hR
      have hs := HR.out.below.size
      clear hR
      by_cases hlt : k < n
      · have hki : (k : Int) < (n : Int) := by omega
        obtain ⟨a, rfl, ab, c0, c1⟩ := (HIN.out.up HR.out.below (Nat.le_refl _)).2 k hlt
        have hown := HR.out.own
        rw [upTo_len] at hown
        go_wp2_with (at_builtin; refine wpList_append_own _ rfl _ _ 29 rfl w.heap.size 3 i0 (.int .i64 0) 1 8 Try.underlying29 hi0 hz0 hz1 hz2 rfl (by decide) _ _ _ rfl (hown.alloc _) ⟨wo.heap.size, 0, none⟩ 1 1 [.int .i64 (S k).1] rfl rfl (new1 _ _) (by simp [Value.oneCell']) (by unfold maxLen; omega) (by omega) (by simp only [World.size_alloc]; omega) ?_; intro v8 w8 hown8 hg8 _)
        have h9 : RowZ w (upTo (fun i => (S i).1) k ++ [(S k).1]) v8 w8 := RowZ.app HR.out hg8 (by rw [upTo_len]; exact hown8)
        refine ⟨⟨k + 1, by omega, by go_num, ?_⟩, by simp [intOf]; omega⟩
        rw [upTo_succ]
        exact h9
      · have hki : (n : Int) ≤ (k : Int) := by omega
        obtain rfl : k = n := by omega
        have ho := HR.out.own
        rw [upTo_len] at ho
        obtain ⟨B, d, rfl, hi⟩ := row_upTo ho hn
        have HI := Lib.hid hi
        clear hi ho
        go_wp2_with fail
        go_ret
        exact ⟨_, _, rfl, HI.out, HR.out.below⟩
set_option maxRecDepth 100000 in
set_option maxHeartbeats 4000000 in
theorem REarliest_any (d : Drm) (MA : Option Addr) (m mc : Nat) (F : Nat → Int × Int × Int) (E : Int) (S : Nat → Int × Int) (w : World) (hin : DrIn d w.heap.size w) (hm : TrsIn MA m F w.heap.size w) (hE : RdR d m F true E S) :
    Calls Try.prog 38 #[d.v, .slice MA m mc] w fun e w' => IvP w d.n E (fun i => (S i).1) e w' := by
  have DD : Hid (∀ W, Below w.heap.size w W → DrIn d W.heap.size W) := Lib.hid fun W h => (hin.up h (Nat.le_refl _)).more h.size
  have MM : Hid (∀ W, Below w.heap.size w W → TrsIn MA m F W.heap.size W) := Lib.hid fun W h => (hm.up h (Nat.le_refl _)).more h.size
  obtain ⟨w1, hw1⟩ : ∃ w1 : World, w1 = w.alloc (drO d) := ⟨_, rfl⟩
  have B1 : Below w.heap.size w w1 := by rw [hw1]; exact box1 _ _
  have P1 : HasDr d w.heap.size w1 := by rw [hw1]; exact dr_new w d
  have D := Lib.hid B1
  have P := Lib.hid P1
  have HW := Lib.hid hw1
  have K := Lib.hid (Rtold_any d MA m mc F E S w1 (DD.out w1 B1) (MM.out w1 B1) hE)
  have hn : E = 0 → d.n ≤ 200 := fun h => by
    rcases hE with ⟨h1, _⟩ | ⟨h1, _⟩
    · omega
    · have := h1.n2; omega
  obtain ⟨x0, x1⟩ := P1
  clear hin hm B1 hE hw1
  go_enter Try.func38, Try.ntmps38
  go_wp2_with fail
  rw [← HW.out]
  refine K.out.mono ?_
  rintro e w2 ⟨v, rfl, hb2, hv⟩
  have D2 := Lib.hid (nextB D.out hb2)
  clear hb2 x0 x1
  rcases hv with ⟨hne, rfl⟩ | ⟨rfl, t, rfl, ht, hS⟩
  · go_wp2_with fail
    refine (Rends_any none 0 0 S false w2 (sps_nil _ _ _) (by omega)).mono ?_
    rintro e w3 ⟨A, c, rfl, hi, hb3⟩
    have D3 := Lib.hid (nextB D2.out hb3)
    have HI := Lib.hid hi
    clear hi hb3
    go_wp2_with fail
    go_ret2
    exact ⟨A, 0, c, by simp, by rw [if_neg hne], HI.out, D3.out⟩
  · have hn' := hn rfl
    have HS := Lib.hid hS
    clear hS hn
    go_wp2_with fail
    refine (Rends_any (some ⟨t, 0, none⟩) (d.n + 1) (d.n + 1) S false w2 (HS.out.sps (by omega)) (by omega)).mono ?_
    rintro e w3 ⟨A, c, rfl, hi, hb3⟩
    have D3 := Lib.hid (nextB D2.out hb3)
    have HI := Lib.hid hi
    clear hi hb3
    go_wp2_with fail
    go_ret2
    exact ⟨A, d.n + 1, c, by simp, by rw [if_pos rfl], HI.out, D3.out⟩
set_option maxRecDepth 100000 in
set_option maxHeartbeats 4000000 in
theorem RLatest_any (d : Drm) (MA : Option Addr) (m mc : Nat) (F : Nat → Int × Int × Int) (E : Int) (S : Nat → Int × Int) (w : World) (hin : DrIn d w.heap.size w) (hm : TrsIn MA m F w.heap.size w) (hE : RdR d m F true E S) :
    Calls Try.prog 40 #[d.v, .slice MA m mc] w fun e w' => IvP w d.n E (fun i => (S i).2) e w' := by
  have DD : Hid (∀ W, Below w.heap.size w W → DrIn d W.heap.size W) := Lib.hid fun W h => (hin.up h (Nat.le_refl _)).more h.size
  have MM : Hid (∀ W, Below w.heap.size w W → TrsIn MA m F W.heap.size W) := Lib.hid fun W h => (hm.up h (Nat.le_refl _)).more h.size
  obtain ⟨w1, hw1⟩ : ∃ w1 : World, w1 = w.alloc (drO d) := ⟨_, rfl⟩
  have B1 : Below w.heap.size w w1 := by rw [hw1]; exact box1 _ _
  have P1 : HasDr d w.heap.size w1 := by rw [hw1]; exact dr_new w d
  have D := Lib.hid B1
  have P := Lib.hid P1
  have HW := Lib.hid hw1
  have K := Lib.hid (Rtold_any d MA m mc F E S w1 (DD.out w1 B1) (MM.out w1 B1) hE)
  have hn : E = 0 → d.n ≤ 200 := fun h => by
    rcases hE with ⟨h1, _⟩ | ⟨h1, _⟩
    · omega
    · have := h1.n2; omega
  obtain ⟨x0, x1⟩ := P1
  clear hin hm B1 hE hw1
  go_enter Try.func40, Try.ntmps40
  go_wp2_with fail
  rw [← HW.out]
  refine K.out.mono ?_
  rintro e w2 ⟨v, rfl, hb2, hv⟩
  have D2 := Lib.hid (nextB D.out hb2)
  clear hb2 x0 x1
  rcases hv with ⟨hne, rfl⟩ | ⟨rfl, t, rfl, ht, hS⟩
  · go_wp2_with fail
    refine (Rends_any none 0 0 S true w2 (sps_nil _ _ _) (by omega)).mono ?_
    rintro e w3 ⟨A, c, rfl, hi, hb3⟩
    have D3 := Lib.hid (nextB D2.out hb3)
    have HI := Lib.hid hi
    clear hi hb3
    go_wp2_with fail
    go_ret2
    exact ⟨A, 0, c, by simp, by rw [if_neg hne], HI.out, D3.out⟩
  · have hn' := hn rfl
    have HS := Lib.hid hS
    clear hS hn
    go_wp2_with fail
    refine (Rends_any (some ⟨t, 0, none⟩) (d.n + 1) (d.n + 1) S true w2 (HS.out.sps (by omega)) (by omega)).mono ?_
    rintro e w3 ⟨A, c, rfl, hi, hb3⟩
    have D3 := Lib.hid (nextB D2.out hb3)
    have HI := Lib.hid hi
    clear hi hb3
    go_wp2_with fail
    go_ret2
    exact ⟨A, d.n + 1, c, by simp, by rw [if_pos rfl], HI.out, D3.out⟩
/-- the error of a drum, marks and what is asked -/
def CoR (d : Drm) (m : Nat) (F : Nat → Int × Int × Int) (vd : Bool) (E : Int) : Prop := ((E = 20 ∨ E = 21) ∧ ChR d m F E) ∨ (DrOk d ∧ MksOk d m F ∧ ((vd = false ∧ E = 1) ∨ (vd = true ∧ E = 0)))
set_option maxRecDepth 100000 in
set_option maxHeartbeats 4000000 in
theorem Rcolumns_any (d : Drm) (MA : Option Addr) (m mc : Nat) (F : Nat → Int × Int × Int) (a b : Int) (vd : Bool) (E : Int) (w : World) (hin : DrIn d w.heap.size w) (hm : TrsIn MA m F w.heap.size w) (hvd : vd = true ↔ (0 ≤ a ∧ a ≤ d.n) ∧ 0 ≤ b ∧ b ≤ d.n) (hE : CoR d m F vd E) :
    Calls Try.prog 94 #[d.v, .slice MA m mc, .int .i64 a, .int .i64 b] w fun e w' => e = .returned (.int .i64 E) ∧ Below w.heap.size w w' := by
  have DD : Hid (∀ W, Below w.heap.size w W → DrIn d W.heap.size W) := Lib.hid fun W h => (hin.up h (Nat.le_refl _)).more h.size
  have MM : Hid (∀ W, Below w.heap.size w W → TrsIn MA m F W.heap.size W) := Lib.hid fun W h => (hm.up h (Nat.le_refl _)).more h.size
  obtain ⟨w1, hw1⟩ : ∃ w1 : World, w1 = w.alloc (drO d) := ⟨_, rfl⟩
  have B1 : Below w.heap.size w w1 := by rw [hw1]; exact box1 _ _
  have P1 : HasDr d w.heap.size w1 := by rw [hw1]; exact dr_new w d
  have D := Lib.hid B1
  have P := Lib.hid P1
  have HW := Lib.hid hw1
  have hdn := hin.1.1
  have K1 := Lib.hid fun E (h : ChR d m F E) => Rasked_any d MA m mc F E w1 (DD.out w1 B1) (MM.out w1 B1) h
  clear hin hm B1 P1 hw1
  obtain ⟨x0, x1⟩ := P.out
  rcases hE with ⟨hE, hC⟩ | ⟨hd, hk, hE⟩
  · have hne : ¬ E = 0 := by omega
    have hn1 : (E == 0) = false := by simpa using hne
    have K2 := Lib.hid (K1.out E hC)
    clear hE hne hC
    go_enter Try.func94, Try.ntmps94
    go_wp2_with fail
    rw [← HW.out]
    refine K2.out.mono ?_
    rintro e w2 ⟨rfl, hb2⟩
    have D := Lib.hid (nextB D.out hb2)
    have P := Lib.hid (P.out.up hb2)
    clear hb2 x0 x1
    obtain ⟨x0, x1⟩ := P.out
    go_wp2_with fail
    go_ret
    exact ⟨rfl, D.out⟩
  · have K2 := Lib.hid (K1.out 0 (.inr (.inr ⟨rfl, hd, hk⟩)))
    clear hd hk
    by_cases qa : 0 ≤ a ∧ a ≤ d.n
    · have QA := Lib.hid qa
      by_cases qb : 0 ≤ b ∧ b ≤ d.n
      · have QB := Lib.hid qb
        obtain rfl : E = 0 := by
          rcases hE with ⟨h, _⟩ | ⟨_, h⟩
          · rw [hvd.2 ⟨qa, qb⟩] at h; cases h
          · exact h
        clear hE hvd qa qb
        go_enter Try.func94, Try.ntmps94
        go_wp2_with fail
        rw [← HW.out]
        refine K2.out.mono ?_
        rintro e w2 ⟨rfl, hb2⟩
        have D := Lib.hid (nextB D.out hb2)
        have P := Lib.hid (P.out.up hb2)
        clear hb2 x0 x1
        obtain ⟨x0, x1⟩ := P.out
        go_wp2_with fail
        refine (Rwithin_any a 0 (d.n : Int) true w2 (rw_yes QA.out)).mono ?_
        rintro e w9 ⟨rfl, hw9⟩
        rw [hw9]
        clear hw9 w9
        go_wp2_with fail
        refine (Rwithin_any b 0 (d.n : Int) true w2 (rw_yes QB.out)).mono ?_
        rintro e w9 ⟨rfl, hw9⟩
        rw [hw9]
        clear hw9 w9
        go_wp2_with fail
        go_ret
        exact ⟨rfl, D.out⟩
      · have QB := Lib.hid qb
        obtain rfl : E = 1 := by
          rcases hE with ⟨_, h⟩ | ⟨h, _⟩
          · exact h
          · exact absurd (hvd.1 h).2 qb
        clear hE hvd qa qb
        go_enter Try.func94, Try.ntmps94
        go_wp2_with fail
        rw [← HW.out]
        refine K2.out.mono ?_
        rintro e w2 ⟨rfl, hb2⟩
        have D := Lib.hid (nextB D.out hb2)
        have P := Lib.hid (P.out.up hb2)
        clear hb2 x0 x1
        obtain ⟨x0, x1⟩ := P.out
        go_wp2_with fail
        refine (Rwithin_any a 0 (d.n : Int) true w2 (rw_yes QA.out)).mono ?_
        rintro e w9 ⟨rfl, hw9⟩
        rw [hw9]
        clear hw9 w9
        go_wp2_with fail
        refine (Rwithin_any b 0 (d.n : Int) false w2 (rw_no QB.out)).mono ?_
        rintro e w9 ⟨rfl, hw9⟩
        rw [hw9]
        clear hw9 w9
        go_wp2_with fail
        go_ret
        exact ⟨rfl, D.out⟩
    · have QA := Lib.hid qa
      obtain rfl : E = 1 := by
        rcases hE with ⟨_, h⟩ | ⟨h, _⟩
        · exact h
        · exact absurd (hvd.1 h).1 qa
      clear hE hvd qa
      go_enter Try.func94, Try.ntmps94
      go_wp2_with fail
      rw [← HW.out]
      refine K2.out.mono ?_
      rintro e w2 ⟨rfl, hb2⟩
      have D := Lib.hid (nextB D.out hb2)
      have P := Lib.hid (P.out.up hb2)
      clear hb2 x0 x1
      obtain ⟨x0, x1⟩ := P.out
      go_wp2_with fail
      refine (Rwithin_any a 0 (d.n : Int) false w2 (rw_no QA.out)).mono ?_
      rintro e w9 ⟨rfl, hw9⟩
      rw [hw9]
      clear hw9 w9
      go_wp2_with fail
      go_ret
      exact ⟨rfl, D.out⟩
set_option maxRecDepth 100000 in
set_option maxHeartbeats 4000000 in
theorem RSpan_any (d : Drm) (MA : Option Addr) (m mc : Nat) (F : Nat → Int × Int × Int) (x : Int) (vd : Bool) (E : Int) (S : Nat → Int × Int) (w : World) (hin : DrIn d w.heap.size w) (hm : TrsIn MA m F w.heap.size w) (hvd : vd = true ↔ 0 ≤ x ∧ x ≤ d.n) (hE : RdR d m F vd E S) :
    Calls Try.prog 43 #[d.v, .slice MA m mc, .int .i64 x] w fun e w' => e = .returned (.tuple #[Sp (if E = 0 then S x.toNat else (0, 0)), .int .i64 E]) ∧ Below w.heap.size w w' := by
  have DD : Hid (∀ W, Below w.heap.size w W → DrIn d W.heap.size W) := Lib.hid fun W h => (hin.up h (Nat.le_refl _)).more h.size
  have MM : Hid (∀ W, Below w.heap.size w W → TrsIn MA m F W.heap.size W) := Lib.hid fun W h => (hm.up h (Nat.le_refl _)).more h.size
  obtain ⟨w1, hw1⟩ : ∃ w1 : World, w1 = (w.alloc (drO d)).alloc (.cells #[.int .i64 0, .int .i64 0] 31) := ⟨_, rfl⟩
  have B1 : Below w.heap.size w w1 := by rw [hw1]; exact box2 _ _ _
  have P1 : HasDr d w.heap.size w1 := by rw [hw1]; exact (dr_new w d).up (box1 _ _)
  have R1 : Bt (w.heap.size + 1) 0 0 w1 := by
    rw [hw1]
    have := Bt.new (w.alloc (drO d)) 31 0 0
    rw [World.size_alloc] at this
    exact this
  have D := Lib.hid B1
  have P := Lib.hid P1
  have R := Lib.hid R1
  have HW := Lib.hid hw1
  obtain ⟨x0, x1⟩ := P.out
  have K1 := Lib.hid fun E (h : CoR d m F vd E) => Rcolumns_any d MA m mc F x x vd E w1 (DD.out w1 B1) (MM.out w1 B1) (hvd.trans ⟨fun h => ⟨h, h⟩, fun h => h.1⟩) h
  clear hin hm B1 P1 R1 hw1
  by_cases hc : CoR d m F vd 0
  · have K2 := Lib.hid (K1.out 0 hc)
    have hvt : vd = true := by
      rcases hc with ⟨h, _⟩ | ⟨_, _, ⟨_, h⟩ | ⟨h, _⟩⟩
      · omega
      · omega
      · exact h
    have hE2 : RdR d m F true E S := by rw [← hvt]; exact hE
    have hx := hvd.1 hvt
    have hn : E = 0 → d.n ≤ 200 := fun h => by
      rcases hE with ⟨h1, _⟩ | ⟨h1, _⟩
      · omega
      · have := h1.n2; omega
    have HN := Lib.hid hn
    have KT := Lib.hid fun W h => Rtold_any d MA m mc F E S W (DD.out W h) (MM.out W h) hE2
    obtain ⟨k, rfl⟩ : ∃ k : Nat, x = (k : Int) := ⟨x.toNat, by omega⟩
    rw [Int.toNat_natCast]
    have hk0 : (0 : Int) ≤ (k : Int) := by omega
    clear hE hE2 hvd hc hvt hn
    go_enter Try.func43, Try.ntmps43
    go_wp2_with fail
    rw [← HW.out]
    refine K2.out.mono ?_
    rintro e w2 ⟨rfl, hb2⟩
    have D := Lib.hid (nextB D.out hb2)
    have P := Lib.hid (P.out.up hb2)
    have R := Lib.hid (R.out.up hb2)
    clear hb2 x0 x1
    obtain ⟨x0, x1⟩ := P.out
    go_wp2_with fail
    have hz2 := R.out.lt
    refine (KT.out _ D.out).mono ?_
    rintro e w3 ⟨v, rfl, hb3, hv⟩
    have D := Lib.hid (nextB D.out hb3)
    have P := Lib.hid (P.out.up hb3)
    have R := Lib.hid (R.out.up hb3)
    clear hb3 x0 x1
    obtain ⟨x0, x1⟩ := P.out
    rcases hv with ⟨hne, rfl⟩ | ⟨rfl, t, rfl, ht, hS⟩
    · have hn1 : (E != 0) = true := by simpa using hne
      have HNE := Lib.hid hne
      clear hne
      have zR := R.out.lt
      have hset : Below w.heap.size w ((w3.setCell ⟨w.heap.size + 1, 0, none⟩ (.int .i64 (0))).setCell ⟨w.heap.size + 1, 1, none⟩ (.int .i64 (0))) := set1 (set1 D.out (by omega) _ _) (by omega) _ _
      have HF := Lib.hid hset
      have HQ := Lib.hid (R.out.store (0) (0))
      clear hset
      obtain ⟨r0, r1, r2, r3⟩ := R.out
      go_wp2_with fail
      obtain ⟨wf, hwf⟩ : ∃ wf : World, wf = (w3.setCell ⟨w.heap.size + 1, 0, none⟩ (.int .i64 (0))).setCell ⟨w.heap.size + 1, 1, none⟩ (.int .i64 (0)) := ⟨_, rfl⟩
      have HF2 := HF.out
      have hq := HQ.out
      rw [← hwf] at hq HF2 ⊢
      obtain ⟨q0, q1, _, _⟩ := hq
      exact bodyPost_ret (v := .tuple #[Sp (0, 0), .int .i64 (E)]) (by simp [results, Try.results43, go_sem, q0, q1]) rfl ⟨(by first | rfl | rw [if_neg HNE.out]), HF2⟩
    · have hkn : k < d.n + 1 := by omega
      have hki : (k : Int) < (d.n : Int) + 1 := by omega
      have s0 := hS.c0 k hkn
      have s1 := hS.c1 k hkn
      obtain ⟨⟨p, q⟩, hpq⟩ : ∃ g, g = S k := ⟨_, rfl⟩
      rw [← hpq] at s0 s1
      have HPQ := Lib.hid hpq
      simp only at s0 s1
      have hne : t ≠ w.heap.size + 1 := by have := R.out.lt; omega
      clear hS hx hpq
      have zR := R.out.lt
      have hset : Below w.heap.size w ((w3.setCell ⟨w.heap.size + 1, 0, none⟩ (.int .i64 (p))).setCell ⟨w.heap.size + 1, 1, none⟩ (.int .i64 (q))) := set1 (set1 D.out (by omega) _ _) (by omega) _ _
      have HF := Lib.hid hset
      have HQ := Lib.hid (R.out.store (p) (q))
      clear hset
      obtain ⟨r0, r1, r2, r3⟩ := R.out
      go_wp2_with fail
      obtain ⟨wf, hwf⟩ : ∃ wf : World, wf = (w3.setCell ⟨w.heap.size + 1, 0, none⟩ (.int .i64 (p))).setCell ⟨w.heap.size + 1, 1, none⟩ (.int .i64 (q)) := ⟨_, rfl⟩
      have HF2 := HF.out
      have hq := HQ.out
      rw [← hwf] at hq HF2 ⊢
      obtain ⟨q0, q1, _, _⟩ := hq
      exact bodyPost_ret (v := .tuple #[Sp (p, q), .int .i64 (0)]) (by simp [results, Try.results43, go_sem, q0, q1]) rfl ⟨(by first | (rw [if_pos rfl, ← HPQ.out]) | (rw [← HPQ.out]) | simp [← HPQ.out]), HF2⟩
  · obtain ⟨hne, hc1⟩ : ¬ E = 0 ∧ CoR d m F vd E := by
      rcases hE with h | ⟨h1, h2, ⟨h3, h4⟩ | ⟨h3, _⟩ | ⟨h3, _⟩⟩
      · exact ⟨by omega, .inl h⟩
      · exact ⟨by omega, .inr ⟨h1, h2, .inl ⟨h3, h4⟩⟩⟩
      · exact absurd (.inr ⟨h1, h2, .inr ⟨h3, rfl⟩⟩) hc
      · exact absurd (.inr ⟨h1, h2, .inr ⟨h3, rfl⟩⟩) hc
    have K2 := Lib.hid (K1.out E hc1)
    have hn1 : (E != 0) = true := by simpa using hne
    have HNE := Lib.hid hne
    clear hE hvd hc hc1 hne
    go_enter Try.func43, Try.ntmps43
    go_wp2_with fail
    rw [← HW.out]
    refine K2.out.mono ?_
    rintro e w2 ⟨rfl, hb2⟩
    have D := Lib.hid (nextB D.out hb2)
    have P := Lib.hid (P.out.up hb2)
    have R := Lib.hid (R.out.up hb2)
    clear hb2 x0 x1
    obtain ⟨x0, x1⟩ := P.out
    have zR := R.out.lt
    have hset : Below w.heap.size w ((w2.setCell ⟨w.heap.size + 1, 0, none⟩ (.int .i64 (0))).setCell ⟨w.heap.size + 1, 1, none⟩ (.int .i64 (0))) := set1 (set1 D.out (by omega) _ _) (by omega) _ _
    have HF := Lib.hid hset
    have HQ := Lib.hid (R.out.store (0) (0))
    clear hset
    obtain ⟨r0, r1, r2, r3⟩ := R.out
    go_wp2_with fail
    obtain ⟨wf, hwf⟩ : ∃ wf : World, wf = (w2.setCell ⟨w.heap.size + 1, 0, none⟩ (.int .i64 (0))).setCell ⟨w.heap.size + 1, 1, none⟩ (.int .i64 (0)) := ⟨_, rfl⟩
    have HF2 := HF.out
    have hq := HQ.out
    rw [← hwf] at hq HF2 ⊢
    obtain ⟨q0, q1, _, _⟩ := hq
    exact bodyPost_ret (v := .tuple #[Sp (0, 0), .int .i64 (E)]) (by simp [results, Try.results43, go_sem, q0, q1]) rfl ⟨(by first | rfl | rw [if_neg HNE.out]), HF2⟩
end Go.Proofs.Ytpikaohodieeaaa
