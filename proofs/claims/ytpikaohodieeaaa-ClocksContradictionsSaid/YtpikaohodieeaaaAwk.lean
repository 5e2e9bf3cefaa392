/- The document's examples hold: awake returns true. -/
import Derived.Test.YtpikaohodieeaaaSmi
namespace Go.Proofs.Ytpikaohodieeaaa
open Go.RowKit
set_option linter.unusedSimpArgs false
set_option linter.unusedVariables false
theorem sm_rates (w : World) : SpR w.heap.size 3 smG (w.alloc (.cells #[.int .i64 2, .int .i64 3, .int .i64 2, .int .i64 3, .int .i64 1, .int .i64 4] 31)) := by
  refine ⟨by simp, fun i hi => ?_, fun i hi => ?_, fun o => by unfold World.frozen?; rw [World.alloc_heap_new]; simp⟩
  · match i with
    | 0 => go_simp; rfl
    | 1 => go_simp; rfl
    | 2 => go_simp; rfl
  · match i with
    | 0 => go_simp; rfl
    | 1 => go_simp; rfl
    | 2 => go_simp; rfl
theorem sm_stops (w : World) : TrsIn (some ⟨w.heap.size, 0, none⟩) 1 (fun _ => (1, 0, 5)) (w.alloc (.cells #[.int .i64 1, .int .i64 0, .int .i64 5] 34)).heap.size (w.alloc (.cells #[.int .i64 1, .int .i64 0, .int .i64 5] 34)) :=
  trs_one (s := (1, 0, 5)) (tr3_new w (1, 0, 5) _)
theorem sm_marks (w : World) (B : Nat) (h : B ≤ w.heap.size) : (w.alloc (.cells #[.int .i64 0, .int .i64 10, .int .i64 12, .int .i64 3, .int .i64 20, .int .i64 22] 33)).ownsRow B 33 3 (.slice (some ⟨w.heap.size, 0, none⟩) 2 2) 2 (rowT smF 2) :=
  ⟨by rw [rowT_len], .inr ⟨w.heap.size, 2, _, rfl, h, World.alloc_heap_new w _, Nat.le_refl _, by decide, by simp, by rfl⟩⟩
theorem sample_any (w : World) : Calls Try.prog 74 #[] w fun e w' => ∃ a b g : Nat, e = .returned (.tuple #[(smD a b).v, .slice (some ⟨g, 0, none⟩) 2 2]) ∧ DrIn (smD a b) w'.heap.size w' ∧ w'.ownsRow w.heap.size 33 3 (.slice (some ⟨g, 0, none⟩) 2 2) 2 (rowT smF 2) ∧ Below w.heap.size w w' ∧ a ≠ g ∧ b ≠ g := by
  go_enter Try.func74, Try.ntmps74
  go_wp2_with fail
  obtain ⟨w1, h1⟩ : ∃ w1 : World, w1 = w.alloc (drO (smD (w.heap.size + 1) (w.heap.size + 1 + 1))) := ⟨_, rfl⟩
  have s1 : w1.heap.size = w.heap.size + 1 := by rw [h1, World.size_alloc]
  have b1 : Below w.heap.size w w1 := by rw [h1]; exact box1 _ _
  have c1 : w1.cell? ⟨w.heap.size, 0, none⟩ = some (.slice (some ⟨w.heap.size + 1, 0, none⟩) 3 3) ∧ w1.cell? ⟨w.heap.size, 1, none⟩ = some (.slice (some ⟨w.heap.size + 1 + 1, 0, none⟩) 1 1) := by rw [h1]; exact dr_new w (smD (w.heap.size + 1) (w.heap.size + 1 + 1))
  obtain ⟨w2, h2⟩ : ∃ w2 : World, w2 = w1.alloc (.cells #[.int .i64 2, .int .i64 3, .int .i64 2, .int .i64 3, .int .i64 1, .int .i64 4] 31) := ⟨_, rfl⟩
  have s2 : w2.heap.size = w.heap.size + 1 + 1 := by rw [h2, World.size_alloc, s1]
  have b2 : Below w1.heap.size w1 w2 := by rw [h2]; exact box1 _ _
  have r2 := sm_rates w1
  rw [← h2] at r2
  obtain ⟨w3, h3⟩ : ∃ w3 : World, w3 = w2.alloc (.cells #[.int .i64 1, .int .i64 0, .int .i64 5] 34) := ⟨_, rfl⟩
  have s3 : w3.heap.size = w.heap.size + 1 + 1 + 1 := by rw [h3, World.size_alloc, s2]
  have b3 : Below w2.heap.size w2 w3 := by rw [h3]; exact box1 _ _
  have r3 := sm_stops w2
  rw [← h3] at r3
  obtain ⟨w4, h4⟩ : ∃ w4 : World, w4 = w3.alloc (drO (smD (w.heap.size + 1) (w.heap.size + 1 + 1))) := ⟨_, rfl⟩
  have s4 : w4.heap.size = w.heap.size + 1 + 1 + 1 + 1 := by rw [h4, World.size_alloc, s3]
  have b4 : Below w3.heap.size w3 w4 := by rw [h4]; exact box1 _ _
  obtain ⟨w5, h5⟩ : ∃ w5 : World, w5 = w4.alloc (.cells #[.int .i64 0, .int .i64 10, .int .i64 12, .int .i64 3, .int .i64 20, .int .i64 22] 33) := ⟨_, rfl⟩
  have b5 : Below w4.heap.size w4 w5 := by rw [h5]; exact box1 _ _
  have r5 := sm_marks w4 w.heap.size (by omega)
  rw [← h5] at r5
  have hw5 := h5
  rw [h4, h3, h2, h1] at hw5
  simp only [drO, smD] at hw5
  rw [← hw5]
  have b35 := nextB b3 (nextB b4 b5)
  have b15 := nextB b2 b35
  have d0 := low_cell b15 (by omega) c1.1
  have d1 := low_cell b15 (by omega) c1.2
  rw [s1] at r2
  rw [s2] at r3
  rw [s4] at r5
  refine bodyPost_ret (v := .tuple #[(smD (w.heap.size + 1) (w.heap.size + 1 + 1)).v, .slice (some ⟨w.heap.size + 1 + 1 + 1 + 1, 0, none⟩) 2 2]) (by simp [results, Try.results74, go_sem, d0, d1, smD]) rfl ⟨_, _, _, rfl, ⟨?_, ?_⟩, r5, nextB b1 b15, by omega, by omega⟩
  · exact ((r2.up b35).sps (by omega))
  · exact (r3.up (nextB b4 b5) (Nat.le_refl _)).more (nextB b4 b5).size
theorem ex_ear (a b : Nat) (A : Option Addr) (c : Nat) (w : World) (hd : DrIn (smD a b) w.heap.size w) (hm : TrsIn A 2 smF w.heap.size w) :
    Calls Try.prog 37 #[(smD a b).v, .slice A 2 c] w fun e w' => ∃ A q, e = .returned (.tuple #[.slice A 4 q, .int .i64 0]) ∧ IntsIn A 4 (fun i => (smS i).1) w'.heap.size w' ∧ Below w.heap.size w w' := by
  refine (Earliest_any (smD a b) A 2 c smF 0 smS w hd hm (sm_rdr a b)).mono ?_
  rintro e w' ⟨A', q, c', rfl, hq, hi, hb⟩
  obtain rfl : q = 4 := hq
  exact ⟨A', c', rfl, hi, hb⟩
theorem ex_lat (a b : Nat) (A : Option Addr) (c : Nat) (w : World) (hd : DrIn (smD a b) w.heap.size w) (hm : TrsIn A 2 smF w.heap.size w) :
    Calls Try.prog 39 #[(smD a b).v, .slice A 2 c] w fun e w' => ∃ A q, e = .returned (.tuple #[.slice A 4 q, .int .i64 0]) ∧ IntsIn A 4 (fun i => (smS i).2) w'.heap.size w' ∧ Below w.heap.size w w' := by
  refine (Latest_any (smD a b) A 2 c smF 0 smS w hd hm (sm_rdr a b)).mono ?_
  rintro e w' ⟨A', q, c', rfl, hq, hi, hb⟩
  obtain rfl : q = 4 := hq
  exact ⟨A', c', rfl, hi, hb⟩
theorem ex_btw (a b : Nat) (A : Option Addr) (c : Nat) (w : World) (hd : DrIn (smD a b) w.heap.size w) (hm : TrsIn A 2 smF w.heap.size w) :
    Calls Try.prog 46 #[(smD a b).v, .slice A 2 c, .int .i64 1, .int .i64 3] w fun e w' => e = .returned (.tuple #[.agg #[.int .i64 5, .int .i64 10], .int .i64 0]) ∧ Below w.heap.size w w' := by
  refine (Between_any (smD a b) A 2 c smF 1 3 true 0 smS w hd hm ⟨fun _ => ⟨⟨by decide, by show (1 : Int) ≤ (3 : Nat); decide⟩, by decide, by show (3 : Int) ≤ (3 : Nat); decide⟩, fun _ => rfl⟩ (sm_rdr a b)).mono ?_
  rintro e w' ⟨rfl, hb⟩
  have e := sm_aps a b
  refine ⟨?_, hb⟩
  rw [if_pos rfl, show (1 : Int).toNat = 1 from rfl, show (3 : Int).toNat = 3 from rfl, e]
theorem ex_at (a b : Nat) (A : Option Addr) (c : Nat) (w : World) (hd : DrIn (smD a b) w.heap.size w) (hm : TrsIn A 2 smF w.heap.size w) :
    Calls Try.prog 48 #[(smD a b).v, .slice A 2 c, .int .i64 16] w fun e w' => e = .returned (.tuple #[.agg #[.int .i64 1, .int .i64 2], .int .i64 0]) ∧ Below w.heap.size w w' := by
  refine (At_any (smD a b) A 2 c smF 16 true 0 smS w hd hm ⟨fun _ => by decide, fun _ => rfl⟩ (sm_rdr a b)).mono ?_
  rintro e w' ⟨rfl, hb⟩
  refine ⟨?_, hb⟩
  rw [if_pos rfl, show (smD a b).n + 1 = 4 from rfl, sm_at]
theorem ex_run (a b : Nat) (A : Option Addr) (c : Nat) (w : World) (hd : DrIn (smD a b) w.heap.size w) (hm : TrsIn A 2 smF w.heap.size w) :
    Calls Try.prog 50 #[(smD a b).v, .slice A 2 c, .int .i64 12] w fun e w' => ∃ t, e = .returned (.tuple #[.slice (some ⟨t, 0, none⟩) 4 4, .int .i64 0]) ∧ SpR t 4 smS2 w' ∧ Below w.heap.size w w' := by
  refine (Run_any (smD a b) A 2 c smF 12 0 smS2 w hd hm (sm_rwr a b)).mono ?_
  rintro e w' ⟨v, rfl, hb, ⟨h, _⟩ | ⟨_, t, rfl, _, ht⟩⟩
  · exact absurd rfl h
  · exact ⟨t, rfl, ht, hb⟩
theorem ex_dri (a b : Nat) (A : Option Addr) (c : Nat) (w : World) (hd : DrIn (smD a b) w.heap.size w) (hm : TrsIn A 2 smF w.heap.size w) :
    Calls Try.prog 52 #[(smD a b).v, .slice A 2 c, .int .i64 1, .int .i64 3] w fun e w' => e = .returned (.tuple #[.agg #[.int .i64 5, .int .i64 2], .agg #[.int .i64 5, .int .i64 1], .int .i64 0]) ∧ Below w.heap.size w w' := by
  refine (Drift_any (smD a b) A 2 c smF 1 3 true 0 smS w hd hm ⟨fun _ => ⟨⟨⟨by decide, by show (1 : Int) ≤ (3 : Nat); decide⟩, by decide, by show (3 : Int) ≤ (3 : Nat); decide⟩, by decide⟩, fun _ => rfl⟩ (sm_rdr a b)).mono ?_
  rintro e w' ⟨rfl, hb⟩
  have e := sm_aps a b
  refine ⟨?_, hb⟩
  rw [if_pos rfl, if_pos rfl, show (1 : Int).toNat = 1 from rfl, show (3 : Int).toNat = 3 from rfl, e, show ((3 : Int) - 1).toNat = 2 from rfl, sm_rat1, sm_rat2]
theorem lsr_val {B0 : Nat} {w w' : World} {L : List (List Int)} {v : Value} (h : LsR B0 w L v w') (h0 : L ≠ []) : ∃ A c, v = .slice A L.length c := by
  obtain ⟨_, vs, ⟨_, ⟨_, f⟩ | ⟨g, cap, cur, f1, _⟩⟩, _⟩ := h
  · exact absurd (List.length_eq_zero_iff.1 f) h0
  · exact ⟨_, _, f1⟩
theorem ex_pai (a b : Nat) (A : Option Addr) (c : Nat) (w : World) (hd : DrIn (smD a b) w.heap.size w) (hm : TrsIn A 3 smF w.heap.size w) :
    Calls Try.prog 59 #[(smD a b).v, .slice A 3 c] w fun e w' => ∃ A q, e = .returned (.tuple #[.slice A 2 q, .int .i64 0]) ∧ LssIn A [[0, 2], [1, 2]] w' ∧ Below w.heap.size w w' := by
  refine (Pairs_any (smD a b) A 3 c smF _ 0 w hd hm (sm_par a b)).mono ?_
  rintro e w' ⟨v, rfl, h⟩
  obtain ⟨A', q, rfl⟩ := lsr_val h (by simp)
  exact ⟨A', q, rfl, h.lss (by simp) (by simp), h.1⟩
theorem ex_dro (a b : Nat) (A : Option Addr) (c : Nat) (w : World) (hd : DrIn (smD a b) w.heap.size w) (hm : TrsIn A 3 smF w.heap.size w) :
    Calls Try.prog 61 #[(smD a b).v, .slice A 3 c] w fun e w' => ∃ A q, e = .returned (.tuple #[.slice A 1 q, .int .i64 0]) ∧ LssIn A [[2]] w' ∧ Below w.heap.size w w' := by
  refine (Drops_any (smD a b) A 3 c smF _ 0 w hd hm (sm_dpr a b)).mono ?_
  rintro e w' ⟨v, rfl, h⟩
  obtain ⟨A', q, rfl⟩ := lsr_val h (by simp)
  exact ⟨A', q, rfl, h.lss (by simp) (by simp), h.1⟩
theorem same_lit {w w' : World} {A : Option Addr} {c N : Nat} {Z : Nat → Int} {l : List Int} (hN : N = w'.heap.size) (h : IntsIn A l.length Z w.heap.size w) (hl : l.length ≤ 1000) (hb : Below w.heap.size w w') (he : ∀ i, i < l.length → Z i = asZ l i) :
    Calls Try.prog 41 #[.slice A l.length c, .slice (some ⟨N, 0, none⟩) l.length l.length] (w'.alloc (.cells (intsZ l).toArray 3)) fun e w2 => e = .returned (.bool true) ∧ Below w'.heap.size w' w2 := by
  subst hN
  have hb1 := nextB hb (box1 w' (.cells (intsZ l).toArray 3))
  exact (SameInts_any l.length l.length A _ c _ Z (asZ l) true _ ((h.up hb1 (Nat.le_refl _)).more hb1.size) (lit_ints w' l hl) ⟨fun _ => ⟨rfl, he⟩, fun _ => rfl⟩).mono fun _ _ ⟨he, hw⟩ => ⟨he, (box1 _ _).trans (hw.mono (box1 _ _).size)⟩
abbrev li2 (w : World) : World := ((w.alloc (.cells #[.int .i64 0, .int .i64 2] 3)).alloc (.cells #[.int .i64 1, .int .i64 2] 3)).alloc (.cells #[.slice (some ⟨w.heap.size, 0, none⟩) 2 2, .slice (some ⟨w.heap.size + 1, 0, none⟩) 2 2] 29)
theorem lit_lss2 (w : World) : LssIn (some ⟨w.heap.size + 1 + 1, 0, none⟩) [[0, 2], [1, 2]] (li2 w) := by
  refine ⟨by decide, fun i x hx => ?_⟩
  have e1 := lit_ints w [0, 2] (by decide)
  have e2 : IntsIn (some ⟨w.heap.size + 1, 0, none⟩) 2 (asZ [1, 2]) ((w.alloc (.cells #[.int .i64 0, .int .i64 2] 3)).alloc (.cells #[.int .i64 1, .int .i64 2] 3)).heap.size ((w.alloc (.cells #[.int .i64 0, .int .i64 2] 3)).alloc (.cells #[.int .i64 1, .int .i64 2] 3)) := by
    have e := lit_ints (w.alloc (.cells #[.int .i64 0, .int .i64 2] 3)) [1, 2] (by decide)
    rw [show (w.alloc (.cells #[.int .i64 0, .int .i64 2] 3)).heap.size = w.heap.size + 1 from World.size_alloc _ _] at e
    exact e
  have b1 : Below (w.alloc (.cells #[.int .i64 0, .int .i64 2] 3)).heap.size (w.alloc (.cells #[.int .i64 0, .int .i64 2] 3)) (li2 w) := box2 _ _ _
  have b2 : Below ((w.alloc (.cells #[.int .i64 0, .int .i64 2] 3)).alloc (.cells #[.int .i64 1, .int .i64 2] 3)).heap.size ((w.alloc (.cells #[.int .i64 0, .int .i64 2] 3)).alloc (.cells #[.int .i64 1, .int .i64 2] 3)) (li2 w) := box1 _ _
  have hs : (li2 w).heap.size = w.heap.size + 3 := by simp [World.size_alloc]
  match i, hx with
  | 0, hx =>
    simp at hx; subst hx
    exact ⟨_, _, 2, rfl, by simp [World.size_alloc], by go_simp, (e1.up b1 (Nat.le_refl _)).more b1.size⟩
  | 1, hx =>
    simp at hx; subst hx
    exact ⟨_, some ⟨w.heap.size + 1, 0, none⟩, 2, rfl, by simp [World.size_alloc], by go_simp, (e2.up b2 (Nat.le_refl _)).more b2.size⟩
theorem new3 (W : World) (n : Nat) (x y z : Int) (t : TypeId) (hn : n = W.heap.size) : ∀ j u, ([.int .i64 x, .int .i64 y, .int .i64 z] : List Value)[j]? = some u → (W.alloc (.cells #[.int .i64 x, .int .i64 y, .int .i64 z] t)).cell? ((⟨n, 0, none⟩ : Addr).add j) = some u := by
  subst hn
  intro j u hj
  have h := tr3_new W (x, y, z) t
  match j, hj with
  | 0, hj => simp at hj; subst hj; rw [add_zero]; exact h.1
  | 1, hj => simp at hj; subst hj; rw [add_pos _ 1 (by omega)]; exact h.2.1
  | 2, hj => simp at hj; subst hj; rw [add_pos _ 2 (by omega)]; exact h.2.2
theorem same_ls2 {w w' : World} {A : Option Addr} {c : Nat} (h : LssIn A [[0, 2], [1, 2]] w) (hb : Below w.heap.size w w') :
    Calls Try.prog 63 #[.slice A 2 c, .slice (some ⟨w'.heap.size + 1 + 1, 0, none⟩) 2 2] (li2 w') fun e w2 => e = .returned (.bool true) ∧ Below w'.heap.size w' w2 := by
  have hb1 : Below w'.heap.size w' (li2 w') := box3 _ _ _ _
  exact (SameLists_any [[0, 2], [1, 2]] [[0, 2], [1, 2]] A _ c 2 true _ (h.up (nextB hb hb1)) (lit_lss2 w') ⟨fun _ => rfl, fun _ => rfl⟩).mono fun _ _ ⟨he, hw⟩ => ⟨he, nextB hb1 hw⟩
abbrev li1 (w : World) : World := (w.alloc (.cells #[.int .i64 2] 3)).alloc (.cells #[.slice (some ⟨w.heap.size, 0, none⟩) 1 1] 29)
theorem lit_lss1 (w : World) : LssIn (some ⟨w.heap.size + 1, 0, none⟩) [[2]] (li1 w) := by
  refine ⟨by decide, fun i x hx => ?_⟩
  have e1 := lit_ints w [2] (by decide)
  have b1 : Below (w.alloc (.cells #[.int .i64 2] 3)).heap.size (w.alloc (.cells #[.int .i64 2] 3)) (li1 w) := box1 _ _
  match i, hx with
  | 0, hx =>
    simp at hx; subst hx
    exact ⟨_, _, 1, rfl, by simp [World.size_alloc], by go_simp, (e1.up b1 (Nat.le_refl _)).more b1.size⟩
theorem same_ls1 {w w' : World} {A : Option Addr} {c : Nat} (h : LssIn A [[2]] w) (hb : Below w.heap.size w w') :
    Calls Try.prog 63 #[.slice A 1 c, .slice (some ⟨w'.heap.size + 1, 0, none⟩) 1 1] (li1 w') fun e w2 => e = .returned (.bool true) ∧ Below w'.heap.size w' w2 := by
  have hb1 : Below w'.heap.size w' (li1 w') := box2 _ _ _
  exact (SameLists_any [[2]] [[2]] A _ c 1 true _ (h.up (nextB hb hb1)) (lit_lss1 w') ⟨fun _ => rfl, fun _ => rfl⟩).mono fun _ _ ⟨he, hw⟩ => ⟨he, nextB hb1 hw⟩
theorem bad_row {w8 : World} {B : Nat} {v8 : Value} (h : w8.ownsRow B 33 3 v8 (2 + 1) (rowT smF 2 ++ [.int .i64 2, .int .i64 10, .int .i64 13])) : ∃ g c, v8 = .slice (some ⟨g, 0, none⟩) 3 c ∧ TrsIn (some ⟨g, 0, none⟩) 3 smF w8.heap.size w8 := by
  have h2 := h
  obtain ⟨_, ⟨_, f⟩ | ⟨g, cap, cur, f1, _⟩⟩ := h
  · cases f
  · subst f1
    exact ⟨g, cap, rfl, row_trs (n := 3) (F := smF) h2 (by omega)⟩
set_option maxRecDepth 100000 in
set_option maxHeartbeats 4000000 in
theorem awake_any (w : World) : Calls Try.prog 19 #[] w fun e w' => e = .returned (.bool true) ∧ Below w.heap.size w w' := by
  go_enter Try.func19, Try.ntmps19
  go_wp2_with fail
  refine (sample_any _).mono ?_
  rintro e w1 ⟨a, b, g, rfl, hd, hg, hb1, hag, hbg⟩
  have HM := Lib.hid (row_trs hg (by omega))
  have HD := Lib.hid hd
  have HG := Lib.hid hg
  have C1 := Lib.hid hb1
  have HNE := Lib.hid (And.intro hag hbg)
  have dd : Hid (∀ W, Below w1.heap.size w1 W → DrIn (smD a b) W.heap.size W) := Lib.hid fun W h => (HD.out.up h (Nat.le_refl _)).more h.size
  have mm : Hid (∀ W, Below w1.heap.size w1 W → TrsIn (some ⟨g, 0, none⟩) 2 smF W.heap.size W) := Lib.hid fun W h => (HM.out.up h (Nat.le_refl _)).more h.size
  have KE := Lib.hid fun W h => ex_ear a b _ 2 W (dd.out W h) (mm.out W h)
  have KL := Lib.hid fun W h => ex_lat a b _ 2 W (dd.out W h) (mm.out W h)
  have KB := Lib.hid fun W h => ex_btw a b _ 2 W (dd.out W h) (mm.out W h)
  have KA := Lib.hid fun W h => ex_at a b _ 2 W (dd.out W h) (mm.out W h)
  have KR := Lib.hid fun W h => ex_run a b _ 2 W (dd.out W h) (mm.out W h)
  have KD := Lib.hid fun W h => ex_dri a b _ 2 W (dd.out W h) (mm.out W h)
  clear hb1 hd hg hag hbg
  go_wp2_with fail
  refine (KE.out _ (box1 w1 _)).mono ?_
  rintro e w2 ⟨A1, q1, rfl, hi, hb⟩
  have P2 : Hid (HasDr (smD a b) w1.heap.size w2) := Lib.hid ((dr_new w1 (smD a b)).up hb)
  have D2 := Lib.hid (nextB (box1 w1 _) hb)
  have J2 := Lib.hid (nextB (box1 w1 (drO (smD a b))) hb)
  have I1 := Lib.hid hi
  clear hi
  clear hb
  obtain ⟨x0, x1⟩ : w2.cell? ⟨w1.heap.size, 0, none⟩ = some (.slice (some ⟨a, 0, none⟩) 3 3) ∧ w2.cell? ⟨w1.heap.size, 1, none⟩ = some (.slice (some ⟨b, 0, none⟩) 1 1) := P2.out
  have z2 := P2.out.lt
  go_wp2_with fail
  refine (KL.out _ (D2.out)).mono ?_
  rintro e w3 ⟨A2, q2, rfl, hi, hb⟩
  have J3 := Lib.hid (hb)
  have P3 := Lib.hid (P2.out.up J3.out)
  have D3 := Lib.hid (nextB D2.out J3.out)
  have I2 := Lib.hid hi
  clear hi
  clear hb x0 x1
  obtain ⟨x0, x1⟩ : w3.cell? ⟨w1.heap.size, 0, none⟩ = some (.slice (some ⟨a, 0, none⟩) 3 3) ∧ w3.cell? ⟨w1.heap.size, 1, none⟩ = some (.slice (some ⟨b, 0, none⟩) 1 1) := P3.out
  have z3 := P3.out.lt
  go_wp2_with fail
  refine (KB.out _ (D3.out)).mono ?_
  rintro e w4 ⟨rfl, hb⟩
  have J4 := Lib.hid (hb)
  have P4 := Lib.hid (P3.out.up J4.out)
  have D4 := Lib.hid (nextB D3.out J4.out)
  clear hb x0 x1
  obtain ⟨x0, x1⟩ : w4.cell? ⟨w1.heap.size, 0, none⟩ = some (.slice (some ⟨a, 0, none⟩) 3 3) ∧ w4.cell? ⟨w1.heap.size, 1, none⟩ = some (.slice (some ⟨b, 0, none⟩) 1 1) := P4.out
  have z4 := P4.out.lt
  go_wp2_with fail
  refine (KA.out _ (nextB D4.out (box1 w4 _))).mono ?_
  rintro e w5 ⟨rfl, hb⟩
  have J5 := Lib.hid (nextB (box1 w4 _) hb)
  have P5 := Lib.hid (P4.out.up J5.out)
  have D5 := Lib.hid (nextB D4.out J5.out)
  have S7 := Lib.hid ((Bt.new w4 31 5 10).up hb)
  clear hb x0 x1
  obtain ⟨x0, x1⟩ : w5.cell? ⟨w1.heap.size, 0, none⟩ = some (.slice (some ⟨a, 0, none⟩) 3 3) ∧ w5.cell? ⟨w1.heap.size, 1, none⟩ = some (.slice (some ⟨b, 0, none⟩) 1 1) := P5.out
  have z5 := P5.out.lt
  go_wp2_with fail
  refine (KR.out _ (nextB D5.out (box1 w5 _))).mono ?_
  rintro e w6 ⟨t, rfl, hi, hb⟩
  have J6 := Lib.hid (nextB (box1 w5 _) hb)
  have P6 := Lib.hid (P5.out.up J6.out)
  have D6 := Lib.hid (nextB D5.out J6.out)
  have S7 := Lib.hid (S7.out.up J6.out)
  have S9 := Lib.hid ((Bt.new w5 31 1 2).up hb)
  have HT := Lib.hid hi
  clear hi
  clear hb x0 x1
  obtain ⟨x0, x1⟩ : w6.cell? ⟨w1.heap.size, 0, none⟩ = some (.slice (some ⟨a, 0, none⟩) 3 3) ∧ w6.cell? ⟨w1.heap.size, 1, none⟩ = some (.slice (some ⟨b, 0, none⟩) 1 1) := P6.out
  have z6 := P6.out.lt
  go_wp2_with fail
  refine (KD.out _ (D6.out)).mono ?_
  rintro e w7 ⟨rfl, hb⟩
  have J7 := Lib.hid (hb)
  have P7 := Lib.hid (P6.out.up J7.out)
  have D7 := Lib.hid (nextB D6.out J7.out)
  have S7 := Lib.hid (S7.out.up J7.out)
  have S9 := Lib.hid (S9.out.up J7.out)
  clear hb x0 x1
  obtain ⟨x0, x1⟩ : w7.cell? ⟨w1.heap.size, 0, none⟩ = some (.slice (some ⟨a, 0, none⟩) 3 3) ∧ w7.cell? ⟨w1.heap.size, 1, none⟩ = some (.slice (some ⟨b, 0, none⟩) 1 1) := P7.out
  have z7 := P7.out.lt
  obtain ⟨i0, hi0, hz0, hz1, hz2⟩ := info_parts Try.infoMark
  have holds := rowT_at HM.out (a := ⟨g, 0, none⟩) rfl
  have HOLD : Hid (∀ W : World, Below w1.heap.size w1 W → ∀ j u, (rowT smF 2)[j]? = some u → W.cell? ((⟨g, 0, none⟩ : Addr).add j) = some u) := Lib.hid fun W h => rowT_at (mm.out W h) (a := ⟨g, 0, none⟩) rfl
  clear holds
  go_wp2_with (at_builtin; refine wpList_append_grows _ rfl _ _ 26 rfl 33 i0 (.agg #[.int .i64 0, .int .i64 0, .int .i64 0]) 3 24 Try.underlying26 hi0 hz0 hz1 hz2 rfl (by decide) (some ⟨g, 0, none⟩) 2 2 (rowT smF 2) rfl (fun h => by cases h) (rowT_len _ _) (fun b e => by cases e; exact HOLD.out _ (D7.out.trans ((box3 w7 _ _ _).mono D7.out.size))) ⟨w7.heap.size + 1 + 1, 0, none⟩ 1 1 [.int .i64 2, .int .i64 10, .int .i64 13] rfl rfl (new3 _ _ _ _ _ _ (by simp only [World.size_alloc])) (by simp [Value.oneCell']) (by decide) (by decide) (by decide) ?_; intro v8 w8 hown8 hg8; obtain ⟨g8, c8, rfl, hm8⟩ := bad_row hown8; have HM8 := Lib.hid hm8; have J8 := Lib.hid (nextB (box3 w7 _ _ _) ((Below.refl _ _).grown hg8 (Nat.le_refl _) (fun r e => by cases e))); have S13 := Lib.hid ((Bt.new w7 63 5 2).up (nextB (box2 _ _ _) ((Below.refl _ _).grown hg8 (Nat.le_refl _) (fun r e => by cases e)))); have S14 := Lib.hid ((Bt.new (w7.alloc (.cells #[.int .i64 5, .int .i64 2] 63)) 63 5 1).up (nextB (box1 _ _) ((Below.refl _ _).grown hg8 (Nat.le_refl _) (fun r e => by cases e)))); rw [World.size_alloc] at S14; have P8 := Lib.hid (P7.out.up J8.out); have D8 := Lib.hid (nextB D7.out J8.out); clear hown8 hg8 hm8 x0 x1; obtain ⟨x0, x1⟩ : w8.cell? ⟨w1.heap.size, 0, none⟩ = some (.slice (some ⟨a, 0, none⟩) 3 3) ∧ w8.cell? ⟨w1.heap.size, 1, none⟩ = some (.slice (some ⟨b, 0, none⟩) 1 1) := P8.out; have z8 := P8.out.lt)
  have SS7 := Lib.hid (S7.out.up J8.out)
  have SS9 := Lib.hid (S9.out.up J8.out)
  have ddd : Hid (∀ W, Below w8.heap.size w8 W → DrIn (smD a b) W.heap.size W) := Lib.hid fun W h => dd.out W (nextB D8.out h)
  have mmm : Hid (∀ W, Below w8.heap.size w8 W → TrsIn (some ⟨g8, 0, none⟩) 3 smF W.heap.size W) := Lib.hid fun W h => (HM8.out.up h (Nat.le_refl _)).more h.size
  refine (ex_pai a b _ c8 _ (ddd.out _ (Below.refl _ _)) (mmm.out _ (Below.refl _ _))).mono ?_
  rintro e w9 ⟨A9, q9, rfl, hl9, hb⟩
  have J9 := Lib.hid hb
  have P9 := Lib.hid (P8.out.up J9.out)
  have HL9 := Lib.hid hl9
  clear hb hl9 x0 x1
  obtain ⟨x0, x1⟩ : w9.cell? ⟨w1.heap.size, 0, none⟩ = some (.slice (some ⟨a, 0, none⟩) 3 3) ∧ w9.cell? ⟨w1.heap.size, 1, none⟩ = some (.slice (some ⟨b, 0, none⟩) 1 1) := P9.out
  have z9 := P9.out.lt
  go_wp2_with fail
  refine (ex_dro a b _ c8 _ (ddd.out _ J9.out) (mmm.out _ J9.out)).mono ?_
  rintro e w10 ⟨A10, q10, rfl, hl10, hb⟩
  have J10 := Lib.hid hb
  have HL10 := Lib.hid hl10
  clear hb hl10 x0 x1
  go_wp2_with fail
  have J810 := Lib.hid (nextB J9.out J10.out)
  have J210 := Lib.hid (nextB J3.out (nextB J4.out (nextB J5.out (nextB J6.out (nextB J7.out (nextB J8.out J810.out))))))
  refine (same_lit (l := [10, 12, 16, 20]) rfl I1.out (by decide) J210.out (by decide)).mono ?_
  rintro e w11 ⟨rfl, hb⟩
  have J11 := Lib.hid hb
  clear hb
  go_wp2_with fail
  refine (same_lit (l := [12, 15, 21, 22]) rfl I2.out (by decide) (nextB (nextB J4.out (nextB J5.out (nextB J6.out (nextB J7.out (nextB J8.out J810.out))))) J11.out) (by decide)).mono ?_
  rintro e w12 ⟨rfl, hb⟩
  have J12 := Lib.hid hb
  have J812 := Lib.hid (nextB J810.out (nextB J11.out J12.out))
  have y0 := (SS7.out.up J812.out).c0
  have y1 := (SS7.out.up J812.out).c1
  have y2 := (SS9.out.up J812.out).c0
  have y3 := (SS9.out.up J812.out).c1
  have y4 := (S13.out.up J812.out).c0
  have y5 := (S13.out.up J812.out).c1
  have y6 := (S14.out.up J812.out).c0
  have y7 := (S14.out.up J812.out).c1
  have hr := HT.out.up (nextB J7.out (nextB J8.out J812.out))
  have y8 : w12.cell? ⟨t, 4, none⟩ = some (.int .i64 16) := hr.c0 2 (by omega)
  have y9 : w12.cell? ⟨t, 5, none⟩ = some (.int .i64 21) := hr.c1 2 (by omega)
  clear hb hr
  go_wp2_with fail
  refine (same_ls2 HL9.out (nextB J10.out (nextB J11.out J12.out))).mono ?_
  rintro e w13 ⟨rfl, hb⟩
  have J13 := Lib.hid hb
  clear hb
  go_wp2_with fail
  refine (same_ls1 HL10.out (nextB J11.out (nextB J12.out J13.out))).mono ?_
  rintro e w14 ⟨rfl, hb⟩
  have J14 := Lib.hid hb
  clear hb
  go_wp2_with fail
  go_ret
  exact ⟨rfl, nextB C1.out (nextB D8.out (nextB J812.out (nextB J13.out J14.out)))⟩
end Go.Proofs.Ytpikaohodieeaaa
