import Derived.Test.YtmeljcbefnojfaaJoj
import Derived.Test.YtmeljcbefnojfaaPlc
import Derived.Test.YtmeljcbefnojfaaMns
import Derived.Deep.DeepCutAuto
namespace Go.Proofs.Ytmeljcbefnojfaa
open Go.RowKit
def FK (p : Pap) (n lo hi K : Int) : Prop := (hi < lo ∧ K = lo) ∨ (lo ≤ hi ∧ Cut (fun y => n ≤ arcOf p y) lo hi K)
set_option maxHeartbeats 1000000 in
theorem rfirst_any (p : Pap) (lo hi n K : Int) (w : World) (h : p.Ok) (h0 : 0 ≤ lo) (h00 : lo ≤ 1000000000) (h1 : hi ≤ midOf p) (_h11 : -1000000000 ≤ hi) (hK : FK p n lo hi K) :
    Calls Try.prog 147 #[p.v, .int .i64 lo, .int .i64 hi, .int .i64 n] w fun e w' => e = .returned (.int .i64 K) ∧ Below w.heap.size w w' := by
  have hh := h.height
  unfold midOf at h1
  by_cases hlo : hi + 1 < lo
  · obtain rfl : K = lo := by
      rcases hK with ⟨_, e⟩ | ⟨e, _⟩
      · exact e
      · omega
    clear hK
    go_enter Try.func147, Try.ntmps147
    go_wp2_with fail
    go_loopw [1, 2] (fun vl vh wr => vl = .int .i64 K ∧ vh = .int .i64 hi ∧ Below w.heap.size w wr) (fun _ _ _ => 0)
    case atStart => exact ⟨rfl, rfl, box1 _ _⟩
    case round =>
      obtain ⟨rfl, rfl, hB⟩ := hrel
      go_wp2_with fail
      go_ret
      exact ⟨rfl, hB⟩
  · have hKb : lo ≤ K ∧ K ≤ hi + 1 := by
      rcases hK with ⟨_, e⟩ | ⟨_, c⟩
      · omega
      · exact ⟨c.1, c.2.1⟩
    have hKi : ∀ y, lo ≤ y → y ≤ hi → (n ≤ arcOf p y ↔ K ≤ y) := by
      intro y y1 y2
      rcases hK with ⟨_, e⟩ | ⟨_, c⟩
      · omega
      · exact c.2.2 y y1 y2
    have HK := Lib.hid hKi
    have HP := Lib.hid h
    clear hK hKi h
    obtain ⟨k1, k2⟩ := hKb
    go_enter Try.func147, Try.ntmps147
    go_wp2_with fail
    go_loopw [1, 2] (fun vl vh wr => ∃ l r : Int, vl = .int .i64 l ∧ vh = .int .i64 r ∧ (lo ≤ l ∧ r ≤ hi ∧ l ≤ K ∧ K ≤ r + 1) ∧ Below w.heap.size w wr ∧ HasPap p w.heap.size wr) (fun vl vh _ => (intOf vh - intOf vl + 1).toNat)
    case atStart => exact ⟨lo, hi, rfl, rfl, by omega, box1 _ _, by unfold HasPap; go_simp⟩
    case round =>
      obtain ⟨l, r, rfl, rfl, ⟨b1, b2, b3, b4⟩, hB, hP⟩ := hrel
      obtain ⟨wo, rfl⟩ : ∃ wo : World, wo = wr := ⟨_, rfl⟩
      by_cases hlr : l ≤ r
      · have HPP := Lib.hid hP
        obtain ⟨p0, p1, p2, p3, p4, p5, p6, p7, p8, p9⟩ := hP
        go_wp2_with fail
        refine (rarc_any p ((l + r) / 2) _ HP.out (by omega)).mono ?_
        rintro e w1 ⟨rfl, hb⟩
        have hB1 := hB.trans (hb.mono hB.size)
        have hP1 := HPP.out.up hb HPP.out.block
        clear p0 p1 p2 p3 p4 p5 p6 p7 p8 p9 hb
        by_cases hm : n ≤ arcOf p ((l + r) / 2)
        · have d : decide (arcOf p ((l + r) / 2) ≥ n) = true := by simpa using hm
          have g := (HK.out _ (by omega) (by omega)).1 hm
          clear hm
          go_wp2_with fail
          exact ⟨⟨l, (l + r) / 2 - 1, rfl, rfl, by omega, hB1, hP1⟩, by simp [intOf]; omega⟩
        · have d : decide (arcOf p ((l + r) / 2) ≥ n) = false := by simpa using hm
          have g : ¬ K ≤ (l + r) / 2 := fun hh => hm ((HK.out _ (by omega) (by omega)).2 hh)
          clear hm
          go_wp2_with fail
          exact ⟨⟨(l + r) / 2 + 1, r, rfl, rfl, by omega, hB1, hP1⟩, by simp [intOf]; omega⟩
      · obtain rfl : l = K := by omega
        go_wp2_with fail
        go_ret
        exact ⟨rfl, hB⟩
set_option maxHeartbeats 400000 in
theorem turned_any (p : Pap) (lo hi : Int) (w : World) (h : p.Ok) (h0 : -1000000000 ≤ lo ∧ lo ≤ 1000000000) (h1 : -1000000000 ≤ hi ∧ hi ≤ 1000000000) :
    Calls Try.prog 135 #[p.v, .agg #[.int .i64 lo, .int .i64 hi]] w fun e w' => e = .returned (.agg #[.int .i64 (p.height - hi), .int .i64 (p.height - lo)]) ∧ Below w.heap.size w w' := by
  have hh := h.height
  go_enter Try.func135, Try.ntmps135
  go_wp2_with fail
  refine bodyPost_ret (v := .agg #[.int .i64 (p.height - hi), .int .i64 (p.height - lo)]) ?_ rfl ⟨rfl, ?_⟩
  · simp [results, Try.results135, go_sem]
  · exact box3 _ _ _ _
set_option maxHeartbeats 2000000 in
theorem ring_any (p : Pap) (lo hi a b K1 K2 : Int) (w : World) (h : p.Ok) (h0 : 0 ≤ lo) (h00 : lo ≤ 1000000000) (h1 : hi ≤ midOf p) (h11 : -1000000000 ≤ hi) (hb : -1000000000000 ≤ b ∧ b ≤ 1000000000000) (hK1 : FK p a lo hi K1) (hK2 : FK p (b + 1) lo hi K2) :
    Calls Try.prog 134 #[p.v, .agg #[.int .i64 lo, .int .i64 hi], .agg #[.int .i64 a, .int .i64 b]] w fun e w' => e = .returned (.agg #[.int .i64 K1, .int .i64 (K2 - 1)]) ∧ Below w.heap.size w w' := by
  have HL1 := Lib.hid fun w => rfirst_any p lo hi a K1 w h h0 h00 h1 h11 hK1
  have HL2 := Lib.hid fun w => rfirst_any p lo hi (b + 1) K2 w h h0 h00 h1 h11 hK2
  have kb : lo ≤ K2 ∧ (K2 ≤ lo ∨ K2 ≤ hi + 1) := by
    rcases hK2 with ⟨_, e⟩ | ⟨_, c⟩
    · omega
    · exact ⟨c.1, .inr c.2.1⟩
  have hm : midOf p ≤ 400000 := by have := h.height; unfold midOf; omega
  have e1 : IntKind.i64.wrap (b + 1) = b + 1 := IntWalk.i64_in _ (by omega)
  have e2 : IntKind.i64.wrap (K2 - 1) = K2 - 1 := IntWalk.i64_in _ (by omega)
  clear hK1 hK2 h
  have hB := box4 w (.cells #[.int .i64 p.pitch, .int .i64 p.height, .int .i64 p.radius, .int .i64 p.low, .int .i64 p.high, .int .i64 p.cols, .int .i64 p.al, .int .i64 p.ah, .int .i64 p.cl, .int .i64 p.ch] 25) (.cells #[.int .i64 lo, .int .i64 hi] 23) (.cells #[.int .i64 a, .int .i64 b] 23) (.cells #[.int .i64 0, .int .i64 0] 23)
  go_enter Try.func134, Try.ntmps134
  go_wp2_with fail
  go_region_held3 (fun w' => w'.cell? ⟨w.heap.size, 0, none⟩ = some (.int .i64 p.pitch) ∧ w'.cell? ⟨w.heap.size, 1, none⟩ = some (.int .i64 p.height) ∧ w'.cell? ⟨w.heap.size, 2, none⟩ = some (.int .i64 p.radius) ∧ w'.cell? ⟨w.heap.size, 3, none⟩ = some (.int .i64 p.low) ∧ w'.cell? ⟨w.heap.size, 4, none⟩ = some (.int .i64 p.high) ∧ w'.cell? ⟨w.heap.size, 5, none⟩ = some (.int .i64 p.cols) ∧ w'.cell? ⟨w.heap.size, 6, none⟩ = some (.int .i64 p.al) ∧ w'.cell? ⟨w.heap.size, 7, none⟩ = some (.int .i64 p.ah) ∧ w'.cell? ⟨w.heap.size, 8, none⟩ = some (.int .i64 p.cl) ∧ w'.cell? ⟨w.heap.size, 9, none⟩ = some (.int .i64 p.ch) ∧ w'.cell? ⟨w.heap.size + 1, 0, none⟩ = some (.int .i64 (lo)) ∧ w'.cell? ⟨w.heap.size + 1, 1, none⟩ = some (.int .i64 (hi)) ∧ w'.cell? ⟨w.heap.size + 1 + 1, 0, none⟩ = some (.int .i64 (a)) ∧ w'.cell? ⟨w.heap.size + 1 + 1, 1, none⟩ = some (.int .i64 (b)) ∧ w'.cell? ⟨w.heap.size + 1 + 1 + 1, 0, none⟩ = some (cellAt w' (w.heap.size + 1 + 1 + 1) 0) ∧ w'.cell? ⟨w.heap.size + 1 + 1 + 1, 1, none⟩ = some (cellAt w' (w.heap.size + 1 + 1 + 1) 1) ∧ w'.frozen? ⟨w.heap.size + 1 + 1 + 1, 0, none⟩ = false ∧ w'.frozen? ⟨w.heap.size + 1 + 1 + 1, 1, none⟩ = false ∧ Below w.heap.size w w' ∧ w.heap.size + 1 + 1 + 1 + 1 ≤ w'.heap.size)
    (first | (go_split_ands; (repeat' apply And.intro); all_goals first | assumption | (go_simp; done) | (unfold cellAt; go_simp; done) | exact hB.drew | ((try simp only [World.size_drew, World.size_alloc]); omega)) | (go_split_ands; (repeat' apply And.intro); all_goals first | exact cell_up hb (by (try simp only [World.size_drew, World.size_alloc]); omega) (by assumption) | exact frozen_up hb (by (try simp only [World.size_drew, World.size_alloc]); omega) (by assumption) | exact cellAt_ok (cell_up hb (by (try simp only [World.size_drew, World.size_alloc]); omega) (by assumption)) | exact Below.trans (by assumption) (hb.mono (by (try simp only [World.size_drew, World.size_alloc]); omega)) | (have := hb.size; (try simp only [World.size_drew, World.size_alloc] at this); omega)) | (go_split_ands; (repeat' apply And.intro); all_goals first | assumption | exact set1 (set1 (by assumption) (by omega) _ _) (by omega) _ _ | (go_simp; done) | (unfold cellAt; go_simp; done)))
    (first | (go_at_call 147; ((with_reducible refine (HL1.out _).mono ?_); rintro e w1 ⟨rfl, hb⟩)) | (go_at_call 147; ((with_reducible refine (HL2.out _).mono ?_); rintro e w1 ⟨rfl, hb⟩)))
  all_goals
    go_wp2_with fail
    rename_i hS
    obtain ⟨-, -, -, -, -, -, -, -, -, -, -, -, -, -, s0, s1, -, -, hBB, -⟩ := hS
    obtain ⟨t0, t1, -⟩ := two_cells s0 s1
    refine bodyPost_ret (v := .agg #[.int .i64 K1, .int .i64 (K2 - 1)]) ?_ rfl ⟨rfl, hBB⟩
    clear s0 s1
    simp [results, Try.results134, go_sem, t0, t1]
end Go.Proofs.Ytmeljcbefnojfaa
namespace Go.Proofs.Ytmeljcbefnojfaa
open Go.RowKit
theorem new_up {W w1 : World} {b : Nat} (hb : Below W.heap.size W w1) (h0 : W.cell? ⟨b, 0, none⟩ = some (.int .i64 0)) (h1 : W.cell? ⟨b, 1, none⟩ = some (.int .i64 0)) (f0 : W.frozen? ⟨b, 0, none⟩ = false) (f1 : W.frozen? ⟨b, 1, none⟩ = false) :
    w1.cell? ⟨b, 0, none⟩ = some (.int .i64 0) ∧ w1.cell? ⟨b, 1, none⟩ = some (.int .i64 0) ∧ w1.frozen? ⟨b, 0, none⟩ = false ∧ w1.frozen? ⟨b, 1, none⟩ = false := by
  have hl := World.block_lt_of_cell? _ _ h0
  exact ⟨cell_up hb hl h0, cell_up hb hl h1, frozen_up hb hl f0, frozen_up hb hl f1⟩
abbrev Z2 : Obj := .cells #[.int .i64 0, .int .i64 0] 23
theorem new_a {W w1 : World} (hb : Below (W.alloc Z2).heap.size (W.alloc Z2) w1) :
    w1.cell? ⟨W.heap.size, 0, none⟩ = some (.int .i64 0) ∧ w1.cell? ⟨W.heap.size, 1, none⟩ = some (.int .i64 0) ∧ w1.frozen? ⟨W.heap.size, 0, none⟩ = false ∧ w1.frozen? ⟨W.heap.size, 1, none⟩ = false :=
  new_up hb (by go_simp) (by go_simp) (by go_simp) (by go_simp)
theorem new_d {W w1 : World} (hb : Below (W.alloc Z2).drew.heap.size (W.alloc Z2).drew w1) :
    w1.cell? ⟨W.heap.size, 0, none⟩ = some (.int .i64 0) ∧ w1.cell? ⟨W.heap.size, 1, none⟩ = some (.int .i64 0) ∧ w1.frozen? ⟨W.heap.size, 0, none⟩ = false ∧ w1.frozen? ⟨W.heap.size, 1, none⟩ = false :=
  new_up hb (by go_simp) (by go_simp) (by go_simp) (by go_simp)
theorem alloc_other {W : World} {A A2 : Obj} {b o : Nat} {v : Value} (h : (W.alloc A).cell? ⟨b, o, none⟩ = some v) (hl : b < W.heap.size) : (W.alloc A2).cell? ⟨b, o, none⟩ = some v :=
  cell_up (box1 W A2) hl (((box1 W A).cell (p := ⟨b, o, none⟩) hl).symm.trans h)
theorem below_other {B : Nat} {w W : World} {A A2 : Obj} (h : Below B w (W.alloc A)) (hB : B ≤ W.heap.size) (hs : w.heap.size ≤ W.heap.size) : Below B w (W.alloc A2) :=
  { os := h.os, tape := h.tape, output := h.output, size := by simp only [World.size_alloc]; omega, block := fun k hk => by
      rw [(box1 W A2).block k (by omega), ← (box1 W A).block k (by omega)]; exact h.block k hk }
theorem cell_set2 {W : World} {b o b2 : Nat} {v x y : Value} (h : W.cell? ⟨b, o, none⟩ = some v) (hne : b ≠ b2) : ((W.setCell ⟨b2, 0, none⟩ x).setCell ⟨b2, 1, none⟩ y).cell? ⟨b, o, none⟩ = some v :=
  (grown_set _ b2 1 y).cell ((grown_set _ b2 0 x).cell h (by simpa using hne)) (by simpa using hne)
/-- the spans of the upper half, by those of its mirror -/
theorem high_ex {p : Pap} {t : Pt} {c K3 K4 : Int} (_h : p.Ok) (_hlo : 0 ≤ hLo p t) (_hhi : hHi p t ≤ p.height) (e : SC (fun y => arcOf p y ≤ greatOf p t c) (fun y => arcOf p y < leastOf p t c) (max (hLo p t) (midOf p + 1)) (hHi p t) K3 K4) :
    ∃ J1 J2, FK p (leastOf p t c) (p.height - hHi p t) (p.height - max (hLo p t) (midOf p + 1)) J1 ∧ FK p (greatOf p t c + 1) (p.height - hHi p t) (p.height - max (hLo p t) (midOf p + 1)) J2 ∧
      ((K3 ≤ K4 - 1 → p.height - (J2 - 1) = K3 ∧ p.height - J1 = K4 - 1) ∧ (¬ K3 ≤ K4 - 1 → p.height - J1 < p.height - (J2 - 1))) := by
  rcases e with ⟨hh, rfl, rfl⟩ | ⟨hh, ⟨a1, a2, a3⟩, b1, b2, b3⟩
  · exact ⟨p.height - hHi p t, p.height - hHi p t, .inl ⟨by omega, rfl⟩, .inl ⟨by omega, rfl⟩, by omega, by omega⟩
  · refine ⟨p.height - K4 + 1, p.height - K3 + 1, .inr ⟨by omega, by omega, by omega, fun z z1 z2 => ?_⟩, .inr ⟨by omega, by omega, by omega, fun z z1 z2 => ?_⟩, by omega, by omega⟩
    · have g := b3 (p.height - z) (by omega) (by omega)
      simp only [arc_sym] at g
      omega
    · have g := a3 (p.height - z) (by omega) (by omega)
      simp only [arc_sym] at g
      omega
theorem row1_own {w w' : World} {v : Value} {l : List (Int × Int)} {B : Nat} (hl : l ≠ []) (hB : w.heap.size ≤ B) (h : w'.ownsRow B 23 2 v l.length (flatL l)) : Row1 w w' v l := by
  obtain ⟨g, cap, rfl, _, _⟩ := h.form (List.length_pos_iff.2 hl)
  exact row1_of hl (.inr ⟨hl, g, cap, rfl, ownsRow_base hB h⟩)
def RPost (w : World) (l : List (Int × Int)) (e : Ending) (w' : World) : Prop := ∃ v, e = .returned v ∧ Below w.heap.size w w' ∧ Row0 w w' v l
theorem joinL_one {a b c d : Int} (h1 : a ≤ c) (h2 : b ≤ d) (h3 : c ≤ d) : joinL [(a, b)] (c, d) = if c - 1 ≤ b then [(a, d)] else [(a, b), (c, d)] := by
  by_cases h : b + 1 < c
  · simp [joinL, jst, jstep, h, show ¬ d < c by omega, show ¬ c - 1 ≤ b by omega]
  · simp [joinL, jst, jstep, h, show ¬ d < c by omega, show ¬ d + 1 < a by omega, show c - 1 ≤ b by omega, show min c a = a by omega, show max d b = d by omega]
theorem joinL_ne (q x : Int × Int) (h : x.1 ≤ x.2) : joinL [q] x ≠ [] := by
  unfold joinL jst
  rw [if_neg (by omega)]
  simp only [List.foldl_cons, List.foldl_nil, jstep]
  split <;> simp
  split <;> simp
theorem lev_sm {p : Pap} {a b : Int} (h : p.Ok) (ha : 0 ≤ a ∧ a ≤ p.height) (hb : 0 ≤ b ∧ b ≤ p.height) : Sm (lev p a, lev p b) := by
  have g1 := lev_bd h ha
  have g2 := lev_bd h hb
  have := h.low
  exact ⟨by show -1000000000000 ≤ lev p a; omega, by show lev p a ≤ _; omega, by show -1000000000000 ≤ lev p b; omega, by show lev p b ≤ _; omega⟩
theorem join_one (a b c d : Int) (gr cap : Nat) (W : World) (hx : c ≤ d) (h1 : Sm (a, b)) (h2 : Sm (c, d)) (hc : 1 ≤ cap) (hcm : cap ≤ maxLen) (hg : gr < W.heap.size) (u0 : W.cell? ⟨gr, 0, none⟩ = some (.int .i64 a)) (u1 : W.cell? ⟨gr, 1, none⟩ = some (.int .i64 b)) :
    Calls Try.prog 107 #[.slice (some ⟨gr, 0, none⟩) 1 cap, .agg #[.int .i64 c, .int .i64 d]] W (JPost W (joinL [(a, b)] (c, d))) :=
  Join_row [(a, b)] (c, d) gr 0 cap W hx h2 (fun q hq => by rw [List.mem_singleton] at hq; rw [hq]; exact h1) (by simp) hc hcm hg (fun i s hs => by
    match i with
    | 0 => simp at hs; subst hs; exact ⟨by simpa using u0, by simpa using u1⟩
    | i + 1 => simp at hs)
theorem fk_low {p : Pap} {n lo hi K1 K2 g : Int} (e : SC (fun y => n ≤ arcOf p y) (fun y => g < arcOf p y) lo hi K1 K2) : FK p n lo hi K1 ∧ FK p (g + 1) lo hi K2 := by
  rcases e with ⟨hh, rfl, rfl⟩ | ⟨hh, c1, c2⟩
  · exact ⟨.inl ⟨hh, rfl⟩, .inl ⟨hh, rfl⟩⟩
  · exact ⟨.inr ⟨hh, c1⟩, .inr ⟨hh, c2.1, c2.2.1, fun y y1 y2 => by have := c2.2.2 y y1 y2; show g + 1 ≤ _ ↔ _; omega⟩⟩
set_option maxRecDepth 100000 in
set_option maxHeartbeats 8000000 in
theorem rmeans_core (p : Pap) (t : Pt) (c K1 K2 J1 J2 : Int) (l : List (Int × Int)) (w : World) (h : p.Ok) (ht : t.Ok) (hc : 0 ≤ c ∧ c ≤ p.cols - 1)
    (g1 : FK p (leastOf p t c) (hLo p t) (min (hHi p t) (midOf p)) K1) (g2 : FK p (greatOf p t c + 1) (hLo p t) (min (hHi p t) (midOf p)) K2)
    (g3 : FK p (leastOf p t c) (p.height - hHi p t) (p.height - max (hLo p t) (midOf p + 1)) J1) (g4 : FK p (greatOf p t c + 1) (p.height - hHi p t) (p.height - max (hLo p t) (midOf p + 1)) J2)
    (hll : l = if K1 ≤ K2 - 1 then (if p.height - (J2 - 1) ≤ p.height - J1 then joinL [(lev p K1, lev p (K2 - 1))] (lev p (p.height - (J2 - 1)), lev p (p.height - J1)) else [(lev p K1, lev p (K2 - 1))]) else (if p.height - (J2 - 1) ≤ p.height - J1 then [(lev p (p.height - (J2 - 1)), lev p (p.height - J1))] else [])) :
    Calls Try.prog 100 #[p.v, t.v, .int .i64 c] w (RPost w l) := by
  have HLl := Lib.hid hll
  clear hll
  have hpi := h.pitch
  have hco := h.cols
  have hht := h.height
  obtain ⟨al0, al1⟩ : 0 ≤ prLo t.x t.half p.ah ∧ prLo t.x t.half p.ah ≤ 450000 := alongLo_bd h ht
  obtain ⟨ah0, ah1⟩ : 0 ≤ prHi t.x t.half p.al ∧ prHi t.x t.half p.al ≤ 450000 := alongHi_bd h ht
  obtain ⟨hl0, hl1⟩ := acr_le h ht
  obtain ⟨m1, m2⟩ := mul_bd (a := c + 1) (b := p.pitch) (A := 200) (B := 10000) (by omega) (by omega) (by omega) (by omega)
  obtain ⟨m3, m4⟩ := mul_bd (a := c) (b := p.pitch) (A := 200) (B := 10000) (by omega) (by omega) (by omega) (by omega)
  have hhi : hHi p t ≤ p.height := by unfold hHi; omega
  have hhi0 : 0 ≤ hHi p t := by have := acrossHi_bd h ht; have := acrossLo_bd h ht; unfold hHi; omega
  have hmid : midOf p = p.height / 2 := rfl
  have T1 := Lib.hid fun w => turned_any p (max (hLo p t) (p.height / 2 + 1)) (hHi p t) w h (by omega) (by omega)
  have T2 := Lib.hid fun w => ring_any p (p.height - hHi p t) (p.height - max (hLo p t) (p.height / 2 + 1)) (prLo t.x t.half p.ah - (c + 1) * p.pitch + 1) (prHi t.x t.half p.al - c * p.pitch) J1 J2 w h (by omega) (by omega) (by unfold midOf; omega) (by omega) (by omega) g3 g4
  have jb : (-1000000 ≤ J1 ∧ J1 ≤ 1000000) ∧ -1000000 ≤ J2 ∧ J2 ≤ 1000000 := by
    constructor
    · rcases g3 with ⟨_, e⟩ | ⟨_, e1, e2, _⟩ <;> omega
    · rcases g4 with ⟨_, e⟩ | ⟨_, e1, e2, _⟩ <;> omega
  obtain ⟨⟨jb1, jb2⟩, jb3, jb4⟩ := jb
  have kb : 0 ≤ K1 ∧ (K1 ≤ K2 - 1 → K2 - 1 ≤ p.height) := by
    constructor
    · rcases g1 with ⟨_, e⟩ | ⟨_, e1, e2, _⟩ <;> omega
    · intro hk
      rcases g1 with ⟨_, e⟩ | ⟨_, e1, e2, _⟩ <;> rcases g2 with ⟨_, e'⟩ | ⟨_, e1', e2', _⟩ <;> omega
  obtain ⟨kb1, kb2⟩ := kb
  have jh : p.height - (J2 - 1) ≤ p.height - J1 → 0 ≤ p.height - (J2 - 1) ∧ p.height - J1 ≤ p.height := by
    intro hj
    rcases g3 with ⟨_, e⟩ | ⟨_, e1, e2, _⟩ <;> rcases g4 with ⟨_, e'⟩ | ⟨_, e1', e2', _⟩ <;> omega
  have JH := Lib.hid jh
  have KB := Lib.hid kb2
  clear jh kb2
  have T3 := Lib.hid fun w => turned_any p J1 (J2 - 1) w h (by omega) (by omega)
  clear g3 g4
  go_enter Try.func100, Try.ntmps100
  go_wp2_with fail
  refine (places_any t.x t.half p.al p.ah _ ht.x ht.half h.along).mono ?_
  rintro e w1 ⟨rfl, hb1⟩
  have hB1_0 : HasPap (p) (w.heap.size) w1 := HasPap.up (by unfold HasPap; go_simp) hb1 (by (try simp only [World.size_alloc]); omega)
  have hB1_1 : HasPt (t) (w.heap.size + 1) w1 := HasPt.up (by unfold HasPt; go_simp) hb1 (by (try simp only [World.size_alloc]); omega)
  have C1 : Below w.heap.size w w1 := by
    refine Below.trans ?_ (hb1.mono ?_)
    · repeat' (first | with_reducible exact Below.refl _ _ | with_reducible exact Below.refl _ _ | with_reducible refine set1 ?_ (by omega) _ _ | with_reducible refine Below.alloc ?_ (by (try simp only [World.size_alloc]); omega) _ | with_reducible refine below_drewN ?_ _ | with_reducible refine Below.drew ?_)
    · (try simp only [World.size_alloc]); omega
  clear hb1
  unfold HasPap at hB1_0
  obtain ⟨f1_0_0, f1_0_1, f1_0_2, f1_0_3, f1_0_4, f1_0_5, f1_0_6, f1_0_7, f1_0_8, f1_0_9⟩ := hB1_0
  have z1_0 : w.heap.size < w1.heap.size := World.block_lt_of_cell? _ _ f1_0_0
  unfold HasPt at hB1_1
  obtain ⟨f1_1_0, f1_1_1, f1_1_2⟩ := hB1_1
  have z1_1 : w.heap.size + 1 < w1.heap.size := World.block_lt_of_cell? _ _ f1_1_0
  have zz1 := C1.size
  go_wp2_with fail
  refine (rheights_any p t _ h ht).mono ?_
  rintro e w2 ⟨rfl, hb2⟩
  have hB2_0 : HasPap (p) (w.heap.size) w2 := HasPap.up (by unfold HasPap; go_simp) hb2 (by (try simp only [World.size_alloc]); omega)
  have hB2_1 : HasPt (t) (w.heap.size + 1) w2 := HasPt.up (by unfold HasPt; go_simp) hb2 (by (try simp only [World.size_alloc]); omega)
  have hB2_2 : HasSp (prLo t.x t.half p.ah) (prHi t.x t.half p.al) (w1.heap.size) w2 := HasSp.up (by unfold HasSp; go_simp) hb2 (by (try simp only [World.size_alloc]); omega)
  have C2 : Below w.heap.size w w2 := by
    refine Below.trans ?_ (hb2.mono ?_)
    · repeat' (first | with_reducible exact Below.refl _ _ | with_reducible exact C1 | with_reducible refine set1 ?_ (by omega) _ _ | with_reducible refine Below.alloc ?_ (by (try simp only [World.size_alloc, World.size_setCell]); omega) _ | with_reducible refine below_drewN ?_ _ | with_reducible refine Below.drew ?_)
    · (try simp only [World.size_alloc]); omega
  clear f1_0_0 f1_0_1 f1_0_2 f1_0_3 f1_0_4 f1_0_5 f1_0_6 f1_0_7 f1_0_8 f1_0_9 f1_1_0 f1_1_1 f1_1_2 hb2
  unfold HasPap at hB2_0
  obtain ⟨f2_0_0, f2_0_1, f2_0_2, f2_0_3, f2_0_4, f2_0_5, f2_0_6, f2_0_7, f2_0_8, f2_0_9⟩ := hB2_0
  have z2_0 : w.heap.size < w2.heap.size := World.block_lt_of_cell? _ _ f2_0_0
  unfold HasPt at hB2_1
  obtain ⟨f2_1_0, f2_1_1, f2_1_2⟩ := hB2_1
  have z2_1 : w.heap.size + 1 < w2.heap.size := World.block_lt_of_cell? _ _ f2_1_0
  unfold HasSp at hB2_2
  obtain ⟨f2_2_0, f2_2_1⟩ := hB2_2
  have z2_2 : w1.heap.size < w2.heap.size := World.block_lt_of_cell? _ _ f2_2_0
  have zz2 := C2.size
  go_wp2_with fail
  refine (ring_any p (hLo p t) (min (hHi p t) (p.height / 2)) (prLo t.x t.half p.ah - (c + 1) * p.pitch + 1) (prHi t.x t.half p.al - c * p.pitch) K1 K2 _ h hl0 (by omega) (by unfold midOf; omega) (by omega) (by omega) g1 g2).mono ?_
  rintro e w3 ⟨rfl, hb3⟩
  have hB3_0 : HasPap (p) (w.heap.size) w3 := HasPap.up (by unfold HasPap; go_simp) hb3 (by (try simp only [World.size_alloc]); omega)
  have hB3_1 : HasPt (t) (w.heap.size + 1) w3 := HasPt.up (by unfold HasPt; go_simp) hb3 (by (try simp only [World.size_alloc]); omega)
  have hB3_2 : HasSp (prLo t.x t.half p.ah) (prHi t.x t.half p.al) (w1.heap.size) w3 := HasSp.up (by unfold HasSp; go_simp) hb3 (by (try simp only [World.size_alloc]); omega)
  have hB3_3 : HasSp (hLo p t) (hHi p t) (w2.heap.size) w3 := HasSp.up (by unfold HasSp; go_simp) hb3 (by (try simp only [World.size_alloc]); omega)
  have hB3_4 : HasSp (prLo t.x t.half p.ah - (c + 1) * p.pitch + 1) (prHi t.x t.half p.al - c * p.pitch) (w2.heap.size + 1) w3 := HasSp.up (by unfold HasSp; go_simp) hb3 (by (try simp only [World.size_alloc]); omega)
  have C3 : Below w.heap.size w w3 := by
    refine Below.trans ?_ (hb3.mono ?_)
    · repeat' (first | with_reducible exact Below.refl _ _ | with_reducible exact C2 | with_reducible refine set1 ?_ (by omega) _ _ | with_reducible refine Below.alloc ?_ (by (try simp only [World.size_alloc]); omega) _ | with_reducible refine below_drewN ?_ _ | with_reducible refine Below.drew ?_)
    · (try simp only [World.size_alloc]); omega
  clear f2_0_0 f2_0_1 f2_0_2 f2_0_3 f2_0_4 f2_0_5 f2_0_6 f2_0_7 f2_0_8 f2_0_9 f2_1_0 f2_1_1 f2_1_2 f2_2_0 f2_2_1 hb3
  unfold HasPap at hB3_0
  obtain ⟨f3_0_0, f3_0_1, f3_0_2, f3_0_3, f3_0_4, f3_0_5, f3_0_6, f3_0_7, f3_0_8, f3_0_9⟩ := hB3_0
  have z3_0 : w.heap.size < w3.heap.size := World.block_lt_of_cell? _ _ f3_0_0
  unfold HasPt at hB3_1
  obtain ⟨f3_1_0, f3_1_1, f3_1_2⟩ := hB3_1
  have z3_1 : w.heap.size + 1 < w3.heap.size := World.block_lt_of_cell? _ _ f3_1_0
  unfold HasSp at hB3_2
  obtain ⟨f3_2_0, f3_2_1⟩ := hB3_2
  have z3_2 : w1.heap.size < w3.heap.size := World.block_lt_of_cell? _ _ f3_2_0
  unfold HasSp at hB3_3
  obtain ⟨f3_3_0, f3_3_1⟩ := hB3_3
  have z3_3 : w2.heap.size < w3.heap.size := World.block_lt_of_cell? _ _ f3_3_0
  unfold HasSp at hB3_4
  obtain ⟨f3_4_0, f3_4_1⟩ := hB3_4
  have z3_4 : w2.heap.size + 1 < w3.heap.size := World.block_lt_of_cell? _ _ f3_4_0
  have zz3 := C3.size
  go_upto_region 6 with fail
  go_cut [12] (fun s12 wx => ∃ g : Nat, s12 = .pointer (some ⟨g, 0, none⟩) ∧ HasSp (p.height - (J2 - 1)) (p.height - J1) g wx ∧ HasSp K1 (K2 - 1) w3.heap.size wx ∧ HasPap p w.heap.size wx ∧ Below w.heap.size w wx)
  case first =>
    have hB : Below w.heap.size w (w3.alloc (.cells #[.int .i64 K1, .int .i64 (K2 - 1)] 23)) := C3.alloc C3.size _
    have e1 : IntKind.i64.wrap (p.height / 2 + 1) = p.height / 2 + 1 := IntWalk.i64_in _ (by omega)
    go_region_held3 (fun w' => w'.cell? ⟨w.heap.size, 0, none⟩ = some (.int .i64 p.pitch) ∧ w'.cell? ⟨w.heap.size, 1, none⟩ = some (.int .i64 p.height) ∧ w'.cell? ⟨w.heap.size, 2, none⟩ = some (.int .i64 p.radius) ∧ w'.cell? ⟨w.heap.size, 3, none⟩ = some (.int .i64 p.low) ∧ w'.cell? ⟨w.heap.size, 4, none⟩ = some (.int .i64 p.high) ∧ w'.cell? ⟨w.heap.size, 5, none⟩ = some (.int .i64 p.cols) ∧ w'.cell? ⟨w.heap.size, 6, none⟩ = some (.int .i64 p.al) ∧ w'.cell? ⟨w.heap.size, 7, none⟩ = some (.int .i64 p.ah) ∧ w'.cell? ⟨w.heap.size, 8, none⟩ = some (.int .i64 p.cl) ∧ w'.cell? ⟨w.heap.size, 9, none⟩ = some (.int .i64 p.ch) ∧ w'.cell? ⟨w2.heap.size, 0, none⟩ = some (.int .i64 (hLo p t)) ∧ w'.cell? ⟨w2.heap.size, 1, none⟩ = some (.int .i64 (hHi p t)) ∧ w'.cell? ⟨w2.heap.size + 1, 0, none⟩ = some (.int .i64 (prLo t.x t.half p.ah - (c + 1) * p.pitch + 1)) ∧ w'.cell? ⟨w2.heap.size + 1, 1, none⟩ = some (.int .i64 (prHi t.x t.half p.al - c * p.pitch)) ∧ w'.cell? ⟨w3.heap.size, 0, none⟩ = some (.int .i64 (K1)) ∧ w'.cell? ⟨w3.heap.size, 1, none⟩ = some (.int .i64 (K2 - 1)) ∧ Below w.heap.size w w' ∧ w3.heap.size + 1 ≤ w'.heap.size)
    (first
      | (go_split_ands; (repeat' apply And.intro); all_goals first | assumption | (go_simp; done) | exact hB.drew | ((try simp only [World.size_drew, World.size_alloc]); omega))
      | (go_split_ands; (repeat' apply And.intro); all_goals first | exact cell_up hbC (by first | omega | ((try simp only [World.size_alloc]); omega)) (by assumption) | exact Below.trans (by assumption) (hbC.mono (by first | omega | ((try simp only [World.size_alloc]); omega))) | (have := hbC.size; first | omega | ((try simp only [World.size_alloc] at this); omega)))
      | (go_split_ands; (repeat' apply And.intro); all_goals first | exact cell_up hbB (by first | omega | ((try simp only [World.size_alloc]); omega)) (by assumption) | exact Below.trans (by assumption) (hbB.mono (by first | omega | ((try simp only [World.size_drew, World.size_alloc]); omega))) | (have := hbB.size; first | omega | ((try simp only [World.size_alloc] at this); omega)))
      | (go_split_ands; (repeat' apply And.intro); all_goals first | exact cell_up hbA (by first | omega | ((try simp only [World.size_drew, World.size_alloc]); omega)) (by assumption) | exact Below.trans (by assumption) (hbA.mono (by first | omega | ((try simp only [World.size_drew, World.size_alloc, World.size_setCell]); omega))) | (have := hbA.size; first | omega | ((try simp only [World.size_drew, World.size_alloc] at this); omega)))
      | (go_split_ands; (repeat' apply And.intro); all_goals first | exact cell_up (box1 _ _) (by omega) (by assumption) | exact Below.alloc (by assumption) (by omega) _ | ((try simp only [World.size_alloc]); omega))
      | (go_split_ands; (repeat' apply And.intro); all_goals first | exact cell_set2 (by assumption) (by ((try have yA := hbA.size); (try have yB := hbB.size); (try have yC := hbC.size); (try simp only [World.size_drew, World.size_alloc] at yA); (try simp only [World.size_alloc] at yB); (try simp only [World.size_alloc] at yC); (try simp only [World.size_drew, World.size_alloc, World.size_setCell]); omega)) | exact set1 (set1 (by assumption) (by ((try have yA := hbA.size); (try have yB := hbB.size); (try have yC := hbC.size); (try simp only [World.size_drew, World.size_alloc] at yA); (try simp only [World.size_alloc] at yB); (try simp only [World.size_alloc] at yC); (try simp only [World.size_drew, World.size_alloc, World.size_setCell]); omega)) _ _) (by ((try have yA := hbA.size); (try have yB := hbB.size); (try have yC := hbC.size); (try simp only [World.size_drew, World.size_alloc] at yA); (try simp only [World.size_alloc] at yB); (try simp only [World.size_alloc] at yC); (try simp only [World.size_drew, World.size_alloc, World.size_setCell]); omega)) _ _ | ((try have yA := hbA.size); (try have yB := hbB.size); (try have yC := hbC.size); (try simp only [World.size_drew, World.size_alloc] at yA); (try simp only [World.size_alloc] at yB); (try simp only [World.size_alloc] at yC); (try simp only [World.size_setCell]); omega))
      | (go_split_ands; (repeat' apply And.intro); all_goals first | exact alloc_other (by assumption) (by ((try have yA := hbA.size); (try have yB := hbB.size); (try have yC := hbC.size); (try simp only [World.size_drew, World.size_alloc] at yA); (try simp only [World.size_drew, World.size_alloc, World.size_setCell] at yB); (try simp only [World.size_drew, World.size_alloc, World.size_setCell] at yC); (try simp only [World.size_drew, World.size_alloc, World.size_setCell]); omega)) | exact below_other (by assumption) (by ((try have yA := hbA.size); (try have yB := hbB.size); (try have yC := hbC.size); (try simp only [World.size_drew, World.size_alloc] at yA); (try simp only [World.size_drew, World.size_alloc, World.size_setCell] at yB); (try simp only [World.size_drew, World.size_alloc, World.size_setCell] at yC); (try simp only [World.size_drew, World.size_alloc, World.size_setCell]); omega)) (by ((try have yA := hbA.size); (try have yB := hbB.size); (try have yC := hbC.size); (try simp only [World.size_drew, World.size_alloc] at yA); (try simp only [World.size_drew, World.size_alloc, World.size_setCell] at yB); (try simp only [World.size_drew, World.size_alloc, World.size_setCell] at yC); (try simp only [World.size_drew, World.size_alloc, World.size_setCell]); omega)) | ((try have yA := hbA.size); (try have yB := hbB.size); (try have yC := hbC.size); (try simp only [World.size_drew, World.size_alloc] at yA); (try simp only [World.size_drew, World.size_alloc, World.size_setCell] at yB); (try simp only [World.size_drew, World.size_alloc, World.size_setCell] at yC); (try simp only [World.size_alloc]); omega))
      | (go_split_ands; (repeat' apply And.intro); all_goals first | assumption | (go_simp; done) | exact cell_up hbC (by first | omega | ((try simp only [World.size_drew, World.size_alloc, World.size_setCell]); omega)) (by assumption) | exact cell_up hbB (by first | omega | ((try simp only [World.size_drew, World.size_alloc, World.size_setCell]); omega)) (by assumption) | exact cell_up hbA (by first | omega | ((try simp only [World.size_drew, World.size_alloc, World.size_setCell]); omega)) (by assumption) | exact cell_up (box1 _ _) (by ((try have yA := hbA.size); (try have yB := hbB.size); (try have yC := hbC.size); (try simp only [World.size_drew, World.size_alloc, World.size_setCell] at yA); (try simp only [World.size_drew, World.size_alloc, World.size_setCell] at yB); (try simp only [World.size_drew, World.size_alloc, World.size_setCell] at yC); (try simp only [World.size_drew, World.size_alloc, World.size_setCell]); omega)) (by assumption) | exact cell_set2 (by assumption) (by ((try have yA := hbA.size); (try have yB := hbB.size); (try have yC := hbC.size); (try simp only [World.size_drew, World.size_alloc, World.size_setCell] at yA); (try simp only [World.size_drew, World.size_alloc, World.size_setCell] at yB); (try simp only [World.size_drew, World.size_alloc, World.size_setCell] at yC); (try simp only [World.size_drew, World.size_alloc, World.size_setCell]); omega)) | exact alloc_other (by assumption) (by ((try have yA := hbA.size); (try have yB := hbB.size); (try have yC := hbC.size); (try simp only [World.size_drew, World.size_alloc, World.size_setCell] at yA); (try simp only [World.size_drew, World.size_alloc, World.size_setCell] at yB); (try simp only [World.size_drew, World.size_alloc, World.size_setCell] at yC); (try simp only [World.size_drew, World.size_alloc, World.size_setCell]); omega)) | exact hB.drew | exact Below.alloc hB.drew (by ((try have yA := hbA.size); (try have yB := hbB.size); (try have yC := hbC.size); (try simp only [World.size_drew, World.size_alloc, World.size_setCell] at yA); (try simp only [World.size_drew, World.size_alloc, World.size_setCell] at yB); (try simp only [World.size_drew, World.size_alloc, World.size_setCell] at yC); (try simp only [World.size_drew, World.size_alloc]); omega)) _ | exact Below.alloc (by assumption) (by ((try have yA := hbA.size); (try have yB := hbB.size); (try have yC := hbC.size); (try simp only [World.size_drew, World.size_alloc, World.size_setCell] at yA); (try simp only [World.size_drew, World.size_alloc, World.size_setCell] at yB); (try simp only [World.size_drew, World.size_alloc, World.size_setCell] at yC); (try simp only [World.size_drew, World.size_alloc, World.size_setCell]); omega)) _ | exact set1 (set1 (by assumption) (by ((try have yA := hbA.size); (try have yB := hbB.size); (try have yC := hbC.size); (try simp only [World.size_drew, World.size_alloc, World.size_setCell] at yA); (try simp only [World.size_drew, World.size_alloc, World.size_setCell] at yB); (try simp only [World.size_drew, World.size_alloc, World.size_setCell] at yC); (try simp only [World.size_drew, World.size_alloc, World.size_setCell]); omega)) _ _) (by ((try have yA := hbA.size); (try have yB := hbB.size); (try have yC := hbC.size); (try simp only [World.size_drew, World.size_alloc, World.size_setCell] at yA); (try simp only [World.size_drew, World.size_alloc, World.size_setCell] at yB); (try simp only [World.size_drew, World.size_alloc, World.size_setCell] at yC); (try simp only [World.size_drew, World.size_alloc, World.size_setCell]); omega)) _ _ | exact below_other (by assumption) (by ((try have yA := hbA.size); (try have yB := hbB.size); (try have yC := hbC.size); (try simp only [World.size_drew, World.size_alloc, World.size_setCell] at yA); (try simp only [World.size_drew, World.size_alloc, World.size_setCell] at yB); (try simp only [World.size_drew, World.size_alloc, World.size_setCell] at yC); (try simp only [World.size_drew, World.size_alloc, World.size_setCell]); omega)) (by ((try have yA := hbA.size); (try have yB := hbB.size); (try have yC := hbC.size); (try simp only [World.size_drew, World.size_alloc, World.size_setCell] at yA); (try simp only [World.size_drew, World.size_alloc, World.size_setCell] at yB); (try simp only [World.size_drew, World.size_alloc, World.size_setCell] at yC); (try simp only [World.size_drew, World.size_alloc, World.size_setCell]); omega)) | ((try have yA := hbA.size); (try have yB := hbB.size); (try have yC := hbC.size); (try simp only [World.size_drew, World.size_alloc, World.size_setCell] at yA); (try simp only [World.size_drew, World.size_alloc, World.size_setCell] at yB); (try simp only [World.size_drew, World.size_alloc, World.size_setCell] at yC); (try simp only [World.size_drew, World.size_alloc, World.size_setCell]); omega)))
      (first | (go_at_call 135; ((with_reducible refine (T1.out _).mono ?_); rintro e w4 ⟨rfl, hbA⟩; (try (have hN := new_up hbA n0 n1 n2 n3; clear n0 n1 n2 n3; obtain ⟨n0, n1, n2, n3⟩ := hN)); (try (have hN := new_a hbA; (try simp only [World.size_alloc, World.size_drew] at hN); obtain ⟨n0, n1, n2, n3⟩ := hN)); (try (have hN := new_d hbA; (try simp only [World.size_alloc] at hN); obtain ⟨n0, n1, n2, n3⟩ := hN)))) | (go_at_call 134; ((with_reducible refine (T2.out _).mono ?_); rintro e w5 ⟨rfl, hbB⟩; (try (have hN := new_up hbB n0 n1 n2 n3; clear n0 n1 n2 n3; obtain ⟨n0, n1, n2, n3⟩ := hN)); (try (have hN := new_a hbB; (try simp only [World.size_alloc, World.size_drew] at hN); obtain ⟨n0, n1, n2, n3⟩ := hN)); (try (have hN := new_d hbB; (try simp only [World.size_alloc, World.size_drew] at hN); obtain ⟨n0, n1, n2, n3⟩ := hN)))) | (go_at_call 135; ((with_reducible refine (T3.out _).mono ?_); rintro e w6 ⟨rfl, hbC⟩; (try (have hN := new_up hbC n0 n1 n2 n3; clear n0 n1 n2 n3; obtain ⟨n0, n1, n2, n3⟩ := hN)); (try (have hN := new_a hbC; (try simp only [World.size_alloc, World.size_drew] at hN); obtain ⟨n0, n1, n2, n3⟩ := hN)); (try (have hN := new_d hbC; (try simp only [World.size_alloc, World.size_drew] at hN); obtain ⟨n0, n1, n2, n3⟩ := hN)))))
    all_goals
      go_wp2_with fail
      go_meet
      rename_i hS
      obtain ⟨p0, p1, p2, p3, p4, p5, p6, p7, p8, p9, y0, y1, a0, a1, l0, l1, hBB, hzz⟩ := hS
      refine ⟨_, rfl, ?_, ⟨l0, l1⟩, ⟨p0, p1, p2, p3, p4, p5, p6, p7, p8, p9⟩, hBB⟩
      unfold HasSp
      exact ⟨by go_simp, by go_simp⟩
  case rest =>
    obtain ⟨g, rfl, hH, hL, hP, hB⟩ := hcut
    have hl : w3.heap.size < wc.heap.size := World.block_lt_of_cell? _ _ hL.1
    unfold HasSp at hL
    obtain ⟨l0, l1⟩ := hL
    have hg : g < wc.heap.size := World.block_lt_of_cell? _ _ hH.1
    have hpp : w.heap.size < wc.heap.size := hP.block
    unfold HasSp at hH
    obtain ⟨q0, q1⟩ := hH
    obtain ⟨p0, p1, p2, p3, p4, p5, p6, p7, p8, p9⟩ := hP
    by_cases hlow : K1 ≤ K2 - 1
    · have kb2 := KB.out hlow
      have V1 := Lib.hid fun w => rlevel_any p K1 w h (by omega)
      have V2 := Lib.hid fun w => rlevel_any p (K2 - 1) w h (by omega)
      have VJ := Lib.hid fun w => Join_nil (lev p K1, lev p (K2 - 1)) w (lev_mono h hlow)
      have hle := HLl.out
      rw [if_pos hlow] at hle
      have HLl := Lib.hid hle
      clear hle
      go_upto_region 9 with fail
      go_cut [13] (fun v wx => Row1 w wx v [(lev p K1, lev p (K2 - 1))] ∧ HasSp (p.height - (J2 - 1)) (p.height - J1) g wx ∧ HasPap p w.heap.size wx ∧ Below w.heap.size w wx)
      case first =>
        go_region_held3 (fun w' => w'.cell? ⟨w.heap.size, 0, none⟩ = some (.int .i64 p.pitch) ∧ w'.cell? ⟨w.heap.size, 1, none⟩ = some (.int .i64 p.height) ∧ w'.cell? ⟨w.heap.size, 2, none⟩ = some (.int .i64 p.radius) ∧ w'.cell? ⟨w.heap.size, 3, none⟩ = some (.int .i64 p.low) ∧ w'.cell? ⟨w.heap.size, 4, none⟩ = some (.int .i64 p.high) ∧ w'.cell? ⟨w.heap.size, 5, none⟩ = some (.int .i64 p.cols) ∧ w'.cell? ⟨w.heap.size, 6, none⟩ = some (.int .i64 p.al) ∧ w'.cell? ⟨w.heap.size, 7, none⟩ = some (.int .i64 p.ah) ∧ w'.cell? ⟨w.heap.size, 8, none⟩ = some (.int .i64 p.cl) ∧ w'.cell? ⟨w.heap.size, 9, none⟩ = some (.int .i64 p.ch) ∧ w'.cell? ⟨w3.heap.size, 0, none⟩ = some (.int .i64 (K1)) ∧ w'.cell? ⟨w3.heap.size, 1, none⟩ = some (.int .i64 (K2 - 1)) ∧ w'.cell? ⟨g, 0, none⟩ = some (.int .i64 (p.height - (J2 - 1))) ∧ w'.cell? ⟨g, 1, none⟩ = some (.int .i64 (p.height - J1)) ∧ Below w.heap.size w w' ∧ wc.heap.size ≤ w'.heap.size)
        (first
      | (go_split_ands; (repeat' apply And.intro); all_goals first | assumption | (go_simp; done) | exact hB.drew | ((try simp only [World.size_drew, World.size_alloc]); omega))
      | (go_split_ands; (repeat' apply And.intro); all_goals first | exact cell_up hbC (by first | omega | ((try simp only [World.size_drew, World.size_alloc, World.size_setCell]); omega)) (by assumption) | exact Below.trans (by assumption) (hbC.mono (by first | omega | ((try simp only [World.size_drew, World.size_alloc, World.size_setCell]); omega))) | (have := hbC.size; first | omega | ((try simp only [World.size_drew, World.size_alloc] at this); omega)))
      | (go_split_ands; (repeat' apply And.intro); all_goals first | exact cell_up hbB (by first | omega | ((try simp only [World.size_drew, World.size_alloc, World.size_setCell]); omega)) (by assumption) | exact Below.trans (by assumption) (hbB.mono (by first | omega | ((try simp only [World.size_drew, World.size_alloc, World.size_setCell]); omega))) | (have := hbB.size; first | omega | ((try simp only [World.size_drew, World.size_alloc] at this); omega)))
      | (go_split_ands; (repeat' apply And.intro); all_goals first | exact cell_up hbA (by first | omega | ((try simp only [World.size_drew]); omega)) (by assumption) | exact Below.trans (by assumption) (hbA.mono (by first | omega | ((try simp only [World.size_drew, World.size_alloc, World.size_setCell]); omega))) | (have := hbA.size; first | omega | ((try simp only [World.size_drew, World.size_alloc] at this); omega)))
      | (go_split_ands; (repeat' apply And.intro); all_goals first | assumption | (go_simp; done)))
          (first | (go_at_call 91; ((with_reducible refine (V1.out _).mono ?_); rintro e w4 ⟨rfl, hbA⟩)) | (go_at_call 91; ((with_reducible refine (V2.out _).mono ?_); rintro e w5 ⟨rfl, hbB⟩)) | (go_at_call 107; ((with_reducible refine (VJ.out _).mono ?_); rintro e w6 ⟨v, rfl, hbC, hown⟩)))
        all_goals
          go_wp2_with fail
          go_meet
          rename_i hS
          obtain ⟨p0, p1, p2, p3, p4, p5, p6, p7, p8, p9, l0, l1, q0, q1, hBB, hzz⟩ := hS
          exact ⟨row1_own (by simp) (by have yA := hbA.size; have yB := hbB.size; (try simp only [World.size_drew] at yA); (try simp only [World.size_drew] at yB); omega) hown, ⟨q0, q1⟩, ⟨p0, p1, p2, p3, p4, p5, p6, p7, p8, p9⟩, hBB⟩
      case rest =>
        obtain ⟨hR, hH, hP, hB⟩ := hcut
        clear p0 p1 p2 p3 p4 p5 p6 p7 p8 p9 q0 q1 hg hpp
        have hg : g < wc.heap.size := World.block_lt_of_cell? _ _ hH.1
        have hpp : w.heap.size < wc.heap.size := hP.block
        unfold HasSp at hH
        obtain ⟨q0, q1⟩ := hH
        obtain ⟨p0, p1, p2, p3, p4, p5, p6, p7, p8, p9⟩ := hP
        clear V1 V2 VJ
        by_cases hhigh : p.height - (J2 - 1) ≤ p.height - J1
        · have hres := HLl.out
          rw [if_pos hhigh] at hres
          have HNE := Lib.hid (joinL_ne (lev p K1, lev p (K2 - 1)) (lev p (p.height - (J2 - 1)), lev p (p.height - J1)) (lev_mono h hhigh))
          have HR := Lib.hid hres
          clear hres
          have jh := JH.out hhigh
          have hs1 := lev_sm h (a := K1) (b := K2 - 1) (by omega) (by omega)
          have hs2 := lev_sm h (a := p.height - (J2 - 1)) (b := p.height - J1) (by omega) (by omega)
          obtain ⟨gr, cap, rfl, r1, r2, r3, r4, r5⟩ := hR
          obtain ⟨u0, u1⟩ := r5 0 _ rfl
          simp only [Nat.zero_mul, Nat.zero_add] at u0 u1
          simp only [List.length_cons, List.length_nil, Nat.zero_add] at r3 ⊢
          clear r5
          have V1 := Lib.hid fun w => rlevel_any p (p.height - (J2 - 1)) w h (by omega)
          have V2 := Lib.hid fun w => rlevel_any p (p.height - J1) w h (by omega)
          have VJ := Lib.hid fun (W : World) (hgr : gr < W.heap.size) (u0 : W.cell? ⟨gr, 0, none⟩ = some (.int .i64 (lev p K1))) (u1 : W.cell? ⟨gr, 1, none⟩ = some (.int .i64 (lev p (K2 - 1)))) => join_one (lev p K1) (lev p (K2 - 1)) (lev p (p.height - (J2 - 1))) (lev p (p.height - J1)) gr cap W (lev_mono h hhigh) hs1 hs2 r3 r4 hgr u0 u1
          go_upto_region 11 with fail
          go_region_held3 (fun w' => w'.cell? ⟨w.heap.size, 0, none⟩ = some (.int .i64 p.pitch) ∧ w'.cell? ⟨w.heap.size, 1, none⟩ = some (.int .i64 p.height) ∧ w'.cell? ⟨w.heap.size, 2, none⟩ = some (.int .i64 p.radius) ∧ w'.cell? ⟨w.heap.size, 3, none⟩ = some (.int .i64 p.low) ∧ w'.cell? ⟨w.heap.size, 4, none⟩ = some (.int .i64 p.high) ∧ w'.cell? ⟨w.heap.size, 5, none⟩ = some (.int .i64 p.cols) ∧ w'.cell? ⟨w.heap.size, 6, none⟩ = some (.int .i64 p.al) ∧ w'.cell? ⟨w.heap.size, 7, none⟩ = some (.int .i64 p.ah) ∧ w'.cell? ⟨w.heap.size, 8, none⟩ = some (.int .i64 p.cl) ∧ w'.cell? ⟨w.heap.size, 9, none⟩ = some (.int .i64 p.ch) ∧ w'.cell? ⟨g, 0, none⟩ = some (.int .i64 (p.height - (J2 - 1))) ∧ w'.cell? ⟨g, 1, none⟩ = some (.int .i64 (p.height - J1)) ∧ w'.cell? ⟨gr, 0, none⟩ = some (.int .i64 (lev p K1)) ∧ w'.cell? ⟨gr, 1, none⟩ = some (.int .i64 (lev p (K2 - 1))) ∧ Below w.heap.size w w' ∧ wc.heap.size ≤ w'.heap.size)
        (first
      | (go_split_ands; (repeat' apply And.intro); all_goals first | assumption | (go_simp; done) | exact hB.drew | ((try simp only [World.size_drew, World.size_alloc]); omega))
      | (go_split_ands; (repeat' apply And.intro); all_goals first | exact cell_up hbC (by first | omega | ((try simp only [World.size_drew, World.size_alloc, World.size_setCell]); omega)) (by assumption) | exact Below.trans (by assumption) (hbC.mono (by first | omega | ((try simp only [World.size_drew, World.size_alloc, World.size_setCell]); omega))) | (have := hbC.size; first | omega | ((try simp only [World.size_drew, World.size_alloc] at this); omega)))
      | (go_split_ands; (repeat' apply And.intro); all_goals first | exact cell_up hbB (by first | omega | ((try simp only [World.size_drew, World.size_alloc, World.size_setCell]); omega)) (by assumption) | exact Below.trans (by assumption) (hbB.mono (by first | omega | ((try simp only [World.size_drew, World.size_alloc, World.size_setCell]); omega))) | (have := hbB.size; first | omega | ((try simp only [World.size_drew, World.size_alloc] at this); omega)))
      | (go_split_ands; (repeat' apply And.intro); all_goals first | exact cell_up hbA (by first | omega | ((try simp only [World.size_drew]); omega)) (by assumption) | exact Below.trans (by assumption) (hbA.mono (by first | omega | ((try simp only [World.size_drew, World.size_alloc, World.size_setCell]); omega))) | (have := hbA.size; first | omega | ((try simp only [World.size_drew, World.size_alloc] at this); omega)))
      | (go_split_ands; (repeat' apply And.intro); all_goals first | assumption | (go_simp; done)))
            (first | (go_at_call 91; ((with_reducible refine (V1.out _).mono ?_); rintro e w4 ⟨rfl, hbA⟩)) | (go_at_call 91; ((with_reducible refine (V2.out _).mono ?_); rintro e w5 ⟨rfl, hbB⟩)) | (go_at_call 107; ((with_reducible refine (VJ.out _ (by go_split_ands; first | omega | assumption) (by go_split_ands; assumption) (by go_split_ands; assumption)).mono ?_); rintro e w6 ⟨v, rfl, hbC, hown⟩)))
          all_goals
            go_wp2_with fail
            rename_i hS
            go_ret
            refine ⟨_, rfl, ?_, .inr ⟨?_, ?_⟩⟩
            · go_split_ands; assumption
            · rw [HR.out]; exact HNE.out
            · rw [HR.out]; exact row1_own HNE.out (by have yA := hbA.size; have yB := hbB.size; (try simp only [World.size_drew] at yA); (try simp only [World.size_drew] at yB); omega) hown
        · have hres := HLl.out
          rw [if_neg hhigh] at hres
          have HR := Lib.hid hres
          clear hres
          go_wp2_with fail
          go_ret
          refine ⟨_, rfl, hB, .inr ⟨by rw [HR.out]; simp, by rw [HR.out]; exact hR⟩⟩
    · have hle := HLl.out
      rw [if_neg hlow] at hle
      have HLl := Lib.hid hle
      clear hle
      by_cases hhigh : p.height - (J2 - 1) ≤ p.height - J1
      · have hres := HLl.out
        rw [if_pos hhigh] at hres
        have HNE := Lib.hid (show [(lev p (p.height - (J2 - 1)), lev p (p.height - J1))] ≠ [] by simp)
        have jh := JH.out hhigh
        have HR := Lib.hid hres
        clear hres
        have V1 := Lib.hid fun w => rlevel_any p (p.height - (J2 - 1)) w h (by omega)
        have V2 := Lib.hid fun w => rlevel_any p (p.height - J1) w h (by omega)
        have VJ := Lib.hid fun w => Join_nil (lev p (p.height - (J2 - 1)), lev p (p.height - J1)) w (lev_mono h hhigh)
        go_upto_region 11 with fail
        go_region_held3 (fun w' => w'.cell? ⟨w.heap.size, 0, none⟩ = some (.int .i64 p.pitch) ∧ w'.cell? ⟨w.heap.size, 1, none⟩ = some (.int .i64 p.height) ∧ w'.cell? ⟨w.heap.size, 2, none⟩ = some (.int .i64 p.radius) ∧ w'.cell? ⟨w.heap.size, 3, none⟩ = some (.int .i64 p.low) ∧ w'.cell? ⟨w.heap.size, 4, none⟩ = some (.int .i64 p.high) ∧ w'.cell? ⟨w.heap.size, 5, none⟩ = some (.int .i64 p.cols) ∧ w'.cell? ⟨w.heap.size, 6, none⟩ = some (.int .i64 p.al) ∧ w'.cell? ⟨w.heap.size, 7, none⟩ = some (.int .i64 p.ah) ∧ w'.cell? ⟨w.heap.size, 8, none⟩ = some (.int .i64 p.cl) ∧ w'.cell? ⟨w.heap.size, 9, none⟩ = some (.int .i64 p.ch) ∧ w'.cell? ⟨g, 0, none⟩ = some (.int .i64 (p.height - (J2 - 1))) ∧ w'.cell? ⟨g, 1, none⟩ = some (.int .i64 (p.height - J1)) ∧ Below w.heap.size w w' ∧ wc.heap.size ≤ w'.heap.size)
        (first
      | (go_split_ands; (repeat' apply And.intro); all_goals first | assumption | (go_simp; done) | exact hB.drew | ((try simp only [World.size_drew, World.size_alloc]); omega))
      | (go_split_ands; (repeat' apply And.intro); all_goals first | exact cell_up hbC (by first | omega | ((try simp only [World.size_drew, World.size_alloc, World.size_setCell]); omega)) (by assumption) | exact Below.trans (by assumption) (hbC.mono (by first | omega | ((try simp only [World.size_drew, World.size_alloc, World.size_setCell]); omega))) | (have := hbC.size; first | omega | ((try simp only [World.size_drew, World.size_alloc] at this); omega)))
      | (go_split_ands; (repeat' apply And.intro); all_goals first | exact cell_up hbB (by first | omega | ((try simp only [World.size_drew, World.size_alloc, World.size_setCell]); omega)) (by assumption) | exact Below.trans (by assumption) (hbB.mono (by first | omega | ((try simp only [World.size_drew, World.size_alloc, World.size_setCell]); omega))) | (have := hbB.size; first | omega | ((try simp only [World.size_drew, World.size_alloc] at this); omega)))
      | (go_split_ands; (repeat' apply And.intro); all_goals first | exact cell_up hbA (by first | omega | ((try simp only [World.size_drew]); omega)) (by assumption) | exact Below.trans (by assumption) (hbA.mono (by first | omega | ((try simp only [World.size_drew, World.size_alloc, World.size_setCell]); omega))) | (have := hbA.size; first | omega | ((try simp only [World.size_drew, World.size_alloc] at this); omega)))
      | (go_split_ands; (repeat' apply And.intro); all_goals first | assumption | (go_simp; done)))
          (first | (go_at_call 91; ((with_reducible refine (V1.out _).mono ?_); rintro e w4 ⟨rfl, hbA⟩)) | (go_at_call 91; ((with_reducible refine (V2.out _).mono ?_); rintro e w5 ⟨rfl, hbB⟩)) | (go_at_call 107; ((with_reducible refine (VJ.out _).mono ?_); rintro e w6 ⟨v, rfl, hbC, hown⟩)))
        all_goals
          go_wp2_with fail
          rename_i hS
          go_ret
          refine ⟨_, rfl, ?_, .inr ⟨?_, ?_⟩⟩
          · go_split_ands; assumption
          · rw [HR.out]; exact HNE.out
          · rw [HR.out]; exact row1_own HNE.out (by have yA := hbA.size; have yB := hbB.size; (try simp only [World.size_drew] at yA); (try simp only [World.size_drew] at yB); omega) hown
      · have hres := HLl.out
        rw [if_neg hhigh] at hres
        have HR := Lib.hid hres
        clear hres
        go_wp2_with fail
        go_ret
        exact ⟨_, rfl, hB, .inl ⟨HR.out, rfl⟩⟩
end Go.Proofs.Ytmeljcbefnojfaa
