import Derived.Test.YtmeljcbefnojfaaJoj
import Derived.Test.YtmeljcbefnojfaaPld
import Derived.Test.YtmeljcbefnojfaaMns
namespace Go.Proofs.Ytmeljcbefnojfaa
open Go.RowKit
def FK (p : Pap) (n lo hi K : Int) : Prop := (hi < lo ∧ K = lo) ∨ (lo ≤ hi ∧ Cut (fun y => n ≤ arcOf p y) lo hi K)
set_option maxHeartbeats 1000000 in
theorem rfirst_any (p : Pap) (lo hi n K : Int) (w : World) (h : p.Ok) (h0 : 0 ≤ lo) (h00 : lo ≤ 1000000000) (h1 : hi ≤ midOf p) (_h11 : -1000000000 ≤ hi) (hK : FK p n lo hi K) :
    Calls Try.prog 147 #[p.v, .int .i64 lo, .int .i64 hi, .int .i64 n] w fun e w' => e = .returned (.int .i64 K) ∧ Below w.heap.size w w' := by
  have hh := h.height
  unfold midOf at h1
  by_cases hlo : hi + 1 < lo
  · obtain rfl : K = lo := by
      rcases hK with ⟨_, e⟩ | ⟨e, _⟩
      · exact e
      · omega
    clear hK
    go_enter Try.func147, Try.ntmps147
    go_wp2_with fail
    go_loopw [1, 2] (fun vl vh wr => vl = .int .i64 K ∧ vh = .int .i64 hi ∧ Below w.heap.size w wr) (fun _ _ _ => 0)
    case atStart => exact ⟨rfl, rfl, box1 _ _⟩
    case round =>
      obtain ⟨rfl, rfl, hB⟩ := hrel
      go_wp2_with fail
      go_ret
      exact ⟨rfl, hB⟩
  · have hKb : lo ≤ K ∧ K ≤ hi + 1 := by
      rcases hK with ⟨_, e⟩ | ⟨_, c⟩
      · omega
      · exact ⟨c.1, c.2.1⟩
    have hKi : ∀ y, lo ≤ y → y ≤ hi → (n ≤ arcOf p y ↔ K ≤ y) := by
      intro y y1 y2
      rcases hK with ⟨_, e⟩ | ⟨_, c⟩
      · omega
      · exact c.2.2 y y1 y2
    have HK := Lib.hid hKi
    have HP := Lib.hid h
    clear hK hKi h
    obtain ⟨k1, k2⟩ := hKb
    go_enter Try.func147, Try.ntmps147
    go_wp2_with fail
    go_loopw [1, 2] (fun vl vh wr => ∃ l r : Int, vl = .int .i64 l ∧ vh = .int .i64 r ∧ (lo ≤ l ∧ r ≤ hi ∧ l ≤ K ∧ K ≤ r + 1) ∧ Below w.heap.size w wr ∧ HasPap p w.heap.size wr) (fun vl vh _ => (intOf vh - intOf vl + 1).toNat)
    case atStart => exact ⟨lo, hi, rfl, rfl, by omega, box1 _ _, by unfold HasPap; go_simp⟩
    case round =>
      obtain ⟨l, r, rfl, rfl, ⟨b1, b2, b3, b4⟩, hB, hP⟩ := hrel
      obtain ⟨wo, rfl⟩ : ∃ wo : World, wo = wr := ⟨_, rfl⟩
      by_cases hlr : l ≤ r
      · have HPP := Lib.hid hP
        obtain ⟨p0, p1, p2, p3, p4, p5, p6, p7, p8, p9⟩ := hP
        go_wp2_with fail
        refine (rarc_any p ((l + r) / 2) _ HP.out (by omega)).mono ?_
        rintro e w1 ⟨rfl, hb⟩
        have hB1 := hB.trans (hb.mono hB.size)
        have hP1 := HPP.out.up hb HPP.out.block
        clear p0 p1 p2 p3 p4 p5 p6 p7 p8 p9 hb
        by_cases hm : n ≤ arcOf p ((l + r) / 2)
        · have d : decide (arcOf p ((l + r) / 2) ≥ n) = true := by simpa using hm
          have g := (HK.out _ (by omega) (by omega)).1 hm
          clear hm
          go_wp2_with fail
          exact ⟨⟨l, (l + r) / 2 - 1, rfl, rfl, by omega, hB1, hP1⟩, by simp [intOf]; omega⟩
        · have d : decide (arcOf p ((l + r) / 2) ≥ n) = false := by simpa using hm
          have g : ¬ K ≤ (l + r) / 2 := fun hh => hm ((HK.out _ (by omega) (by omega)).2 hh)
          clear hm
          go_wp2_with fail
          exact ⟨⟨(l + r) / 2 + 1, r, rfl, rfl, by omega, hB1, hP1⟩, by simp [intOf]; omega⟩
      · obtain rfl : l = K := by omega
        go_wp2_with fail
        go_ret
        exact ⟨rfl, hB⟩
set_option maxHeartbeats 400000 in
theorem turned_any (p : Pap) (lo hi : Int) (w : World) (h : p.Ok) (h0 : -1000000000 ≤ lo ∧ lo ≤ 1000000000) (h1 : -1000000000 ≤ hi ∧ hi ≤ 1000000000) :
    Calls Try.prog 135 #[p.v, .agg #[.int .i64 lo, .int .i64 hi]] w fun e w' => e = .returned (.agg #[.int .i64 (p.height - hi), .int .i64 (p.height - lo)]) ∧ Below w.heap.size w w' := by
  have hh := h.height
  go_enter Try.func135, Try.ntmps135
  go_wp2_with fail
  refine bodyPost_ret (v := .agg #[.int .i64 (p.height - hi), .int .i64 (p.height - lo)]) ?_ rfl ⟨rfl, ?_⟩
  · simp [results, Try.results135, go_sem]
  · exact box3 _ _ _ _
set_option maxHeartbeats 2000000 in
theorem ring_any (p : Pap) (lo hi a b K1 K2 : Int) (w : World) (h : p.Ok) (h0 : 0 ≤ lo) (h00 : lo ≤ 1000000000) (h1 : hi ≤ midOf p) (h11 : -1000000000 ≤ hi) (hb : -1000000000000 ≤ b ∧ b ≤ 1000000000000) (hK1 : FK p a lo hi K1) (hK2 : FK p (b + 1) lo hi K2) :
    Calls Try.prog 134 #[p.v, .agg #[.int .i64 lo, .int .i64 hi], .agg #[.int .i64 a, .int .i64 b]] w fun e w' => e = .returned (.agg #[.int .i64 K1, .int .i64 (K2 - 1)]) ∧ Below w.heap.size w w' := by
  have HL1 := Lib.hid fun w => rfirst_any p lo hi a K1 w h h0 h00 h1 h11 hK1
  have HL2 := Lib.hid fun w => rfirst_any p lo hi (b + 1) K2 w h h0 h00 h1 h11 hK2
  have kb : lo ≤ K2 ∧ (K2 ≤ lo ∨ K2 ≤ hi + 1) := by
    rcases hK2 with ⟨_, e⟩ | ⟨_, c⟩
    · omega
    · exact ⟨c.1, .inr c.2.1⟩
  have hm : midOf p ≤ 400000 := by have := h.height; unfold midOf; omega
  have e1 : IntKind.i64.wrap (b + 1) = b + 1 := IntWalk.i64_in _ (by omega)
  have e2 : IntKind.i64.wrap (K2 - 1) = K2 - 1 := IntWalk.i64_in _ (by omega)
  clear hK1 hK2 h
  have hB := box4 w (.cells #[.int .i64 p.pitch, .int .i64 p.height, .int .i64 p.radius, .int .i64 p.low, .int .i64 p.high, .int .i64 p.cols, .int .i64 p.al, .int .i64 p.ah, .int .i64 p.cl, .int .i64 p.ch] 25) (.cells #[.int .i64 lo, .int .i64 hi] 23) (.cells #[.int .i64 a, .int .i64 b] 23) (.cells #[.int .i64 0, .int .i64 0] 23)
  go_enter Try.func134, Try.ntmps134
  go_wp2_with fail
  go_region_held3 (fun w' => w'.cell? ⟨w.heap.size, 0, none⟩ = some (.int .i64 p.pitch) ∧ w'.cell? ⟨w.heap.size, 1, none⟩ = some (.int .i64 p.height) ∧ w'.cell? ⟨w.heap.size, 2, none⟩ = some (.int .i64 p.radius) ∧ w'.cell? ⟨w.heap.size, 3, none⟩ = some (.int .i64 p.low) ∧ w'.cell? ⟨w.heap.size, 4, none⟩ = some (.int .i64 p.high) ∧ w'.cell? ⟨w.heap.size, 5, none⟩ = some (.int .i64 p.cols) ∧ w'.cell? ⟨w.heap.size, 6, none⟩ = some (.int .i64 p.al) ∧ w'.cell? ⟨w.heap.size, 7, none⟩ = some (.int .i64 p.ah) ∧ w'.cell? ⟨w.heap.size, 8, none⟩ = some (.int .i64 p.cl) ∧ w'.cell? ⟨w.heap.size, 9, none⟩ = some (.int .i64 p.ch) ∧ w'.cell? ⟨w.heap.size + 1, 0, none⟩ = some (.int .i64 (lo)) ∧ w'.cell? ⟨w.heap.size + 1, 1, none⟩ = some (.int .i64 (hi)) ∧ w'.cell? ⟨w.heap.size + 1 + 1, 0, none⟩ = some (.int .i64 (a)) ∧ w'.cell? ⟨w.heap.size + 1 + 1, 1, none⟩ = some (.int .i64 (b)) ∧ w'.cell? ⟨w.heap.size + 1 + 1 + 1, 0, none⟩ = some (cellAt w' (w.heap.size + 1 + 1 + 1) 0) ∧ w'.cell? ⟨w.heap.size + 1 + 1 + 1, 1, none⟩ = some (cellAt w' (w.heap.size + 1 + 1 + 1) 1) ∧ w'.frozen? ⟨w.heap.size + 1 + 1 + 1, 0, none⟩ = false ∧ w'.frozen? ⟨w.heap.size + 1 + 1 + 1, 1, none⟩ = false ∧ Below w.heap.size w w' ∧ w.heap.size + 1 + 1 + 1 + 1 ≤ w'.heap.size)
    (first | (go_split_ands; (repeat' apply And.intro); all_goals first | assumption | (go_simp; done) | (unfold cellAt; go_simp; done) | exact hB.drew | ((try simp only [World.size_drew, World.size_alloc]); omega)) | (go_split_ands; (repeat' apply And.intro); all_goals first | exact cell_up hb (by (try simp only [World.size_drew, World.size_alloc]); omega) (by assumption) | exact frozen_up hb (by (try simp only [World.size_drew, World.size_alloc]); omega) (by assumption) | exact cellAt_ok (cell_up hb (by (try simp only [World.size_drew, World.size_alloc]); omega) (by assumption)) | exact Below.trans (by assumption) (hb.mono (by (try simp only [World.size_drew, World.size_alloc]); omega)) | (have := hb.size; (try simp only [World.size_drew, World.size_alloc] at this); omega)) | (go_split_ands; (repeat' apply And.intro); all_goals first | assumption | exact set1 (set1 (by assumption) (by omega) _ _) (by omega) _ _ | (go_simp; done) | (unfold cellAt; go_simp; done)))
    (first | (go_at_call 147; ((with_reducible refine (HL1.out _).mono ?_); rintro e w1 ⟨rfl, hb⟩)) | (go_at_call 147; ((with_reducible refine (HL2.out _).mono ?_); rintro e w1 ⟨rfl, hb⟩)))
  all_goals
    go_wp2_with fail
    rename_i hS
    obtain ⟨-, -, -, -, -, -, -, -, -, -, -, -, -, -, s0, s1, -, -, hBB, -⟩ := hS
    obtain ⟨t0, t1, -⟩ := two_cells s0 s1
    refine bodyPost_ret (v := .agg #[.int .i64 K1, .int .i64 (K2 - 1)]) ?_ rfl ⟨rfl, hBB⟩
    clear s0 s1
    simp [results, Try.results134, go_sem, t0, t1]
end Go.Proofs.Ytmeljcbefnojfaa
