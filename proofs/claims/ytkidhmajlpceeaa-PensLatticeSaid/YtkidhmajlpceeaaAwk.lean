import Derived.Test.YtkidhmajlpceeaaExs
namespace Go.Proofs.Ytkidhmajlpceeaa
open Go.RowKit
theorem same_lit2 {w w' : World} {v : Value} {l : List Int} {B N : Nat} (hN : N = w'.heap.size) (h : w.ownsRow B 3 1 v l.length (intsZ l)) (hl : l.length ≤ 1000) (hb : Below w.heap.size w w') :
    Calls Try.prog 29 #[v, litV N l.length] (litB w' l) fun e w2 => e = .returned (.bool true) ∧ Below w'.heap.size w' w2 := by subst hN; exact same_lit h hl hb
theorem nextB {a b c : World} (h : Below a.heap.size a b) (h2 : Below b.heap.size b c) : Below a.heap.size a c := h.trans (h2.mono h.size)
theorem pn_new (w : World) (x y z u : Int) : HasPn ⟨x, y, z, u⟩ w.heap.size (w.alloc (.cells #[.int .i64 x, .int .i64 y, .int .i64 z, .int .i64 u] 25)) := ⟨by go_simp, by go_simp, by go_simp, by go_simp⟩
theorem same_spl {w w' : World} {g cap N : Nat} {S : Nat → Int × Int} {a b c d : Int} (hN : N = w'.heap.size) (h : SpR g 2 S w) (hb : Below w.heap.size w w') (e0 : S 0 = (a, b)) (e1 : S 1 = (c, d)) :
    Calls Try.prog 43 #[.slice (some ⟨g, 0, none⟩) 2 cap, litV N 2] (w'.alloc (.cells #[.int .i64 a, .int .i64 b, .int .i64 c, .int .i64 d] 23)) fun e w2 => e = .returned (.bool true) ∧ Below w'.heap.size w' w2 := by
  subst hN
  have h2 : SpR w'.heap.size 2 (fun i => if i = 0 then (a, b) else (c, d)) (w'.alloc (.cells #[.int .i64 a, .int .i64 b, .int .i64 c, .int .i64 d] 23)) := by
    refine ⟨by simp, fun i hi => ?_, fun i hi => ?_, fun o => by unfold World.frozen?; rw [World.alloc_heap_new]; simp⟩
    · match i with
      | 0 => go_simp
      | 1 => go_simp
    · match i with
      | 0 => go_simp
      | 1 => go_simp
  refine (SameSpans_t 2 g w'.heap.size cap 2 S _ _ (by omega) ((h.up hb).up (box1 _ _)) h2 fun i hi => ?_).mono fun _ _ ⟨he, hw⟩ => ⟨he, (box1 _ _).trans (hw.mono (box1 _ _).size)⟩
  match i with
  | 0 => exact e0
  | 1 => exact e1
theorem same_in {w w' : World} {A : Option Addr} {c N : Nat} {l : List Int} (hN : N = w'.heap.size) (h : IntsIn A l.length (asZ l) w.heap.size w) (hl : l.length ≤ 1000) (hb : Below w.heap.size w w') :
    Calls Try.prog 29 #[.slice A l.length c, litV N l.length] (litB w' l) fun e w2 => e = .returned (.bool true) ∧ Below w'.heap.size w' w2 := by
  subst hN
  have hb1 := nextB hb (box1 w' (.cells (intsZ l).toArray 3))
  exact (SameInts_t l.length A _ c _ (asZ l) (asZ l) _ ((h.up hb1 (Nat.le_refl _)).more hb1.size) (lit_ints w' l hl) (fun _ _ => rfl)).mono fun _ _ ⟨he, hw⟩ => ⟨he, (box1 _ _).trans (hw.mono (box1 _ _).size)⟩
set_option maxRecDepth 100000 in
set_option maxHeartbeats 4000000 in
theorem awake_any (w : World) : Calls Try.prog 19 #[] w fun e w' => e = .returned (.bool true) ∧ Below w.heap.size w w' := by
  go_enter Try.func19, Try.ntmps19
  go_wp2_with fail
  refine (sample_any _).mono ?_
  rintro e w1 ⟨rfl, hb1⟩
  have C1 := Lib.hid hb1
  clear hb1
  go_wp2_with fail
  refine (ex_follow _ _ (by simp)).mono ?_
  rintro e w2 ⟨a, rfl, ⟨Ba, ha⟩, hb2⟩
  have C2 := Lib.hid (nextB C1.out (nextB (box1 w1 _) hb2))
  have p2 := (pn_new w1 2 (-1) 1 5).up hb2 (by simp)
  have Ha := Lib.hid ha
  clear ha hb2
  have z2 := p2.lt
  have q0 : w2.cell? ⟨w1.heap.size, 0, none⟩ = some (.int .i64 2) := p2.1
  have q1 : w2.cell? ⟨w1.heap.size, 1, none⟩ = some (.int .i64 (-1)) := p2.2.1
  have q2 : w2.cell? ⟨w1.heap.size, 2, none⟩ = some (.int .i64 1) := p2.2.2.1
  have q3 : w2.cell? ⟨w1.heap.size, 3, none⟩ = some (.int .i64 5) := p2.2.2.2
  have P2 := Lib.hid p2
  clear p2
  go_wp2_with fail
  refine (ex_reals _ _ rfl).mono ?_
  rintro e w3 ⟨g, capb, rfl, hs, hb3⟩
  have D3 := Lib.hid hb3
  have p3 := P2.out.up hb3 z2
  have Hhs := Lib.hid hs
  clear hs
  clear hb3 q0 q1 q2 q3
  have z3 := p3.lt
  have q0 : w3.cell? ⟨w1.heap.size, 0, none⟩ = some (.int .i64 2) := p3.1
  have q1 : w3.cell? ⟨w1.heap.size, 1, none⟩ = some (.int .i64 (-1)) := p3.2.1
  have q2 : w3.cell? ⟨w1.heap.size, 2, none⟩ = some (.int .i64 1) := p3.2.2.1
  have q3 : w3.cell? ⟨w1.heap.size, 3, none⟩ = some (.int .i64 5) := p3.2.2.2
  have P3 := Lib.hid p3
  clear p3
  go_wp2_with fail
  refine (ex_real _ _ rfl).mono ?_
  rintro e w4 ⟨Ac, cc, rfl, hi, hb4⟩
  have D4 := Lib.hid hb4
  have p4 := P3.out.up hb4 z3
  have Hhi := Lib.hid hi
  clear hi
  clear hb4 q0 q1 q2 q3
  have z4 := p4.lt
  have q0 : w4.cell? ⟨w1.heap.size, 0, none⟩ = some (.int .i64 2) := p4.1
  have q1 : w4.cell? ⟨w1.heap.size, 1, none⟩ = some (.int .i64 (-1)) := p4.2.1
  have q2 : w4.cell? ⟨w1.heap.size, 2, none⟩ = some (.int .i64 1) := p4.2.2.1
  have q3 : w4.cell? ⟨w1.heap.size, 3, none⟩ = some (.int .i64 5) := p4.2.2.2
  have P4 := Lib.hid p4
  clear p4
  go_wp2_with fail
  refine (ex_forgets _ _ rfl).mono ?_
  rintro e w5 ⟨rfl, hb5⟩
  have D5 := Lib.hid hb5
  have p5 := P4.out.up hb5 z4
  clear hb5 q0 q1 q2 q3
  have z5 := p5.lt
  have q0 : w5.cell? ⟨w1.heap.size, 0, none⟩ = some (.int .i64 2) := p5.1
  have q1 : w5.cell? ⟨w1.heap.size, 1, none⟩ = some (.int .i64 (-1)) := p5.2.1
  have q2 : w5.cell? ⟨w1.heap.size, 2, none⟩ = some (.int .i64 1) := p5.2.2.1
  have q3 : w5.cell? ⟨w1.heap.size, 3, none⟩ = some (.int .i64 5) := p5.2.2.2
  have P5 := Lib.hid p5
  clear p5
  go_wp2_with fail
  refine (ex_memory _ _ rfl).mono ?_
  rintro e w6 ⟨m, rfl, ⟨Bm, hm⟩, hb6⟩
  have D6 := Lib.hid hb6
  have p6 := P5.out.up hb6 z5
  have Hhm := Lib.hid hm
  clear hm
  clear hb6 q0 q1 q2 q3
  have z6 := p6.lt
  have q0 : w6.cell? ⟨w1.heap.size, 0, none⟩ = some (.int .i64 2) := p6.1
  have q1 : w6.cell? ⟨w1.heap.size, 1, none⟩ = some (.int .i64 (-1)) := p6.2.1
  have q2 : w6.cell? ⟨w1.heap.size, 2, none⟩ = some (.int .i64 1) := p6.2.2.1
  have q3 : w6.cell? ⟨w1.heap.size, 3, none⟩ = some (.int .i64 5) := p6.2.2.2
  have P6 := Lib.hid p6
  clear p6
  go_wp2_with fail
  refine (ex_turns _ _ rfl).mono ?_
  rintro e w7 ⟨t, rfl, ⟨Bt, ht⟩, hb7⟩
  have D7 := Lib.hid hb7
  have p7 := P6.out.up hb7 z6
  have Hht := Lib.hid ht
  clear ht
  clear hb7 q0 q1 q2 q3
  have z7 := p7.lt
  have q0 : w7.cell? ⟨w1.heap.size, 0, none⟩ = some (.int .i64 2) := p7.1
  have q1 : w7.cell? ⟨w1.heap.size, 1, none⟩ = some (.int .i64 (-1)) := p7.2.1
  have q2 : w7.cell? ⟨w1.heap.size, 2, none⟩ = some (.int .i64 1) := p7.2.2.1
  have q3 : w7.cell? ⟨w1.heap.size, 3, none⟩ = some (.int .i64 5) := p7.2.2.2
  have P7 := Lib.hid p7
  clear p7
  go_wp2_with fail
  refine (ex_add _).mono ?_
  rintro e w8 ⟨rfl, hb8⟩
  have D8 := Lib.hid hb8
  have p8 := P7.out.up hb8 z7
  clear hb8 q0 q1 q2 q3
  have z8 := p8.lt
  have q0 : w8.cell? ⟨w1.heap.size, 0, none⟩ = some (.int .i64 2) := p8.1
  have q1 : w8.cell? ⟨w1.heap.size, 1, none⟩ = some (.int .i64 (-1)) := p8.2.1
  have q2 : w8.cell? ⟨w1.heap.size, 2, none⟩ = some (.int .i64 1) := p8.2.2.1
  have q3 : w8.cell? ⟨w1.heap.size, 3, none⟩ = some (.int .i64 5) := p8.2.2.2
  have P8 := Lib.hid p8
  clear p8
  go_wp2_with fail
  refine (ex_moves _).mono ?_
  rintro e w9 ⟨Ae, ce, rfl, he, hb9⟩
  have D9 := Lib.hid (nextB (box1 w8 _) hb9)
  have pq := (pn_new w8 5 (-1) 3 5).up hb9 (by simp)
  have zq := pq.lt
  have z9 : w1.heap.size < w9.heap.size := by have := D9.out.size; omega
  have y0 : w9.cell? ⟨w8.heap.size, 0, none⟩ = some (.int .i64 5) := pq.1
  have y1 : w9.cell? ⟨w8.heap.size, 1, none⟩ = some (.int .i64 (-1)) := pq.2.1
  have y2 : w9.cell? ⟨w8.heap.size, 2, none⟩ = some (.int .i64 3) := pq.2.2.1
  have y3 : w9.cell? ⟨w8.heap.size, 3, none⟩ = some (.int .i64 5) := pq.2.2.2
  obtain ⟨ae, rfl, al, e0, e1, e2⟩ := he.2 0 (by omega)
  obtain ⟨ae', e', _, g0, g1, g2⟩ := he.2 4 (by omega)
  cases e'
  rw [show edgeF P0 1 0 = (0, -2, 0) by decide] at e0 e1 e2
  rw [show edgeF P0 1 4 = (4, 0, 4) by decide] at g0 g1 g2
  have f0 : w9.cell? ae = some (.int .i64 0) := by simpa [Addr.add] using e0
  have f1 : w9.cell? ⟨ae.block, ae.off + 1, none⟩ = some (.int .i64 (-2)) := by simpa [Addr.add] using e1
  have f2 : w9.cell? ⟨ae.block, ae.off + 2, none⟩ = some (.int .i64 0) := by simpa [Addr.add] using e2
  have h0 : w9.cell? ⟨ae.block, ae.off + 12, none⟩ = some (.int .i64 4) := by simpa [Addr.add] using g0
  have h1 : w9.cell? ⟨ae.block, ae.off + 13, none⟩ = some (.int .i64 0) := by simpa [Addr.add] using g1
  have h2 : w9.cell? ⟨ae.block, ae.off + 14, none⟩ = some (.int .i64 4) := by simpa [Addr.add] using g2
  clear hb9 he pq q0 q1 q2 q3 e0 e1 e2 g0 g1 g2
  go_wp2_with fail
  have E3 := Lib.hid (nextB D4.out (nextB D5.out (nextB D6.out (nextB D7.out (nextB D8.out D9.out)))))
  have E6 := Lib.hid (nextB D7.out (nextB D8.out D9.out))
  refine (same_lit2 (l := [10, 10, 11, 11, 10]) rfl Ha.out (by decide) (nextB D3.out E3.out)).mono ?_
  rintro e w10 ⟨rfl, hb10⟩
  have D10 := Lib.hid hb10
  clear y0 y1 y2 y3 f0 f1 f2 h0 h1 h2 hb10
  go_wp2_with fail
  refine (same_spl (a := 11) (b := 12) (c := 16) (d := 16) rfl Hhs.out (nextB E3.out D10.out) (by decide) (by decide)).mono ?_
  rintro e w11 ⟨rfl, hb11⟩
  have D11 := Lib.hid hb11
  clear hb11
  go_wp2_with fail
  refine (same_in (l := [10, 10, 13]) rfl Hhi.out (by decide) (nextB (nextB D5.out (nextB D6.out E6.out)) (nextB D10.out D11.out))).mono ?_
  rintro e w12 ⟨rfl, hb12⟩
  have D12 := Lib.hid hb12
  clear hb12
  go_wp2_with fail
  refine (same_lit2 (l := [1, 2, 3]) rfl Hhm.out (by decide) (nextB E6.out (nextB D10.out (nextB D11.out D12.out)))).mono ?_
  rintro e w13 ⟨rfl, hb13⟩
  have D13 := Lib.hid hb13
  clear hb13
  go_wp2_with fail
  refine (same_lit2 (l := [1, 3]) rfl Hht.out (by decide) (nextB (nextB D8.out D9.out) (nextB D10.out (nextB D11.out (nextB D12.out D13.out))))).mono ?_
  rintro e w14 ⟨rfl, hb14⟩
  have D14 := Lib.hid hb14
  clear hb14
  go_wp2_with fail
  go_ret
  exact ⟨rfl, nextB (nextB C2.out (nextB D3.out E3.out)) (nextB D10.out (nextB D11.out (nextB D12.out (nextB D13.out D14.out))))⟩
end Go.Proofs.Ytkidhmajlpceeaa
