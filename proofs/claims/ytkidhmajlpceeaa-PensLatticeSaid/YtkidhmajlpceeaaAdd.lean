import Derived.Test.YtkidhmajlpceeaaChs
namespace Go.Proofs.Ytkidhmajlpceeaa
open Go.RowKit
abbrev Pn.zero : Pn := ⟨0, 0, 0, 0⟩
/-- the pen that follows another one -/
abbrev Pn.add (p q : Pn) : Pn := ⟨p.b + q.b, p.lo + q.lo, p.hi + q.hi, p.r⟩
def addR (p q : Pn) (E : Int) : Prop :=
  (¬ (p.Ok ∧ q.Ok) ∧ E = 30) ∨ (p.Ok ∧ q.Ok) ∧ ((q.r < p.r ∧ E = 1) ∨ p.r ≤ q.r ∧ ((¬ (p.add q).Ok ∧ E = 2) ∨ (p.add q).Ok ∧ E = 0))
theorem addR_ex (p q : Pn) : ∃ E, addR p q E := by
  by_cases h : p.Ok ∧ q.Ok
  · by_cases h2 : q.r < p.r
    · exact ⟨1, .inr ⟨h, .inl ⟨h2, rfl⟩⟩⟩
    · by_cases h3 : (p.add q).Ok
      · exact ⟨0, .inr ⟨h, .inr ⟨by omega, .inr ⟨h3, rfl⟩⟩⟩⟩
      · exact ⟨2, .inr ⟨h, .inr ⟨by omega, .inl ⟨h3, rfl⟩⟩⟩⟩
  · exact ⟨30, .inl ⟨h, rfl⟩⟩
def addV (p q : Pn) (E : Int) : Pn := if E = 0 then p.add q else Pn.zero
set_option maxRecDepth 100000 in
set_option maxHeartbeats 4000000 in
theorem Add_any (p q : Pn) (E : Int) (w : World) (hE : addR p q E) :
    Calls Try.prog 56 #[p.v, q.v] w fun e w' => e = .returned (.tuple #[(addV p q E).v, .int .i64 E]) ∧ Below w.heap.size w w' := by
  by_cases hp : p.Ok
  · have KP := Lib.hid fun W => Check_t p W hp
    by_cases hq : q.Ok
    · have KQ := Lib.hid fun W => Check_t q W hq
      rcases hE with ⟨h, _⟩ | ⟨_, hE⟩
      · exact absurd ⟨hp, hq⟩ h
      · have bp := hp.b
        have bq := hq.b
        obtain ⟨l1, l2⟩ := hp.lo
        obtain ⟨l3, l4⟩ := hq.lo
        obtain ⟨l5, l6⟩ := hp.hi
        obtain ⟨l7, l8⟩ := hq.hi
        obtain ⟨b1, b2⟩ := bp
        obtain ⟨b3, b4⟩ := bq
        have HE := Lib.hid hE
        clear hE hp hq
        go_enter Try.func56, Try.ntmps56
        go_wp2_with fail
        refine (KP.out _).mono ?_
        rintro e w1 ⟨rfl, hb⟩
        have s1 := hb.size
        simp only [World.size_alloc] at s1
        have a0 : w1.cell? ⟨w.heap.size, 0, none⟩ = some (.int .i64 (p.b)) := low_cell hb (by simp only [World.size_alloc]; omega) (by go_simp)
        have a1 : w1.cell? ⟨w.heap.size, 1, none⟩ = some (.int .i64 (p.lo)) := low_cell hb (by simp only [World.size_alloc]; omega) (by go_simp)
        have a2 : w1.cell? ⟨w.heap.size, 2, none⟩ = some (.int .i64 (p.hi)) := low_cell hb (by simp only [World.size_alloc]; omega) (by go_simp)
        have a3 : w1.cell? ⟨w.heap.size, 3, none⟩ = some (.int .i64 (p.r)) := low_cell hb (by simp only [World.size_alloc]; omega) (by go_simp)
        have c0 : w1.cell? ⟨w.heap.size + 1, 0, none⟩ = some (.int .i64 (q.b)) := low_cell hb (by simp only [World.size_alloc]; omega) (by go_simp)
        have c1 : w1.cell? ⟨w.heap.size + 1, 1, none⟩ = some (.int .i64 (q.lo)) := low_cell hb (by simp only [World.size_alloc]; omega) (by go_simp)
        have c2 : w1.cell? ⟨w.heap.size + 1, 2, none⟩ = some (.int .i64 (q.hi)) := low_cell hb (by simp only [World.size_alloc]; omega) (by go_simp)
        have c3 : w1.cell? ⟨w.heap.size + 1, 3, none⟩ = some (.int .i64 (q.r)) := low_cell hb (by simp only [World.size_alloc]; omega) (by go_simp)
        have g0 : w1.cell? ⟨w.heap.size + 1 + 1, 0, none⟩ = some (.int .i64 (0)) := low_cell hb (by simp only [World.size_alloc]; omega) (by go_simp)
        have gf0 : w1.frozen? ⟨w.heap.size + 1 + 1, 0, none⟩ = false := low_frozen hb (by simp only [World.size_alloc]; omega) (by go_simp)
        have g1 : w1.cell? ⟨w.heap.size + 1 + 1, 1, none⟩ = some (.int .i64 (0)) := low_cell hb (by simp only [World.size_alloc]; omega) (by go_simp)
        have gf1 : w1.frozen? ⟨w.heap.size + 1 + 1, 1, none⟩ = false := low_frozen hb (by simp only [World.size_alloc]; omega) (by go_simp)
        have g2 : w1.cell? ⟨w.heap.size + 1 + 1, 2, none⟩ = some (.int .i64 (0)) := low_cell hb (by simp only [World.size_alloc]; omega) (by go_simp)
        have gf2 : w1.frozen? ⟨w.heap.size + 1 + 1, 2, none⟩ = false := low_frozen hb (by simp only [World.size_alloc]; omega) (by go_simp)
        have g3 : w1.cell? ⟨w.heap.size + 1 + 1, 3, none⟩ = some (.int .i64 (0)) := low_cell hb (by simp only [World.size_alloc]; omega) (by go_simp)
        have gf3 : w1.frozen? ⟨w.heap.size + 1 + 1, 3, none⟩ = false := low_frozen hb (by simp only [World.size_alloc]; omega) (by go_simp)
        have C1 := Lib.hid ((box3 _ _ _ _).trans (hb.mono (by simp only [World.size_alloc]; omega)))
        have z : w.heap.size + 1 + 1 < w1.heap.size := by omega
        clear hb
        go_wp2_with fail
        refine (KQ.out _).mono ?_
        rintro e w2 ⟨rfl, hb⟩
        have s2 := hb.size
        have d0 := cell_up hb (by omega) a0
        have d1 := cell_up hb (by omega) a1
        have d2 := cell_up hb (by omega) a2
        have d3 := cell_up hb (by omega) a3
        have e0 := cell_up hb (by omega) c0
        have e1 := cell_up hb (by omega) c1
        have e2 := cell_up hb (by omega) c2
        have e3 := cell_up hb (by omega) c3
        have k0 := cell_up hb (by omega) g0
        have kf0 := low_frozen hb (by omega) gf0
        have k1 := cell_up hb (by omega) g1
        have kf1 := low_frozen hb (by omega) gf1
        have k2 := cell_up hb (by omega) g2
        have kf2 := low_frozen hb (by omega) gf2
        have k3 := cell_up hb (by omega) g3
        have kf3 := low_frozen hb (by omega) gf3
        have C2 := Lib.hid (C1.out.trans (hb.mono C1.out.size))
        have z2 : w.heap.size + 1 + 1 < w2.heap.size := by omega
        clear hb a0 a1 a2 a3 c0 c1 c2 c3 g0 g1 g2 g3 gf0 gf1 gf2 gf3
        rcases HE.out with ⟨h, rfl⟩ | ⟨h, hE⟩
        · have hd : decide (q.r < p.r) = true := by simpa using h
          clear h
          go_wp2_with fail
          rw [show addV p q 1 = Pn.zero from rfl]
          exact bodyPost_ret (v := .tuple #[Pn.zero.v, .int .i64 1]) (by simp [results, Try.results56, go_sem, k0, k1, k2, k3]) rfl ⟨rfl, set1 (set1 (set1 (set1 C2.out (by omega) _ _) (by omega) _ _) (by omega) _ _) (by omega) _ _⟩
        · have hd : decide (q.r < p.r) = false := by simp; omega
          clear h
          rcases hE with ⟨h3, rfl⟩ | ⟨h3, rfl⟩
          · have KS := Lib.hid fun W => Check_f (p.add q) W h3
            clear h3
            go_wp2_with fail
            refine (KS.out _).mono ?_
            rintro e w3 ⟨rfl, hb⟩
            have s3 := hb.size
            simp only [World.size_alloc] at s3
            have m0 : w3.cell? ⟨w.heap.size + 1 + 1, 0, none⟩ = some (.int .i64 0) := low_cell hb (by simp only [World.size_alloc]; omega) (by go_simp)
            have mf0 : w3.frozen? ⟨w.heap.size + 1 + 1, 0, none⟩ = false := low_frozen hb (by simp only [World.size_alloc]; omega) (by go_simp)
            have m1 : w3.cell? ⟨w.heap.size + 1 + 1, 1, none⟩ = some (.int .i64 0) := low_cell hb (by simp only [World.size_alloc]; omega) (by go_simp)
            have mf1 : w3.frozen? ⟨w.heap.size + 1 + 1, 1, none⟩ = false := low_frozen hb (by simp only [World.size_alloc]; omega) (by go_simp)
            have m2 : w3.cell? ⟨w.heap.size + 1 + 1, 2, none⟩ = some (.int .i64 0) := low_cell hb (by simp only [World.size_alloc]; omega) (by go_simp)
            have mf2 : w3.frozen? ⟨w.heap.size + 1 + 1, 2, none⟩ = false := low_frozen hb (by simp only [World.size_alloc]; omega) (by go_simp)
            have m3 : w3.cell? ⟨w.heap.size + 1 + 1, 3, none⟩ = some (.int .i64 0) := low_cell hb (by simp only [World.size_alloc]; omega) (by go_simp)
            have mf3 : w3.frozen? ⟨w.heap.size + 1 + 1, 3, none⟩ = false := low_frozen hb (by simp only [World.size_alloc]; omega) (by go_simp)
            have C3 := Lib.hid (C2.out.trans (((box1 _ _).trans (hb.mono (by simp only [World.size_alloc]; omega))).mono C2.out.size))
            have z3 : w.heap.size + 1 + 1 < w3.heap.size := by omega
            have z4 : w2.heap.size < w3.heap.size := by omega
            clear hb d0 d1 d2 d3 e0 e1 e2 e3 k0 k1 k2 k3 kf0 kf1 kf2 kf3
            go_wp2_with fail
            rw [show addV p q 2 = Pn.zero from rfl]
            exact bodyPost_ret (v := .tuple #[(Pn.zero).v, .int .i64 2]) (by simp [results, Try.results56, go_sem, m0, m1, m2, m3]) rfl ⟨rfl, set1 (set1 (set1 (set1 C3.out (by omega) _ _) (by omega) _ _) (by omega) _ _) (by omega) _ _⟩
          · have KS := Lib.hid fun W => Check_t (p.add q) W h3
            clear h3
            go_wp2_with fail
            refine (KS.out _).mono ?_
            rintro e w3 ⟨rfl, hb⟩
            have s3 := hb.size
            simp only [World.size_alloc] at s3
            have m0 : w3.cell? ⟨w.heap.size + 1 + 1, 0, none⟩ = some (.int .i64 0) := low_cell hb (by simp only [World.size_alloc]; omega) (by go_simp)
            have mf0 : w3.frozen? ⟨w.heap.size + 1 + 1, 0, none⟩ = false := low_frozen hb (by simp only [World.size_alloc]; omega) (by go_simp)
            have m1 : w3.cell? ⟨w.heap.size + 1 + 1, 1, none⟩ = some (.int .i64 0) := low_cell hb (by simp only [World.size_alloc]; omega) (by go_simp)
            have mf1 : w3.frozen? ⟨w.heap.size + 1 + 1, 1, none⟩ = false := low_frozen hb (by simp only [World.size_alloc]; omega) (by go_simp)
            have m2 : w3.cell? ⟨w.heap.size + 1 + 1, 2, none⟩ = some (.int .i64 0) := low_cell hb (by simp only [World.size_alloc]; omega) (by go_simp)
            have mf2 : w3.frozen? ⟨w.heap.size + 1 + 1, 2, none⟩ = false := low_frozen hb (by simp only [World.size_alloc]; omega) (by go_simp)
            have m3 : w3.cell? ⟨w.heap.size + 1 + 1, 3, none⟩ = some (.int .i64 0) := low_cell hb (by simp only [World.size_alloc]; omega) (by go_simp)
            have mf3 : w3.frozen? ⟨w.heap.size + 1 + 1, 3, none⟩ = false := low_frozen hb (by simp only [World.size_alloc]; omega) (by go_simp)
            have n0 : w3.cell? ⟨w2.heap.size, 0, none⟩ = some (.int .i64 (p.b + q.b)) := low_cell hb (by simp only [World.size_alloc]; omega) (by go_simp)
            have n1 : w3.cell? ⟨w2.heap.size, 1, none⟩ = some (.int .i64 (p.lo + q.lo)) := low_cell hb (by simp only [World.size_alloc]; omega) (by go_simp)
            have n2 : w3.cell? ⟨w2.heap.size, 2, none⟩ = some (.int .i64 (p.hi + q.hi)) := low_cell hb (by simp only [World.size_alloc]; omega) (by go_simp)
            have n3 : w3.cell? ⟨w2.heap.size, 3, none⟩ = some (.int .i64 (p.r)) := low_cell hb (by simp only [World.size_alloc]; omega) (by go_simp)
            have C3 := Lib.hid (C2.out.trans (((box1 _ _).trans (hb.mono (by simp only [World.size_alloc]; omega))).mono C2.out.size))
            have z3 : w.heap.size + 1 + 1 < w3.heap.size := by omega
            have z4 : w2.heap.size < w3.heap.size := by omega
            clear hb d0 d1 d2 d3 e0 e1 e2 e3 k0 k1 k2 k3 kf0 kf1 kf2 kf3
            go_wp2_with fail
            rw [show addV p q 0 = p.add q from rfl]
            exact bodyPost_ret (v := .tuple #[(p.add q).v, .int .i64 0]) (by simp [results, Try.results56, go_sem, m0, m1, m2, m3]) rfl ⟨rfl, set1 (set1 (set1 (set1 C3.out (by omega) _ _) (by omega) _ _) (by omega) _ _) (by omega) _ _⟩
    · have KQ := Lib.hid fun W => Check_f q W hq
      obtain rfl : E = 30 := by
        rcases hE with ⟨_, h⟩ | ⟨h, _⟩
        · exact h
        · exact absurd h.2 hq
      clear hE hp hq
      go_enter Try.func56, Try.ntmps56
      go_wp2_with fail
      refine (KP.out _).mono ?_
      rintro e w1 ⟨rfl, hb⟩
      have s1 := hb.size
      simp only [World.size_alloc] at s1
      have c0 : w1.cell? ⟨w.heap.size + 1, 0, none⟩ = some (.int .i64 (q.b)) := low_cell hb (by simp only [World.size_alloc]; omega) (by go_simp)
      have c1 : w1.cell? ⟨w.heap.size + 1, 1, none⟩ = some (.int .i64 (q.lo)) := low_cell hb (by simp only [World.size_alloc]; omega) (by go_simp)
      have c2 : w1.cell? ⟨w.heap.size + 1, 2, none⟩ = some (.int .i64 (q.hi)) := low_cell hb (by simp only [World.size_alloc]; omega) (by go_simp)
      have c3 : w1.cell? ⟨w.heap.size + 1, 3, none⟩ = some (.int .i64 (q.r)) := low_cell hb (by simp only [World.size_alloc]; omega) (by go_simp)
      have g0 : w1.cell? ⟨w.heap.size + 1 + 1, 0, none⟩ = some (.int .i64 (0)) := low_cell hb (by simp only [World.size_alloc]; omega) (by go_simp)
      have gf0 : w1.frozen? ⟨w.heap.size + 1 + 1, 0, none⟩ = false := low_frozen hb (by simp only [World.size_alloc]; omega) (by go_simp)
      have g1 : w1.cell? ⟨w.heap.size + 1 + 1, 1, none⟩ = some (.int .i64 (0)) := low_cell hb (by simp only [World.size_alloc]; omega) (by go_simp)
      have gf1 : w1.frozen? ⟨w.heap.size + 1 + 1, 1, none⟩ = false := low_frozen hb (by simp only [World.size_alloc]; omega) (by go_simp)
      have g2 : w1.cell? ⟨w.heap.size + 1 + 1, 2, none⟩ = some (.int .i64 (0)) := low_cell hb (by simp only [World.size_alloc]; omega) (by go_simp)
      have gf2 : w1.frozen? ⟨w.heap.size + 1 + 1, 2, none⟩ = false := low_frozen hb (by simp only [World.size_alloc]; omega) (by go_simp)
      have g3 : w1.cell? ⟨w.heap.size + 1 + 1, 3, none⟩ = some (.int .i64 (0)) := low_cell hb (by simp only [World.size_alloc]; omega) (by go_simp)
      have gf3 : w1.frozen? ⟨w.heap.size + 1 + 1, 3, none⟩ = false := low_frozen hb (by simp only [World.size_alloc]; omega) (by go_simp)
      have C1 := Lib.hid ((box3 _ _ _ _).trans (hb.mono (by simp only [World.size_alloc]; omega)))
      have z : w.heap.size + 1 + 1 < w1.heap.size := by omega
      clear hb
      go_wp2_with fail
      refine (KQ.out _).mono ?_
      rintro e w2 ⟨rfl, hb⟩
      have s2 := hb.size
      have k0 := cell_up hb (by omega) g0
      have kf0 := low_frozen hb (by omega) gf0
      have k1 := cell_up hb (by omega) g1
      have kf1 := low_frozen hb (by omega) gf1
      have k2 := cell_up hb (by omega) g2
      have kf2 := low_frozen hb (by omega) gf2
      have k3 := cell_up hb (by omega) g3
      have kf3 := low_frozen hb (by omega) gf3
      have C2 := Lib.hid (C1.out.trans (hb.mono C1.out.size))
      have z2 : w.heap.size + 1 + 1 < w2.heap.size := by omega
      clear hb c0 c1 c2 c3 g0 g1 g2 g3 gf0 gf1 gf2 gf3
      go_wp2_with fail
      rw [show addV p q 30 = Pn.zero from rfl]
      exact bodyPost_ret (v := .tuple #[Pn.zero.v, .int .i64 30]) (by simp [results, Try.results56, go_sem, k0, k1, k2, k3]) rfl ⟨rfl, set1 (set1 (set1 (set1 C2.out (by omega) _ _) (by omega) _ _) (by omega) _ _) (by omega) _ _⟩
  · have KP := Lib.hid fun W => Check_f p W hp
    obtain rfl : E = 30 := by
      rcases hE with ⟨_, h⟩ | ⟨h, _⟩
      · exact h
      · exact absurd h.1 hp
    clear hE hp
    go_enter Try.func56, Try.ntmps56
    go_wp2_with fail
    refine (KP.out _).mono ?_
    rintro e w1 ⟨rfl, hb⟩
    have s1 := hb.size
    simp only [World.size_alloc] at s1
    have k0 : w1.cell? ⟨w.heap.size + 1 + 1, 0, none⟩ = some (.int .i64 (0)) := low_cell hb (by simp only [World.size_alloc]; omega) (by go_simp)
    have kf0 : w1.frozen? ⟨w.heap.size + 1 + 1, 0, none⟩ = false := low_frozen hb (by simp only [World.size_alloc]; omega) (by go_simp)
    have k1 : w1.cell? ⟨w.heap.size + 1 + 1, 1, none⟩ = some (.int .i64 (0)) := low_cell hb (by simp only [World.size_alloc]; omega) (by go_simp)
    have kf1 : w1.frozen? ⟨w.heap.size + 1 + 1, 1, none⟩ = false := low_frozen hb (by simp only [World.size_alloc]; omega) (by go_simp)
    have k2 : w1.cell? ⟨w.heap.size + 1 + 1, 2, none⟩ = some (.int .i64 (0)) := low_cell hb (by simp only [World.size_alloc]; omega) (by go_simp)
    have kf2 : w1.frozen? ⟨w.heap.size + 1 + 1, 2, none⟩ = false := low_frozen hb (by simp only [World.size_alloc]; omega) (by go_simp)
    have k3 : w1.cell? ⟨w.heap.size + 1 + 1, 3, none⟩ = some (.int .i64 (0)) := low_cell hb (by simp only [World.size_alloc]; omega) (by go_simp)
    have kf3 : w1.frozen? ⟨w.heap.size + 1 + 1, 3, none⟩ = false := low_frozen hb (by simp only [World.size_alloc]; omega) (by go_simp)
    have C2 := Lib.hid ((box3 _ _ _ _).trans (hb.mono (by simp only [World.size_alloc]; omega)))
    have z2 : w.heap.size + 1 + 1 < w1.heap.size := by omega
    clear hb
    go_wp2_with fail
    rw [show addV p q 30 = Pn.zero from rfl]
    exact bodyPost_ret (v := .tuple #[Pn.zero.v, .int .i64 30]) (by simp [results, Try.results56, go_sem, k0, k1, k2, k3]) rfl ⟨rfl, set1 (set1 (set1 (set1 C2.out (by omega) _ _) (by omega) _ _) (by omega) _ _) (by omega) _ _⟩
end Go.Proofs.Ytkidhmajlpceeaa
