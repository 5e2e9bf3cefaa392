import Derived.Test.YtkidhmajlpceeaaIxs
namespace Go.Proofs.Ytkidhmajlpceeaa
open Go.RowKit
/-- what a cell holds -/
def cellAt (w : World) (b o : Nat) : Value := (w.cell? ⟨b, o, none⟩).getD undef
theorem cellAt_ok {w : World} {b o : Nat} {v : Value} (h : w.cell? ⟨b, o, none⟩ = some v) : w.cell? ⟨b, o, none⟩ = some (cellAt w b o) := by unfold cellAt; rw [h]; rfl
theorem keepA {w : World} {p : Addr} {G o : Nat} {u v : Value} (h : w.cell? p = some v) (hp : p.block ≠ G) : (w.setCell ⟨G, o, none⟩ u).cell? p = some v := by
  rw [World.cell?_setCell_other _ _ _ _ (fun e => hp (by rw [← e]))]
  exact h
def So (p : Pn) (Z : Nat → Int) (k i : Nat) : Int × Int := if i < k then Ofs p Z i else (0, 0)
theorem So_zero (p : Pn) (Z : Nat → Int) : So p Z 0 = fun _ => (0, 0) := by funext i; unfold So; rw [if_neg (by omega)]
theorem So_succ (p : Pn) (Z : Nat → Int) (k : Nat) : (fun i => if i = k then ((pul p.b (Z k - Z (k - 1))).1, (pul p.b (Z k - Z (k - 1))).2) else So p Z k i) = So p Z (k + 1) := by
  funext i
  unfold So
  by_cases hi : i = k
  · rw [if_pos hi, if_pos (by omega), hi]; rfl
  · rw [if_neg hi]
    by_cases h2 : i < k
    · rw [if_pos h2, if_pos (by omega)]
    · rw [if_neg h2, if_neg (by omega)]
theorem NrI.cong {p : Pn} {Z : Nat → Int} {a : Addr} {n c g cap bs bl bp B : Nat} {w0 : World} {S T : Nat → Int × Int} {wr : World} (h : NrI p Z a n c g cap bs bl bp B w0 S wr) (e : ∀ i, i < n → S i = T i) : NrI p Z a n c g cap bs bl bp B w0 T wr :=
  ⟨h.zs, h.hs, h.hl, h.hp, ⟨h.sp.lt, fun i hi => by rw [← e i hi]; exact h.sp.c0 i hi, fun i hi => by rw [← e i hi]; exact h.sp.c1 i hi, h.sp.f⟩, h.bel⟩
/-- spans and true, or spans and false -/
def OPost (w : World) (n : Nat) (S : Nat → Int × Int) (G : Bool) (e : Ending) (w' : World) : Prop :=
  ∃ g cap, e = .returned (.tuple #[.slice (some ⟨g, 0, none⟩) n cap, .bool G]) ∧ w.heap.size ≤ g ∧ SpR g n S w' ∧ Below w.heap.size w w'
set_option maxRecDepth 100000 in
set_option maxHeartbeats 4000000 in
theorem offsets_any (p : Pn) (A : Option Addr) (n c : Nat) (Z : Nat → Int) (G : Bool) (w : World) (hin : IntsIn A n Z w.heap.size w) (h : p.Ok) (hl : LsOk Z n) (hG : G = true ↔ Ful (Gs p Z n) n) :
    Calls Try.prog 78 #[p.v, .slice A n c] w fun e w' => OPost w n (Gs p Z n) G e w' := by
  obtain ⟨a, rfl, ab, c00⟩ := hin.2 0 (by have := hl.1; omega)
  have HIN := Lib.hid hin
  have HL := Lib.hid hl
  have hn1 := hl.1
  have hn2 := hl.2.1
  have H := Lib.hid h
  have HG := Lib.hid hG
  have hmk := run_make_spans n (by omega)
  have KP := Lib.hid fun d W => pulled_any p d W h.b
  clear hin hl h hG c00
  go_enter Try.func78, Try.ntmps78
  go_wp2_with fail
  clear hmk
  obtain ⟨G0, hG0⟩ : ∃ G0 : Nat, G0 = w.heap.size + 1 + 1 := ⟨_, rfl⟩
  have HI0 : Hid ((NrI p Z a n c G0 n (w.heap.size + 1) (w.heap.size + 1 + 1 + 1) w.heap.size w.heap.size w (So p Z 0) ((((w.alloc (.cells #[.int .i64 p.b, .int .i64 p.lo, .int .i64 p.hi, .int .i64 p.r] 25)).alloc (.cells #[.slice (some a) n c] 28)).alloc (.cells (madeCells #[.int .i64 0, .int .i64 0] (n * 2)) 23)).alloc (.cells #[.slice (some ⟨w.heap.size + 1 + 1, 0, none⟩) n n] 48)))) := Lib.hid (by
    subst hG0
    refine ⟨fun i hi => ?_, by go_simp, by go_simp, ⟨by go_simp, by go_simp, by go_simp, by go_simp⟩, ?_, box4 _ _ _ _ _⟩
    · obtain ⟨a', e, h1, h2⟩ := HIN.out.2 i hi
      cases e
      exact ((box4 w _ _ _ _).cell (by rw [add_block]; exact ab)).trans h2
    · rw [So_zero]
      have := (SpR.new ((w.alloc (.cells #[.int .i64 p.b, .int .i64 p.lo, .int .i64 p.hi, .int .i64 p.r] 25)).alloc (.cells #[.slice (some a) n c] 28)) n).up (box1 _ (.cells #[.slice (some ⟨w.heap.size + 1 + 1, 0, none⟩) n n] 48))
      simpa only [World.size_alloc] using this)
  have n0 : w.heap.size ≠ G0 := by omega
  have n1 : w.heap.size + 1 ≠ G0 := by omega
  have n2 : w.heap.size + 1 + 1 + 1 ≠ G0 := by omega
  have n3 : a.block ≠ G0 := by omega
  have HGG := Lib.hid (show NrG a G0 (w.heap.size + 1) (w.heap.size + 1 + 1 + 1) w.heap.size w.heap.size from ⟨n3, n1, n2, n0, by omega⟩)
  have HG0 := Lib.hid hG0
  clear hG0
  go_loopw [7, 8, 15] (fun _ _ i wr => ∃ k : Nat, k ≤ n ∧ i = .int .i64 k ∧ NrI p Z a n c G0 n (w.heap.size + 1) (w.heap.size + 1 + 1 + 1) w.heap.size w.heap.size w (So p Z k) wr ∧ w.heap.size + 1 + 1 + 1 < wr.heap.size) (fun _ _ i _ => n - (intOf i).toNat)
  case atStart => exact ⟨0, Nat.zero_le _, rfl, HI0.out, by simp⟩
  case round =>
    obtain ⟨k, hk, rfl, hI, hsz⟩ := hrel
    obtain ⟨wo, rfl⟩ : ∃ wo : World, wo = wr := ⟨_, rfl⟩
    have hk0 : (0 : Int) ≤ (k : Int) := by omega
    have HI := Lib.hid hI
    clear hI HI0
    by_cases hlt : k < n
    · have hki : (k : Int) < (n : Int) := by omega
      obtain ⟨m, hm⟩ : ∃ m : Nat, m = k - 1 := ⟨_, rfl⟩
      have hmx : max (0 : Int) ((k : Int) - 1) = (m : Int) := by omega
      have hm0 : (0 : Int) ≤ (m : Int) := by omega
      have hm1 : (m : Int) < n := by omega
      have c1 := HI.out.zs k hlt
      have c2 := HI.out.zs m (by omega)
      have c3 := HI.out.hs
      have c4 := HI.out.hl
      obtain ⟨c5, c6, c7, c8⟩ := HI.out.hp
      have c9 := HI.out.sp.c0 k hlt
      have c10 := HI.out.sp.c1 k hlt
      have c11 := HI.out.sp.f (k * 2)
      have c12 := HI.out.sp.f (k * 2 + 1)
      have na : (a.add m).block ≠ G0 := by rw [add_block]; exact n3
      have nb : (a.add m).block < wo.heap.size := World.block_lt_of_cell? _ _ c2
      have l1 := HL.out.2.2 k hlt
      have l2 := HL.out.2.2 m (by omega)
      have w1 : IntKind.i64.wrap ((k : Int) - 1) = (k : Int) - 1 := IntWalk.i64_in _ (by omega)
      have w2 : IntKind.i64.wrap (Z k - Z m) = Z k - Z m := IntWalk.i64_in _ (by omega)
      have z1 : w.heap.size < wo.heap.size := by omega
      have z2 : w.heap.size + 1 < wo.heap.size := by omega
      have z3 : G0 < wo.heap.size := HI.out.sp.lt
      have HM := Lib.hid hm
      clear hm l1 l2
      go_wp2_with fail
      go_region_held3 (fun w' => w'.cell? ⟨w.heap.size, 0, none⟩ = some (.int .i64 (p.b)) ∧ w'.cell? ⟨w.heap.size, 1, none⟩ = some (.int .i64 (p.lo)) ∧ w'.cell? ⟨w.heap.size, 2, none⟩ = some (.int .i64 (p.hi)) ∧ w'.cell? ⟨w.heap.size, 3, none⟩ = some (.int .i64 (p.r)) ∧ w'.cell? ⟨w.heap.size + 1, 0, none⟩ = some (.slice (some a) n c) ∧ w'.cell? ⟨w.heap.size + 1 + 1 + 1, 0, none⟩ = some (.slice (some ⟨G0, 0, none⟩) n n) ∧ w'.cell? (a.add m) = some (.int .i64 (Z m)) ∧ w'.cell? ⟨G0, k * 2, none⟩ = some (cellAt w' G0 (k * 2)) ∧ w'.cell? ⟨G0, k * 2 + 1, none⟩ = some (cellAt w' G0 (k * 2 + 1)) ∧ w'.frozen? ⟨G0, k * 2, none⟩ = false ∧ w'.frozen? ⟨G0, k * 2 + 1, none⟩ = false ∧ wo.heap.size ≤ w'.heap.size)
            (first
              | (go_split_ands; (repeat' apply And.intro); all_goals first | assumption | (go_simp; done) | (unfold cellAt; go_simp; done) | ((try simp only [World.size_drew]); omega))
              | (go_split_ands; (repeat' apply And.intro); all_goals first | exact (hbA.cell (by first | omega | ((try simp only [World.size_drew]); omega))).trans (by assumption) | exact (hbA.frozen (by first | omega | ((try simp only [World.size_drew]); omega))).trans (by assumption) | exact cellAt_ok ((hbA.cell (by first | omega | ((try simp only [World.size_drew]); omega))).trans (by assumption)) | (have := hbA.size; first | omega | ((try simp only [World.size_drew] at this); omega)))
              | (go_split_ands; (repeat' apply And.intro); all_goals first | assumption | exact keepA (keepA (by assumption) (by first | exact n0 | exact n1 | exact n2 | exact na)) (by first | exact n0 | exact n1 | exact n2 | exact na) | (go_simp; done) | (unfold cellAt; go_simp; done) | (simp only [World.size_setCell]; omega)))
            (first | (go_at_call 97; go_split_ands; ((with_reducible refine (KP.out _ _).mono ?_); rintro e wA ⟨rfl, hbA⟩)))
      all_goals
        have hb' : Below wo.heap.size wo wA := by first | exact hbA | exact (Below.refl _ _).drew.trans (hbA.mono (by simp only [World.size_drew]; omega))
        have hms := HM.out
        subst hms
        have NN := (HI.out.up (by omega) hb').set (x := (pul p.b (Z k - Z (k - 1))).1) (y := (pul p.b (Z k - Z (k - 1))).2) HGG.out hlt
        rw [So_succ] at NN
        have NH := Lib.hid NN
        have ys := hb'.size
        clear NN hbA hb' w1 w2 c1 c2 c3 c4 c5 c6 c7 c8 c9 c10 c11 c12
        go_wp2_with fail
        go_roundw
        case rel => exact ⟨k + 1, by omega, by go_num, NH.out, by simp only [World.size_setCell]; omega⟩
        case measure => simp [intOf]; omega
    · have hki : (n : Int) ≤ (k : Int) := by omega
      obtain rfl : k = n := by omega
      have HI2 : Hid (NrI p Z a k c G0 k (w.heap.size + 1) (w.heap.size + 1 + 1 + 1) w.heap.size w.heap.size w (Ofs p Z) wo) := Lib.hid (HI.out.cong fun i hi => by unfold So; rw [if_pos hi])
      have c4 := HI.out.hl
      obtain ⟨c5, c6, c7, c8⟩ := HI.out.hp
      have KN := Lib.hid (narrow_any p Z a k c G0 k (w.heap.size + 1) (w.heap.size + 1 + 1 + 1) w.heap.size w.heap.size w wo H.out HL.out.2.2 (by omega) hn2 HGG.out HI2.out (by omega))
      clear HI
      go_wp2_with fail
      refine KN.out.mono ?_
      rintro e w1 ⟨rfl, hN⟩
      have HN := Lib.hid hN
      have d4 := hN.hl
      have hlz := World.block_lt_of_cell? _ _ d4
      have KC := Lib.hid fun W (hW : Below w1.heap.size w1 W) => cfs_any G0 k k (Gs p Z k) G W hn2 (HN.out.sp.up hW) HG.out
      clear hN c4 c5 c6 c7 c8
      go_wp2_with fail
      go_region_with (go_at_call 101; refine (KC.out _ (by first | exact Below.refl _ _ | exact (Below.refl _ _).drew)).mono ?_; rintro e w2 ⟨rfl, hb2⟩; have HB2 := Lib.hid (show Below w1.heap.size w1 w2 from by first | exact hb2 | exact (Below.refl _ _).drew.trans (hb2.mono (by simp only [World.size_drew]; omega))); have d5 := cell_up HB2.out hlz d4; clear hb2)
      all_goals
        go_wp2_with fail
        go_ret2
        refine ⟨G0, k, by cases G <;> rfl, by have := HG0.out; omega, ?_, ?_⟩
        · first | exact HN.out.sp.up HB2.out | exact (HN.out.sp.up HB2.out).up (Below.refl _ _).drew
        · first | exact HN.out.bel.trans (HB2.out.mono HN.out.bel.size) | exact (HN.out.bel.trans (HB2.out.mono HN.out.bel.size)).drew
end Go.Proofs.Ytkidhmajlpceeaa
