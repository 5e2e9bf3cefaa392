import Derived.Test.YtkidhmajlpceeaaTur
import Derived.Test.YtkidhmajlpceeaaShw
namespace Go.Proofs.Ytkidhmajlpceeaa
open Go.RowKit Go.Lib Go.Sort
def mLo (Z : Nat → Int) (n : Nat) : Nat → Int
  | 0 => Z (n - 1)
  | d + 1 => min (mLo Z n d) (Z (n - 2 - d))
def mHi (Z : Nat → Int) (n : Nat) : Nat → Int
  | 0 => Z (n - 1)
  | d + 1 => max (mHi Z n d) (Z (n - 2 - d))
def mOut (Z : Nat → Int) (n : Nat) : Nat → List Int
  | 0 => [((n - 1 : Nat) : Int)]
  | d + 1 => if mLo Z n d ≤ Z (n - 2 - d) ∧ Z (n - 2 - d) ≤ mHi Z n d then mOut Z n d else mOut Z n d ++ [((n - 2 - d : Nat) : Int)]
def memGo (b : Int) (Z : Nat → Int) (n : Nat) : Nat → Nat → Nat
  | 0, d => d
  | f + 1, d => if mHi Z n d - mLo Z n d < 2 * b then memGo b Z n f (d + 1) else d
def memL (b : Int) (Z : Nat → Int) (n : Nat) : List Int := (mOut Z n (memGo b Z n (n - 1) 0)).reverse
theorem mOut_len (Z : Nat → Int) (n : Nat) : ∀ d, (mOut Z n d).length ≤ d + 1 ∧ 0 < (mOut Z n d).length
  | 0 => by simp [mOut]
  | d + 1 => by
    have := mOut_len Z n d
    unfold mOut
    split
    · omega
    · simp only [List.length_append, List.length_singleton]; omega
theorem mBd (Z : Nat → Int) (n : Nat) (h : Lvs Z n) (h0 : 0 < n) : ∀ d, -50000 ≤ mLo Z n d ∧ mLo Z n d ≤ mHi Z n d ∧ mHi Z n d ≤ 50000
  | 0 => by have := h (n - 1) (by omega); unfold mLo mHi; omega
  | d + 1 => by
    have := mBd Z n h h0 d
    have := h (n - 2 - d) (by omega)
    unfold mLo mHi
    omega
/-- what the loop holds: the turns remembered, and what lies behind -/
structure MeI (w : World) (b : Int) (L : List Int) (lo hi : Int) (bh : Nat) (v : Value) (wr : World) : Prop where
  own : wr.ownsRow (w.heap.size + 1) 3 1 v L.length (intsZ L)
  beh : wr.heap[bh]? = some (.cells #[.int .i64 lo, .int .i64 hi] 23 (0, 0))
  pen : wr.cell? ⟨w.heap.size, 0, none⟩ = some (.int .i64 b)
  below : Below w.heap.size w wr
  lb : w.heap.size < bh
section
variable {w wr W : World} {b lo hi : Int} {L : List Int} {bh : Nat} {v : Value}
theorem MeI.ne (h : MeI w b L lo hi bh v wr) : some bh ≠ v.ownBlock := by
  intro e
  obtain ⟨_, hx | ⟨g, cap, cur, rfl, _, hg, _⟩⟩ := h.own
  · rw [hx.1] at e; cases e
  · simp only [Value.ownBlock, Option.some.injEq] at e
    subst e
    have := h.beh.symm.trans hg
    simp at this
theorem MeI.keep (h : MeI w b L lo hi bh v wr) (hb : Below wr.heap.size wr W) : MeI w b L lo hi bh v W :=
  ⟨own_keep h.own hb, (hb.block bh (Array.getElem?_eq_some_iff.1 h.beh).1).trans h.beh, cell_up hb (World.block_lt_of_cell? _ _ h.pen) h.pen, h.below.trans (hb.mono h.below.size), h.lb⟩
theorem MeI.app {o : Obj} {v' : Value} {z : Int} (h : MeI w b L lo hi bh v wr) (hg : (wr.alloc o).grownBy W v.ownBlock)
    (h' : W.ownsRow (w.heap.size + 1) 3 1 v' (L.length + 1) (intsZ L ++ [.int .i64 z])) : MeI w b (L ++ [z]) lo hi bh v' W := by
  have hl := (Array.getElem?_eq_some_iff.1 h.beh).1
  have hp := World.block_lt_of_cell? _ _ h.pen
  have hp' : w.heap.size < wr.heap.size := hp
  refine ⟨by rw [intsZ_snoc, List.length_append]; exact h', ?_, cell_row hg (by simp only [World.size_alloc]; omega) (own_ne h.own (by omega)) (cell_up (box1 _ _) hp' h.pen), ?_, h.lb⟩
  · rw [hg.block bh (by simp only [World.size_alloc]; omega) h.ne]; exact (Below.heap_alloc _ _ _ hl).trans h.beh
  · exact (h.below.alloc (Nat.le_of_lt hp') _).grown hg (by simp only [World.size_alloc]; omega) (fun j hj => by have := own_block h.own hj; omega)
theorem MeI.store {lo' hi' : Int} (h : MeI w b L lo hi bh v wr) : MeI w b L lo' hi' bh v ((wr.setCell ⟨bh, 0, none⟩ (.int .i64 lo')).setCell ⟨bh, 1, none⟩ (.int .i64 hi')) := by
  have hne := h.ne
  have hlb := h.lb
  refine ⟨own_same h.own fun g hg => ?_, ?_, ?_, set1 (set1 h.below (by omega) _ _) (by omega) _ _, h.lb⟩
  · have : g ≠ bh := fun e => hne (by rw [← e, hg])
    rw [Below.heap_setCell _ _ _ _ this, Below.heap_setCell _ _ _ _ this]
  · have h1 := heap_setCell_same wr bh 0 _ _ (.int .i64 lo') h.beh
    have h2 := heap_setCell_same _ bh 1 _ _ (.int .i64 hi') h1
    simpa using h2
  · have hd : ∀ o : Nat, (⟨w.heap.size, 0, none⟩ : Addr) ≠ ⟨bh, o, none⟩ := fun o e => by injection e with e1; omega
    rw [World.cell?_setCell_other _ _ _ _ (Ne.symm (hd 1)), World.cell?_setCell_other _ _ _ _ (Ne.symm (hd 0))]; exact h.pen
end
theorem wp_quiet_tail {P : Program} {w : World} {id : Nat} {Q : Exit → Act → World → Prop} {a : Act} {l : List Oper} (n : Nat) (hm : P.follows .mixedOrders = true) (hB : Region.lexTailB .any l.toArray n = true)
    (h : wpQuiet P l.toArray (fun w' => w' = w.drew) (fun a' => wpList P l.toArray Q (l.drop n) a' w.drew) (l.take n) a) : (Code.region id l.toArray true).wp P Q a w :=
  wp_region_still_tail n hm hB (wpStill_of_quiet _ _ h)
def memR (p : Pn) (n : Nat) (Z : Nat → Int) (E : Int) : Prop := (¬ p.Ok ∧ E = 30) ∨ p.Ok ∧ ((¬ LsOk Z n ∧ E = 1) ∨ LsOk Z n ∧ E = 0)
theorem rev_row (w wo : World) (L : List Int) (B : Nat) (v : Value) (h0 : 0 < L.length) (hl : L.length ≤ 1000) (hown : wo.ownsRow B 3 1 v L.length (intsZ L)) (hb : Below w.heap.size w wo) (hB : w.heap.size ≤ B) :
    (∃ g cap, v = .slice (some ⟨g, 0, none⟩) L.length cap) ∧ Calls Try.prog 94 #[v] wo fun e w' => e = .returned (.tuple #[]) ∧ RowZ w L.reverse v w' := by
  obtain ⟨hx0, hx | ⟨gb, cap, cur, rfl, hbase, hgb, r1, r2, r3, r4⟩⟩ := hown
  · omega
  · have hH : Holds (Value.int .i64) wo gb 0 L.toArray := holds_of_blockI hgb (by simpa [intsZ] using r4)
    refine ⟨⟨_, _, rfl⟩, (AnyG.slices_Reverse_int Try.rev94 gb 0 cap L wo hH (by omega)).mono ?_⟩
    rintro e w2 ⟨rfl, nn, rfl⟩
    have hG : wo.grownBy (putRow (Value.int .i64) (Sort.ahead wo nn) gb 0 L.reverse.toArray) (some gb) := by
      have := grownBy_sortedI (w := wo) (g := gb) (n := nn) (os := #[]) L.reverse.toArray
      rwa [Sort.grow_empty] at this
    refine ⟨rfl, hb.grown hG hb.size (fun j hj => by cases hj; omega), ?_⟩
    have := ownsRow_sortedI (n := nn) (os := #[]) (ss := L) (ts := L.reverse) (by simp) (Nat.le_trans hB hbase) hgb r1 r2 r3
    rw [Sort.grow_empty] at this
    simpa [intsZ] using this
set_option maxRecDepth 100000 in
set_option maxHeartbeats 400000 in
theorem Memory_any (p : Pn) (A : Option Addr) (n c : Nat) (Z : Nat → Int) (E : Int) (w : World) (hin : IntsIn A n Z w.heap.size w) (hE : memR p n Z E) :
    Calls Try.prog 54 #[p.v, .slice A n c] w fun e w' => ZPost w (memL p.b Z n) E e w' := by
  rcases hE with ⟨h, rfl⟩ | ⟨h, ⟨hl, rfl⟩ | ⟨hl, rfl⟩⟩
  · go_enter Try.func54, Try.ntmps54
    go_wp2_with fail
    refine (checkList_bad p _ _ _ _ h).mono ?_
    rintro e w1 ⟨rfl, hb⟩
    go_wp2_with fail
    go_ret2
    exact ⟨fun e => by simp at e, fun _ => ⟨rfl, (box1 _ _).trans (hb.mono (by simp))⟩⟩
  · have HIN := Lib.hid (fun o => (hin.up (box1 w o) (Nat.le_refl _)).more (box1 w o).size)
    have HL := Lib.hid hl
    clear hl hin
    go_enter Try.func54, Try.ntmps54
    go_wp2_with fail
    refine (checkList_arg p _ _ _ Z _ (HIN.out _) h HL.out).mono ?_
    rintro e w1 ⟨rfl, hb⟩
    go_wp2_with fail
    go_ret2
    exact ⟨fun e => by simp at e, fun _ => ⟨rfl, (box1 _ _).trans (hb.mono (by simp))⟩⟩
  · have HIN := Lib.hid hin
    have HL := Lib.hid hl
    have HH := Lib.hid h
    obtain ⟨b1, b2⟩ := h.b
    obtain ⟨l1, l2, l3⟩ := hl
    have HV := Lib.hid l3
    clear hin h l3
    go_enter Try.func54, Try.ntmps54
    go_wp2_with fail
    refine (checkList_ok p _ _ _ Z _ ((HIN.out.up (box1 w _) (Nat.le_refl _)).more (by simp)) HH.out HL.out).mono ?_
    rintro e w1 ⟨rfl, hb⟩
    have C1 : Below w.heap.size w w1 := (box1 _ _).trans (hb.mono (by simp))
    have s1 := hb.size
    simp only [World.size_alloc] at s1
    have q0 : w1.cell? ⟨w.heap.size, 0, none⟩ = some (.int .i64 p.b) := low_cell hb (by simp only [World.size_alloc]; omega) (by go_simp)
    have HC := Lib.hid C1
    clear hb C1
    have w1' : IntKind.i64.wrap ((n : Int) - 1) = ((n - 1 : Nat) : Int) := by rw [show (n : Int) - 1 = ((n - 1 : Nat) : Int) by omega]; exact IntWalk.i64_in _ (by omega)
    go_wp2_with fail
    obtain ⟨w2, hw2⟩ : ∃ w2, w2 = w1.alloc (.cells #[.int .i64 ((n - 1 : Nat) : Int)] 3) := ⟨_, rfl⟩
    have hb2 : Below w.heap.size w w2 := by rw [hw2]; exact HC.out.alloc (by omega) _
    have hs2 : w2.heap.size = w1.heap.size + 1 := by rw [hw2]; simp
    have hown : w2.ownsRow (w.heap.size + 1) 3 1 (.slice (some ⟨w1.heap.size, 0, none⟩) 1 1) (mOut Z n 0).length (intsZ (mOut Z n 0)) :=
      ⟨by simp [mOut, intsZ], .inr ⟨w1.heap.size, 1, #[.int .i64 ((n - 1 : Nat) : Int)], rfl, by omega, by rw [hw2]; exact World.alloc_heap_new _ _, by simp [mOut], by unfold maxLen; omega, by simp, by simp [mOut, intsZ]⟩⟩
    have q2 : w2.cell? ⟨w.heap.size, 0, none⟩ = some (.int .i64 p.b) := by rw [hw2]; exact cell_up (box1 _ _) (by omega) q0
    obtain ⟨a, rfl, ab, c0⟩ := (HIN.out.up hb2 (Nat.le_refl _)).2 (n - 1) (by omega)
    obtain ⟨a', e', _, c1⟩ := (HIN.out.up (hb2.alloc (Nat.le_of_lt (World.block_lt_of_cell? _ _ q2)) (.cells #[.int .i64 0, .int .i64 0] 23)) (Nat.le_refl _)).2 (n - 1) (by omega)
    cases e'
    have q3 := World.block_lt_of_cell? _ _ q2
    rw [← hw2]
    have HB2 := Lib.hid hb2
    have HO := Lib.hid hown
    have n0 : 0 ≤ ((n - 1 : Nat) : Int) := by omega
    have n1 : ((n - 1 : Nat) : Int) < n := by omega
    clear hw2 hb2 hown w1' q0
    go_region
    obtain ⟨w3, hw3⟩ : ∃ w3, w3 = (w2.alloc (.cells #[.int .i64 (Z (n - 1)), .int .i64 (Z (n - 1))] 23)).drew := ⟨_, rfl⟩
    have hb3 : Below w2.heap.size w2 w3 := by rw [hw3]; exact (box1 _ _).drew
    have I0 : MeI w p.b (mOut Z n 0) (mLo Z n 0) (mHi Z n 0) (w1.heap.size + 1) (.slice (some ⟨w1.heap.size, 0, none⟩) 1 1) w3 :=
      ⟨own_keep HO.out hb3, by rw [hw3, ← hs2]; exact World.alloc_heap_new _ _, cell_up hb3 q3 q2, HB2.out.trans (hb3.mono HB2.out.size), by omega⟩
    have HI0 := Lib.hid I0
    have q4 := I0.pen
    have hs3 := hb3.size
    rw [← hw3]
    have w2' : IntKind.i64.wrap (((n - 1 : Nat) : Int) - 1) = (n : Int) - 2 := by rw [show ((n - 1 : Nat) : Int) - 1 = (n : Int) - 2 by omega]; exact IntWalk.i64_in _ (by omega)
    obtain ⟨i0, hi0, hz0, hz1, hz2⟩ := info_parts Try.infoInt
    clear hw3 hb3 I0 c0 c1 q2 HO
    go_wp2_with fail
    go_loopw [8, 10] (fun v t wr => ∃ d : Nat, d + 1 ≤ n ∧ t = .int .i64 ((n : Int) - 2 - d) ∧ MeI w p.b (mOut Z n d) (mLo Z n d) (mHi Z n d) (w1.heap.size + 1) v wr ∧ Hid (memGo p.b Z n (n - 1 - d) d = memGo p.b Z n (n - 1) 0)) (fun _ t _ => (intOf t + 1).toNat)
    case atStart => exact ⟨0, by omega, by simp, HI0.out, Lib.hid rfl⟩
    case round =>
      obtain ⟨d, hd, rfl, hI, HD⟩ := hrel
      obtain ⟨wo, rfl⟩ : ∃ wo : World, wo = wr := ⟨_, rfl⟩
      have HI := Lib.hid hI
      have hbe := hI.beh
      have hsz := hI.below.size
      have hbl : w1.heap.size + 1 < wo.heap.size := (Array.getElem?_eq_some_iff.1 hbe).1
      have k0 : wo.cell? ⟨w1.heap.size + 1, 0, none⟩ = some (.int .i64 (mLo Z n d)) := by simp [World.cell?, hbe]
      have k1 : wo.cell? ⟨w1.heap.size + 1, 1, none⟩ = some (.int .i64 (mHi Z n d)) := by simp [World.cell?, hbe]
      have q5 := hI.pen
      obtain ⟨m1, m2, m3⟩ := mBd Z n HV.out (by omega) d
      clear hI hbe q4
      have hlen := mOut_len Z n d
      obtain ⟨v1, v2⟩ := hlen
      by_cases hlt : d + 1 < n
      · have e1 : (0 : Int) ≤ (n : Int) - 2 - d := by omega
        have w3' : IntKind.i64.wrap (mHi Z n d - mLo Z n d) = mHi Z n d - mLo Z n d := IntWalk.i64_in _ (by omega)
        have w4' : IntKind.i64.wrap (2 * p.b) = 2 * p.b := IntWalk.i64_in _ (by omega)
        cases D : decide (mHi Z n d - mLo Z n d < 2 * p.b)
        · have hD : ¬ (mHi Z n d - mLo Z n d < 2 * p.b) := by simpa using D
          have hM : memGo p.b Z n (n - 1) 0 = d := by
            have h := HD.out
            rw [show n - 1 - d = (n - 2 - d) + 1 by omega] at h
            exact h.symm.trans (if_neg hD)
          have hG := Lib.hid hM
          clear hD hM
          obtain ⟨⟨g, cap, rfl⟩, hR⟩ := rev_row w wo (mOut Z n d) _ _ v2 (by omega) HI.out.own HI.out.below (by omega)
          have HR := Lib.hid hR
          clear hR
          go_wp2_with fail
          refine HR.out.mono ?_
          rintro e w5 ⟨rfl, hz⟩
          have HZ := Lib.hid hz
          clear hz HR
          go_wp2_with fail
          go_ret2
          exact ⟨fun _ => ⟨_, rfl, by unfold memL; rw [hG.out]; exact HZ.out⟩, fun e => absurd rfl e⟩
        · obtain ⟨a', e', _, c0⟩ := (HIN.out.up HI.out.below (Nat.le_refl _)).2 (n - 2 - d) (by omega)
          cases e'
          have e2 : ((n : Int) - 2 - d).toNat = n - 2 - d := by omega
          have e3 : (n : Int) - 2 - d < n := by omega
          have hD : mHi Z n d - mLo Z n d < 2 * p.b := by simpa using D
          have HM : Hid (memGo p.b Z n (n - 1 - (d + 1)) (d + 1) = memGo p.b Z n (n - 1) 0) := Lib.hid (by
            have h := HD.out
            rw [show n - 1 - d = (n - 1 - (d + 1)) + 1 by omega] at h
            exact (if_pos hD).symm.trans h)
          clear hD
          have KB := Lib.hid fun W => between_any (Z (n - 2 - d)) (mLo Z n d) (mHi Z n d) W
          go_wp2_with fail
          go_quiet ((go_at_call 73; exact Calls.quiet_of_same ((KB.out _).mono fun _ _ h => ⟨h.1, h.2.symm⟩)))
          obtain ⟨w6, hw6⟩ : ∃ w6, w6 = wo.drewN nq := ⟨_, rfl⟩
          have HI6 := Lib.hid (HI.out.keep (W := w6) (by rw [hw6]; exact below_drewN (Below.refl _ _) _))
          rw [← hw6]
          clear hw6 k0 k1 q5 c0 w3' w4' D
          have hs6 := HI6.out.below.size
          have hbe6 := HI6.out.beh
          have hbl6 : w1.heap.size + 1 < w6.heap.size := (Array.getElem?_eq_some_iff.1 hbe6).1
          clear hbe6
          cases B : btw (Z (n - 2 - d)) (mLo Z n d) (mHi Z n d)
          · have hown := HI6.out.own
            go_wp2_with (at_builtin; refine wpList_append_own _ rfl _ _ 28 rfl (w.heap.size + 1) 3 i0 (.int .i64 0) 1 8 Try.underlying28 hi0 hz0 hz1 hz2 rfl (by decide) _ _ _ rfl (hown.alloc _) ⟨w6.heap.size, 0, none⟩ 1 1 [.int .i64 ((n : Int) - 2 - d)] rfl rfl (new1 _ _) (by simp [Value.oneCell']) (by unfold maxLen; omega) (by omega) (by rw [World.size_alloc]; omega) ?_; intro v8 w8 hown8 hg8 _; have HI8 := Lib.hid (HI6.out.app hg8 hown8); clear hg8 hown8 hown)
            have hbe := HI8.out.beh
            have k0 : w8.cell? ⟨w1.heap.size + 1, 0, none⟩ = some (.int .i64 (mLo Z n d)) := by simp [World.cell?, hbe]
            have k1 : w8.cell? ⟨w1.heap.size + 1, 1, none⟩ = some (.int .i64 (mHi Z n d)) := by simp [World.cell?, hbe]
            have f0 : w8.frozen? ⟨w1.heap.size + 1, 0, none⟩ = false := by simp [World.frozen?, hbe]
            have f1 : w8.frozen? ⟨w1.heap.size + 1, 1, none⟩ = false := by simp [World.frozen?, hbe]
            obtain ⟨a', e', _, c9⟩ := (HIN.out.up HI8.out.below (Nat.le_refl _)).2 (n - 2 - d) (by omega)
            cases e'
            have hl9 : w1.heap.size + 1 < w8.heap.size := (Array.getElem?_eq_some_iff.1 hbe).1
            have w5' : IntKind.i64.wrap ((n : Int) - 2 - d - 1) = (n : Int) - 2 - d - 1 := IntWalk.i64_in _ (by omega)
            clear hbe
            refine wp_quiet_tail 15 (by kernel_rfl) (by kernel_rfl) ?_
            simp only [List.take_succ_cons, List.take_zero, List.drop_succ_cons, List.drop_zero]
            repeat (go_big_quiet_step (fail))
            refine wpQuiet_nil ?_
            go_wp2_with fail
            have eo : mOut Z n (d + 1) = mOut Z n d ++ [(n : Int) - 2 - d] := by
              show (if _ then _ else _) = _
              rw [if_neg (by simpa [btw] using B), show ((n - 2 - d : Nat) : Int) = (n : Int) - 2 - d by omega]
            exact ⟨⟨d + 1, by omega, by rw [show (n : Int) - 2 - d - 1 = (n : Int) - 2 - (d + 1 : Nat) by omega], by rw [eo]; exact HI8.out.store.keep (Below.refl _ _).drew, HM⟩, by simp only [intOf]; omega⟩
          · have hs8 := hs6
            have hbe := HI6.out.beh
            have k0 : w6.cell? ⟨w1.heap.size + 1, 0, none⟩ = some (.int .i64 (mLo Z n d)) := by simp [World.cell?, hbe]
            have k1 : w6.cell? ⟨w1.heap.size + 1, 1, none⟩ = some (.int .i64 (mHi Z n d)) := by simp [World.cell?, hbe]
            have f0 : w6.frozen? ⟨w1.heap.size + 1, 0, none⟩ = false := by simp [World.frozen?, hbe]
            have f1 : w6.frozen? ⟨w1.heap.size + 1, 1, none⟩ = false := by simp [World.frozen?, hbe]
            obtain ⟨a', e', _, c9⟩ := (HIN.out.up HI6.out.below (Nat.le_refl _)).2 (n - 2 - d) (by omega)
            cases e'
            have hl9 : w1.heap.size + 1 < w6.heap.size := (Array.getElem?_eq_some_iff.1 hbe).1
            have w5' : IntKind.i64.wrap ((n : Int) - 2 - d - 1) = (n : Int) - 2 - d - 1 := IntWalk.i64_in _ (by omega)
            clear hbe
            go_wp2_with fail
            refine wp_quiet_tail 15 (by kernel_rfl) (by kernel_rfl) ?_
            simp only [List.take_succ_cons, List.take_zero, List.drop_succ_cons, List.drop_zero]
            repeat (go_big_quiet_step (fail))
            refine wpQuiet_nil ?_
            go_wp2_with fail
            have eo : mOut Z n (d + 1) = mOut Z n d := by
              show (if _ then _ else _) = _
              rw [if_pos (by simpa [btw] using B)]
            exact ⟨⟨d + 1, by omega, by rw [show (n : Int) - 2 - d - 1 = (n : Int) - 2 - (d + 1 : Nat) by omega], by rw [eo]; exact HI6.out.store.keep (Below.refl _ _).drew, HM⟩, by simp only [intOf]; omega⟩
      · obtain rfl : d = n - 1 := by omega
        have e1 : (n : Int) - 2 - ((n - 1 : Nat) : Int) < 0 := by omega
        have hG := Lib.hid (show memGo p.b Z n (n - 1) 0 = n - 1 by have h := HD.out; rw [Nat.sub_self] at h; exact h.symm)
        obtain ⟨⟨g, cap, rfl⟩, hR⟩ := rev_row w wo (mOut Z n (n - 1)) _ _ v2 (by omega) HI.out.own HI.out.below (by omega)
        have HR := Lib.hid hR
        clear hR
        go_wp2_with fail
        refine HR.out.mono ?_
        rintro e w5 ⟨rfl, hz⟩
        have HZ := Lib.hid hz
        clear hz HR
        go_wp2_with fail
        go_ret2
        exact ⟨fun _ => ⟨_, rfl, by unfold memL; rw [hG.out]; exact HZ.out⟩, fun e => absurd rfl e⟩
end Go.Proofs.Ytkidhmajlpceeaa
