import Derived.Test.YtmeljcbefnojfaaLhv
import Derived.Test.YtmeljcbefnojfaaNit
namespace Go.Proofs.Ytmeljcbefnojfaa
open Go.RowKit
/-- columns of a sheet that is being made: each one's spans lie in a block of their own -/
structure ColI (w : World) (G n : Nat) (Lc : Nat → List (Int × Int)) (bl : Nat → Bool) (wr : World) : Prop where
  below : Below G w wr
  blk : ∃ (cur : Array Value) (V : Nat → Value), wr.heap[G]? = some (.cells cur 109 (0, 0)) ∧ cur.size = n * 2 ∧
    (∀ c, c < n → cur[c * 2]? = some (V c) ∧ cur[c * 2 + 1]? = some (.bool (bl c)) ∧ wr.ownsRow (G + 1) 23 2 (V c) (Lc c).length (flatL (Lc c))) ∧
    ∀ c d, c < n → d < n → c ≠ d → ∀ g, (V c).ownBlock = some g → (V d).ownBlock ≠ some g
theorem own_same {w w' : World} {B n size : Nat} {e : TypeId} {v : Value} {xs : List Value} (h : w.ownsRow B e size v n xs) (hb : ∀ g, v.ownBlock = some g → w'.heap[g]? = w.heap[g]?) : w'.ownsRow B e size v n xs := by
  obtain ⟨h0, hx | ⟨g, cap, c2, e1, e2, e3, e4⟩⟩ := h
  · exact ⟨h0, .inl hx⟩
  · exact ⟨h0, .inr ⟨g, cap, c2, e1, e2, (hb g (by rw [e1]; rfl)).trans e3, e4⟩⟩
theorem own_block {w : World} {B n size : Nat} {e : TypeId} {v : Value} {xs : List Value} (h : w.ownsRow B e size v n xs) {g : Nat} (hg : v.ownBlock = some g) : B ≤ g ∧ g < w.heap.size ∧ ∃ cap, v = .slice (some ⟨g, 0, none⟩) n cap := by
  obtain ⟨h0, hx | ⟨g', cap, c2, e1, e2, e3, e4⟩⟩ := h
  · rw [hx.1] at hg; cases hg
  · have : g' = g := by rw [e1] at hg; simpa [Value.ownBlock] using hg
    subst this
    exact ⟨e2, (Array.getElem?_eq_some_iff.1 e3).1, cap, e1⟩
theorem ColI.up {w wr w' : World} {G n : Nat} {Lc : Nat → List (Int × Int)} {bl : Nat → Bool} (h : ColI w G n Lc bl wr) (hb : Below wr.heap.size wr w') : ColI w G n Lc bl w' := by
  obtain ⟨h1, cur, V, h2, h3, h4, h5⟩ := h
  have hl : G < wr.heap.size := (Array.getElem?_eq_some_iff.1 h2).1
  exact ⟨h1.trans (hb.mono (by omega)), cur, V, (hb.block G hl).trans h2, h3, fun c hc => ⟨(h4 c hc).1, (h4 c hc).2.1, own_keep2 (h4 c hc).2.2 hb⟩, h5⟩
theorem ColI.lt {w wr : World} {G n : Nat} {Lc : Nat → List (Int × Int)} {bl : Nat → Bool} (h : ColI w G n Lc bl wr) : G < wr.heap.size := by
  obtain ⟨_, cur, V, h2, _⟩ := h
  exact (Array.getElem?_eq_some_iff.1 h2).1
/-- what add wants of a column, and what a round may turn -/
theorem ColI.at {w wr : World} {G n k : Nat} {Lc : Nat → List (Int × Int)} {bl : Nat → Bool} (h : ColI w G n Lc bl wr) (hk : k < n) :
    ∃ v, wr.cell? ⟨G, k * 2, none⟩ = some v ∧ wr.cell? ⟨G, k * 2 + 1, none⟩ = some (.bool (bl k)) ∧ wr.frozen? ⟨G, k * 2, none⟩ = false ∧ wr.frozen? ⟨G, k * 2 + 1, none⟩ = false ∧ wr.ownsRow (G + 1) 23 2 v (Lc k).length (flatL (Lc k)) := by
  obtain ⟨_, cur, V, h2, h3, h4, _⟩ := h
  obtain ⟨e1, e2, e3⟩ := h4 k hk
  exact ⟨V k, by simp [World.cell?, h2, e1], by simp [World.cell?, h2, e2], by simp [World.frozen?, h2], by simp [World.frozen?, h2], e3⟩
theorem ColI.ptB {w wr : World} {G n k : Nat} {Lc : Nat → List (Int × Int)} {bl : Nat → Bool} (h : ColI w G n Lc bl wr) (hk : k < n) : PtB G (k * 2) wr.heap.size wr := by
  obtain ⟨v, e1, _, _, _, e3⟩ := h.at hk
  refine ⟨h.lt, Nat.le_refl _, fun b ⟨o2, len, cap, e⟩ => ?_⟩
  rw [e1] at e
  cases e
  exact (own_block e3 (g := b) rfl).2.1
/-- a column gets a further span -/
theorem ColI.put {w wr wr' : World} {G n k : Nat} {Lc : Nat → List (Int × Int)} {bl : Nat → Bool} {v : Value} {L' : List (Int × Int)} (h : ColI w G n Lc bl wr) (hk : k < n) (hv : wr.cell? ⟨G, k * 2, none⟩ = some v) (ha : AddG G (k * 2) (G + 1) v.ownBlock wr L' wr') :
    ColI w G n (fun c => if c = k then L' else Lc c) bl wr' ∧ KpN G (k * 2) wr wr' := by
  have hlt := h.lt
  obtain ⟨h1, cur, V, h2, h3, h4, h5⟩ := h
  obtain ⟨v', a1, a2, a3, a4, a5, a6, a7, a8⟩ := ha
  have hvk : V k = v := by
    have := (h4 k hk).1
    simp [World.cell?, h2, this] at hv
    exact hv
  have hok := (h4 k hk).2.2
  rw [hvk] at hok
  have hG' : wr'.heap[G]? = some (.cells (cur.setIfInBounds (k * 2) v') 109 (0, 0)) := by rw [a2]; simp [World.setCell, Array.getElem?_modify, h2]
  have hnew : ∀ g, v'.ownBlock = some g → v.ownBlock = some g ∨ wr.heap.size ≤ g := fun g hg => by
    rcases a3 with e | ⟨g', e, hl⟩
    · exact .inl (e ▸ hg)
    · rw [e] at hg; cases hg; exact .inr hl
  refine ⟨⟨?_, cur.setIfInBounds (k * 2) v', fun c => if c = k then v' else V c, hG', by simp [h3], fun c hc => ?_, fun c d hc hd hcd g hg => ?_⟩, a7, fun b c t f hb hne hnp => ?_⟩
  · refine ⟨a4.trans h1.os, a5.trans h1.tape, a6.trans h1.output, Nat.le_trans h1.size a7, fun j hj => (a8 j (by omega) (by omega) (fun e => ?_)).trans (h1.block j hj)⟩
    have := (own_block hok e.symm).1
    omega
  · by_cases hck : c = k
    · subst hck
      simp only [if_true]
      exact ⟨by rw [Array.getElem?_setIfInBounds_self]; simp; omega, by rw [Array.getElem?_setIfInBounds_ne (by omega)]; exact (h4 c hc).2.1, a1⟩
    · simp only [if_neg hck]
      refine ⟨by rw [Array.getElem?_setIfInBounds_ne (by omega)]; exact (h4 c hc).1, by rw [Array.getElem?_setIfInBounds_ne (by omega)]; exact (h4 c hc).2.1, own_same (h4 c hc).2.2 fun g hg => ?_⟩
      have hb := own_block (h4 c hc).2.2 hg
      exact a8 g hb.2.1 (by omega) fun e => h5 c k hc hk hck g hg (by rw [hvk]; exact e.symm)
  · by_cases hck : c = k
    · subst hck
      simp only [if_true, if_neg (Ne.symm hcd)] at hg ⊢
      rcases hnew g hg with e | e
      · exact h5 c d hc hd hcd g (by rw [hvk]; exact e)
      · intro e'
        have := (own_block (h4 d hd).2.2 e').2.1
        omega
    · by_cases hdk : d = k
      · subst hdk
        simp only [if_true, if_neg hck] at hg ⊢
        intro e'
        rcases hnew g e' with e | e
        · exact h5 c d hc hd hcd g hg (by rw [hvk]; exact e)
        · have := (own_block (h4 c hc).2.2 hg).2.1
          omega
      · simp only [if_neg hck, if_neg hdk] at hg ⊢
        exact h5 c d hc hd hcd g hg
  · have hbl := (Array.getElem?_eq_some_iff.1 hb).1
    refine ⟨(a8 b hbl hne fun e => hnp ?_).trans hb, fun ⟨o2, len, cap, e⟩ => ?_⟩
    · obtain ⟨_, _, cap, e2⟩ := own_block hok e.symm
      exact ⟨0, _, cap, by rw [hv, e2]⟩
    · have e0 : (cur.setIfInBounds (k * 2) v')[k * 2]? = some v' := by rw [Array.getElem?_setIfInBounds_self]; simp; omega
      have e' : wr'.cell? ⟨G, k * 2, none⟩ = some v' := by simp only [World.cell?, hG', e0]; rfl
      rw [e'] at e
      cases e
      rcases hnew b rfl with e2 | e2
      · obtain ⟨_, _, cap2, e3⟩ := own_block hok e2
        exact hnp ⟨0, _, cap2, by rw [hv, e3]⟩
      · omega
/-- a column is blotted -/
theorem ColI.blot {w wr : World} {G n k : Nat} {Lc : Nat → List (Int × Int)} {bl : Nat → Bool} (h : ColI w G n Lc bl wr) (hk : k < n) (b : Bool) : ColI w G n Lc (fun c => if c = k then b else bl c) (wr.setCell ⟨G, k * 2 + 1, none⟩ (.bool b)) := by
  obtain ⟨h1, cur, V, h2, h3, h4, h5⟩ := h
  have hG' : (wr.setCell ⟨G, k * 2 + 1, none⟩ (.bool b)).heap[G]? = some (.cells (cur.setIfInBounds (k * 2 + 1) (.bool b)) 109 (0, 0)) := by simp [World.setCell, Array.getElem?_modify, h2]
  refine ⟨set1 h1 (Nat.le_refl _) _ _, cur.setIfInBounds (k * 2 + 1) (.bool b), V, hG', by simp [h3], fun c hc => ⟨?_, ?_, ?_⟩, h5⟩
  · rw [Array.getElem?_setIfInBounds_ne (by omega)]; exact (h4 c hc).1
  · by_cases hck : c = k
    · subst hck
      simp only [if_true]
      rw [Array.getElem?_setIfInBounds_self]; simp; omega
    · simp only [if_neg hck]
      rw [Array.getElem?_setIfInBounds_ne (by omega)]; exact (h4 c hc).2.1
  · refine own_same (h4 c hc).2.2 fun g hg => ?_
    have := (own_block (h4 c hc).2.2 hg).1
    exact Below.heap_setCell wr ⟨G, k * 2 + 1, none⟩ (.bool b) g (show g ≠ G by omega)
/-- the columns as sheet takes them -/
theorem ColI.cols {w wr : World} {G n : Nat} {Lc : Nat → List (Int × Int)} {bl : Nat → Bool} (h : ColI w G n Lc bl wr) : ColsB w G n n Lc wr := by
  obtain ⟨h1, cur, V, h2, h3, h4, _⟩ := h
  exact ⟨h1, cur, h2, h3, fun c hc => ⟨V c, (h4 c hc).1, ownsRow_base (Nat.le_succ G) (h4 c hc).2.2⟩⟩
end Go.Proofs.Ytmeljcbefnojfaa
namespace Go.Proofs.Ytmeljcbefnojfaa
open Go.RowKit Go.ChangeShapes Go.WideShapes Go.ChangeAt Go.Deep
/-- a slice of numbers reads as it says, below a block -/
def IntsIn (A : Option Addr) (n : Nat) (Z : Nat → Int) (B : Nat) (w : World) : Prop :=
  (n : Int) ≤ 9223372036854775807 ∧ ∀ i, i < n → ∃ a : Addr, A = some a ∧ a.block < B ∧ w.cell? (a.add i) = some (.int .i64 (Z i))
theorem IntsIn.up {A : Option Addr} {n : Nat} {Z : Nat → Int} {B C : Nat} {w w' : World} (h : IntsIn A n Z B w) (hb : Below C w w') (hC : B ≤ C) : IntsIn A n Z B w' :=
  ⟨h.1, fun i hi => by
    obtain ⟨a, e, hl, h1⟩ := h.2 i hi
    exact ⟨a, e, hl, (hb.cell (by simp only [add_block]; omega)).trans h1⟩⟩
theorem IntsIn.more {A : Option Addr} {n : Nat} {Z : Nat → Int} {B C : Nat} {w : World} (h : IntsIn A n Z B w) (hC : B ≤ C) : IntsIn A n Z C w :=
  ⟨h.1, fun i hi => by
    obtain ⟨a, e, hl, h1⟩ := h.2 i hi
    exact ⟨a, e, by omega, h1⟩⟩
/-- the blot ahead of one, or -1 -/
def lastB (Z : Nat → Int) : Nat → Int
  | 0 => -1
  | k + 1 => Z k
/-- blots are strictly increasing columns -/
def BlotsOk (cols : Int) (Z : Nat → Int) (n : Nat) : Prop := ∀ i, i < n → lastB Z i + 1 ≤ Z i ∧ Z i ≤ cols - 1
theorem BlotsOk.last_bd {cols : Int} {Z : Nat → Int} {n k : Nat} (h : BlotsOk cols Z n) (hk : k ≤ n) (hc : 0 ≤ cols) : -1 ≤ lastB Z k ∧ lastB Z k ≤ cols := by
  induction k with
  | zero => exact ⟨Int.le_refl _, show (-1 : Int) ≤ cols by omega⟩
  | succ k ih =>
    have h1 := ih (by omega)
    have h2 := h k (by omega)
    show -1 ≤ Z k ∧ Z k ≤ cols
    omega
set_option maxHeartbeats 1000000 in
theorem areBlots_any (p : Pap) (A : Option Addr) (n c : Nat) (Z : Nat → Int) (G : Bool) (w : World) (h : p.Ok) (hin : IntsIn A n Z w.heap.size w) (hG : G = true ↔ BlotsOk p.cols Z n) :
    Calls Try.prog 104 #[p.v, .slice A n c] w fun e w' => e = .returned (.bool G) ∧ Below w.heap.size w w' := by
  have HIN := Lib.hid hin
  obtain ⟨hn, _⟩ := hin
  obtain ⟨co1, co2⟩ := h.cols
  have HG := Lib.hid hG
  clear hG
  go_enter Try.func104, Try.ntmps104
  go_wp2_with fail
  have HP0 : Hid (HasPap p w.heap.size (w.alloc (.cells #[.int .i64 p.pitch, .int .i64 p.height, .int .i64 p.radius, .int .i64 p.low, .int .i64 p.high, .int .i64 p.cols, .int .i64 p.al, .int .i64 p.ah, .int .i64 p.cl, .int .i64 p.ch] 25))) := Lib.hid (by unfold HasPap; go_simp)
  go_loopw [5, 10] (fun l i wr => ∃ k : Nat, k ≤ n ∧ l = .int .i64 (lastB Z k) ∧ i = .int .i64 k ∧ BlotsOk p.cols Z k ∧ Below w.heap.size w wr ∧ HasPap p w.heap.size wr) (fun _ i _ => n - (intOf i).toNat)
  case atStart => exact ⟨0, Nat.zero_le _, rfl, rfl, fun i hi => absurd hi (by omega), box1 _ _, HP0.out⟩
  case round =>
    obtain ⟨k, hk, rfl, rfl, hok, hB, hP⟩ := hrel
    obtain ⟨wo, rfl⟩ : ∃ wo : World, wo = wr := ⟨_, rfl⟩
    have hk0 : (0 : Int) ≤ (k : Int) := by omega
    have hbd := hok.last_bd (Nat.le_refl _) (by omega)
    have HOK := Lib.hid hok
    have HB := Lib.hid hB
    have HP := Lib.hid hP
    have z0 := hP.block
    obtain ⟨-, -, -, -, -, p5, -⟩ := hP
    clear hok HP0
    by_cases hlt : k < n
    · obtain ⟨a, rfl, ab, c0⟩ := (HIN.out.up hB (Nat.le_refl _)).2 k hlt
      have hki : (k : Int) < (n : Int) := by omega
      clear hB
      by_cases t1 : lastB Z k + 1 ≤ Z k ∧ Z k ≤ p.cols - 1
      · have K := Lib.hid fun W => between_t (Z k) (lastB Z k + 1) (p.cols - 1) W t1
        have HN : Hid (BlotsOk p.cols Z (k + 1)) := Lib.hid fun i hi => (Nat.lt_succ_iff_lt_or_eq.1 hi).elim (HOK.out i) (fun e => e ▸ t1)
        have HZ : Hid (lastB Z (k + 1) = Z k) := Lib.hid rfl
        clear t1
        go_wp2_with fail
        refine (K.out _).mono ?_
        rintro e w' ⟨rfl, rfl⟩
        go_wp2_with fail
        go_roundw
        case rel => exact ⟨k + 1, by omega, by rw [HZ.out], by go_num, HN.out, HB.out, HP.out⟩
        case measure => simp [intOf]; omega
      · obtain rfl : G = false := by
          cases G with
          | false => rfl
          | true => exact absurd (HG.out.1 rfl k hlt) t1
        have K := Lib.hid fun W => between_f (Z k) (lastB Z k + 1) (p.cols - 1) W t1
        clear t1
        go_wp2_with fail
        refine (K.out _).mono ?_
        rintro e w' ⟨rfl, rfl⟩
        go_wp2_with fail
        go_ret
        exact ⟨rfl, HB.out⟩
    · have hki : (n : Int) ≤ (k : Int) := by omega
      obtain rfl : k = n := by omega
      obtain rfl : G = true := HG.out.2 HOK.out
      go_wp2_with fail
      go_ret
      exact ⟨rfl, HB.out⟩
section
variable {H : Type} {enc : TypeId × Value → H} {w : World} {base : Nat} {held : Bool}
theorem cellsInt : Try.prog.cellsOf 3 = 1 := by kernel_rfl
set_option maxRecDepth 100000 in
theorem open_intl {r : Reach} {b0 : Nat} {v : Value} {d : DataW H} {pl : List MemPlace} (hv : Value.okWide Try.prog w r b0 36 v) (h : DataW.Trod enc Try.prog w base (fun _ => true) held 36 v d pl) :
    ∃ (A : Option Addr) (n c : Nat) (Z : Nat → Int), v = .slice A n c ∧ IntsIn A n Z w.heap.size w := by
  obtain ⟨a, l, c, rfl⟩ := okWide_slice Try.underlying36 hv
  obtain ⟨fuel, hf⟩ := h
  rcases open_slice1 Try.underlying36 cellsInt (by simpa [Value.cells] using hf) with ⟨hcs, _⟩ | ⟨a, len, cap, m, n, V, D, Pl, hcs, _, hl, hm, hmm, _, hi⟩
  · simp at hcs
    obtain ⟨rfl, rfl, rfl⟩ := hcs
    exact ⟨none, 0, 0, fun _ => 0, rfl, by omega, fun i hi => absurd hi (by omega)⟩
  · simp only [if_true] at hmm
    have each : ∀ i, i < len → ∃ z : Int, w.cell? (a.add i) = some (.int .i64 z) := by
      intro i hil
      obtain ⟨k0, ht⟩ := hi i (by omega)
      obtain ⟨z, e, _, _⟩ := DataW.trod_int Try.underlying3 ht
      have e' : V i = .int .i64 z := by simpa using e
      exact ⟨z, by rw [k0, e']⟩
    obtain ⟨Z, hZ⟩ := choose_lt each
    refine ⟨some a, len, cap, Z, by simpa using hcs, len_lt (by omega), fun i hil => ⟨a, rfl, ?_, hZ i hil⟩⟩
    have := World.block_lt_of_cell? _ _ (hZ i hil)
    rwa [add_block] at this
end
end Go.Proofs.Ytmeljcbefnojfaa
