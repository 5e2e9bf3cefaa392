import Derived.Test.YtmeljcbefnojfaaIz
import Derived.Test.YtmeljcbefnojfaaIr
import Derived.Test.YtmeljcbefnojfaaIn
import Derived.Test.YtmeljcbefnojfaaAdb
import Derived.Test.YtmeljcbefnojfaaAdc
import Derived.Test.YtmeljcbefnojfaaAdd
namespace Go.Proofs.Ytmeljcbefnojfaa
open Go.RowKit
attribute [local go_sem] Oper.semAt_some
/-- the heights of a point in a column -/
def HtsL (p : Pap) (t : Pt) (c : Int) (L : List (Int × Int)) : Prop :=
  (hLo p t > p.height ∧ L = []) ∨ (hLo p t ≤ p.height ∧ ∃ K1 K2 K3 K4, Ends p t c K1 K2 K3 K4 ∧ L = (if K1 ≤ K2 - 1 then [(K1, K2 - 1)] else []) ++ (if K3 ≤ K4 - 1 then [(K3, K4 - 1)] else []))
theorem hin_of (p : Pap) (t : Pt) (c : Int) (L : List (Int × Int)) (bm bp bt bc n : Nat) (w : World) (h : p.Ok) (ht : t.Ok) (hc : 0 ≤ c ∧ c ≤ p.cols - 1) (hL : HtsL p t c L)
    (hm : w.cell? ⟨bm, 0, none⟩ = some (.slice none 0 0)) (np : bp ≠ bm) (nt : bt ≠ bm) (nc : bc ≠ bm)
    (hP : HasPap p bp w) (hT : HasPt t bt w) (hC : w.cell? ⟨bc, 0, none⟩ = some (.int .i64 c)) (hn : 2 ≤ n) :
    Yields Fence.wide n Try.prog 124 #[.pointer (some ⟨bp, 0, none⟩), .pointer (some ⟨bt, 0, none⟩), .pointer (some ⟨bc, 0, none⟩)] (fun s : Int × Int => #[.agg #[.int .i64 s.1, .int .i64 s.2]]) (KpM bm) L w := by
  rcases hL with ⟨hh, rfl⟩ | ⟨hh, K1, K2, K3, K4, hE, rfl⟩
  · exact hin_none p t c bm bp bt bc n w h ht hP hT hn hh
  · by_cases hr : p.radius = 0
    · by_cases hB : K1 ≤ K2 - 1
      · by_cases hA : K3 ≤ K4 - 1
        · rw [if_pos hB, if_pos hA]; exact hin_zba p t c K1 K2 K3 K4 bm bp bt bc n w h ht hc hr hm np nt nc hP hT hC hn hh hE hB hA
        · rw [if_pos hB, if_neg hA]; exact hin_zb p t c K1 K2 K3 K4 bm bp bt bc n w h ht hc hr hm np nt nc hP hT hC hn hh hE hB hA
      · by_cases hA : K3 ≤ K4 - 1
        · rw [if_neg hB, if_pos hA]; exact hin_za p t c K1 K2 K3 K4 bm bp bt bc n w h ht hc hr hm np nt nc hP hT hC hn hh hE hB hA
        · rw [if_neg hB, if_neg hA]; exact hin_z p t c K1 K2 K3 K4 bm bp bt bc n w h ht hc hr hm np nt nc hP hT hC hn hh hE hB hA
    · by_cases hB : K1 ≤ K2 - 1
      · by_cases hA : K3 ≤ K4 - 1
        · rw [if_pos hB, if_pos hA]; exact hin_rba p t c K1 K2 K3 K4 bm bp bt bc n w h ht hc hr hm np nt nc hP hT hC hn hh hE hB hA
        · rw [if_pos hB, if_neg hA]; exact hin_rb p t c K1 K2 K3 K4 bm bp bt bc n w h ht hc hr hm np nt nc hP hT hC hn hh hE hB hA
      · by_cases hA : K3 ≤ K4 - 1
        · rw [if_neg hB, if_pos hA]; exact hin_ra p t c K1 K2 K3 K4 bm bp bt bc n w h ht hc hr hm np nt nc hP hT hC hn hh hE hB hA
        · rw [if_neg hB, if_neg hA]; exact hin_r p t c K1 K2 K3 K4 bm bp bt bc n w h ht hc hr hm np nt nc hP hT hC hn hh hE hB hA
/-- such heights are there -/
theorem hts_ex (p : Pap) (t : Pt) (c : Int) (h : p.Ok) (ht : t.Ok) : ∃ L, HtsL p t c L := by
  by_cases hh : hLo p t ≤ p.height
  · obtain ⟨b1, b2, b3⟩ := h_bd h ht hh
    have hht := h.height
    have sc : ∀ (P1 P2 : Int → Prop) (lo hi : Int), (∀ a b, lo ≤ a → a ≤ b → b ≤ hi → P1 a → P1 b) → (∀ a b, lo ≤ a → a ≤ b → b ≤ hi → P2 a → P2 b) → ∃ K1 K2, SC P1 P2 lo hi K1 K2 := by
      intro P1 P2 lo hi m1 m2
      by_cases hl : lo ≤ hi
      · obtain ⟨K1, c1⟩ := cut_ex (by omega) m1
        obtain ⟨K2, c2⟩ := cut_ex (by omega) m2
        exact ⟨K1, K2, .inr ⟨hl, c1, c2⟩⟩
      · exact ⟨lo, lo, .inl ⟨by omega, rfl, rfl⟩⟩
    obtain ⟨K1, K2, e1⟩ := sc (fun y => leastOf p t c ≤ arcOf p y) (fun y => greatOf p t c < arcOf p y) (hLo p t) (min (hHi p t) (midOf p))
      (fun a b ha hab hb hp => Int.le_trans hp (arc_up h (by omega) hab (by unfold midOf at hb; omega))) (fun a b ha hab hb hp => Int.lt_of_lt_of_le hp (arc_up h (by omega) hab (by unfold midOf at hb; omega)))
    obtain ⟨K3, K4, e2⟩ := sc (fun y => arcOf p y ≤ greatOf p t c) (fun y => arcOf p y < leastOf p t c) (max (hLo p t) (midOf p + 1)) (hHi p t)
      (fun a b ha hab hb hp => Int.le_trans (arc_down h (by unfold midOf at ha; omega) hab (by omega)) hp) (fun a b ha hab hb hp => Int.lt_of_le_of_lt (arc_down h (by unfold midOf at ha; omega) hab (by omega)) hp)
    exact ⟨_, .inr ⟨hh, K1, K2, K3, K4, ⟨e1, e2⟩, rfl⟩⟩
  · exact ⟨[], .inl ⟨by omega, rfl⟩⟩
/-- what such heights are like -/
theorem hts_bd {p : Pap} {t : Pt} {c : Int} {L : List (Int × Int)} (h : p.Ok) (ht : t.Ok) (hL : HtsL p t c L) :
    (∀ (k : Nat) (s : Int × Int), L[k]? = some s → 0 ≤ s.1 ∧ s.1 ≤ s.2 ∧ s.2 ≤ p.height) ∧ (∀ s s' : Int × Int, L[0]? = some s → L[1]? = some s' → s.2 < s'.1) ∧ L.length ≤ 2 := by
  rcases hL with ⟨_, rfl⟩ | ⟨hh, K1, K2, K3, K4, ⟨e1, e2⟩, rfl⟩
  · simp
  · obtain ⟨b1, b2, b3⟩ := h_bd h ht hh
    have f1 : K1 ≤ K2 - 1 → 0 ≤ K1 ∧ K2 - 1 ≤ min (hHi p t) (midOf p) := by
      intro hK
      rcases e1 with ⟨_, x, y⟩ | ⟨_, c1, c2⟩
      · omega
      · have := c1.1; have := c2.2.1; omega
    have f2 : K3 ≤ K4 - 1 → midOf p + 1 ≤ K3 ∧ 0 ≤ K3 ∧ K4 - 1 ≤ hHi p t := by
      intro hK
      rcases e2 with ⟨_, x, y⟩ | ⟨_, c1, c2⟩
      · omega
      · have := c1.1; have := c2.2.1; omega
    by_cases hB : K1 ≤ K2 - 1
    · by_cases hA : K3 ≤ K4 - 1
      · rw [if_pos hB, if_pos hA]
        refine ⟨fun k s hs => ?_, fun s s' h1 h2 => ?_, by simp⟩
        · have g1 := f1 hB; have g2 := f2 hA
          match k with
          | 0 => simp at hs; subst hs; exact ⟨g1.1, hB, by show K2 - 1 ≤ _; omega⟩
          | 1 => simp at hs; subst hs; exact ⟨g2.2.1, hA, by show K4 - 1 ≤ _; omega⟩
          | k + 2 => simp at hs
        · simp at h1 h2; subst h1; subst h2
          have g1 := f1 hB; have g2 := f2 hA
          show K2 - 1 < K3; omega
      · rw [if_pos hB, if_neg hA]
        refine ⟨fun k s hs => ?_, fun s s' h1 h2 => by simp at h2, by simp⟩
        have g1 := f1 hB
        match k with
        | 0 => simp at hs; subst hs; exact ⟨g1.1, hB, by show K2 - 1 ≤ _; omega⟩
        | k + 1 => simp at hs
    · by_cases hA : K3 ≤ K4 - 1
      · rw [if_neg hB, if_pos hA]
        refine ⟨fun k s hs => ?_, fun s s' h1 h2 => by simp at h2, by simp⟩
        have g2 := f2 hA
        match k with
        | 0 => simp at hs; subst hs; exact ⟨g2.2.1, hA, by show K4 - 1 ≤ _; omega⟩
        | k + 1 => simp at hs
      · rw [if_neg hB, if_neg hA]
        simp
theorem lev_mono {p : Pap} {a b : Int} (h : p.Ok) (hab : a ≤ b) : lev p a ≤ lev p b := by
  unfold lev
  have h4 := h.low
  have h2 := h.height
  have : a * (p.high - p.low) ≤ b * (p.high - p.low) := Int.mul_le_mul_of_nonneg_right hab (by omega)
  have := Int.ediv_le_ediv (c := p.height) (by omega) this
  omega
theorem lev_bd {p : Pap} {a : Int} (h : p.Ok) (ha : 0 ≤ a ∧ a ≤ p.height) : 0 ≤ lev p a ∧ lev p a ≤ p.high := by
  have h4 := h.low
  have h2 := h.height
  have e0 : lev p 0 = p.low := by unfold lev; simp
  have e1 : lev p p.height = p.high := by unfold lev; rw [Int.mul_ediv_cancel_left _ (by omega)]; omega
  have g0 := lev_mono h ha.1
  have g1 := lev_mono h ha.2
  omega
end Go.Proofs.Ytmeljcbefnojfaa
namespace Go.Proofs.Ytmeljcbefnojfaa
open Go.RowKit
attribute [local go_sem] Oper.semAt_some
def addL (acc : List (Int × Int)) (s : Int × Int) : List (Int × Int) :=
  match acc with
  | [] => [s]
  | [q] => if s.1 - 1 ≤ q.2 then [(min s.1 q.1, max s.2 q.2)] else [q, s]
  | l => l ++ [s]
def meansOf (p : Pap) (L : List (Int × Int)) : List (Int × Int) := L.foldl (fun acc s => addL acc (lev p s.1, lev p s.2)) []
def flatL (l : List (Int × Int)) : List Value := l.flatMap fun s => [.int .i64 s.1, .int .i64 s.2]
/-- the box bm holds the spans l -/
def Spans (bm base : Nat) (W : World) (l : List (Int × Int)) : Prop :=
  W.frozen? ⟨bm, 0, none⟩ = false ∧ ((l = [] ∧ W.cell? ⟨bm, 0, none⟩ = some (.slice none 0 0)) ∨
    (l ≠ [] ∧ ∃ g cap, W.cell? ⟨bm, 0, none⟩ = some (.slice (some ⟨g, 0, none⟩) l.length cap) ∧ W.ownsRow base 23 2 (.slice (some ⟨g, 0, none⟩) l.length cap) l.length (flatL l)))
def MInv (p : Pap) (L : List (Int × Int)) (bp bm base : Nat) (w : World) (k : Nat) (W : World) : Prop :=
  Below w.heap.size w W ∧ HasPap p bp W ∧ Spans bm base W (meansOf p (L.take k))
theorem cell_own {W W' : World} {row : Option Nat} {b o : Nat} {v : Value} (h : W.cell? ⟨b, o, none⟩ = some v) (hg : W.grownBy W' row) (hr : ∀ r, row = some r → ∃ o : Obj, W.heap[r]? = some o ∧ o.isCells = false) : W'.cell? ⟨b, o, none⟩ = some v := by
  have hl := World.block_lt_of_cell? _ _ h
  refine cell_row hg hl (fun e => ?_) h
  obtain ⟨o2, h2, h3⟩ := hr b e.symm
  obtain ⟨c, t, f, h4⟩ := heap_of_cell h
  rw [h4] at h2; cases h2; cases h3
theorem frozen_own {W W' : World} {row : Option Nat} {b o : Nat} {v : Value} (h : W.cell? ⟨b, o, none⟩ = some v) (hg : W.grownBy W' row) (hr : ∀ r, row = some r → ∃ o : Obj, W.heap[r]? = some o ∧ o.isCells = false) : W'.frozen? ⟨b, o, none⟩ = W.frozen? ⟨b, o, none⟩ := by
  have hl := World.block_lt_of_cell? _ _ h
  refine frozen_row hg hl (fun e => ?_) rfl
  obtain ⟨o2, h2, h3⟩ := hr b e.symm
  obtain ⟨c, t, f, h4⟩ := heap_of_cell h
  rw [h4] at h2; cases h2; cases h3
theorem MInv.own {p : Pap} {L : List (Int × Int)} {bp bm base B : Nat} {w : World} (hB : w.heap.size ≤ B) : OwnFrom B (MInv p L bp bm base w) := by
  intro k W W' row hs hg hr
  have hr' : ∀ r, row = some r → ∃ o : Obj, W.heap[r]? = some o ∧ o.isCells = false := fun r e => (hr r e).2
  obtain ⟨h1, h2, h3, h4⟩ := hs
  refine ⟨h1.grown hg h1.size (fun r e => by have := (hr r e).1; omega), ?_, ?_⟩
  · obtain ⟨p0, p1, p2, p3, p4, p5, p6, p7, p8, p9⟩ := h2
    exact ⟨cell_own p0 hg hr', cell_own p1 hg hr', cell_own p2 hg hr', cell_own p3 hg hr', cell_own p4 hg hr', cell_own p5 hg hr', cell_own p6 hg hr', cell_own p7 hg hr', cell_own p8 hg hr', cell_own p9 hg hr'⟩
  · rcases h4 with ⟨e, h5⟩ | ⟨e, g, cap, h5, h6⟩
    · exact ⟨(frozen_own h5 hg hr').trans h3, .inl ⟨e, cell_own h5 hg hr'⟩⟩
    · refine ⟨(frozen_own h5 hg hr').trans h3, .inr ⟨e, g, cap, cell_own h5 hg hr', h6.kept hg (.inr fun e2 => ?_)⟩⟩
      obtain ⟨_, hx | ⟨g1, cap1, cur, e1, e3, e4, _⟩⟩ := h6
      · cases hx.1
      · cases e1
        obtain ⟨o2, g2, g3⟩ := hr' g e2.symm
        rw [e4] at g2; cases g2; cases g3
theorem Spans.lt {bm base : Nat} {W : World} {l : List (Int × Int)} (h : Spans bm base W l) : bm < W.heap.size := by
  rcases h.2 with ⟨_, h5⟩ | ⟨_, g, cap, h5, _⟩
  · exact World.block_lt_of_cell? _ _ h5
  · exact World.block_lt_of_cell? _ _ h5
/-- Below and a round keep what the spans are -/
theorem Spans.up {bm base : Nat} {W W' : World} {l : List (Int × Int)} (h : Spans bm base W l) (hb : Below W.heap.size W W') : Spans bm base W' l := by
  obtain ⟨h3, h4⟩ := h
  rcases h4 with ⟨e, h5⟩ | ⟨e, g, cap, h5, h6⟩
  · exact ⟨frozen_up hb (World.block_lt_of_cell? _ _ h5) h3, .inl ⟨e, cell_up hb (World.block_lt_of_cell? _ _ h5) h5⟩⟩
  · exact ⟨frozen_up hb (World.block_lt_of_cell? _ _ h5) h3, .inr ⟨e, g, cap, cell_up hb (World.block_lt_of_cell? _ _ h5) h5, ownsRow_keep h6 hb⟩⟩
set_option maxHeartbeats 400000 in
theorem heightsIn_any (p : Pap) (t : Pt) (c : Int) (w : World) :
    Calls Try.prog 98 #[p.v, t.v, .int .i64 c] w fun e w' => e = .returned (.func (.func 124) #[] #[.pointer (some ⟨w.heap.size, 0, none⟩), .pointer (some ⟨w.heap.size + 1, 0, none⟩), .pointer (some ⟨w.heap.size + 1 + 1, 0, none⟩)]) ∧
      Below w.heap.size w w' ∧ HasPap p w.heap.size w' ∧ HasPt t (w.heap.size + 1) w' ∧ w'.cell? ⟨w.heap.size + 1 + 1, 0, none⟩ = some (.int .i64 c) ∧ w'.heap.size = w.heap.size + 1 + 1 + 1 := by
  go_enter Try.func98, Try.ntmps98
  go_wp2_with fail
  go_ret
  exact ⟨rfl, box3 _ _ _ _, by unfold HasPap; go_simp, by unfold HasPt; go_simp, by go_simp, by simp⟩
theorem eg_it : ∀ args w, (callFunc 124 args).run Try.prog w = .ok (.enter 124 args) w := enters_of Try.func124 (by kernel_rfl) rfl
theorem keepsFrom_below {B : Nat} {W W' : World} (hb : Below W.heap.size W W') : KeepsFrom B W W' := ⟨hb.size, fun k o _ h _ => by rw [hb.block k (Array.getElem?_eq_some_iff.1 h).1]; exact h⟩
theorem KpM.below {bm : Nat} {W W' : World} (hm : bm < W.heap.size) (hb : Below W.heap.size W W') : KpM bm W W' := by
  have hc : W'.cell? ⟨bm, 0, none⟩ = W.cell? ⟨bm, 0, none⟩ := hb.cell (p := ⟨bm, 0, none⟩) hm
  refine ⟨hb.size, fun b c t f h0 h1 h2 => ⟨?_, fun ⟨o2, len, cap, h3⟩ => h2 ⟨o2, len, cap, by rw [← hc]; exact h3⟩⟩⟩
  rw [hb.block b (Array.getElem?_eq_some_iff.1 h0).1]; exact h0
theorem keepsFrom_trans {B : Nat} {U V W : World} (h : KeepsFrom B U V) (k : KeepsFrom B V W) : KeepsFrom B U W := ⟨Nat.le_trans h.size k.size, fun j o hj h0 ho => k.same j o hj (h.same j o hj h0 ho) ho⟩
/-- what add does to the spans of Means -/
def AddOk (bm base : Nat) (W : World) (l : List (Int × Int)) (e : Ending) (W' : World) : Prop :=
  e = .returned (.tuple #[]) ∧ Spans bm base W' l ∧ KpM bm W W' ∧ (∀ B, KeepsFrom B W W') ∧ (∀ N, N ≤ bm → Below N W W') ∧ ∀ b, b < base → b ≠ bm → b < W.heap.size → W'.heap[b]? = W.heap[b]?
theorem addOk_of {bm base : Nat} {row : Option Nat} {W W' : World} {l : List (Int × Int)} (hl : l ≠ []) (hbm : bm < base) (hbase : base ≤ W.heap.size) (hrow : ∀ g, row = some g → base ≤ g ∧ PointsAt bm g W ∧ ∃ c t f, W.heap[g]? = some (.cells c t f)) (hcell : ∃ v, W.cell? ⟨bm, 0, none⟩ = some v) (h : AddPost bm base row W l.length (flatL l) W') :
    AddOk bm base W l (.returned (.tuple #[])) W' := by
  obtain ⟨g, cap, h1, h2, h3, h4, h5, h6, h7, h8, h9⟩ := h
  obtain ⟨v, hv⟩ := hcell
  obtain ⟨cb, tb, fb, hbc⟩ := heap_of_cell hv
  refine ⟨rfl, ⟨h2, .inr ⟨hl, g, cap, h1, h3⟩⟩, ⟨h8, fun b c t f k0 k1 k2 => ⟨?_, ?_⟩⟩, fun B => ⟨h8, fun k o _ k0 k1 => ?_⟩, fun N hN => ⟨h5, h6, h7, h8, fun k hk => ?_⟩, fun b k0 k1 k2 => ?_⟩
  · -- cells lie as they lay
    have hlt := (Array.getElem?_eq_some_iff.1 k0).1
    rw [h9 b hlt k1 (fun e => k2 (hrow b e.symm).2.1)]; exact k0
  · -- the new slice points elsewhere
    intro ⟨o2, len, cap2, e⟩
    rw [h1] at e
    cases e
    have hlt := (Array.getElem?_eq_some_iff.1 k0).1
    rcases h4 with h4 | h4
    · exact k2 (hrow _ h4).2.1
    · omega
  · have hlt := (Array.getElem?_eq_some_iff.1 k0).1
    have n1 : k ≠ bm := fun e => by subst e; rw [hbc] at k0; cases k0; cases k1
    have n2 : some k ≠ row := fun e => by
      obtain ⟨_, _, c, t, f, hc⟩ := hrow k e.symm
      rw [hc] at k0; cases k0; cases k1
    rw [h9 k hlt n1 n2]; exact k0
  · exact h9 k (by omega) (by omega) (fun e => by have := (hrow k e.symm).1; omega)
  · exact h9 b k2 k1 (fun e => by have := (hrow b e.symm).1; omega)
theorem add_any (bm base : Nat) (l : List (Int × Int)) (a b : Int) (W : World) (hs : Spans bm base W l) (hl : l.length ≤ 1) (hbase : bm < base ∧ base ≤ W.heap.size) (hab : (0 ≤ a ∧ a ≤ 100000000) ∧ 0 ≤ b ∧ b ≤ 100000000) (hq : ∀ q, l = [q] → q.1 ≤ b + 1) :
    Calls Try.prog 99 #[.pointer (some ⟨bm, 0, none⟩), .agg #[.int .i64 a, .int .i64 b]] W fun e W' => AddOk bm base W (addL l (a, b)) e W' := by
  obtain ⟨hf, ⟨rfl, hm⟩ | ⟨hne, g, cap, hm, hown⟩⟩ := hs
  · refine (add_nil bm base a b W hm hf hbase).mono fun e W' h => ?_
    obtain ⟨rfl, h⟩ := h
    exact addOk_of (l := [(a, b)]) (by simp) hbase.1 hbase.2 (fun g e => by cases e) ⟨_, hm⟩ h
  · match l, hne, hl with
    | [q], _, _ =>
      have hown' := hown
      obtain ⟨_, hx | ⟨g1, cap1, cur, e1, e2, e3, e4, e5, e6, e7⟩⟩ := hown'
      · cases hx.1
      cases e1
      have hrow : ∀ g', some g = some g' → base ≤ g' ∧ PointsAt bm g' W ∧ ∃ c t f, W.heap[g']? = some (.cells c t f) := fun g' e => by cases e; exact ⟨e2, ⟨0, _, _, hm⟩, _, _, _, e3⟩
      have hq' := hq q rfl
      by_cases ht : a - 1 ≤ q.2
      · refine (add_mer bm base g cap q.1 q.2 a b W hm hf hbase hown hab hq' ht).mono fun e W' h => ?_
        obtain ⟨rfl, h⟩ := h
        have el : addL [q] (a, b) = [(min a q.1, max b q.2)] := by simp [addL, ht]
        rw [el]
        exact addOk_of (l := [(min a q.1, max b q.2)]) (by simp) hbase.1 hbase.2 hrow ⟨_, hm⟩ h
      · refine (add_app bm base g cap q.1 q.2 a b W hm hf hbase hown hab hq' (by omega)).mono fun e W' h => ?_
        obtain ⟨rfl, h⟩ := h
        have el : addL [q] (a, b) = [q, (a, b)] := by simp only [addL]; rw [if_neg (by simpa using ht)]
        rw [el]
        exact addOk_of (l := [q, (a, b)]) (by simp) hbase.1 hbase.2 hrow ⟨_, hm⟩ h
/-- where a round of Means begins: its variable lies in a box -/
def MAx (p : Pap) (t : Pt) (c : Int) (b0 bm : Nat) (x : Int × Int) (a' : Act) (W : World) : Prop :=
  ∃ Bx, W.cell? ⟨Bx, 0, none⟩ = some (.int .i64 x.1) ∧ W.cell? ⟨Bx, 1, none⟩ = some (.int .i64 x.2) ∧ a' = { tmps := #[p.v, t.v, .int .i64 c, .pointer (some ⟨b0, 0, none⟩), .pointer (some ⟨b0 + 1, 0, none⟩), undef, .slice none 0 0, .int .i64 0, .int .i64 0, .pointer (some ⟨bm, 0, none⟩), .pointer (some ⟨Bx, 0, none⟩), .agg #[.int .i64 p.pitch, .int .i64 p.height, .int .i64 p.radius, .int .i64 p.low, .int .i64 p.high, .int .i64 p.cols, .int .i64 p.al, .int .i64 p.ah, .int .i64 p.cl, .int .i64 p.ch], .agg #[.int .i64 t.x, .int .i64 t.y, .int .i64 t.half], .int .i64 0, .int .i64 0, .bool false, undef, .int .i64 c, .pointer (some ⟨b0, 5, none⟩), .int .i64 p.cols, .int .i64 (p.cols - 1), .bool true, .bool false, .agg #[.int .i64 p.pitch, .int .i64 p.height, .int .i64 p.radius, .int .i64 p.low, .int .i64 p.high, .int .i64 p.cols, .int .i64 p.al, .int .i64 p.ah, .int .i64 p.cl, .int .i64 p.ch], .agg #[.int .i64 t.x, .int .i64 t.y, .int .i64 t.half], .int .i64 c, .func (.func 124) #[] #[.pointer (some ⟨bm + 1, 0, none⟩), .pointer (some ⟨bm + 1 + 1, 0, none⟩), .pointer (some ⟨bm + 1 + 1 + 1, 0, none⟩)], .agg #[.int .i64 x.1, .int .i64 x.2], undef, undef, undef, undef, undef, undef], defers := [] }
theorem MAx.own {p : Pap} {t : Pt} {c : Int} {b0 bm B : Nat} (x : Int × Int) (a' : Act) : OwnFrom B (fun (_ : Unit) W => MAx p t c b0 bm x a' W) := by
  intro _ W W' row hs hg hr
  obtain ⟨Bx, h1, h2, h3⟩ := hs
  exact ⟨Bx, cell_own h1 hg (fun r e => (hr r e).2), cell_own h2 hg (fun r e => (hr r e).2), h3⟩
theorem means_take {p : Pap} {L : List (Int × Int)} {k : Nat} {x : Int × Int} (hx : L[k]? = some x) : meansOf p (L.take (k + 1)) = addL (meansOf p (L.take k)) (lev p x.1, lev p x.2) := by
  have hk : k < L.length := (List.getElem?_eq_some_iff.1 hx).1
  have hx' : L[k] = x := (List.getElem?_eq_some_iff.1 hx).2
  unfold meansOf
  rw [List.take_succ_eq_append_getElem hk, List.foldl_append, hx']
  rfl
theorem means_small {p : Pap} {L : List (Int × Int)} {k : Nat} {x : Int × Int} (hx : L[k]? = some x) (h2 : L.length ≤ 2) : (meansOf p (L.take k)).length ≤ 1 ∧ ∀ q, meansOf p (L.take k) = [q] → ∃ s, L[0]? = some s ∧ L[1]? = some x ∧ q = (lev p s.1, lev p s.2) := by
  have hk : k < L.length := (List.getElem?_eq_some_iff.1 hx).1
  match k, hx with
  | 0, _ => simp [meansOf]
  | 1, hx =>
    match L, hx with
    | [s, y], hx =>
      have e : meansOf p ([s, y].take 1) = [(lev p s.1, lev p s.2)] := rfl
      rw [e]
      refine ⟨by simp, fun q hq => ⟨s, rfl, hx, by simp at hq; exact hq.symm⟩⟩
  | k + 2, _ => omega
/-- the slice v holds the spans l, in a row beyond base -/
def RowOf (base : Nat) (w : World) (v : Value) (l : List (Int × Int)) : Prop :=
  (l = [] ∧ v = .slice none 0 0) ∨ (l ≠ [] ∧ ∃ g cap, v = .slice (some ⟨g, 0, none⟩) l.length cap ∧ w.ownsRow base 23 2 (.slice (some ⟨g, 0, none⟩) l.length cap) l.length (flatL l))
def MeansPost (w : World) (l : List (Int × Int)) (e : Ending) (w' : World) : Prop := ∃ v, e = .returned (.tuple #[v, .int .i64 0]) ∧ Below w.heap.size w w' ∧ RowOf w.heap.size w' v l
theorem ownsRow_base {w : World} {B B' : Nat} {e : TypeId} {size n : Nat} {v : Value} {xs : List Value} (hB : B' ≤ B) (h : w.ownsRow B e size v n xs) : w.ownsRow B' e size v n xs := by
  obtain ⟨h1, h2 | ⟨g, cap, cur, e1, e2, e3⟩⟩ := h
  · exact ⟨h1, .inl h2⟩
  · exact ⟨h1, .inr ⟨g, cap, cur, e1, Nat.le_trans hB e2, e3⟩⟩
set_option maxRecDepth 100000 in
set_option maxHeartbeats 4000000 in
theorem Means_ok (p : Pap) (t : Pt) (c : Int) (L : List (Int × Int)) (w : World) (h : p.Ok) (ht : t.Ok) (hc : 0 ≤ c ∧ c ≤ p.cols - 1) (hL : HtsL p t c L) :
    Calls Try.prog 46 #[p.v, t.v, .int .i64 c] w (MeansPost w (meansOf p L)) := by
  have HL := Lib.hid hL
  clear hL
  have hcols := h.cols
  obtain ⟨co1, co2⟩ := hcols
  refine (callsIn_wide (n := 8)).1 ?_
  refine callsIn_of_wp_marks Try.func46 rfl trivial ?_ rfl
  simp only [Try.ntmps46, List.size_toArray, List.length_cons, List.length_nil, Nat.reduceAdd, Nat.reduceSub, Array.replicate_succ, Array.replicate_zero, List.push_toArray, List.append_toArray, List.nil_append, List.cons_append]
  gi_wp2
  refine ⟨trivial, (callsIn_wide.2 (check_ok p t _ h ht)).mono ?_⟩
  rintro e w1 ⟨rfl, hb1⟩
  obtain ⟨r1, -⟩ := bcell hb1
  have s1 := hb1.size
  simp only [World.size_alloc] at s1
  have z0 : w.heap.size < w1.heap.size := by omega
  have z1 : w.heap.size + 1 < w1.heap.size := by omega
  gi_wp2
  refine ⟨trivial, (callsIn_wide.2 (between_t _ _ _ _ hc)).mono ?_⟩
  rintro e w1' ⟨rfl, rfl⟩
  gi_wp2
  refine ⟨trivial, (callsIn_wide.2 (heightsIn_any p t c _)).mono ?_⟩
  rintro e w2 ⟨rfl, hb2, hP2, hT2, hC2, s2⟩
  simp only [World.size_alloc] at s2 hP2 hT2 hC2
  gi_wp2
  have C1 : Below w.heap.size w w1 := (box2 w _ _).trans (hb1.mono (by simp only [World.size_alloc]; omega))
  have C2 : Below w.heap.size w w2 := C1.trans (((box1 w1 _).trans (hb2.mono (by simp only [World.size_alloc]; omega))).mono C1.size)
  have hm2 : w2.cell? ⟨w1.heap.size, 0, none⟩ = some (.slice none 0 0) := cell_up hb2 (by simp only [World.size_alloc]; omega) (by go_simp)
  have hf2 : w2.frozen? ⟨w1.heap.size, 0, none⟩ = false := frozen_up hb2 (by simp only [World.size_alloc]; omega) (by go_simp)
  have hp0 : HasPap p w.heap.size w1 := HasPap.up (by unfold HasPap; go_simp) hb1 (by simp only [World.size_alloc]; omega)
  have hp2 : HasPap p w.heap.size w2 := (hp0.up (box1 w1 (.cells #[.slice none 0 0] 99)) hp0.block).up hb2 (by simp only [World.size_alloc]; omega)
  clear r1 hb1 hb2
  have HB := hts_bd h ht HL.out
  refine rangeList rfl (by omega) (gf := 124) (lb := #[.pointer (some ⟨w1.heap.size + 1, 0, none⟩), .pointer (some ⟨w1.heap.size + 1 + 1, 0, none⟩), .pointer (some ⟨w1.heap.size + 1 + 1 + 1, 0, none⟩)]) rfl trivial eg_it
    (hin_of p t c L w1.heap.size _ _ _ _ w2 h ht hc HL.out hm2 (by omega) (by omega) (by omega) hP2 hT2 hC2 (by omega)) (Below.refl _ _) (fun _ => rfl)
    KpM.trans (fun W l o o' h1 h2 h3 _ => KpM.putObj (by omega) W l o o' h1 h2 h3) (MInv p L w.heap.size w1.heap.size (w1.heap.size + 1) w) (MInv.own (by omega)) ⟨C2, hp2, hf2, .inl ⟨rfl, hm2⟩⟩ (MAx p t c w.heap.size w1.heap.size) (fun x a' => MAx.own x a') ?assign ?body ?done
  case assign =>
    rintro l k x W K hx ⟨hB, hP, hS⟩ hK
    gi_wp2
    have hb := box1 W (.cells #[.int .i64 x.1, .int .i64 x.2] 23)
    refine hK _ _ (keepsFrom_below hb) (KpM.below hS.lt hb) ⟨hB.trans (hb.mono hB.size), hP.up hb hP.block, hS.up hb⟩ ⟨W.heap.size, by go_simp, by go_simp, ?_⟩
    rfl
  case body =>
    rintro l k x a' W hx ⟨hB, hP, hS⟩ ⟨Bx, hx0, hx1, rfl⟩
    obtain ⟨x1, x2, x3⟩ := HB.1 k x hx
    have hlt := hS.lt
    have HP := Lib.hid hP
    obtain ⟨p0, p1, p2, p3, p4, p5, p6, p7, p8, p9⟩ := hP
    have HS := Lib.hid hS
    have HBw := Lib.hid hB
    have hsz := hB.size
    have HX := Lib.hid hx
    clear hS hB hx
    gi_wp2
    refine ⟨trivial, ?_⟩
    refine (CallsIn.inRound l (callsIn_wide.2 (levelsOf_any p x.1 x.2 _ h ⟨x1, by omega⟩ ⟨by omega, x3⟩))).mono ?_
    rintro e Wa ⟨rfl, hba⟩
    have hSa := HS.out.up hba
    have la := lev_bd h (a := x.1) ⟨x1, by omega⟩
    have lb := lev_bd h (a := x.2) ⟨by omega, x3⟩
    have hlo := h.low
    have sm := means_small (p := p) HX.out HB.2.2
    have hadd := add_any w1.heap.size (w1.heap.size + 1) (meansOf p (L.take k)) (lev p x.1) (lev p x.2) Wa hSa sm.1 ⟨by omega, by have := hba.size; omega⟩ ⟨by omega, by omega⟩ (fun q hq => by
      obtain ⟨s0, e0, e1, rfl⟩ := sm.2 q hq
      have := HB.2.1 s0 x e0 e1
      have g0 := HB.1 0 s0 e0
      have := lev_mono h (a := s0.1) (b := x.2) (by omega)
      show lev p s0.1 ≤ _
      omega)
    have HA := Lib.hid hadd
    clear hadd sm la lb hlo p0 p1 p2 p3 p4 p5 p6 p7 p8 p9 hx0 hx1
    gi_wp2
    refine ⟨trivial, ?_⟩
    refine (CallsIn.inRound l (callsIn_wide.2 HA.out)).mono ?_
    rintro e Wb ⟨rfl, g1, g2, g3, g4, g5⟩
    gi_wp2
    have hP1 := (HP.out.up hba HP.out.block)
    refine ⟨(keepsFrom_below hba).trans (g3 _), (KpM.below hlt hba).trans g2, ?_, ?_, ?_⟩
    · exact HBw.out.trans ((hba.mono hsz).trans (g4 _ (by omega)))
    · have e5 := g5 w.heap.size (by omega) (by omega) (by have := hba.size; omega)
      have hc5 : ∀ o, Wb.cell? ⟨w.heap.size, o, none⟩ = Wa.cell? ⟨w.heap.size, o, none⟩ := fun o => World.cell?_of_block (a := ⟨w.heap.size, o, none⟩) e5
      unfold HasPap at hP1 ⊢
      simp only [hc5]
      exact hP1
    · rw [means_take HX.out]; exact g1
  case done =>
    rintro D W hD ⟨hB, hP, hS⟩ hK
    have hBD : Below w.heap.size w (W.putObj D (.deferred none)) := hB.trans (belowK_b (w := w) (Nat.le_refl _) W D _ _ (by omega) hK rfl rfl)
    rw [List.take_length] at hS
    rcases hS with ⟨hSf, ⟨e0, hSc⟩ | ⟨e0, g, cap, hSc, hSo⟩⟩
    · have HE := Lib.hid e0
      clear e0 hP
      gi_wp2
      refine ⟨by simp, .inl ⟨_, _, rfl, run_takeDeferred hK, ?_⟩⟩
      refine ⟨.tuple #[.slice none 0 0, .int .i64 0], ?_, ⟨_, rfl, hBD, .inl ⟨HE.out, rfl⟩⟩⟩
      simp [results, Try.results46, go_sem]
    · have HE := Lib.hid e0
      have HO := Lib.hid hSo
      clear e0 hSo hP
      gi_wp2
      refine ⟨by simp, .inl ⟨_, _, rfl, run_takeDeferred hK, ?_⟩⟩
      refine ⟨.tuple #[.slice (some ⟨g, 0, none⟩) (meansOf p L).length cap, .int .i64 0], ?_, ⟨_, rfl, hBD, .inr ⟨HE.out, g, cap, rfl, ownsRow_base (B := w1.heap.size + 1) (by omega) (ownsRow_putObj HO.out _ hK rfl)⟩⟩⟩
      simp [results, Try.results46, go_sem]
end Go.Proofs.Ytmeljcbefnojfaa
