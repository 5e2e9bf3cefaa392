import Derived.Test.YtkidhmajlpceeaaOff
namespace Go.Proofs.Ytkidhmajlpceeaa
open Go.RowKit
/-- the offsets by the moves alone; narrowed from the first one on; and then from the last one on -/
def Ofs (p : Pn) (Z : Nat → Int) (i : Nat) : Int × Int := pul p.b (Z i - Z (i - 1))
def Fw (p : Pn) (Z : Nat → Int) : Nat → Int × Int
  | 0 => Ofs p Z 0
  | k + 1 => lft p.r (Ofs p Z (k + 1)) (Fw p Z k) (Z (k + 1) - Z k)
def Bk (p : Pn) (Z : Nat → Int) (n : Nat) : Nat → Int × Int
  | 0 => Fw p Z (n - 1)
  | m + 1 => lft p.r (Fw p Z (n - 1 - (m + 1))) (Bk p Z n m) (Z (n - 1 - (m + 1)) - Z (n - 1 - m))
def Gs (p : Pn) (Z : Nat → Int) (n i : Nat) : Int × Int := Bk p Z n (n - 1 - i)
theorem Gs_last (p : Pn) (Z : Nat → Int) (n : Nat) : Gs p Z n (n - 1) = Fw p Z (n - 1) := by unfold Gs; rw [show n - 1 - (n - 1) = 0 by omega]; rfl
theorem Gs_step (p : Pn) (Z : Nat → Int) (n k : Nat) (h : k + 1 ≤ n - 1) : Gs p Z n k = lft p.r (Fw p Z k) (Gs p Z n (k + 1)) (Z k - Z (k + 1)) := by
  unfold Gs
  rw [show n - 1 - k = (n - 1 - (k + 1)) + 1 by omega]
  show lft p.r (Fw p Z (n - 1 - (n - 1 - (k + 1) + 1))) _ (Z (n - 1 - (n - 1 - (k + 1) + 1)) - Z (n - 1 - (n - 1 - (k + 1)))) = _
  rw [show n - 1 - (n - 1 - (k + 1) + 1) = k by omega, show n - 1 - (n - 1 - (k + 1)) = k + 1 by omega]
def Bd (M : Int) (s : Int × Int) : Prop := -M ≤ s.1 ∧ s.1 ≤ M ∧ -M ≤ s.2 ∧ s.2 ≤ M
theorem pul_bd {b d : Int} (hb : 0 ≤ b ∧ b ≤ 8) : Bd 8 (pul b d) := by
  unfold pul Bd
  split
  · omega
  · split
    · omega
    · show -8 ≤ -b ∧ -b ≤ 8 ∧ -8 ≤ b ∧ b ≤ 8
      omega
theorem lft_bd {r ch M : Int} {a b : Int × Int} (hr : 0 ≤ r ∧ r ≤ 12000) (hc : -100000 ≤ ch ∧ ch ≤ 100000) (ha : Bd M a) (hb : Bd M b) : Bd (M + 112000) (lft r a b ch) := by
  unfold Bd lft at *
  simp only
  omega
theorem Bd.more {M N : Int} {s : Int × Int} (h : Bd M s) (hN : M ≤ N) : Bd N s := by unfold Bd at *; omega
theorem Fw_bd {p : Pn} {Z : Nat → Int} {n : Nat} (h : p.Ok) (hL : Lvs Z n) : ∀ k, k < n → Bd (8 + 112000 * k) (Fw p Z k) := by
  intro k
  induction k with
  | zero => intro _; exact (pul_bd h.b).more (by omega)
  | succ k ih =>
    intro hk
    have h1 := hL k (by omega)
    have h2 := hL (k + 1) hk
    have := lft_bd (r := p.r) (ch := Z (k + 1) - Z k) h.r (by omega) ((pul_bd (d := Z (k + 1) - Z (k + 1 - 1)) h.b).more (N := 8 + 112000 * (k : Int)) (by omega)) (ih (by omega))
    exact this.more (by omega)
theorem Bk_bd {p : Pn} {Z : Nat → Int} {n : Nat} (h : p.Ok) (hL : Lvs Z n) (h0 : 0 < n) : ∀ m, m < n → Bd (8 + 112000 * n + 112000 * m) (Bk p Z n m) := by
  intro m
  induction m with
  | zero => intro _; exact (Fw_bd h hL (n - 1) (by omega)).more (by omega)
  | succ m ih =>
    intro hm
    have h1 := hL (n - 1 - (m + 1)) (by omega)
    have h2 := hL (n - 1 - m) (by omega)
    have := lft_bd (r := p.r) (ch := Z (n - 1 - (m + 1)) - Z (n - 1 - m)) h.r (by omega) ((Fw_bd h hL (n - 1 - (m + 1)) (by omega)).more (N := 8 + 112000 * (n : Int) + 112000 * (m : Int)) (by omega)) (ih (by omega))
    exact this.more (by omega)
def Sfw (p : Pn) (Z : Nat → Int) (k i : Nat) : Int × Int := if i ≤ k then Fw p Z i else Ofs p Z i
def Sbw (p : Pn) (Z : Nat → Int) (n k i : Nat) : Int × Int := if k ≤ i then Gs p Z n i else Fw p Z i
theorem Sfw_zero (p : Pn) (Z : Nat → Int) : Sfw p Z 0 = Ofs p Z := by
  funext i
  unfold Sfw
  split
  · obtain rfl : i = 0 := by omega
    rfl
  · rfl
theorem Sfw_succ (p : Pn) (Z : Nat → Int) (k : Nat) : (fun i => if i = k + 1 then ((lft p.r (Sfw p Z k (k + 1)) (Sfw p Z k k) (Z (k + 1) - Z k)).1, (lft p.r (Sfw p Z k (k + 1)) (Sfw p Z k k) (Z (k + 1) - Z k)).2) else Sfw p Z k i) = Sfw p Z (k + 1) := by
  funext i
  have e1 : Sfw p Z k (k + 1) = Ofs p Z (k + 1) := by unfold Sfw; rw [if_neg (by omega)]
  have e2 : Sfw p Z k k = Fw p Z k := by unfold Sfw; rw [if_pos (by omega)]
  rw [e1, e2]
  by_cases hi : i = k + 1
  · rw [if_pos hi, hi]
    unfold Sfw
    rw [if_pos (by omega)]
    rfl
  · rw [if_neg hi]
    unfold Sfw
    by_cases h2 : i ≤ k
    · rw [if_pos h2, if_pos (by omega)]
    · rw [if_neg h2, if_neg (by omega)]
theorem Sbw_last (p : Pn) (Z : Nat → Int) (n i : Nat) (hi : i < n) : Sbw p Z n (n - 1) i = Sfw p Z (n - 1) i := by
  unfold Sbw Sfw
  rw [if_pos (show i ≤ n - 1 by omega)]
  by_cases h : n - 1 ≤ i
  · rw [if_pos h]
    obtain rfl : i = n - 1 := by omega
    exact Gs_last p Z n
  · rw [if_neg h]
theorem Sbw_succ (p : Pn) (Z : Nat → Int) (n k : Nat) (hk : k + 1 ≤ n - 1) : (fun i => if i = k then ((lft p.r (Sbw p Z n (k + 1) k) (Sbw p Z n (k + 1) (k + 1)) (Z k - Z (k + 1))).1, (lft p.r (Sbw p Z n (k + 1) k) (Sbw p Z n (k + 1) (k + 1)) (Z k - Z (k + 1))).2) else Sbw p Z n (k + 1) i) = Sbw p Z n k := by
  funext i
  have e1 : Sbw p Z n (k + 1) k = Fw p Z k := by unfold Sbw; rw [if_neg (by omega)]
  have e2 : Sbw p Z n (k + 1) (k + 1) = Gs p Z n (k + 1) := by unfold Sbw; rw [if_pos (by omega)]
  rw [e1, e2]
  by_cases hi : i = k
  · rw [if_pos hi, hi]
    unfold Sbw
    rw [if_pos (by omega), Gs_step p Z n k hk]
  · rw [if_neg hi]
    unfold Sbw
    by_cases h2 : k + 1 ≤ i
    · rw [if_pos h2, if_pos (by omega)]
    · rw [if_neg h2, if_neg (by omega)]
theorem S_bd {p : Pn} {Z : Nat → Int} {n : Nat} (h : p.Ok) (hL : Lvs Z n) (h0 : 0 < n) (hn : n ≤ 401) : (∀ k i, i < n → Bd 1000000000 (Sfw p Z k i)) ∧ (∀ k i, i < n → Bd 1000000000 (Sbw p Z n k i)) := by
  constructor
  · intro k i hi
    unfold Sfw
    split
    · exact (Fw_bd h hL i hi).more (by omega)
    · exact (pul_bd h.b).more (by omega)
  · intro k i hi
    unfold Sbw
    split
    · exact (Bk_bd h hL h0 (n - 1 - i) (by omega)).more (by omega)
    · exact (Fw_bd h hL i hi).more (by omega)
/-- where the parts of offsets lie -/
structure NrI (p : Pn) (Z : Nat → Int) (a : Addr) (n c g cap bs bl bp B : Nat) (w0 : World) (S : Nat → Int × Int) (wr : World) : Prop where
  zs : ∀ i, i < n → wr.cell? (a.add i) = some (.int .i64 (Z i))
  hs : wr.cell? ⟨bs, 0, none⟩ = some (.slice (some a) n c)
  hl : wr.cell? ⟨bl, 0, none⟩ = some (.slice (some ⟨g, 0, none⟩) n cap)
  hp : HasPn p bp wr
  sp : SpR g n S wr
  bel : Below B w0 wr
structure NrG (a : Addr) (g bs bl bp B : Nat) : Prop where
  a : a.block ≠ g
  bs : bs ≠ g
  bl : bl ≠ g
  bp : bp ≠ g
  B : B ≤ g
theorem NrI.up {p : Pn} {Z : Nat → Int} {a : Addr} {n c g cap bs bl bp B : Nat} {w0 : World} {S : Nat → Int × Int} {wr w' : World} (h : NrI p Z a n c g cap bs bl bp B w0 S wr) (hB : B ≤ wr.heap.size) (hb : Below wr.heap.size wr w') : NrI p Z a n c g cap bs bl bp B w0 S w' :=
  ⟨fun i hi => (hb.cell (World.block_lt_of_cell? _ _ (h.zs i hi))).trans (h.zs i hi), cell_up hb (World.block_lt_of_cell? _ _ h.hs) h.hs, cell_up hb (World.block_lt_of_cell? _ _ h.hl) h.hl, h.hp.up hb h.hp.lt, h.sp.up hb, h.bel.trans (hb.mono hB)⟩
theorem cell_ne {w : World} {p q : Addr} {u v : Value} (h : w.cell? p = some v) (hne : p.block ≠ q.block) : (w.setCell q u).cell? p = some v := by
  rw [World.cell?_setCell_other _ _ _ _ (by intro e; exact hne (by rw [e]))]; exact h
theorem NrI.set {p : Pn} {Z : Nat → Int} {a : Addr} {n c g cap bs bl bp B k : Nat} {w0 : World} {S : Nat → Int × Int} {wr : World} {x y : Int} (h : NrI p Z a n c g cap bs bl bp B w0 S wr) (hg : NrG a g bs bl bp B) (hk : k < n) :
    NrI p Z a n c g cap bs bl bp B w0 (fun i => if i = k then (x, y) else S i) ((wr.setCell ⟨g, k * 2, none⟩ (.int .i64 x)).setCell ⟨g, k * 2 + 1, none⟩ (.int .i64 y)) := by
  refine ⟨fun i hi => ?_, cell_ne (cell_ne h.hs hg.bs) hg.bs, cell_ne (cell_ne h.hl hg.bl) hg.bl, ?_, h.sp.set hk, set1 (set1 h.bel hg.B _ _) hg.B _ _⟩
  · exact cell_ne (cell_ne (h.zs i hi) (by rw [add_block]; exact hg.a)) (by rw [add_block]; exact hg.a)
  · exact ⟨cell_ne (cell_ne h.hp.1 hg.bp) hg.bp, cell_ne (cell_ne h.hp.2.1 hg.bp) hg.bp, cell_ne (cell_ne h.hp.2.2.1 hg.bp) hg.bp, cell_ne (cell_ne h.hp.2.2.2 hg.bp) hg.bp⟩
end Go.Proofs.Ytkidhmajlpceeaa
