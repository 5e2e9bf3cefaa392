import Derived.Test.YtmeljcbefnojfaaNn
namespace Go.Proofs.Ytmeljcbefnojfaa
open Go.RowKit
attribute [local go_sem] Oper.semAt_some
/-- what a column's heights add -/
def levH (p : Pap) (H : List (Int × Int)) : List (Int × Int) := H.map fun s => (lev p s.1, lev p s.2)
/-- what a point adds to the columns -/
def trcL (p : Pap) (H : Nat → List (Int × Int)) (bl : Nat → Bool) (Lc : Nat → List (Int × Int)) (lo hi : Int) : Nat → List (Int × Int) := fun c => if lo ≤ (c : Int) ∧ (c : Int) ≤ hi ∧ bl c = false then putAll (Lc c) (levH p (H c)) else Lc c
/-- the blocks that are the call's own, and none of a column's -/
def ColO (G n : Nat) (S : Nat → Prop) (wr : World) : Prop := ∀ c, c < n → ∀ v, wr.cell? ⟨G, c * 2, none⟩ = some v → ∀ g, v.ownBlock = some g → ¬ S g
/-- the marks that the ranges over functions left -/
def Marks (B : Nat) (ds : List Deferred) (wr : World) : Prop := (ds.map fun d => d.target).Nodup ∧ ∀ d ∈ ds, ∃ D, d = { target := .collected D, args := #[] } ∧ B ≤ D ∧ wr.heap[D]? = some (.deferred (some []))
/-- the number in the cell that slot 8 points at -/
def at8 (a : Act) (w : World) : Int := match a.tmps.getD 8 undef with
  | .pointer (some ad) => (match w.cell? ad with
    | some (.int _ z) => z
    | _ => 0)
  | _ => 0
structure TrcI (p : Pap) (t : Pt) (G n : Nat) (H : Nat → List (Int × Int)) (Lc : Nat → List (Int × Int)) (bl : Nat → Bool) (w0 w w1 : World) (k : Int) (bx : Nat) (ds : List Deferred) (wr : World) : Prop where
  kb : cLo p t ≤ k ∧ k ≤ cHi p t + 1
  pap : HasPap p w.heap.size wr
  pt : HasPt t (w.heap.size + 1) wr
  cols : wr.cell? ⟨w.heap.size + 1 + 1, 0, none⟩ = some (.slice (some ⟨G, 0, none⟩) n n)
  r0 : wr.cell? ⟨w1.heap.size, 0, none⟩ = some (.int .i64 (cLo p t))
  r1 : wr.cell? ⟨w1.heap.size, 1, none⟩ = some (.int .i64 (cHi p t))
  cc : wr.cell? ⟨bx, 0, none⟩ = some (.int .i64 k)
  cf : wr.frozen? ⟨bx, 0, none⟩ = false
  bxb : w1.heap.size + 1 ≤ bx ∧ bx < wr.heap.size
  col : ColI w0 G n (trcL p H bl Lc (cLo p t) (k - 1)) bl wr
  off : ColO G n (fun b => (w.heap.size ≤ b ∧ b ≤ w1.heap.size) ∨ b = bx) wr
  marks : Marks (w1.heap.size + 1) ds wr
theorem KpN.below {bm o : Nat} {W W' : World} (hm : bm < W.heap.size) (hb : Below W.heap.size W W') : KpN bm o W W' := by
  have hc : W'.cell? ⟨bm, o, none⟩ = W.cell? ⟨bm, o, none⟩ := hb.cell (p := ⟨bm, o, none⟩) hm
  refine ⟨hb.size, fun b c t f h0 h1 h2 => ⟨?_, fun ⟨o2, len, cap, h3⟩ => h2 ⟨o2, len, cap, by rw [← hc]; exact h3⟩⟩⟩
  rw [hb.block b (Array.getElem?_eq_some_iff.1 h0).1]; exact h0
/-- where a round over a point's heights begins -/
def TAx (p : Pap) (t : Pt) (G n b0 b1 b2 bx kn : Nat) (u24 u25 u36 u37 u38 u39 u40 u41 u42 u43 u44 : Value) (x : Int × Int) (a' : Act) (W : World) : Prop :=
  ∃ Bx, W.cell? ⟨Bx, 0, none⟩ = some (.int .i64 x.1) ∧ W.cell? ⟨Bx, 1, none⟩ = some (.int .i64 x.2) ∧ a' = { tmps := #[p.v, t.v, .slice (some ⟨G, 0, none⟩) n n, .pointer (some ⟨b0, 0, none⟩), .pointer (some ⟨b0 + 1, 0, none⟩), .pointer (some ⟨b0 + 1 + 1, 0, none⟩), .pointer (some ⟨b1, 0, none⟩), .bool true, .pointer (some ⟨bx, 0, none⟩), .pointer (some ⟨Bx, 0, none⟩), .tuple #[.agg #[.int .i64 (cLo p t), .int .i64 (cHi p t)], .bool true], p.v, t.v, .tuple #[.agg #[.int .i64 (cLo p t), .int .i64 (cHi p t)], .bool true], .agg #[.int .i64 (cLo p t), .int .i64 (cHi p t)], .bool true, .bool true, .bool false, .pointer (some ⟨b1, 0, none⟩), .int .i64 (cLo p t), .int .i64 kn, .pointer (some ⟨b1, 1, none⟩), .int .i64 (cHi p t), .bool true, u24, u25, .slice (some ⟨G, 0, none⟩) n n, .int .i64 kn, .pointer (some ⟨G, kn * 2, none⟩), .pointer (some ⟨G, kn * 2 + 1, none⟩), .bool false, p.v, t.v, .int .i64 kn, .func (.func 124) #[] #[.pointer (some ⟨b2, 0, none⟩), .pointer (some ⟨b2 + 1, 0, none⟩), .pointer (some ⟨b2 + 1 + 1, 0, none⟩)], .agg #[.int .i64 x.1, .int .i64 x.2], u36, u37, u38, u39, u40, u41, u42, u43, u44], defers := [] }
theorem TAx.own {p : Pap} {t : Pt} {G n b0 b1 b2 bx kn : Nat} {u24 u25 u36 u37 u38 u39 u40 u41 u42 u43 u44 : Value} {B : Nat} (x : Int × Int) (a' : Act) : OwnFrom B (fun (_ : Unit) W => TAx p t G n b0 b1 b2 bx kn u24 u25 u36 u37 u38 u39 u40 u41 u42 u43 u44 x a' W) := by
  intro _ W W' row hs hg hr
  obtain ⟨Bx, h1, h2, h3⟩ := hs
  exact ⟨Bx, cell_own h1 hg (fun r e => (hr r e).2), cell_own h2 hg (fun r e => (hr r e).2), h3⟩
/-- a column while a point's heights are added -/
structure TrcM (p : Pap) (G n kn : Nat) (L : List (Int × Int)) (Lc : Nat → List (Int × Int)) (bl : Nat → Bool) (w0 : World) (S : Nat → Prop) (Wst : World) (k : Nat) (W : World) : Prop where
  size : Wst.heap.size ≤ W.heap.size
  fr : ∀ b, S b → W.heap[b]? = Wst.heap[b]?
  col : ColI w0 G n (fun c => if c = kn then putAll (Lc kn) ((levH p L).take k) else Lc c) bl W
  off : ColO G n S W
theorem ColI.own {w W W' : World} {G n : Nat} {Lc : Nat → List (Int × Int)} {bl : Nat → Bool} {row : Option Nat} (h : ColI w G n Lc bl W) (hg : W.grownBy W' row) (hr : ∀ r, row = some r → G < r ∧ ∃ o, W.heap[r]? = some o ∧ o.isCells = false) : ColI w G n Lc bl W' := by
  obtain ⟨h1, cur, V, h2, h3, h4, h5⟩ := h
  have hl : G < W.heap.size := (Array.getElem?_eq_some_iff.1 h2).1
  have ne : ∀ g c t f, W.heap[g]? = some (.cells c t f) → some g ≠ row := fun g c t f e e' => by
    obtain ⟨_, o, e2, e3⟩ := hr g e'.symm
    rw [e] at e2; cases e2; cases e3
  refine ⟨h1.grown hg (by omega) (fun r e => by have := (hr r e).1; omega), cur, V, (hg.block G hl (ne G _ _ _ h2)).trans h2, h3, fun c hc => ⟨(h4 c hc).1, (h4 c hc).2.1, own_same (h4 c hc).2.2 fun g hgv => ?_⟩, h5⟩
  have hb := own_block (h4 c hc).2.2 hgv
  refine hg.block g hb.2.1 ?_
  obtain ⟨_, hx | ⟨g', cap, c2, e1, e2, e3, _⟩⟩ := (h4 c hc).2.2
  · rw [hx.1] at hgv; cases hgv
  · have : g' = g := by rw [e1] at hgv; simpa [Value.ownBlock] using hgv
    subst this
    exact ne _ _ _ _ e3
theorem TrcM.own {p : Pap} {G n kn B : Nat} {L : List (Int × Int)} {Lc : Nat → List (Int × Int)} {bl : Nat → Bool} {w0 : World} {S : Nat → Prop} {Wst : World} (hB : G < B) (hS : ∀ b, S b → b < B ∧ b < Wst.heap.size) : OwnFrom B (TrcM p G n kn L Lc bl w0 S Wst) := by
  intro k W W' row hs hg hr
  obtain ⟨h1, h2, h3, h4⟩ := hs
  refine ⟨Nat.le_trans h1 hg.size, fun b hb => ?_, h3.own hg (fun r e => ⟨by have := (hr r e).1; omega, (hr r e).2⟩), fun c hc v hv => ?_⟩
  · have hbB := hS b hb
    exact (hg.block b (by omega) (fun e => by have := (hr b e.symm).1; omega)).trans (h2 b hb)
  · obtain ⟨u, u1, _⟩ := h3.at hc
    have u1' := cell_own u1 hg (fun r e => (hr r e).2)
    rw [u1'] at hv
    cases hv
    exact h4 c hc _ u1
theorem ColO.up {G n : Nat} {S : Nat → Prop} {W W' : World} (h : ColO G n S W) (hG : G < W.heap.size) (hb : Below W.heap.size W W') : ColO G n S W' := fun c hc v hv =>
  h c hc v (by rw [← hv]; exact (hb.cell (p := ⟨G, c * 2, none⟩) hG).symm)
theorem ColO.or {G n : Nat} {S S' : Nat → Prop} {W : World} (h : ColO G n S W) (h' : ColO G n S' W) : ColO G n (fun b => S b ∨ S' b) W := fun c hc v hv g hg hs => hs.elim (h c hc v hv g hg) (h' c hc v hv g hg)
theorem ColO.of {G n : Nat} {S S' : Nat → Prop} {W : World} (h : ColO G n S W) (hs : ∀ b, S' b → S b) : ColO G n S' W := fun c hc v hv g hg h' => h c hc v hv g hg (hs g h')
/-- a column's spans lie in cells -/
theorem ColI.offCells {w W : World} {G n : Nat} {Lc : Nat → List (Int × Int)} {bl : Nat → Bool} (h : ColI w G n Lc bl W) {S : Nat → Prop} (hS : ∀ b, S b → ∀ c t f, W.heap[b]? ≠ some (.cells c t f)) : ColO G n S W := by
  intro c hc v hv g hg hs
  obtain ⟨u, u1, _, _, _, u5⟩ := h.at hc
  rw [u1] at hv
  cases hv
  obtain ⟨_, hx | ⟨g', cap, c2, e1, e2, e3, _⟩⟩ := u5
  · rw [hx.1] at hg; cases hg
  · have : g' = g := by rw [e1] at hg; simpa [Value.ownBlock] using hg
    subst this
    exact hS _ hs _ _ _ e3
theorem TrcM.up {p : Pap} {G n kn k : Nat} {L : List (Int × Int)} {Lc : Nat → List (Int × Int)} {bl : Nat → Bool} {w0 : World} {S : Nat → Prop} {Wst W W' : World} (h : TrcM p G n kn L Lc bl w0 S Wst k W) (hS : ∀ b, S b → b < Wst.heap.size) (hb : Below W.heap.size W W') : TrcM p G n kn L Lc bl w0 S Wst k W' := by
  obtain ⟨h1, h2, h3, h4⟩ := h
  have hl := h3.lt
  refine ⟨Nat.le_trans h1 hb.size, fun b hSb => (hb.block b (by have := hS b hSb; omega)).trans (h2 b hSb), h3.up hb, fun c hc v hv => h4 c hc v ?_⟩
  rw [← hv]
  exact (hb.cell (p := ⟨G, c * 2, none⟩) hl).symm
theorem levH_take {p : Pap} {L : List (Int × Int)} {k : Nat} {x : Int × Int} (hx : L[k]? = some x) (acc : List (Int × Int)) : putAll acc ((levH p L).take (k + 1)) = putL (putAll acc ((levH p L).take k)) (lev p x.1, lev p x.2) := by
  have e : (levH p L)[k]? = some (lev p x.1, lev p x.2) := by simp [levH, hx]
  rw [List.take_add_one, e]
  exact putAll_snoc _ _ _
theorem keepsFrom_trans2 {B : Nat} {U V W : World} (h : KeepsFrom B U V) (k : KeepsFrom B V W) : KeepsFrom B U W := ⟨Nat.le_trans h.size k.size, fun j o hj h0 ho => k.same j o hj (h.same j o hj h0 ho) ho⟩
/-- one span of a point's heights is added to a column -/
theorem trc_add {p : Pap} {G n kn k : Nat} {L : List (Int × Int)} {Lc : Nat → List (Int × Int)} {bl : Nat → Bool} {w0 : World} {S : Nat → Prop} {Wst W W' : World} {x : Int × Int} (B : Nat) (hM : TrcM p G n kn L Lc bl w0 S Wst k W) (hS : ∀ b, S b → b < Wst.heap.size ∧ b ≠ G) (hk : kn < n) (hx : L[k]? = some x) (hlen : (putAll (Lc kn) ((levH p L).take k)).length ≤ 1000)
    (hsrt : Srt (putAll (Lc kn) ((levH p L).take k))) (hl : lev p x.1 ≤ lev p x.2 ∧ 0 ≤ lev p x.1 ∧ lev p x.2 ≤ 100000000) (hb : Below W.heap.size W W') :
    Calls Try.prog 99 #[.pointer (some ⟨G, kn * 2, none⟩), .agg #[.int .i64 (lev p x.1), .int .i64 (lev p x.2)]] W' fun e w' => e = .returned (.tuple #[]) ∧ KeepsFrom B W w' ∧ KpN G (kn * 2) W w' ∧ Hid (TrcM p G n kn L Lc bl w0 S Wst (k + 1) w') := by
  have hM' := hM.up (fun b h => (hS b h).1) hb
  obtain ⟨v, v1, _, v3, _, v5⟩ := hM'.col.at hk
  simp only [if_true] at v5
  have hGl := hM'.col.lt
  refine (put_any G (kn * 2) (G + 1) v _ (lev p x.1, lev p x.2) W' v1 v3 ⟨Nat.lt_succ_self G, hGl⟩ hlen v5 hsrt hl.1 hl.2).mono fun e w' ⟨he, hA⟩ => ?_
  obtain ⟨c1, c2⟩ := hM'.col.put hk v1 hA
  obtain ⟨v', a1, a2, a3, a4, a5, a6, a7, a8⟩ := hA
  refine ⟨he, keepsFrom_trans2 (keepsFrom_below hb) ⟨a7, fun j o _ h0 ho => ?_⟩, (KpN.below (by have := hM.col.lt; exact this) hb).trans c2, Lib.hid ⟨Nat.le_trans hM'.size a7, fun b hSb => ?_, ?_, ?_⟩⟩
  · have hj := (Array.getElem?_eq_some_iff.1 h0).1
    rw [a8 j hj (fun e => ?_) (fun e => ?_)]
    · exact h0
    · subst e
      obtain ⟨c, t, f, hc⟩ := heap_of_cell v1
      rw [hc] at h0; cases h0; cases ho
    · obtain ⟨_, hx' | ⟨g', cap, c2', e1, e2, e3, _⟩⟩ := v5
      · rw [hx'.1] at e; cases e
      · rw [e1] at e
        have : j = g' := by simpa [Value.ownBlock] using e
        subst this
        rw [e3] at h0; cases h0; cases ho
  · have h2 := hS b hSb
    refine (a8 b (by have := hM'.size; omega) h2.2 fun e => ?_).trans (hM'.fr b hSb)
    exact hM'.off kn hk v v1 b e.symm hSb
  · have : (fun c => if c = kn then putL (putAll (Lc kn) ((levH p L).take k)) (lev p x.1, lev p x.2) else (fun c => if c = kn then putAll (Lc kn) ((levH p L).take k) else Lc c) c) = fun c => if c = kn then putAll (Lc kn) ((levH p L).take (k + 1)) else Lc c := by
      funext c
      by_cases hc : c = kn
      · simp only [if_pos hc, levH_take hx]
      · simp only [if_neg hc]
    rw [← this]
    exact c1
  · intro c hc u hu g hg hSg
    have hcell : w'.cell? ⟨G, c * 2, none⟩ = (W'.setCell ⟨G, kn * 2, none⟩ v').cell? ⟨G, c * 2, none⟩ := World.cell?_of_block (a := ⟨G, c * 2, none⟩) a2
    by_cases hck : c = kn
    · subst hck
      obtain ⟨u', u1, _⟩ := c1.at hc
      have e' : (W'.setCell ⟨G, c * 2, none⟩ v').cell? ⟨G, c * 2, none⟩ = some v' := by
        obtain ⟨cc, tt, ff, hcc⟩ := heap_of_cell v1
        have hlt : c * 2 < cc.size := by
          have := v1
          simp [World.cell?, hcc] at this
          exact (Array.getElem?_eq_some_iff.1 this).1
        simp [World.cell?, World.setCell, Array.getElem?_modify, hcc, hlt]
      rw [hcell, e'] at hu
      cases hu
      rcases a3 with e | ⟨g', e, hl'⟩
      · exact hM'.off c hc v v1 g (e ▸ hg) hSg
      · rw [e] at hg
        cases hg
        have := (hS g hSg).1
        have := hM'.size
        omega
    · obtain ⟨u', u1, _⟩ := hM'.col.at hc
      have e' : (W'.setCell ⟨G, kn * 2, none⟩ v').cell? ⟨G, c * 2, none⟩ = some u' := by
        obtain ⟨cc, tt, ff, hcc⟩ := heap_of_cell u1
        have hu1 := u1
        simp [World.cell?, hcc] at hu1
        simp [World.cell?, World.setCell, Array.getElem?_modify, hcc]
        rw [Array.getElem?_setIfInBounds_ne (by omega)]
        exact hu1
      rw [hcell, e'] at hu
      cases hu
      exact hM'.off c hc _ u1 g hg hSg
end Go.Proofs.Ytmeljcbefnojfaa
namespace Go.Proofs.Ytmeljcbefnojfaa
open Go.RowKit
attribute [local go_sem] Oper.semAt_some
/-- what a point adds to a column -/
theorem levH_okl {p : Pap} {t : Pt} {c : Int} {L : List (Int × Int)} (h : p.Ok) (ht : t.Ok) (hL : HtsL p t c L) : Okl (levH p L) ∧ (levH p L).length ≤ 2 := by
  have hb := hts_bd h ht hL
  refine ⟨fun s hs => ?_, by simp only [levH, List.length_map]; exact hb.2.2⟩
  obtain ⟨r, hr, rfl⟩ := List.mem_map.1 hs
  obtain ⟨k, hk⟩ := List.getElem?_of_mem hr
  have h1 := hb.1 k r hk
  have a := lev_bd h (a := r.1) ⟨h1.1, by omega⟩
  have b := lev_bd h (a := r.2) ⟨by omega, h1.2.2⟩
  have hlo := h.low
  exact ⟨lev_mono h h1.2.1, a.1, by omega⟩
/-- the marks are taken off one behind the other -/
theorem leaves_marks {F : Fence} {n B : Nat} {P : Program} {fn : Func} {tmps : Array Value} {R : Ending → World → Prop} (T : World → Prop)
    (hT : ∀ W D, T W → B ≤ D → W.heap[D]? = some (.deferred (some [])) → T (W.putObj D (.deferred none)))
    (hR : ∀ W, T W → LeavesIn F n P fn tmps R [] .returning W) : ∀ (ds : List Deferred) (W : World), Marks B ds W → T W → LeavesInM F n P fn tmps R ds .returning W := by
  intro ds
  induction ds with
  | nil => exact fun W _ h => hR W h
  | cons d ds ih =>
    rintro W ⟨hn, hm⟩ h
    obtain ⟨D, rfl, hD, hK⟩ := hm d (List.mem_cons_self ..)
    refine ⟨by simp, .inl ⟨D, _, rfl, run_takeDeferred hK, ih _ ⟨?_, fun d' hd' => ?_⟩ (hT W D h hD hK)⟩⟩
    · exact (List.nodup_cons.1 hn).2
    · obtain ⟨D', e, hD', hK'⟩ := hm d' (List.mem_cons_of_mem _ hd')
      refine ⟨D', e, hD', (World.putObj_heap_other fun e2 => ?_).trans hK'⟩
      subst e2
      refine (List.nodup_cons.1 hn).1 (List.mem_map.2 ⟨d', hd', ?_⟩)
      rw [e]
/-- what lies in cells stays where a mark is taken off -/
theorem ColI.mark {w W : World} {G n D : Nat} {Lc : Nat → List (Int × Int)} {bl : Nat → Bool} (h : ColI w G n Lc bl W) (hD : G < D) (hK : W.heap[D]? = some (.deferred (some []))) : ColI w G n Lc bl (W.putObj D (.deferred none)) :=
  h.own (row := some D) (grownBy_putObj' W D _) fun r e => by cases e; exact ⟨hD, _, hK, rfl⟩
/-- marks stay as long as the blocks stay -/
theorem Marks.keeps {B : Nat} {ds : List Deferred} {W W' : World} (h : Marks B ds W) (hk : KeepsFrom B W W') : Marks B ds W' :=
  ⟨h.1, fun d hd => by obtain ⟨D, e, hD, hK⟩ := h.2 d hd; exact ⟨D, e, hD, hk.same D _ hD hK rfl⟩⟩
theorem Marks.up {B : Nat} {ds : List Deferred} {W W' : World} (h : Marks B ds W) (hb : Below W.heap.size W W') : Marks B ds W' := h.keeps (keepsFrom_below hb)
theorem Marks.cons {B D : Nat} {ds : List Deferred} {W : World} (h : Marks B ds W) (hn : ∀ d ∈ ds, ∀ D', d.target = .collected D' → D' < D) (hD : B ≤ D) (hK : W.heap[D]? = some (.deferred (some []))) : Marks B ({ target := .collected D, args := #[] } :: ds) W := by
  refine ⟨List.nodup_cons.2 ⟨fun hm => ?_, h.1⟩, fun d hd => ?_⟩
  · obtain ⟨d, hd, e⟩ := List.mem_map.1 hm
    have := hn d hd D e
    omega
  · rcases List.mem_cons.1 hd with rfl | hd
    · exact ⟨D, rfl, hD, hK⟩
    · exact h.2 d hd
theorem Marks.lt {B : Nat} {ds : List Deferred} {W : World} (h : Marks B ds W) : ∀ d ∈ ds, ∀ D', d.target = .collected D' → D' < W.heap.size := by
  intro d hd D' e
  obtain ⟨D, e2, _, hK⟩ := h.2 d hd
  rw [e2] at e
  cases e
  exact (Array.getElem?_eq_some_iff.1 hK).1
/-- what a point adds, one column further -/
theorem trcL_blot {p : Pap} {H : Nat → List (Int × Int)} {bl : Nat → Bool} {Lc : Nat → List (Int × Int)} {lo : Int} {k : Nat} (hb : bl k = true) : trcL p H bl Lc lo (k : Int) = trcL p H bl Lc lo (k - 1) := by
  funext c
  unfold trcL
  by_cases hc : c = k
  · subst hc
    rw [if_neg (by rw [hb]; simp), if_neg (by omega)]
  · by_cases h1 : lo ≤ (c : Int) ∧ (c : Int) ≤ k ∧ bl c = false
    · rw [if_pos h1, if_pos ⟨h1.1, by omega, h1.2.2⟩]
    · rw [if_neg h1, if_neg (fun h2 => h1 ⟨h2.1, by omega, h2.2.2⟩)]
theorem trcL_step {p : Pap} {H : Nat → List (Int × Int)} {bl : Nat → Bool} {Lc : Nat → List (Int × Int)} {lo : Int} {k : Nat} (hlo : lo ≤ k) (hb : bl k = false) : (fun c => if c = k then putAll (trcL p H bl Lc lo (k - 1) k) (levH p (H k)) else trcL p H bl Lc lo (k - 1) c) = trcL p H bl Lc lo (k : Int) := by
  funext c
  unfold trcL
  by_cases hc : c = k
  · subst hc
    rw [if_pos rfl, if_neg (by omega), if_pos ⟨hlo, by omega, hb⟩]
  · rw [if_neg hc]
    by_cases h1 : lo ≤ (c : Int) ∧ (c : Int) ≤ k ∧ bl c = false
    · rw [if_pos h1, if_pos ⟨h1.1, by omega, h1.2.2⟩]
    · rw [if_neg h1, if_neg (fun h2 => h1 ⟨h2.1, by omega, h2.2.2⟩)]
theorem trcL_start {p : Pap} {H : Nat → List (Int × Int)} {bl : Nat → Bool} {Lc : Nat → List (Int × Int)} {lo : Int} : trcL p H bl Lc lo (lo - 1) = Lc := by
  funext c
  unfold trcL
  rw [if_neg (by omega)]
theorem meas_lt {a k : Int} (h : k ≤ a) : (a + 1 - (k + 1)).toNat < (a + 1 - k).toNat := by omega
theorem w64 {n : Int} (h : 0 ≤ n ∧ n ≤ 1000000) : wrap64 n = n := by unfold wrap64; omega
theorem at8_mk {x0 x1 x2 x3 x4 x5 x6 x7 x9 x10 x11 x12 x13 x14 x15 x16 x17 x18 x19 x20 x21 x22 x23 x24 x25 x26 x27 x28 x29 x30 x31 x32 x33 x34 x35 x36 x37 x38 x39 x40 x41 x42 x43 x44 : Value} {ds : List Deferred} {w : World} {b : Nat} {z : Int} (hc : w.cell? ⟨b, 0, none⟩ = some (.int .i64 z)) : at8 { tmps := List.toArray (x0 :: x1 :: x2 :: x3 :: x4 :: x5 :: x6 :: x7 :: .pointer (some ⟨b, 0, none⟩) :: x9 :: x10 :: x11 :: x12 :: x13 :: x14 :: x15 :: x16 :: x17 :: x18 :: x19 :: x20 :: x21 :: x22 :: x23 :: x24 :: x25 :: x26 :: x27 :: x28 :: x29 :: x30 :: x31 :: x32 :: x33 :: x34 :: x35 :: x36 :: x37 :: x38 :: x39 :: x40 :: x41 :: x42 :: x43 :: x44 :: []), defers := ds } w = z := by
  unfold at8
  simp [hc]
/-- the blocks that a round over heights leaves alone -/
def SB (w w1 : World) (bx : Nat) (ds : List Deferred) (b : Nat) : Prop := ((w.heap.size ≤ b ∧ b ≤ w1.heap.size) ∨ b = bx) ∨ ∃ d ∈ ds, d.target = .collected b
theorem SB.lt {p : Pap} {t : Pt} {G n : Nat} {H : Nat → List (Int × Int)} {Lc : Nat → List (Int × Int)} {bl : Nat → Bool} {w0 w w1 : World} {k : Int} {bx : Nat} {ds : List Deferred} {wr : World} (h : TrcI p t G n H Lc bl w0 w w1 k bx ds wr) (hG : G < w.heap.size) (h1 : w.heap.size ≤ w1.heap.size) {b : Nat} (hb : SB w w1 bx ds b) : b < wr.heap.size ∧ b ≠ G := by
  have hx := h.bxb
  rcases hb with (hb | rfl) | ⟨d, hd, e⟩
  · exact ⟨by omega, by omega⟩
  · exact ⟨hx.2, by omega⟩
  · refine ⟨h.marks.lt d hd b e, ?_⟩
    obtain ⟨D, e2, hD, _⟩ := h.marks.2 d hd
    rw [e2] at e
    cases e
    omega
/-- no column's spans lie in these blocks -/
theorem SB.off {p : Pap} {t : Pt} {G n : Nat} {H : Nat → List (Int × Int)} {Lc : Nat → List (Int × Int)} {bl : Nat → Bool} {w0 w w1 : World} {k : Int} {bx : Nat} {ds : List Deferred} {wr : World} (h : TrcI p t G n H Lc bl w0 w w1 k bx ds wr) : ColO G n (SB w w1 bx ds) wr := by
  refine h.off.or (h.col.offCells ?_)
  rintro b ⟨d, hd, e⟩ c t f hc
  obtain ⟨D, e2, _, hK⟩ := h.marks.2 d hd
  rw [e2] at e
  cases e
  rw [hK] at hc
  cases hc
/-- where the rounds over a column's heights begin -/
theorem TrcI.enter {p : Pap} {t : Pt} {G n : Nat} {H : Nat → List (Int × Int)} {Lc : Nat → List (Int × Int)} {bl : Nat → Bool} {w0 w w1 : World} {k : Int} {bx kn : Nat} {ds : List Deferred} {wr w2 : World} (h : TrcI p t G n H Lc bl w0 w w1 k bx ds wr) (hk : k = kn) (L : List (Int × Int)) (hb : Below wr.heap.size wr w2) :
    TrcM p G n kn L (trcL p H bl Lc (cLo p t) (kn - 1)) bl w0 (SB w w1 bx ds) w2 0 w2 := by
  subst hk
  refine ⟨Nat.le_refl _, fun _ _ => rfl, ?_, (SB.off h).up h.col.lt hb⟩
  have : (fun c => if c = kn then putAll (trcL p H bl Lc (cLo p t) (kn - 1) kn) ((levH p L).take 0) else trcL p H bl Lc (cLo p t) (kn - 1) c) = trcL p H bl Lc (cLo p t) (kn - 1) := by
    funext c
    by_cases hc : c = kn
    · subst hc; rw [if_pos rfl]; rfl
    · rw [if_neg hc]
  rw [this]
  exact h.col.up hb
/-- where the rounds over columns begin -/
theorem TrcI.start {p : Pap} {t : Pt} {G n : Nat} {H : Nat → List (Int × Int)} {Lc : Nat → List (Int × Int)} {bl : Nat → Bool} {w0 w w1 : World} (hs : cLo p t ≤ cHi p t) (z2 : w.heap.size + 1 + 1 < w1.heap.size) (C1 : Below w.heap.size w w1) (hC : ColI w0 G n Lc bl w) (a1 : HasPap p w.heap.size w1) (a2 : HasPt t (w.heap.size + 1) w1)
    (a3 : w1.cell? ⟨w.heap.size + 1 + 1, 0, none⟩ = some (.slice (some ⟨G, 0, none⟩) n n)) : TrcI p t G n H Lc bl w0 w w1 (cLo p t) (w1.heap.size + 1) [] ((w1.alloc (.cells #[.int .i64 (cLo p t), .int .i64 (cHi p t)] 23)).alloc (.cells #[.int .i64 (cLo p t)] 3)) := by
  have hb := box2 w1 (.cells #[.int .i64 (cLo p t), .int .i64 (cHi p t)] 23) (.cells #[.int .i64 (cLo p t)] 3)
  have hC1 := hC.up C1
  obtain ⟨t0, t1, t2⟩ := a2
  refine ⟨⟨Int.le_refl _, by omega⟩, a1.up hb a1.block, ⟨cell_up hb (by omega) t0, cell_up hb (by omega) t1, cell_up hb (by omega) t2⟩, cell_up hb z2 a3, by go_simp, by go_simp, by go_simp, by go_simp, by simp, ?_, ?_, ⟨by simp, fun d hd => by cases hd⟩⟩
  · rw [trcL_start]; exact hC1.up hb
  · refine (((hC.offCells (S := fun b => w.heap.size ≤ b) ?_).up hC.lt C1).of (S' := fun b => (w.heap.size ≤ b ∧ b ≤ w1.heap.size) ∨ b = w1.heap.size + 1) ?_).up hC1.lt hb
    · intro b hb' c t f h
      have := (Array.getElem?_eq_some_iff.1 h).1
      omega
    · rintro b (h | rfl)
      · exact h.1
      · omega
/-- a round's end, whatever it did -/
theorem trcI_mk {p : Pap} {t : Pt} {G n : Nat} {H : Nat → List (Int × Int)} {Lc : Nat → List (Int × Int)} {bl : Nat → Bool} {w0 w w1 : World} {bx kn : Nat} {ds : List Deferred} {W W' : World} (hk : cLo p t ≤ kn ∧ (kn : Int) ≤ cHi p t) (_h1 : w.heap.size ≤ w1.heap.size) (hz : w1.heap.size < W.heap.size) (z2 : w.heap.size + 1 + 1 < w1.heap.size)
    (_e : ∀ b, w.heap.size ≤ b ∧ b ≤ w1.heap.size → ∃ o, W.heap[b]? = some o) (a1 : HasPap p w.heap.size W) (a2 : HasPt t (w.heap.size + 1) W) (a3 : W.cell? ⟨w.heap.size + 1 + 1, 0, none⟩ = some (.slice (some ⟨G, 0, none⟩) n n)) (a4 : W.cell? ⟨w1.heap.size, 0, none⟩ = some (.int .i64 (cLo p t))) (a5 : W.cell? ⟨w1.heap.size, 1, none⟩ = some (.int .i64 (cHi p t)))
    (hC : ColI w0 G n (trcL p H bl Lc (cLo p t) kn) bl W) (hO : ColO G n (fun b => w.heap.size ≤ b ∧ b ≤ w1.heap.size) W) (hM : Marks (w1.heap.size + 1) ds W)
    (hb : Below W.heap.size W W') (c1 : W'.cell? ⟨bx, 0, none⟩ = some (.int .i64 (kn + 1))) (c2 : W'.frozen? ⟨bx, 0, none⟩ = false) (c3 : W.heap.size ≤ bx ∧ bx < W'.heap.size) : TrcI p t G n H Lc bl w0 w w1 (kn + 1) bx ds W' := by
  have hG := hC.lt
  refine ⟨by omega, a1.up hb a1.block, ?_, cell_up hb (by omega) a3, cell_up hb hz a4, cell_up hb hz a5, c1, c2, by omega, ?_, ?_, hM.up hb⟩
  · obtain ⟨t0, t1, t2⟩ := a2
    exact ⟨cell_up hb (by omega) t0, cell_up hb (by omega) t1, cell_up hb (by omega) t2⟩
  · rw [show ((kn : Int) + 1 - 1) = kn by omega]
    exact hC.up hb
  · refine ((hO.or (hC.offCells (S := fun b => W.heap.size ≤ b) ?_)).of (S' := fun b => (w.heap.size ≤ b ∧ b ≤ w1.heap.size) ∨ b = bx) ?_).up hG hb
    · intro b hb' c t f h
      have := (Array.getElem?_eq_some_iff.1 h).1
      omega
    · rintro b (h | rfl)
      · exact .inl h
      · exact .inr c3.1
/-- a blotted column is passed by -/
theorem TrcI.pass {p : Pap} {t : Pt} {G n : Nat} {H : Nat → List (Int × Int)} {Lc : Nat → List (Int × Int)} {bl : Nat → Bool} {w0 w w1 : World} {bx bx' kn : Nat} {ds : List Deferred} {wr W' : World} (h : TrcI p t G n H Lc bl w0 w w1 kn bx ds wr) (hk : (kn : Int) ≤ cHi p t) (z2 : w.heap.size + 1 + 1 < w1.heap.size) (hbl : bl kn = true)
    (hb : Below wr.heap.size wr W') (c1 : W'.cell? ⟨bx', 0, none⟩ = some (.int .i64 (kn + 1))) (c2 : W'.frozen? ⟨bx', 0, none⟩ = false) (c3 : wr.heap.size ≤ bx' ∧ bx' < W'.heap.size) : TrcI p t G n H Lc bl w0 w w1 (kn + 1) bx' ds W' := by
  have hx := h.bxb
  refine trcI_mk ⟨h.kb.1, hk⟩ (by omega) (by omega) z2 ?_ h.pap h.pt h.cols h.r0 h.r1 (by rw [trcL_blot hbl]; exact h.col) (h.off.of fun b hb => .inl hb) h.marks hb c1 c2 c3
  intro b hb
  exact ⟨_, Array.getElem?_eq_getElem (by omega)⟩
/-- a column's heights are added -/
theorem TrcI.next {p : Pap} {t : Pt} {G n : Nat} {H : Nat → List (Int × Int)} {Lc : Nat → List (Int × Int)} {bl : Nat → Bool} {w0 w w1 : World} {bx bx' kn D : Nat} {ds : List Deferred} {wr w2 W W' : World} (h : TrcI p t G n H Lc bl w0 w w1 kn bx ds wr) (hk : (kn : Int) ≤ cHi p t) (z2 : w.heap.size + 1 + 1 < w1.heap.size) (hbl : bl kn = false) (hb2 : Below wr.heap.size wr w2)
    (hM : TrcM p G n kn (H kn) (trcL p H bl Lc (cLo p t) (kn - 1)) bl w0 (SB w w1 bx ds) w2 (H kn).length W) (hD : w2.heap.size ≤ D) (hK : W.heap[D]? = some (.deferred (some [])))
    (hb : Below W.heap.size W W') (c1 : W'.cell? ⟨bx', 0, none⟩ = some (.int .i64 (kn + 1))) (c2 : W'.frozen? ⟨bx', 0, none⟩ = false) (c3 : W.heap.size ≤ bx' ∧ bx' < W'.heap.size) : TrcI p t G n H Lc bl w0 w w1 (kn + 1) bx' ({ target := .collected D, args := #[] } :: ds) W' := by
  have hx := h.bxb
  have hs2 := hb2.size
  have hsW := hM.size
  have blk : ∀ b, SB w w1 bx ds b → b < wr.heap.size → W.heap[b]? = wr.heap[b]? := fun b hb hl => (hM.fr b hb).trans (hb2.block b hl)
  have low : ∀ b, w.heap.size ≤ b ∧ b ≤ w1.heap.size → W.heap[b]? = wr.heap[b]? := fun b hb => blk b (.inl (.inl hb)) (by omega)
  have cl : ∀ b o, w.heap.size ≤ b ∧ b ≤ w1.heap.size → W.cell? ⟨b, o, none⟩ = wr.cell? ⟨b, o, none⟩ := fun b o hb => World.cell?_of_block (a := ⟨b, o, none⟩) (low b hb)
  have mk : Marks (w1.heap.size + 1) ds W := ⟨h.marks.1, fun d hd => by
    obtain ⟨D', e, hD', hK'⟩ := h.marks.2 d hd
    exact ⟨D', e, hD', (blk D' (.inr ⟨d, hd, by rw [e]⟩) (Array.getElem?_eq_some_iff.1 hK').1).trans hK'⟩⟩
  refine trcI_mk ⟨h.kb.1, hk⟩ (by omega) (by omega) z2 ?_ ?_ ?_ ?_ ?_ ?_ ?_ ?_ (mk.cons (fun d hd D' e => by have := h.marks.lt d hd D' e; omega) (by omega) hK) hb c1 c2 c3
  · intro b hb
    rw [low b hb]
    exact ⟨_, Array.getElem?_eq_getElem (by omega)⟩
  · have hp := h.pap
    unfold HasPap at hp ⊢
    simp only [cl w.heap.size _ (by omega)]
    exact hp
  · have hp := h.pt
    unfold HasPt at hp ⊢
    simp only [cl (w.heap.size + 1) _ (by omega)]
    exact hp
  · rw [cl _ _ (by omega)]; exact h.cols
  · rw [cl _ _ (by omega)]; exact h.r0
  · rw [cl _ _ (by omega)]; exact h.r1
  · have hc := hM.col
    rw [← trcL_step h.kb.1 hbl]
    have e : (levH p (H kn)).take (H kn).length = levH p (H kn) := by
      rw [List.take_of_length_le]; simp [levH]
    rw [e] at hc
    exact hc
  · exact hM.off.of fun b hb => .inl (.inl hb)
end Go.Proofs.Ytmeljcbefnojfaa
