import Derived.Test.YtkidhmajlpceeaaMov
namespace Go.Proofs.Ytkidhmajlpceeaa
open Go.RowKit
theorem Try.infoEdge : (Try.prog.info? 66).map (fun i => (i.zero, i.size, i.bytes)) = some (some (.agg #[.int .i64 0, .int .i64 0, .int .i64 0]), 3, 24) := by kernel_rfl
theorem step_append_own {ops : Array Oper} {o : Oper} {a : Act} {w : World} {K : Act → World → Prop} {Q : Exit → Act → World → Prop} {E : Prop} (hgd : o.guard = none) (s x : Operand) (t : TypeId)
    (ho : o.op = .call { callee := .builtin .append, args := #[s, x], argTypes := #[t, t] })
    (base : Nat) (e : TypeId) (i : TypeInfo) (z : Value) (size bytes : Nat) (ht : Try.prog.underlying t = some (.slice e)) (hi : Try.prog.info? e = some i) (hz : i.zero = some z)
    (hsize : i.size = size) (hby : i.bytes = bytes) (hzs : z.cells.size = size) (hsz : 0 < size)
    (v : Value) (n : Nat) (xs : List Value) (hs : a.eval s = v) (hown : w.ownsRow base e size v n xs)
    (ad : Addr) (m c : Nat) (news : List Value) (hx : a.eval x = .slice (some ad) m c) (hl : news.length = m * size) (hnews : ∀ j u, news[j]? = some u → w.cell? (ad.add j) = some u) (h1 : ∀ u ∈ news, u.oneCell' = true)
    (h63 : n + m ≤ maxLen) (hbytes : (n + m) * bytes ≤ 140737488355328) (hbase : base ≤ w.heap.size)
    (hK : ∀ v' w', w'.ownsRow base e size v' (n + m) (xs ++ news) → w.grownBy w' v.ownBlock → K (a.put o.dst v') w') :
    if Region.wanted o (yielded ops a.tmps) = true then Oper.wp Try.prog o a w K Q else E := by
  have hw : Region.wanted o (yielded ops a.tmps) = true := by simp [Region.wanted, hgd]
  rw [if_pos hw]
  obtain ⟨v', w', hrun, r1, r2, _⟩ := run_append_own (P := Try.prog) w base t o.type e i z size bytes ht hi hz hsize hby hzs hsz v n xs hown ad m c news hl hnews h1 h63 hbytes hbase
  unfold Oper.wp
  simp [execOp, ho, resolve, invoke, builtin, hs, hx, hrun, Result.andThen]
  exact hK v' w' r1 r2
/-- edges, flat -/
def flatE (l : List (Int × Int × Int)) : List Value := l.flatMap fun s => [.int .i64 s.1, .int .i64 s.2.1, .int .i64 s.2.2]
theorem flatE_snoc (l : List (Int × Int × Int)) (s : Int × Int × Int) : flatE (l ++ [s]) = flatE l ++ [.int .i64 s.1, .int .i64 s.2.1, .int .i64 s.2.2] := by simp [flatE]
theorem flatE_at : ∀ (l : List (Int × Int × Int)) (i : Nat) (s : Int × Int × Int), l[i]? = some s → (flatE l)[i * 3]? = some (.int .i64 s.1) ∧ (flatE l)[i * 3 + 1]? = some (.int .i64 s.2.1) ∧ (flatE l)[i * 3 + 2]? = some (.int .i64 s.2.2)
  | [], i, s, h => by simp at h
  | q :: l, 0, s, h => by simp at h; subst h; exact ⟨rfl, rfl, rfl⟩
  | q :: l, i + 1, s, h => by
    have := flatE_at l i s (by simpa using h)
    have e : flatE (q :: l) = .int .i64 q.1 :: .int .i64 q.2.1 :: .int .i64 q.2.2 :: flatE l := rfl
    rw [e, show (i + 1) * 3 = i * 3 + 1 + 1 + 1 by omega]
    exact this
/-- edges as they read, below a block -/
def EdsIn (A : Option Addr) (n : Nat) (F : Nat → Int × Int × Int) (B : Nat) (w : World) : Prop :=
  (n : Int) ≤ 9223372036854775807 ∧ ∀ i, i < n → ∃ a : Addr, A = some a ∧ a.block < B ∧ w.cell? (a.add (i * 3)) = some (.int .i64 (F i).1) ∧ w.cell? ⟨(a.add (i * 3)).block, (a.add (i * 3)).off + 1, none⟩ = some (.int .i64 (F i).2.1) ∧ w.cell? ⟨(a.add (i * 3)).block, (a.add (i * 3)).off + 2, none⟩ = some (.int .i64 (F i).2.2)
theorem EdsIn.up {A : Option Addr} {n : Nat} {F : Nat → Int × Int × Int} {B C : Nat} {w w' : World} (h : EdsIn A n F B w) (hb : Below C w w') (hC : B ≤ C) : EdsIn A n F B w' :=
  ⟨h.1, fun i hi => by
    obtain ⟨a, e, hl, h1, h2, h3⟩ := h.2 i hi
    exact ⟨a, e, hl, (hb.cell (by simp only [add_block]; omega)).trans h1, (hb.cell (by simp only [add_block]; omega)).trans h2, (hb.cell (by simp only [add_block]; omega)).trans h3⟩⟩
theorem EdsIn.more {A : Option Addr} {n : Nat} {F : Nat → Int × Int × Int} {B C : Nat} {w : World} (h : EdsIn A n F B w) (hC : B ≤ C) : EdsIn A n F C w :=
  ⟨h.1, fun i hi => by
    obtain ⟨a, e, hl, h1, h2, h3⟩ := h.2 i hi
    exact ⟨a, e, by omega, h1, h2, h3⟩⟩
theorem row_eds {w : World} {B n : Nat} {F : Nat → Int × Int × Int} {v : Value} (h : w.ownsRow B 66 3 v n (flatE ((List.range n).map F))) (hn : n ≤ 1000) : ∃ A c, v = .slice A n c ∧ EdsIn A n F w.heap.size w := by
  obtain ⟨h0, hx | ⟨g, cap, cur, e1, e2, e3, e4, e5, e6, e7⟩⟩ := id h
  · exact ⟨none, 0, by rw [hx.1, hx.2], by omega, fun i hi => by omega⟩
  · subst e1
    have hc := h.cells (g := g) rfl
    refine ⟨some ⟨g, 0, none⟩, cap, rfl, by omega, fun i hi => ⟨_, rfl, (Array.getElem?_eq_some_iff.1 e3).1, ?_⟩⟩
    obtain ⟨f1, f2, f3⟩ := flatE_at ((List.range n).map F) i (F i) (by simp [hi])
    have a1 := hc _ _ f1
    have a2 := hc _ _ f2
    have a3 := hc _ _ f3
    have ad : ∀ j, (⟨g, 0, none⟩ : Addr).add j = ⟨g, j, none⟩ := fun j => by rw [Addr.add_lit, Nat.zero_add]
    rw [ad] at a1 a2 a3
    rw [ad]
    exact ⟨a1, a2, a3⟩
/-- the first offset, the last one, the edges -/
def mv0 (p : Pn) (o : Int) : Int := max (-p.b) (o - p.r)
def mv1 (p : Pn) (o : Int) : Int := min p.b (o + p.r)
def mvN (p : Pn) (o : Int) : Nat := (mv1 p o - mv0 p o + 1).toNat
def edgeF (p : Pn) (o : Int) (i : Nat) : Int × Int × Int := (mv0 p o + i + p.b, chg p o (mv0 p o + i))
theorem mv_bd {p : Pn} {o : Int} (h : p.Ok) (ho : -p.b ≤ o ∧ o ≤ p.b) : -8 ≤ mv0 p o ∧ mv0 p o ≤ mv1 p o ∧ mv1 p o ≤ 8 ∧ -p.b ≤ mv0 p o ∧ mv1 p o ≤ p.b := by
  obtain ⟨b1, b2⟩ := h.b
  obtain ⟨r1, r2⟩ := h.r
  unfold mv0 mv1
  omega
def EPost (w : World) (n : Nat) (F : Nat → Int × Int × Int) (E : Int) (e : Ending) (w' : World) : Prop :=
  (E = 0 → ∃ A c, e = .returned (.tuple #[.slice A n c, .int .i64 0]) ∧ EdsIn A n F w'.heap.size w' ∧ Below w.heap.size w w') ∧ (E ≠ 0 → e = .returned (.tuple #[.slice none 0 0, .int .i64 E]) ∧ Below w.heap.size w w')
def movR (p : Pn) (o : Int) (E : Int) : Prop := (¬ p.Ok ∧ E = 30) ∨ p.Ok ∧ ((¬ (-p.b ≤ o ∧ o ≤ p.b) ∧ E = 1) ∨ (-p.b ≤ o ∧ o ≤ p.b) ∧ E = 0)
theorem movR_ex (p : Pn) (o : Int) : ∃ E, movR p o E := by
  by_cases h : p.Ok
  · by_cases ho : -p.b ≤ o ∧ o ≤ p.b
    · exact ⟨0, .inr ⟨h, .inr ⟨ho, rfl⟩⟩⟩
    · exact ⟨1, .inr ⟨h, .inl ⟨ho, rfl⟩⟩⟩
  · exact ⟨30, .inl ⟨h, rfl⟩⟩
structure MvI (w : World) (p : Pn) (o : Int) (k : Nat) (v : Value) (wr : World) : Prop where
  below : Below w.heap.size w wr
  own : wr.ownsRow (w.heap.size + 1) 66 3 v k (flatE ((List.range k).map (edgeF p o)))
  pn : HasPn p w.heap.size wr
theorem new3 (W : World) (x y z : Int) : ∀ j u, ([.int .i64 x, .int .i64 y, .int .i64 z] : List Value)[j]? = some u → (W.alloc (.cells #[.int .i64 x, .int .i64 y, .int .i64 z] 66)).cell? ((⟨W.heap.size, 0, none⟩ : Addr).add j) = some u := by
  intro j u hj
  rw [Addr.add_lit, Nat.zero_add]
  match j with
  | 0 => cases hj; go_simp
  | 1 => cases hj; go_simp
  | 2 => cases hj; go_simp
  | j + 3 => simp at hj
theorem HasPn.row {p : Pn} {b : Nat} {W w1 : World} {row : Option Nat} (h : HasPn p b W) (hg : W.grownBy w1 row) (hr : some b ≠ row) : HasPn p b w1 :=
  ⟨cell_row hg h.lt hr h.1, cell_row hg h.lt hr h.2.1, cell_row hg h.lt hr h.2.2.1, cell_row hg h.lt hr h.2.2.2⟩
theorem MvI.step {w wr w1 w2 : World} {p : Pn} {o : Int} {k : Nat} {v v' : Value} {ob : Obj} (h : MvI w p o k v wr) (hb : Below wr.heap.size wr w1) (hg : (w1.alloc ob).grownBy w2 v.ownBlock)
    (hown : w2.ownsRow (w.heap.size + 1) 66 3 v' (k + 1) (flatE ((List.range k).map (edgeF p o)) ++ [.int .i64 (edgeF p o k).1, .int .i64 (edgeF p o k).2.1, .int .i64 (edgeF p o k).2.2])) : MvI w p o (k + 1) v' w2 := by
  have s1 := hb.size
  have sw := h.below.size
  refine ⟨?_, ?_, ?_⟩
  · refine ((h.below.trans (hb.mono sw)).alloc (by omega) ob).grown hg (by simp only [World.size_alloc]; omega) (fun r e => ?_)
    have := own_block h.own e
    omega
  · rw [List.range_succ, List.map_append, List.map_cons, List.map_nil, flatE_snoc]
    exact hown
  · exact ((h.pn.up hb h.pn.lt).up (box1 _ _) (h.pn.up hb h.pn.lt).lt).row hg (own_ne h.own (by omega))
set_option maxRecDepth 100000 in
set_option maxHeartbeats 4000000 in
theorem Moves_any (p : Pn) (o : Int) (E : Int) (w : World) (hE : movR p o E) :
    Calls Try.prog 30 #[p.v, .int .i64 o] w fun e w' => EPost w (mvN p o) (edgeF p o) E e w' := by
  rcases hE with ⟨h, rfl⟩ | ⟨h, hE⟩
  · go_enter Try.func30, Try.ntmps30
    go_wp2_with fail
    refine (Check_f p _ h).mono ?_
    rintro e w1 ⟨rfl, hb⟩
    go_wp2_with fail
    go_ret2
    exact ⟨fun e => by simp at e, fun _ => ⟨rfl, (box1 _ _).trans (hb.mono (by simp))⟩⟩
  · have HH := Lib.hid h
    have HE := Lib.hid hE
    obtain ⟨b1, b2⟩ := h.b
    obtain ⟨r1, r2⟩ := h.r
    clear h hE
    go_enter Try.func30, Try.ntmps30
    go_wp2_with fail
    refine (Check_t p _ HH.out).mono ?_
    rintro e w1 ⟨rfl, hb⟩
    have C1 : Below w.heap.size w w1 := (box1 _ _).trans (hb.mono (by simp))
    have s1 := hb.size
    simp only [World.size_alloc] at s1
    have q0 : w1.cell? ⟨w.heap.size, 0, none⟩ = some (.int .i64 (p.b)) := low_cell hb (by simp only [World.size_alloc]; omega) (by go_simp)
    have q1 : w1.cell? ⟨w.heap.size, 1, none⟩ = some (.int .i64 (p.lo)) := low_cell hb (by simp only [World.size_alloc]; omega) (by go_simp)
    have q2 : w1.cell? ⟨w.heap.size, 2, none⟩ = some (.int .i64 (p.hi)) := low_cell hb (by simp only [World.size_alloc]; omega) (by go_simp)
    have q3 : w1.cell? ⟨w.heap.size, 3, none⟩ = some (.int .i64 (p.r)) := low_cell hb (by simp only [World.size_alloc]; omega) (by go_simp)
    have HC := Lib.hid C1
    have z : w.heap.size < w1.heap.size := by omega
    clear hb C1
    rcases HE.out with ⟨h, rfl⟩ | ⟨h, rfl⟩
    · have K := Lib.hid fun W => between_f o (-p.b) p.b W h
      clear h
      go_wp2_with fail
      refine (K.out _).mono ?_
      rintro e w' ⟨rfl, rfl⟩
      go_wp2_with fail
      go_ret2
      exact ⟨fun e => by simp at e, fun _ => ⟨rfl, HC.out⟩⟩
    · have K := Lib.hid fun W => between_t o (-p.b) p.b W h
      have hbd := mv_bd HH.out h
      obtain ⟨m1, m2, m3, m4, m5⟩ := hbd
      obtain ⟨i0, hi0, hz0, hz1, hz2⟩ := info_parts Try.infoEdge
      have e0 : max (-p.b) (o - p.r) = mv0 p o := rfl
      have e1 : min p.b (o + p.r) = mv1 p o := rfl
      have hN : (mvN p o : Int) = mv1 p o - mv0 p o + 1 := by unfold mvN; omega
      have HNN := Lib.hid hN
      have o1 : -8 ≤ o ∧ o ≤ 8 := by omega
      have KC := Lib.hid fun t W => changes_any p o t W HH.out o1
      obtain ⟨o2, o3⟩ := o1
      have hI0 : MvI w p o 0 (.slice none 0 0) w1 := ⟨HC.out, World.ownsRow_nil _ _ _ _, ⟨q0, q1, q2, q3⟩⟩
      have HI0 := Lib.hid hI0
      clear h hI0 hN
      go_wp2_with fail
      refine (K.out _).mono ?_
      rintro e w' ⟨rfl, rfl⟩
      clear q0 q1 q2 q3
      have q0 := HI0.out.pn.1
      have q3 := HI0.out.pn.2.2.2
      go_wp2_with fail
      go_loopw [7, 8] (fun v t wr => ∃ k : Nat, k ≤ mvN p o ∧ t = .int .i64 (mv0 p o + k) ∧ MvI w p o k v wr) (fun _ t _ => (mv1 p o + 1 - intOf t).toNat)
      case atStart => exact ⟨0, Nat.zero_le _, by simp, HI0.out⟩
      case round =>
        obtain ⟨k, hk, rfl, hI⟩ := hrel
        obtain ⟨wo, rfl⟩ : ∃ wo : World, wo = wr := ⟨_, rfl⟩
        have hN := HNN.out
        have HI := Lib.hid hI
        have hzz := hI.pn.lt
        have hsz := hI.below.size
        clear q0 q3 hI HI0
        obtain ⟨q0, q1, q2, q3⟩ := HI.out.pn
        have hk0 : 0 ≤ (k : Int) := by omega
        by_cases hlt : k < mvN p o
        · have hki : mv0 p o + (k : Int) ≤ mv1 p o := by omega
          have hown := HI.out.own
          have HX := Lib.hid hN
          have w1' : IntKind.i64.wrap (mv0 p o + (k : Int) + p.b) = mv0 p o + (k : Int) + p.b := IntWalk.i64_in _ (by omega)
          clear hN
          go_wp2_with fail
          go_region_law (first
            | (go_simp; go_at_call 75; refine (KC.out _ _).mono ?_; rintro e wA ⟨rfl, hbA⟩; have hb' : Below wo.heap.size wo wA := (by first | exact hbA | exact (Below.refl _ _).drew.trans (hbA.mono (by simp only [World.size_drew]; omega))); have hownA := own_keep hown hb'; have y0 := cell_up hb' hzz q0; have ys := hb'.size; have HB := Lib.hid hb'; clear hb' hbA)
            | (refine step_append_own rfl (.tmp 41) (.tmp 51) 42 rfl (w.heap.size + 1) 66 i0 (.agg #[.int .i64 0, .int .i64 0, .int .i64 0]) 3 24 Try.underlying42 hi0 hz0 hz1 hz2 rfl (by decide) u7 k _ (by simp [Act.eval]) (hownA.alloc _) ⟨wA.heap.size, 0, none⟩ 1 1 [.int .i64 (mv0 p o + k + p.b), .int .i64 (chg p o (mv0 p o + k)).1, .int .i64 (chg p o (mv0 p o + k)).2] (by simp [Act.eval]) rfl (new3 wA _ _ _) (by simp [Value.oneCell']) (by unfold maxLen; omega) (by omega) (by simp only [World.size_alloc]; omega) ?_; intro v2 w2 hown2 hg2))
          all_goals
            have NN := Lib.hid (HI.out.step HB.out hg2 hown2)
            clear w1' hg2 hown2 hownA
            go_wp2_with fail
            go_roundw
            case rel => exact ⟨k + 1, by omega, by rw [Int.natCast_add, ← Int.add_assoc]; rfl, NN.out⟩
            case measure => simp [intOf]; omega
        · have hki : mv1 p o < mv0 p o + (k : Int) := by omega
          obtain rfl : k = mvN p o := by omega
          obtain ⟨A, c, rfl, hr⟩ := row_eds HI.out.own (by omega)
          have HR := Lib.hid hr
          clear hr hN
          go_wp2_with fail
          go_ret2
          exact ⟨fun _ => ⟨_, _, rfl, HR.out, HI.out.below⟩, fun e => by simp at e⟩
end Go.Proofs.Ytkidhmajlpceeaa
