/- What PensLattice says of moments; three rows that grow side by side. -/
import Derived.Test.YtkidhmajlpceeaaLtt
import Derived.Test.YtkidhmajlpceeaaRma
import Derived.Test.YtkidhmajlpceeaaMts
import Derived.Test.YtkidhmajlpceeaaChs
import Derived.Test.YtkidhmajlpceeaaPgU
import Derived.Test.YtkidhmajlpceeaaMvs
namespace Go.Proofs.Ytkidhmajlpceeaa
open Go.RowKit
set_option linter.unusedSimpArgs false
set_option linter.unusedVariables false
def lowF (p : Pn) (Z : Nat → Int) (n : Nat) : Nat → Int := Cz (fun x _y _z => x) (Rls p Z n) Z
def highF (p : Pn) (Z : Nat → Int) (n : Nat) : Nat → Int := Cz (fun _x y _z => y) (Rls p Z n) Z
def nearF (p : Pn) (Z : Nat → Int) (n : Nat) : Nat → Int := Cz (fun x y z => max x (min y z)) (Rls p Z n) Z
theorem kee_ok {p : Pn} {n : Nat} {Z X : Nat → Int} (h : p.Ok) (hl : LsOk Z n) (hx : ∀ i, i < n → Lev (X i)) (hd : OkD p Z n (fun i => X i - Z i)) : keeR p n (prF Z X) 0 :=
  .inr ⟨h, .inr ⟨⟨hl.1, hl.2.1, fun i hi => ⟨hl.2.2 i hi, hx i hi⟩⟩, .inl ⟨(okd_iff h.b.1 Z n X).1 hd, rfl⟩⟩⟩
theorem kee_of {p : Pn} {n : Nat} {Z X : Nat → Int} (h : keeR p n (prF Z X) 0) : p.Ok ∧ LsOk Z n ∧ (∀ i, i < n → Lev (X i)) ∧ OkD p Z n (fun i => X i - Z i) := by
  rcases h with ⟨_, h⟩ | ⟨h, ⟨_, h2⟩ | ⟨hm, ⟨hk, _⟩ | ⟨_, h2⟩⟩⟩
  · cases h
  · cases h2
  · exact ⟨h, ⟨hm.1, hm.2.1, fun i hi => (hm.2.2 i hi).1⟩, fun i hi => (hm.2.2 i hi).2, (okd_iff h.b.1 Z n X).2 hk⟩
  · cases h2
theorem lat_E {p : Pn} {n : Nat} {Z X : Nat → Int} {E : Int} (h : keeR p n (prF Z X) 0) (hE : reaR p n Z E) : E = 0 := by
  obtain ⟨hp, hl, hx, hd⟩ := kee_of h
  have hf : Ful (Gs p Z n) n := fun i hi => by have := okd_Gs hd (n - 1 - i) i (by omega); omega
  rcases hE with ⟨h1, _⟩ | ⟨_, ⟨h1, _⟩ | ⟨_, ⟨h1, _⟩ | ⟨_, h1⟩⟩⟩
  · exact absurd hp h1
  · exact absurd hl h1
  · exact absurd hf h1
  · exact h1
theorem Gs_band {p : Pn} (hb : 0 ≤ p.b ∧ p.b ≤ 8) {Z : Nat → Int} {n : Nat} (hf : Ful (Gs p Z n) n) (i : Nat) (hi : i < n) : -8 ≤ (Gs p Z n i).1 ∧ (Gs p Z n i).1 ≤ 8 ∧ -8 ≤ (Gs p Z n i).2 ∧ (Gs p Z n i).2 ≤ 8 := by
  obtain ⟨h1, h2⟩ := Gs_in p Z n i hi
  obtain ⟨h3, h4⟩ := Ofs_band hb.1 Z i
  have h5 := hf i hi
  omega
theorem lat_low {p : Pn} {n : Nat} {Z : Nat → Int} (h : reaR p n Z 0) (hz : ∀ i, i < n → -49000 ≤ Z i ∧ Z i ≤ 49000) : keeR p n (prF Z (lowF p Z n)) 0 := by
  obtain ⟨hp, hl, hf⟩ := reaR_zero h
  refine kee_ok hp hl (fun i hi => ?_) ?_
  · have := Gs_band hp.b hf i hi; have := hz i hi
    unfold Lev lowF Cz Rls
    simp only; omega
  · have := low_okd hp.r.1 hf
    have e : (fun i => lowF p Z n i - Z i) = fun i => (Gs p Z n i).1 := by funext i; unfold lowF Cz Rls; simp only; omega
    rw [e]; exact this
theorem lat_high {p : Pn} {n : Nat} {Z : Nat → Int} (h : reaR p n Z 0) (hz : ∀ i, i < n → -49000 ≤ Z i ∧ Z i ≤ 49000) : keeR p n (prF Z (highF p Z n)) 0 := by
  obtain ⟨hp, hl, hf⟩ := reaR_zero h
  refine kee_ok hp hl (fun i hi => ?_) ?_
  · have := Gs_band hp.b hf i hi; have := hz i hi
    unfold Lev highF Cz Rls
    simp only; omega
  · have := high_okd hp.r.1 hf
    have e : (fun i => highF p Z n i - Z i) = fun i => (Gs p Z n i).2 := by funext i; unfold highF Cz Rls; simp only; omega
    rw [e]; exact this
theorem lat_near {p : Pn} {n : Nat} {Z : Nat → Int} (h : reaR p n Z 0) (hz : ∀ i, i < n → -49000 ≤ Z i ∧ Z i ≤ 49000) : keeR p n (prF Z (nearF p Z n)) 0 := by
  obtain ⟨hp, hl, hf⟩ := reaR_zero h
  refine kee_ok hp hl (fun i hi => ?_) ?_
  · have := Gs_band hp.b hf i hi; have := hz i hi
    unfold Lev nearF Cz Rls
    simp only; omega
  · have := near_okd hp.r.1 hf
    have e : (fun i => nearF p Z n i - Z i) = fun i => max (Gs p Z n i).1 (min (Gs p Z n i).2 0) := by funext i; unfold nearF Cz Rls; simp only; omega
    rw [e]; exact this
/-- all lie between the lowest and the highest ones, none nearer than the nearest -/
theorem lat_in {p : Pn} {n : Nat} {Z X : Nat → Int} (h : keeR p n (prF Z X) 0) (i : Nat) (hi : i < n) :
    lowF p Z n i ≤ X i ∧ X i ≤ highF p Z n i ∧ max (nearF p Z n i - Z i) (-(nearF p Z n i - Z i)) ≤ max (X i - Z i) (-(X i - Z i)) := by
  obtain ⟨_, _, _, hd⟩ := kee_of h
  have hg := okd_Gs hd (n - 1 - i) i (by omega)
  unfold lowF highF nearF Cz Rls
  simp only at hg ⊢
  omega
theorem lat_bd {p : Pn} {n : Nat} {Z : Nat → Int} (h : reaR p n Z 0) (i : Nat) (hi : i < n) : -100000 ≤ nearF p Z n i ∧ nearF p Z n i ≤ 100000 ∧ -50000 ≤ Z i ∧ Z i ≤ 50000 := by
  obtain ⟨hp, hl, hf⟩ := reaR_zero h
  have := Gs_band hp.b hf i hi
  have := hl.2.2 i hi
  unfold nearF Cz Rls
  simp only; omega
def minF (X Y : Nat → Int) (i : Nat) : Int := min (X i) (Y i)
def maxF (X Y : Nat → Int) (i : Nat) : Int := max (X i) (Y i)
def midI (a b c : Int) : Int := max (max (min a b) (min b c)) (min a c)
def midF (X Y V : Nat → Int) (i : Nat) : Int := midI (X i) (Y i) (V i)
theorem lat_min {p : Pn} {n : Nat} {Z X Y : Nat → Int} (h : keeR p n (prF Z X) 0) (h' : keeR p n (prF Z Y) 0) : keeR p n (prF Z (minF X Y)) 0 := by
  obtain ⟨hp, hl, hx, hd⟩ := kee_of h
  obtain ⟨_, _, hx', hd'⟩ := kee_of h'
  refine kee_ok hp hl (fun i hi => ?_) ?_
  · have := hx i hi; have := hx' i hi; unfold Lev minF at *; omega
  · have e : (fun i => minF X Y i - Z i) = fun i => min (X i - Z i) (Y i - Z i) := by funext i; unfold minF; omega
    rw [e]; exact okd_min hd hd'
theorem lat_max {p : Pn} {n : Nat} {Z X Y : Nat → Int} (h : keeR p n (prF Z X) 0) (h' : keeR p n (prF Z Y) 0) : keeR p n (prF Z (maxF X Y)) 0 := by
  obtain ⟨hp, hl, hx, hd⟩ := kee_of h
  obtain ⟨_, _, hx', hd'⟩ := kee_of h'
  refine kee_ok hp hl (fun i hi => ?_) ?_
  · have := hx i hi; have := hx' i hi; unfold Lev maxF at *; omega
  · have e : (fun i => maxF X Y i - Z i) = fun i => max (X i - Z i) (Y i - Z i) := by funext i; unfold maxF; omega
    rw [e]; exact okd_max hd hd'
theorem lat_mid {p : Pn} {n : Nat} {Z X Y V : Nat → Int} (h1 : keeR p n (prF Z X) 0) (h2 : keeR p n (prF Z Y) 0) (h3 : keeR p n (prF Z V) 0) : keeR p n (prF Z (midF X Y V)) 0 :=
  lat_max (lat_max (lat_min h1 h2) (lat_min h2 h3)) (lat_min h1 h3)
theorem middleL_any (a b c : Int) (w : World) : Calls Try.prog 61 #[.int .i64 a, .int .i64 b, .int .i64 c] w fun e w' => e = .returned (.int .i64 (midI a b c)) ∧ w = w' := by
  go_enter Try.func61, Try.ntmps61
  go_wp2_with fail
  all_goals
    go_ret
    exact ⟨ret_int (by unfold midI; omega), rfl⟩
/-- append to a slice of one's own, and where the new one lies -/
theorem step_append_at {ops : Array Oper} {o : Oper} {a : Act} {w : World} {K : Act → World → Prop} {Q : Exit → Act → World → Prop} {E : Prop} (hgd : o.guard = none) (s x : Operand) (t : TypeId)
    (ho : o.op = .call { callee := .builtin .append, args := #[s, x], argTypes := #[t, t] })
    (base : Nat) (e : TypeId) (i : TypeInfo) (z : Value) (size bytes : Nat) (ht : Try.prog.underlying t = some (.slice e)) (hi : Try.prog.info? e = some i) (hz : i.zero = some z)
    (hsize : i.size = size) (hby : i.bytes = bytes) (hzs : z.cells.size = size) (hsz : 0 < size)
    (v : Value) (n : Nat) (xs : List Value) (hs : a.eval s = v) (hown : w.ownsRow base e size v n xs)
    (ad : Addr) (m c : Nat) (news : List Value) (hx : a.eval x = .slice (some ad) m c) (hl : news.length = m * size) (hnews : ∀ j u, news[j]? = some u → w.cell? (ad.add j) = some u) (h1 : ∀ u ∈ news, u.oneCell' = true)
    (h63 : n + m ≤ maxLen) (hbytes : (n + m) * bytes ≤ 140737488355328) (hbase : base ≤ w.heap.size)
    (hK : ∀ v' w', w'.ownsRow base e size v' (n + m) (xs ++ news) → w.grownBy w' v.ownBlock → (v'.ownBlock = v.ownBlock ∨ v'.ownBlock = some w.heap.size) → K (a.put o.dst v') w') :
    if Region.wanted o (yielded ops a.tmps) = true then Oper.wp Try.prog o a w K Q else E := by
  have hw : Region.wanted o (yielded ops a.tmps) = true := by simp [Region.wanted, hgd]
  rw [if_pos hw]
  obtain ⟨v', w', hrun, r1, r2, _, r3⟩ := run_append_own_at (P := Try.prog) (w := w) base t o.type e i z size bytes ht hi hz hsize hby hzs hsz v n xs hown ad m c news hl hnews h1 h63 hbytes hbase
  unfold Oper.wp
  simp [execOp, ho, resolve, invoke, builtin, hs, hx, hrun, Result.andThen]
  exact hK v' w' r1 r2 r3
def Parted (u v : Value) : Prop := ∀ g, u.ownBlock = some g → v.ownBlock ≠ some g
theorem Parted.symm {u v : Value} (h : Parted u v) : Parted v u := fun g hg he => h g he hg
/-- three rows of numbers of one's own, apart from one another -/
structure Row3 (w : World) (L1 L2 L3 : List Int) (v1 v2 v3 : Value) (wr : World) : Prop where
  below : Below w.heap.size w wr
  o1 : wr.ownsRow w.heap.size 3 1 v1 L1.length (intsZ L1)
  o2 : wr.ownsRow w.heap.size 3 1 v2 L2.length (intsZ L2)
  o3 : wr.ownsRow w.heap.size 3 1 v3 L3.length (intsZ L3)
  d12 : Parted v1 v2
  d23 : Parted v2 v3
  d31 : Parted v3 v1
theorem Row3.rot {w wr : World} {L1 L2 L3 : List Int} {v1 v2 v3 : Value} (h : Row3 w L1 L2 L3 v1 v2 v3 wr) : Row3 w L2 L3 L1 v2 v3 v1 wr := ⟨h.below, h.o2, h.o3, h.o1, h.d23, h.d31, h.d12⟩
theorem Row3.up {w wr W : World} {L1 L2 L3 : List Int} {v1 v2 v3 : Value} (h : Row3 w L1 L2 L3 v1 v2 v3 wr) (hb : Below wr.heap.size wr W) : Row3 w L1 L2 L3 v1 v2 v3 W :=
  ⟨nextB h.below hb, own_keep h.o1 hb, own_keep h.o2 hb, own_keep h.o3 hb, h.d12, h.d23, h.d31⟩
theorem Row3.app {w W w1 : World} {L1 L2 L3 : List Int} {v1 v2 v3 v' : Value} {z : Int} (h : Row3 w L1 L2 L3 v1 v2 v3 W) (hg : W.grownBy w1 v1.ownBlock)
    (h' : w1.ownsRow w.heap.size 3 1 v' (L1.length + 1) (intsZ L1 ++ [.int .i64 z])) (ha : v'.ownBlock = v1.ownBlock ∨ v'.ownBlock = some W.heap.size) : Row3 w (L1 ++ [z]) L2 L3 v' v2 v3 w1 := by
  have hp : ∀ {u : Value} {n : Nat} {xs : List Value}, W.ownsRow w.heap.size 3 1 u n xs → Parted v1 u → Parted v' u := fun {u n xs} hu hd g hg2 he => by
    rcases ha with e | e
    · exact hd g (by rw [← e]; exact hg2) he
    · rw [e] at hg2
      cases hg2
      have := (own_block hu he).2.1
      omega
  have hk : ∀ {u : Value} {n : Nat} {xs : List Value}, W.ownsRow w.heap.size 3 1 u n xs → Parted v1 u → w1.ownsRow w.heap.size 3 1 u n xs := fun {u n xs} hu hd => hu.kept hg (by
    cases hub : u.ownBlock with
    | none => exact .inl rfl
    | some g => exact .inr fun e => hd g e.symm hub)
  refine ⟨h.below.grown hg h.below.size (fun r e => (own_block h.o1 e).1), ?_, hk h.o2 h.d12, hk h.o3 h.d31.symm, hp h.o2 h.d12, h.d23, (hp h.o3 h.d31.symm).symm⟩
  rw [intsZ_snoc, List.length_append]
  exact h'
end Go.Proofs.Ytkidhmajlpceeaa
