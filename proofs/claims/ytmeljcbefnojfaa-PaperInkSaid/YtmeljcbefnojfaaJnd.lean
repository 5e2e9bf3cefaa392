import Derived.Test.YtmeljcbefnojfaaAdg
import Derived.Test.YtmeljcbefnojfaaSor
import Derived.Test.YtmeljcbefnojfaaDat
namespace Go.Proofs.Ytmeljcbefnojfaa
open Go.RowKit
theorem own_form {w : World} {base n : Nat} {e : TypeId} {size : Nat} {v : Value} {xs : List Value} (h : w.ownsRow base e size v n xs) : ∃ A c, v = .slice A n c := by
  obtain ⟨_, h | ⟨g, cap, cur, e1, _⟩⟩ := h
  · exact ⟨none, 0, by rw [h.1, h.2]⟩
  · exact ⟨_, _, e1⟩
/-- add, in general: a set with a further span -/
theorem put_any (bm o base : Nat) (v : Value) (L : List (Int × Int)) (s : Int × Int) (w : World) (hm : w.cell? ⟨bm, o, none⟩ = some v) (hf : w.frozen? ⟨bm, o, none⟩ = false) (hbase : bm < base ∧ base ≤ w.heap.size) (hn : L.length ≤ 1000)
    (hown : w.ownsRow base 23 2 v L.length (flatL L)) (hL : Srt L) (hs : s.1 ≤ s.2) (hb : 0 ≤ s.1 ∧ s.2 ≤ 100000000) :
    Calls Try.prog 99 #[.pointer (some ⟨bm, o, none⟩), .agg #[.int .i64 s.1, .int .i64 s.2]] w fun e w' => e = .returned (.tuple #[]) ∧ AddG bm o base v.ownBlock w (putL L s) w' := by
  obtain ⟨A, cap, rfl⟩ := own_form hown
  obtain ⟨f, t, h1, h2, h3, h4⟩ := spots L s hL hs
  have hr := putL_rep L s f t hL hs h1 h2 h3 h4
  by_cases hft : f = t
  · rw [hr.1 hft]
    exact add_ins bm o base f t cap A L s.1 s.2 w hft h2 hm hf hbase hn hown (by omega) h3 h4
  · have hf' : f < L.length := by omega
    have ht' : t - 1 < L.length := by omega
    have e1 : L[f]? = some (L[f]'hf') := List.getElem?_eq_getElem _
    have e2 : L[t - 1]? = some (L[t - 1]'ht') := List.getElem?_eq_getElem _
    rw [hr.2 (by omega) _ _ e1 e2]
    exact add_mrg bm o base f t cap A L s.1 s.2 w _ _ e1 e2 (by omega) h2 hm hf hbase hn hown (by omega) h3 h4
/-- a set with some further spans -/
def putAll (acc l : List (Int × Int)) : List (Int × Int) := l.foldl putL acc
/-- spans that may be put -/
def Okl (l : List (Int × Int)) : Prop := ∀ s ∈ l, s.1 ≤ s.2 ∧ 0 ≤ s.1 ∧ s.2 ≤ 100000000
theorem putAll_snoc (acc l : List (Int × Int)) (s : Int × Int) : putAll acc (l ++ [s]) = putL (putAll acc l) s := by simp [putAll]
theorem putAll_srt {acc l : List (Int × Int)} (h : Srt acc) (hl : Okl l) : Srt (putAll acc l) := by
  induction l generalizing acc with
  | nil => exact h
  | cons s l ih => exact ih (putL_srt acc s h (hl s List.mem_cons_self).1).1 (fun r hr => hl r (List.mem_cons_of_mem _ hr))
theorem putAll_length (acc l : List (Int × Int)) : (putAll acc l).length ≤ acc.length + l.length := by
  induction l generalizing acc with
  | nil => simp [putAll]
  | cons s l ih =>
    have h1 := ih (putL acc s)
    have h2 := putL_length acc s
    simp only [List.length_cons]
    have e : putAll acc (s :: l) = putAll (putL acc s) l := rfl
    rw [e]; omega
/-- the first k spans of a row -/
def firstK (S : Nat → Int × Int) (k : Nat) : List (Int × Int) := (List.range k).map S
theorem firstK_succ (S : Nat → Int × Int) (k : Nat) : firstK S (k + 1) = firstK S k ++ [S k] := by simp [firstK, List.range_succ]
theorem firstK_length (S : Nat → Int × Int) (k : Nat) : (firstK S k).length = k := by simp [firstK]
theorem firstK_ok {S : Nat → Int × Int} {n k : Nat} (h : ∀ i, i < n → (S i).1 ≤ (S i).2 ∧ 0 ≤ (S i).1 ∧ (S i).2 ≤ 100000000) (hk : k ≤ n) : Okl (firstK S k) := by
  intro s hs
  simp [firstK] at hs
  obtain ⟨i, hi, rfl⟩ := hs
  exact h i (by omega)
theorem new_at (W : World) (o : Obj) (b : Nat) (h : b = W.heap.size) : (W.alloc o).heap[b]? = some o := by
  subst h
  exact heap_alloc_new W o
/-- a column that is being built: its box, its row -/
structure ColB (w2 : World) (bx : Nat) (base : Nat) (L : List (Int × Int)) (wr : World) : Prop where
  below : Below bx w2 wr
  box : ∃ v, wr.heap[bx]? = some (.cells #[v, .bool false] 109 (0, 0)) ∧ wr.ownsRow base 23 2 v L.length (flatL L)
  size : base ≤ wr.heap.size
theorem ColB.up {w2 wr w' : World} {bx base : Nat} {L : List (Int × Int)} (h : ColB w2 bx base L wr) (hbx : bx < base) (hb : Below wr.heap.size wr w') : ColB w2 bx base L w' := by
  obtain ⟨h1, ⟨v, h2, h3⟩, h4⟩ := h
  exact ⟨h1.trans (hb.mono (by omega)), ⟨v, (hb.block bx (by omega)).trans h2, own_keep2 h3 hb⟩, Nat.le_trans h4 hb.size⟩
theorem ColB.put {w2 wr w' : World} {bx base : Nat} {L : List (Int × Int)} {s : Int × Int} {v : Value} (h1 : Below bx w2 wr) (h2 : wr.heap[bx]? = some (.cells #[v, .bool false] 109 (0, 0))) (h3 : wr.ownsRow base 23 2 v L.length (flatL L)) (h4 : base ≤ wr.heap.size) (hbx : bx < base)
    (h : AddG bx 0 base v.ownBlock wr (putL L s) w') : ColB w2 bx base (putL L s) w' := by
  obtain ⟨v', g1, g2, g3, g4, g5, g6, g7, g8⟩ := h
  refine ⟨⟨g4.trans h1.os, g5.trans h1.tape, g6.trans h1.output, Nat.le_trans h1.size g7, fun k hk => ?_⟩, ⟨v', ?_, g1⟩, Nat.le_trans h4 g7⟩
  · rw [g8 k (by omega) (by omega) (fun e => ?_)]
    · exact h1.block k hk
    · obtain ⟨_, hx | ⟨g, cap, cur, e1, e3, _⟩⟩ := h3
      · rw [hx.1] at e; cases e
      · rw [e1] at e
        simp [Value.ownBlock] at e
        omega
  · rw [g2]
    simp [World.setCell, Array.getElem?_modify, h2]
theorem ColB.cells {wr : World} {bx : Nat} {v : Value} (h2 : wr.heap[bx]? = some (.cells #[v, .bool false] 109 (0, 0))) : wr.cell? ⟨bx, 0, none⟩ = some v ∧ wr.cell? ⟨bx, 1, none⟩ = some (.bool false) ∧ wr.frozen? ⟨bx, 0, none⟩ = false ∧ bx < wr.heap.size := by
  refine ⟨by simp [World.cell?, h2], by simp [World.cell?, h2], by simp [World.frozen?, h2], (Array.getElem?_eq_some_iff.1 h2).1⟩
/-- a column is returned, of the call's own -/
def ColP (w : World) (L : List (Int × Int)) (e : Ending) (w' : World) : Prop := ∃ v, e = .returned (.agg #[v, .bool false]) ∧ Below w.heap.size w w' ∧ w'.ownsRow w.heap.size 23 2 v L.length (flatL L)
set_option maxRecDepth 100000 in
set_option maxHeartbeats 4000000 in
theorem joined_any (A B : Option Addr) (n c m d : Nat) (S R : Nat → Int × Int) (w : World) (hn : n ≤ 100) (hm : m ≤ 100) (ha : SpsIn A n S w.heap.size w) (hb : SpsIn B m R w.heap.size w)
    (hS : ∀ i, i < n → (S i).1 ≤ (S i).2 ∧ 0 ≤ (S i).1 ∧ (S i).2 ≤ 100000000) (hR : ∀ i, i < m → (R i).1 ≤ (R i).2 ∧ 0 ≤ (R i).1 ∧ (R i).2 ≤ 100000000) :
    Calls Try.prog 136 #[.slice A n c, .slice B m d] w (ColP w (putAll (putAll [] (firstK S n)) (firstK R m))) := by
  obtain ⟨w2, hw2⟩ : ∃ w2, w2 = (w.alloc (.cells #[.slice none 0 0, .bool false] 109)).alloc (.cells #[.slice none 0 0, .bool false] 109) := ⟨_, rfl⟩
  have hW : Below w.heap.size w w2 := by rw [hw2]; exact box2 _ _ _
  have hres : w2.heap[w.heap.size]? = some (.cells #[.slice none 0 0, .bool false] 109) := by rw [hw2]; exact (Below.heap_alloc _ _ _ (by simp only [World.size_alloc]; omega)).trans (heap_alloc_new w _)
  have hC0 : ColB w2 (w.heap.size + 1) (w.heap.size + 1 + 1) [] w2 := ⟨Below.refl _ _, ⟨_, by rw [hw2]; exact new_at _ _ _ (by simp only [World.size_alloc]), World.ownsRow_nil _ _ _ 2⟩, by rw [hw2]; simp only [World.size_alloc]; omega⟩
  have HC0 := Lib.hid hC0
  have HRES := Lib.hid hres
  have HW := Lib.hid hW
  have HA := Lib.hid (ha.up hW (Nat.le_refl _))
  have HB := Lib.hid (hb.up hW (Nat.le_refl _))
  have HS := Lib.hid hS
  have HR := Lib.hid hR
  have H2 := Lib.hid hw2
  have hn' : (n : Int) ≤ 100 := by omega
  have hm' : (m : Int) ≤ 100 := by omega
  clear ha hb hS hR hw2 hW hres hC0
  go_enter Try.func136, Try.ntmps136
  go_wp2_with fail
  rw [← H2.out]
  go_loopw [12] (fun i wr => ∃ k : Nat, k ≤ n ∧ i = .int .i64 k ∧ ColB w2 (w.heap.size + 1) (w.heap.size + 1 + 1) (putAll [] (firstK S k)) wr) (fun i _ => n - (intOf i).toNat)
  case atStart => exact ⟨0, Nat.zero_le _, rfl, HC0.out⟩
  case round =>
    obtain ⟨k, hk, rfl, hC⟩ := hrel
    obtain ⟨wo, rfl⟩ : ∃ wo : World, wo = wr := ⟨_, rfl⟩
    have HC := Lib.hid hC
    obtain ⟨hB, ⟨v, hbx, hown⟩, hsz⟩ := hC
    have hk0 : (0 : Int) ≤ (k : Int) := by omega
    by_cases hlt : k < n
    · obtain ⟨a, rfl, ab, c0, c1⟩ := (HA.out.up hB (by omega)).2 k hlt
      have hki : (k : Int) < (n : Int) := by omega
      have hC1 : ColB w2 (w.heap.size + 1) (w.heap.size + 1 + 1) (putAll [] (firstK S k)) (wo.alloc (.cells #[.int .i64 (S k).1, .int .i64 (S k).2] 23)) := HC.out.up (by omega) (box1 _ _)
      obtain ⟨hB1, ⟨v1, hbx1, hown1⟩, hsz1⟩ := hC1
      obtain ⟨q0, q1, q2, q3⟩ := ColB.cells hbx1
      have KA := Lib.hid (put_any (w.heap.size + 1) 0 (w.heap.size + 1 + 1) v1 (putAll [] (firstK S k)) (S k) _ q0 q2 ⟨by omega, hsz1⟩ (by have h1 := putAll_length [] (firstK S k); rw [firstK_length] at h1; simp at h1; omega) hown1 (putAll_srt ⟨by simp, by simp⟩ (firstK_ok HS.out hk)) (HS.out k hlt).1 (HS.out k hlt).2)
      have HP := Lib.hid (fun w' h => ColB.put hB1 hbx1 hown1 hsz1 (by omega) (w' := w') (s := S k) h)
      clear hB hbx hown hsz hB1 hbx1 hown1 hsz1 q0 q1 q2 q3
      go_wp2_with fail
      refine KA.out.mono ?_
      rintro e w1 ⟨rfl, hG⟩
      have hJ := HP.out _ hG
      clear hG
      go_wp2_with fail
      go_roundw
      case rel => exact ⟨k + 1, by omega, by go_num, by rw [firstK_succ, putAll_snoc]; exact hJ⟩
      case measure => simp [intOf]; omega
    · have hki : (n : Int) ≤ (k : Int) := by omega
      obtain rfl : n = k := by omega
      clear hB hbx hown hsz
      go_wp2_with fail
      go_loopw [22] (fun i wr => ∃ k : Nat, k ≤ m ∧ i = .int .i64 k ∧ ColB w2 (w.heap.size + 1) (w.heap.size + 1 + 1) (putAll (putAll [] (firstK S n)) (firstK R k)) wr) (fun i _ => m - (intOf i).toNat)
      case atStart => exact ⟨0, Nat.zero_le _, rfl, HC.out⟩
      case round =>
        obtain ⟨k, hk, rfl, hC⟩ := hrel
        obtain ⟨wo, rfl⟩ : ∃ wo : World, wo = wr := ⟨_, rfl⟩
        have HC := Lib.hid hC
        obtain ⟨hB, ⟨v, hbx, hown⟩, hsz⟩ := hC
        have hk0 : (0 : Int) ≤ (k : Int) := by omega
        by_cases hlt : k < m
        · obtain ⟨a, rfl, ab, c0, c1⟩ := (HB.out.up hB (by omega)).2 k hlt
          have hki : (k : Int) < (m : Int) := by omega
          have hC1 : ColB w2 (w.heap.size + 1) (w.heap.size + 1 + 1) (putAll (putAll [] (firstK S n)) (firstK R k)) (wo.alloc (.cells #[.int .i64 (R k).1, .int .i64 (R k).2] 23)) := HC.out.up (by omega) (box1 _ _)
          obtain ⟨hB1, ⟨v1, hbx1, hown1⟩, hsz1⟩ := hC1
          obtain ⟨q0, q1, q2, q3⟩ := ColB.cells hbx1
          have KA := Lib.hid (put_any (w.heap.size + 1) 0 (w.heap.size + 1 + 1) v1 (putAll (putAll [] (firstK S n)) (firstK R k)) (R k) _ q0 q2 ⟨by omega, hsz1⟩ (by have h1 := putAll_length (putAll [] (firstK S n)) (firstK R k); rw [firstK_length] at h1; have h2 := putAll_length [] (firstK S n); rw [firstK_length] at h2; simp at h2; omega) hown1 (putAll_srt (putAll_srt ⟨by simp, by simp⟩ (firstK_ok HS.out (Nat.le_refl _))) (firstK_ok HR.out hk)) (HR.out k hlt).1 (HR.out k hlt).2)
          have HP := Lib.hid (fun w' h => ColB.put hB1 hbx1 hown1 hsz1 (by omega) (w' := w') (s := R k) h)
          clear hB hbx hown hsz hB1 hbx1 hown1 hsz1 q0 q1 q2 q3
          go_wp2_with fail
          refine KA.out.mono ?_
          rintro e w1 ⟨rfl, hG⟩
          have hJ := HP.out _ hG
          clear hG
          go_wp2_with fail
          go_roundw
          case rel => exact ⟨k + 1, by omega, by go_num, by rw [firstK_succ, putAll_snoc]; exact hJ⟩
          case measure => simp [intOf]; omega
        · have hki : (m : Int) ≤ (k : Int) := by omega
          obtain rfl : m = k := by omega
          have hc := ColB.cells hbx
          obtain ⟨q0, q1, q2, q3⟩ := hc
          have hrw : wo.heap[w.heap.size]? = some (.cells #[.slice none 0 0, .bool false] 109 (0, 0)) := (hB.block _ (by omega)).trans HRES.out
          obtain ⟨r0, r1, r2, r3⟩ := ColB.cells hrw
          have r4 : wo.frozen? ⟨w.heap.size, 1, none⟩ = false := by simp [World.frozen?, hrw]
          obtain ⟨A', c', rfl⟩ := own_form hown
          have HOW := Lib.hid hown
          have HBB := Lib.hid hB
          clear hbx hown hrw hB
          go_wp2_with fail
          refine bodyPost_ret (v := .agg #[.slice A' (putAll (putAll [] (firstK S n)) (firstK R m)).length c', .bool false]) ?_ rfl ⟨_, rfl, ?_, ?_⟩
          · simp [results, Try.results136, go_sem, r0, r1]
          · exact set1 (set1 (HW.out.trans (HBB.out.mono (by omega))) (Nat.le_refl _) _ _) (Nat.le_refl _) _ _
          · exact own_mono (own_set (own_set HOW.out (by omega) _ _) (by omega) _ _) (by omega)
end Go.Proofs.Ytmeljcbefnojfaa
namespace Go.Proofs.Ytmeljcbefnojfaa
open Go.RowKit
def eitL (S R : Nat → Int × Int) (n m : Nat) : List (Int × Int) := if n = 0 ∨ m = 0 then [] else putAll (putAll [] (firstK S n)) (firstK R m)
/-- the spans of a row are fine -/
def SpOk (S : Nat → Int × Int) (n : Nat) : Prop := ∀ i, i < n → (S i).1 ≤ (S i).2 ∧ 0 ≤ (S i).1 ∧ (S i).2 ≤ 100000000
set_option maxRecDepth 100000 in
set_option maxHeartbeats 2000000 in
theorem either_any (A B : Option Addr) (n c m d : Nat) (S R : Nat → Int × Int) (w : World) (hn : n ≤ 100) (hm : m ≤ 100) (ha : SpsIn A n S w.heap.size w) (hb : SpsIn B m R w.heap.size w) (hS : SpOk S n) (hR : SpOk R m) :
    Calls Try.prog 113 #[.slice A n c, .slice B m d] w (ColP w (eitL S R n m)) := by
  have hn' : (n : Int) ≤ 100 := by omega
  have hm' : (m : Int) ≤ 100 := by omega
  have KJ : Hid (∀ w1, Below w.heap.size w w1 → Calls Try.prog 136 #[.slice A n c, .slice B m d] w1 (ColP w1 (putAll (putAll [] (firstK S n)) (firstK R m)))) := Lib.hid fun w1 h1 => joined_any A B n c m d S R w1 hn hm ((ha.up h1 (Nat.le_refl _)).more h1.size) ((hb.up h1 (Nat.le_refl _)).more h1.size) hS hR
  obtain ⟨LL, hLL⟩ : ∃ LL, LL = eitL S R n m := ⟨_, rfl⟩
  rw [← hLL]
  have HL := Lib.hid hLL
  clear hLL ha hb hS hR
  by_cases h0 : n = 0 ∨ m = 0
  · have e : LL = [] := by rw [HL.out]; unfold eitL; rw [if_pos h0]
    subst e
    have fin : ∀ w1 : World, Below w.heap.size w w1 → ColP w [] (.returned (.agg #[.slice none 0 0, .bool false])) w1 := fun w1 h1 => ⟨_, rfl, h1, World.ownsRow_nil _ _ _ 2⟩
    have FIN := Lib.hid fin
    clear fin HL
    by_cases h1 : n = 0
    · have d1 : ((n : Int) == 0) = true := by simp [h1]
      clear h1 h0
      go_enter Try.func113, Try.ntmps113
      go_wp2_with fail
      refine bodyPost_ret (v := .agg #[.slice none 0 0, .bool false]) (by simp [results, Try.results113, go_sem]) rfl (FIN.out _ ?_)
      exact box1 _ _
    · have d1 : ((n : Int) == 0) = false := by simp [h1]
      have d2 : ((m : Int) == 0) = true := by simp; omega
      clear h1 h0
      go_enter Try.func113, Try.ntmps113
      go_wp2_with fail
      refine bodyPost_ret (v := .agg #[.slice none 0 0, .bool false]) (by simp [results, Try.results113, go_sem]) rfl (FIN.out _ ?_)
      exact box1 _ _
  · have e : LL = putAll (putAll [] (firstK S n)) (firstK R m) := by rw [HL.out]; unfold eitL; rw [if_neg h0]
    have d1 : ((n : Int) == 0) = false := by simp; omega
    have d2 : ((m : Int) == 0) = false := by simp; omega
    rw [← e] at KJ
    clear HL h0 e
    go_enter Try.func113, Try.ntmps113
    go_wp2_with fail
    refine (KJ.out _ (box1 _ _)).mono ?_
    rintro e w1 ⟨v, rfl, hb1, hown⟩
    obtain ⟨A', c', rfl⟩ := own_form hown
    have r0 := low_cell (b := w.heap.size) (o := 0) (v := .slice none 0 0) hb1 (by simp only [World.size_alloc]; omega) (by go_simp)
    have r1 := low_cell (b := w.heap.size) (o := 1) (v := .bool false) hb1 (by simp only [World.size_alloc]; omega) (by go_simp)
    have r2 := low_frozen (b := w.heap.size) (o := 0) (v := false) hb1 (by simp only [World.size_alloc]; omega) (by go_simp)
    have r3 := low_frozen (b := w.heap.size) (o := 1) (v := false) hb1 (by simp only [World.size_alloc]; omega) (by go_simp)
    have HOW := Lib.hid hown
    have HBB := Lib.hid hb1
    clear hown hb1
    go_wp2_with fail
    refine bodyPost_ret (v := .agg #[.slice A' LL.length c', .bool false]) ?_ rfl ⟨_, rfl, ?_, ?_⟩
    · simp [results, Try.results113, go_sem, r0, r1]
    · exact set1 (set1 ((box1 _ _).trans (HBB.out.mono (by simp only [World.size_alloc]; omega))) (Nat.le_refl _) _ _) (Nat.le_refl _) _ _
    · exact own_mono (own_set (own_set HOW.out (by simp only [World.size_alloc]; omega) _ _) (by simp only [World.size_alloc]; omega) _ _) (by simp only [World.size_alloc]; omega)
end Go.Proofs.Ytmeljcbefnojfaa
namespace Go.Proofs.Ytmeljcbefnojfaa
open Go.RowKit
/-- what a span has in common with another one is put, if it is anything -/
def bothStep (s : Int × Int) (acc : List (Int × Int)) (t : Int × Int) : List (Int × Int) := if max s.1 t.1 ≤ min s.2 t.2 then putL acc (max s.1 t.1, min s.2 t.2) else acc
def bothIn (acc : List (Int × Int)) (s : Int × Int) (l : List (Int × Int)) : List (Int × Int) := l.foldl (bothStep s) acc
def bothL (l r : List (Int × Int)) : List (Int × Int) := l.foldl (fun acc s => bothIn acc s r) []
theorem bothIn_snoc (acc : List (Int × Int)) (s t : Int × Int) (l : List (Int × Int)) : bothIn acc s (l ++ [t]) = bothStep s (bothIn acc s l) t := by simp [bothIn]
theorem bothL_snoc (l r : List (Int × Int)) (s : Int × Int) : bothL (l ++ [s]) r = bothIn (bothL l r) s r := by simp [bothL]
theorem bothStep_srt {s t : Int × Int} {acc : List (Int × Int)} (h : Srt acc) : Srt (bothStep s acc t) := by
  unfold bothStep
  split
  · rename_i c
    exact (putL_srt acc _ h c).1
  · exact h
theorem bothStep_length (s t : Int × Int) (acc : List (Int × Int)) : (bothStep s acc t).length ≤ acc.length + 1 := by
  unfold bothStep
  split
  · exact putL_length _ _
  · omega
theorem bothIn_srt {s : Int × Int} {l : List (Int × Int)} : ∀ {acc : List (Int × Int)}, Srt acc → Srt (bothIn acc s l) := by
  induction l with
  | nil => intro acc h; exact h
  | cons t l ih => intro acc h; exact ih (bothStep_srt h)
theorem bothIn_length (s : Int × Int) (l : List (Int × Int)) : ∀ (acc : List (Int × Int)), (bothIn acc s l).length ≤ acc.length + l.length := by
  induction l with
  | nil => intro acc; simp [bothIn]
  | cons t l ih =>
    intro acc
    have h1 := ih (bothStep s acc t)
    have h2 := bothStep_length s t acc
    have e : bothIn acc s (t :: l) = bothIn (bothStep s acc t) s l := rfl
    rw [e, List.length_cons]; omega
theorem bothL_srt (S : Nat → Int × Int) (r : List (Int × Int)) (k : Nat) : Srt (bothL (firstK S k) r) := by
  induction k with
  | zero => exact ⟨by simp [firstK, bothL], by simp [firstK, bothL]⟩
  | succ k ih => rw [firstK_succ, bothL_snoc]; exact bothIn_srt ih
theorem bothL_length (S : Nat → Int × Int) (r : List (Int × Int)) (k : Nat) : (bothL (firstK S k) r).length ≤ k * r.length := by
  induction k with
  | zero => simp [firstK, bothL]
  | succ k ih =>
    rw [firstK_succ, bothL_snoc, Nat.succ_mul]
    have := bothIn_length (S k) r (bothL (firstK S k) r)
    omega
/-- a column that is being built, and the box of a span beside it -/
structure InB (w2 : World) (bx base bs : Nat) (s : Int × Int) (L : List (Int × Int)) (wr : World) : Prop where
  below : Below bx w2 wr
  box : ∃ v, wr.heap[bx]? = some (.cells #[v, .bool false] 109 (0, 0)) ∧ wr.ownsRow base 23 2 v L.length (flatL L) ∧ v.ownBlock ≠ some bs
  size : base ≤ bs ∧ bs < wr.heap.size
  c0 : wr.cell? ⟨bs, 0, none⟩ = some (.int .i64 s.1)
  c1 : wr.cell? ⟨bs, 1, none⟩ = some (.int .i64 s.2)
theorem InB.up {w2 wr w' : World} {bx base bs : Nat} {s : Int × Int} {L : List (Int × Int)} (h : InB w2 bx base bs s L wr) (hbx : bx < base) (hb : Below wr.heap.size wr w') : InB w2 bx base bs s L w' := by
  obtain ⟨h1, ⟨v, h2, h3, h4⟩, h5, h6, h7⟩ := h
  exact ⟨h1.trans (hb.mono (by omega)), ⟨v, (hb.block bx (by omega)).trans h2, own_keep2 h3 hb, h4⟩, ⟨h5.1, Nat.lt_of_lt_of_le h5.2 hb.size⟩, cell_up hb h5.2 h6, cell_up hb h5.2 h7⟩
theorem InB.col {w2 wr : World} {bx base bs : Nat} {s : Int × Int} {L : List (Int × Int)} (h : InB w2 bx base bs s L wr) : ColB w2 bx base L wr := by
  obtain ⟨h1, ⟨v, h2, h3, _⟩, h5, _, _⟩ := h
  exact ⟨h1, ⟨v, h2, h3⟩, by omega⟩
theorem InB.of {w2 wr : World} {bx base : Nat} {s : Int × Int} {L : List (Int × Int)} (h : ColB w2 bx base L wr) (hbx : bx < base) : InB w2 bx base wr.heap.size s L (wr.alloc (.cells #[.int .i64 s.1, .int .i64 s.2] 23)) := by
  have hu := h.up hbx (box1 wr (.cells #[.int .i64 s.1, .int .i64 s.2] 23))
  obtain ⟨_, ⟨v, h2, h3⟩, h4⟩ := h
  obtain ⟨g1, ⟨v', g2, g3⟩, g4⟩ := hu
  have e : v' = v := by
    have := (Below.heap_alloc wr (.cells #[.int .i64 s.1, .int .i64 s.2] 23) bx (by omega)).symm.trans g2
    rw [h2] at this
    simp at this
    exact this.symm
  subst e
  refine ⟨g1, ⟨v', g2, g3, fun e => ?_⟩, ⟨h4, by simp only [World.size_alloc]; omega⟩, by go_simp, by go_simp⟩
  obtain ⟨_, hx | ⟨g, cap, cur, e1, e3, e4, _⟩⟩ := h3
  · rw [hx.1] at e; cases e
  · rw [e1] at e
    simp [Value.ownBlock] at e
    have := (Array.getElem?_eq_some_iff.1 e4).1
    omega
theorem InB.put {w2 wr w' : World} {bx base bs : Nat} {s t : Int × Int} {L : List (Int × Int)} {v : Value} (h1 : Below bx w2 wr) (h2 : wr.heap[bx]? = some (.cells #[v, .bool false] 109 (0, 0))) (h3 : wr.ownsRow base 23 2 v L.length (flatL L)) (h3' : v.ownBlock ≠ some bs) (h4 : base ≤ bs ∧ bs < wr.heap.size) (hbx : bx < base)
    (h5 : wr.cell? ⟨bs, 0, none⟩ = some (.int .i64 s.1)) (h6 : wr.cell? ⟨bs, 1, none⟩ = some (.int .i64 s.2)) (h : AddG bx 0 base v.ownBlock wr (putL L t) w') : InB w2 bx base bs s (putL L t) w' := by
  have hc := ColB.put h1 h2 h3 (by omega) hbx h
  obtain ⟨v', g1, g2, g3, g4, g5, g6, g7, g8⟩ := h
  have hb : w'.heap[bs]? = wr.heap[bs]? := g8 bs h4.2 (by omega) (fun e => h3' e.symm)
  refine ⟨hc.below, ⟨v', ?_, g1, fun e => ?_⟩, ⟨h4.1, by omega⟩, (World.cell?_of_block (a := ⟨bs, 0, none⟩) hb).trans h5, (World.cell?_of_block (a := ⟨bs, 1, none⟩) hb).trans h6⟩
  · rw [g2]
    simp [World.setCell, Array.getElem?_modify, h2]
  · rcases g3 with h | ⟨g, h, h'⟩
    · exact h3' (h.symm.trans e)
    · rw [h] at e; cases e; omega
end Go.Proofs.Ytmeljcbefnojfaa
namespace Go.Proofs.Ytmeljcbefnojfaa
open Go.RowKit
def bthL (S R : Nat → Int × Int) (n m : Nat) : List (Int × Int) := if n = 0 ∨ m = 0 then putAll (putAll [] (firstK S n)) (firstK R m) else bothL (firstK S n) (firstK R m)
set_option maxRecDepth 100000 in
set_option maxHeartbeats 4000000 in
theorem both_any (A B : Option Addr) (n c m d : Nat) (S R : Nat → Int × Int) (w : World) (hn : n ≤ 8) (hm : m ≤ 8) (ha : SpsIn A n S w.heap.size w) (hb : SpsIn B m R w.heap.size w) (hS : SpOk S n) (hR : SpOk R m) :
    Calls Try.prog 109 #[.slice A n c, .slice B m d] w (ColP w (bthL S R n m)) := by
  have hn' : (n : Int) ≤ 8 := by omega
  have hm' : (m : Int) ≤ 8 := by omega
  have KJ : Hid (∀ w1, Below w.heap.size w w1 → Calls Try.prog 136 #[.slice A n c, .slice B m d] w1 (ColP w1 (putAll (putAll [] (firstK S n)) (firstK R m)))) := Lib.hid fun w1 h1 => joined_any A B n c m d S R w1 (by omega) (by omega) ((ha.up h1 (Nat.le_refl _)).more h1.size) ((hb.up h1 (Nat.le_refl _)).more h1.size) hS hR
  obtain ⟨LL, hLL⟩ : ∃ LL, LL = bthL S R n m := ⟨_, rfl⟩
  rw [← hLL]
  by_cases h0 : n = 0 ∨ m = 0
  · have e : LL = putAll (putAll [] (firstK S n)) (firstK R m) := by rw [hLL]; unfold bthL; rw [if_pos h0]
    rw [← e] at KJ
    have fin : ∀ (A' : Option Addr) (c' : Nat) (w1 : World), Below (w.heap.size + 1) (w.alloc (.cells #[.slice none 0 0, .bool false] 109)) w1 → w1.ownsRow (w.heap.size + 1) 23 2 (.slice A' LL.length c') LL.length (flatL LL) → ColP w LL (.returned (.agg #[.slice A' LL.length c', .bool false])) ((w1.setCell ⟨w.heap.size, 0, none⟩ (.slice A' LL.length c')).setCell ⟨w.heap.size, 1, none⟩ (.bool false)) := by
      intro A' c' w1 h1 h2
      exact ⟨_, rfl, set1 (set1 ((box1 _ _).trans (h1.mono (by omega))) (Nat.le_refl _) _ _) (Nat.le_refl _) _ _, own_mono (own_set (own_set h2 (by omega) _ _) (by omega) _ _) (by omega)⟩
    have FIN := Lib.hid fin
    clear fin e hLL ha hb hS hR
    by_cases h1 : n = 0
    · have d1 : ((n : Int) == 0) = true := by simp [h1]
      clear h1 h0
      go_enter Try.func109, Try.ntmps109
      go_wp2_with fail
      refine (KJ.out _ (box1 _ _)).mono ?_
      rintro e w1 ⟨v, rfl, hb1, hown⟩
      obtain ⟨A', c', rfl⟩ := own_form hown
      have r0 := low_cell (b := w.heap.size) (o := 0) (v := .slice none 0 0) hb1 (by simp only [World.size_alloc]; omega) (by go_simp)
      have r1 := low_cell (b := w.heap.size) (o := 1) (v := .bool false) hb1 (by simp only [World.size_alloc]; omega) (by go_simp)
      have r2 := low_frozen (b := w.heap.size) (o := 0) (v := false) hb1 (by simp only [World.size_alloc]; omega) (by go_simp)
      have r3 := low_frozen (b := w.heap.size) (o := 1) (v := false) hb1 (by simp only [World.size_alloc]; omega) (by go_simp)
      simp only [World.size_alloc] at hb1 hown
      have F := Lib.hid (FIN.out A' c' w1 hb1 hown)
      clear hown hb1
      go_wp2_with fail
      refine bodyPost_ret (v := .agg #[.slice A' LL.length c', .bool false]) ?_ rfl F.out
      simp [results, Try.results109, go_sem, r0, r1]
    · have d1 : ((n : Int) == 0) = false := by simp [h1]
      have d2 : ((m : Int) == 0) = true := by simp; omega
      clear h1 h0
      go_enter Try.func109, Try.ntmps109
      go_wp2_with fail
      refine (KJ.out _ (box1 _ _)).mono ?_
      rintro e w1 ⟨v, rfl, hb1, hown⟩
      obtain ⟨A', c', rfl⟩ := own_form hown
      have r0 := low_cell (b := w.heap.size) (o := 0) (v := .slice none 0 0) hb1 (by simp only [World.size_alloc]; omega) (by go_simp)
      have r1 := low_cell (b := w.heap.size) (o := 1) (v := .bool false) hb1 (by simp only [World.size_alloc]; omega) (by go_simp)
      have r2 := low_frozen (b := w.heap.size) (o := 0) (v := false) hb1 (by simp only [World.size_alloc]; omega) (by go_simp)
      have r3 := low_frozen (b := w.heap.size) (o := 1) (v := false) hb1 (by simp only [World.size_alloc]; omega) (by go_simp)
      simp only [World.size_alloc] at hb1 hown
      have F := Lib.hid (FIN.out A' c' w1 hb1 hown)
      clear hown hb1
      go_wp2_with fail
      refine bodyPost_ret (v := .agg #[.slice A' LL.length c', .bool false]) ?_ rfl F.out
      simp [results, Try.results109, go_sem, r0, r1]
  · have e : LL = bothL (firstK S n) (firstK R m) := by rw [hLL]; unfold bthL; rw [if_neg h0]
    subst e
    clear hLL KJ
    have d1 : ((n : Int) == 0) = false := by simp; omega
    have d2 : ((m : Int) == 0) = false := by simp; omega
    obtain ⟨w2, hw2⟩ : ∃ w2, w2 = (w.alloc (.cells #[.slice none 0 0, .bool false] 109)).alloc (.cells #[.slice none 0 0, .bool false] 109) := ⟨_, rfl⟩
    have hW : Below w.heap.size w w2 := by rw [hw2]; exact box2 _ _ _
    have hres : w2.heap[w.heap.size]? = some (.cells #[.slice none 0 0, .bool false] 109 (0, 0)) := by rw [hw2]; exact (Below.heap_alloc _ _ _ (by simp only [World.size_alloc]; omega)).trans (heap_alloc_new w _)
    have hC0 : ColB w2 (w.heap.size + 1) (w.heap.size + 1 + 1) [] w2 := ⟨Below.refl _ _, ⟨_, by rw [hw2]; exact new_at _ _ _ (by simp only [World.size_alloc]), World.ownsRow_nil _ _ _ 2⟩, by rw [hw2]; simp only [World.size_alloc]; omega⟩
    have HC0 := Lib.hid hC0
    have HRES := Lib.hid hres
    have HW := Lib.hid hW
    have HA := Lib.hid (ha.up hW (Nat.le_refl _))
    have HB := Lib.hid (hb.up hW (Nat.le_refl _))
    have HS := Lib.hid hS
    have HR := Lib.hid hR
    have H2 := Lib.hid hw2
    clear ha hb hS hR hw2 hW hres hC0 h0
    go_enter Try.func109, Try.ntmps109
    go_wp2_with fail
    rw [← H2.out]
    go_loopw [25] (fun i wr => ∃ k : Nat, k ≤ n ∧ i = .int .i64 k ∧ ColB w2 (w.heap.size + 1) (w.heap.size + 1 + 1) (bothL (firstK S k) (firstK R m)) wr) (fun i _ => n - (intOf i).toNat)
    case atStart => exact ⟨0, Nat.zero_le _, rfl, HC0.out⟩
    case round =>
      obtain ⟨k, hk, rfl, hC⟩ := hrel
      obtain ⟨wo, rfl⟩ : ∃ wo : World, wo = wr := ⟨_, rfl⟩
      have HC := Lib.hid hC
      have hk0 : (0 : Int) ≤ (k : Int) := by omega
      by_cases hlt : k < n
      · obtain ⟨a, rfl, ab, c0, c1⟩ := (HA.out.up hC.below (by omega)).2 k hlt
        have hki : (k : Int) < (n : Int) := by omega
        have hI := InB.of (s := S k) hC (by omega)
        have hIn := Lib.hid hI
        obtain ⟨LK, hLK⟩ : ∃ LK, LK = bothL (firstK S k) (firstK R m) := ⟨_, rfl⟩
        have HLK := Lib.hid hLK
        have hsrt : Srt LK := by rw [hLK]; exact bothL_srt _ _ _
        have hlen : LK.length ≤ 64 := by
          rw [hLK]
          have h1 := bothL_length S (firstK R m) k
          rw [firstK_length] at h1
          have h2 : k * m ≤ 8 * 8 := Nat.mul_le_mul (by omega) hm
          omega
        have HSRT := Lib.hid hsrt
        rw [← hLK] at hIn
        obtain ⟨bs, hbs⟩ : ∃ bs, bs = wo.heap.size := ⟨_, rfl⟩
        have HBS := Lib.hid hbs
        rw [← hbs] at hIn
        clear hC hI hLK hsrt hbs
        go_wp2_with fail
        rw [← HBS.out]
        go_loopw [31] (fun i wr => ∃ j : Nat, j ≤ m ∧ i = .int .i64 j ∧ InB w2 (w.heap.size + 1) (w.heap.size + 1 + 1) bs (S k) (bothIn LK (S k) (firstK R j)) wr) (fun i _ => m - (intOf i).toNat)
        case atStart => exact ⟨0, Nat.zero_le _, rfl, hIn.out⟩
        case round =>
          obtain ⟨j, hj, rfl, hI⟩ := hrel
          obtain ⟨wi, rfl⟩ : ∃ wi : World, wi = wr := ⟨_, rfl⟩
          have HI := Lib.hid hI
          have hj0 : (0 : Int) ≤ (j : Int) := by omega
          clear c0 c1
          by_cases hjm : j < m
          · obtain ⟨a', rfl, ab', e0, e1⟩ := (HB.out.up hI.below (by omega)).2 j hjm
            have hji : (j : Int) < (m : Int) := by omega
            have hU : ∀ q, InB w2 (w.heap.size + 1) (w.heap.size + 1 + 1) bs (S k) (bothIn LK (S k) (firstK R j)) ((wi.alloc (.cells #[.int .i64 (R j).1, .int .i64 (R j).2] 23)).drewN q) := fun q => hI.up (by omega) (below_drewN (box1 _ _) q)
            have b0 := hI.c0
            have b1 := hI.c1
            have hbsz := hI.size.2
            have HU := Lib.hid hU
            have hle : (bothIn LK (S k) (firstK R j)).length ≤ 100 := by
              have := bothIn_length (S k) (firstK R j) LK
              rw [firstK_length] at this
              omega
            have hsr : Srt (bothIn LK (S k) (firstK R j)) := bothIn_srt HSRT.out
            have HSR := Lib.hid hsr
            have hnx : bothIn LK (S k) (firstK R (j + 1)) = bothStep (S k) (bothIn LK (S k) (firstK R j)) (R j) := by rw [firstK_succ, bothIn_snoc]
            have HNX := Lib.hid hnx
            have hbd := HS.out k hlt
            have hbe := HR.out j hjm
            clear hI hU hsr hnx
            by_cases hmx : max (S k).1 (R j).1 ≤ min (S k).2 (R j).2
            · have dm : decide (max (S k).1 (R j).1 ≤ min (S k).2 (R j).2) = true := by simpa using hmx
              have hst : bothStep (S k) (bothIn LK (S k) (firstK R j)) (R j) = putL (bothIn LK (S k) (firstK R j)) (max (S k).1 (R j).1, min (S k).2 (R j).2) := by unfold bothStep; rw [if_pos hmx]
              have HST := Lib.hid hst
              have KA : Hid (∀ q, Calls Try.prog 99 #[.pointer (some ⟨w.heap.size + 1, 0, none⟩), .agg #[.int .i64 (max (S k).1 (R j).1), .int .i64 (min (S k).2 (R j).2)]] ((wi.alloc (.cells #[.int .i64 (R j).1, .int .i64 (R j).2] 23)).drewN q) fun e w' => e = .returned (.tuple #[]) ∧ Hid (InB w2 (w.heap.size + 1) (w.heap.size + 1 + 1) bs (S k) (bothIn LK (S k) (firstK R (j + 1))) w')) := Lib.hid fun q => by
                obtain ⟨g1, ⟨v1, g2, g3, g4⟩, g5, g6, g7⟩ := HU.out q
                obtain ⟨q0, q1, q2, q3⟩ := ColB.cells g2
                refine (put_any (w.heap.size + 1) 0 (w.heap.size + 1 + 1) v1 _ (max (S k).1 (R j).1, min (S k).2 (R j).2) _ q0 q2 ⟨by omega, by omega⟩ (by omega) g3 HSR.out hmx ⟨by simp only; omega, by simp only; omega⟩).mono fun e w' h => ⟨h.1, Lib.hid ?_⟩
                rw [HNX.out, HST.out]
                exact InB.put g1 g2 g3 g4 g5 (by omega) g6 g7 h.2
              clear hst hmx
              go_wp2_with fail
              go_region
              go_wp2_with fail
              refine (KA.out 1).mono ?_
              rintro e w1 ⟨rfl, hJ⟩
              go_wp2_with fail
              go_roundw
              case rel => exact ⟨j + 1, by omega, by go_num, hJ.out⟩
              case measure => simp [intOf]; omega
            · have dm : decide (max (S k).1 (R j).1 ≤ min (S k).2 (R j).2) = false := by simpa using hmx
              have hst : bothStep (S k) (bothIn LK (S k) (firstK R j)) (R j) = bothIn LK (S k) (firstK R j) := by unfold bothStep; rw [if_neg hmx]
              have HST := Lib.hid hst
              clear hst hmx
              go_wp2_with fail
              go_region
              go_wp2_with fail
              go_roundw
              case rel => exact ⟨j + 1, by omega, by go_num, by rw [HNX.out, HST.out]; exact HU.out 1⟩
              case measure => simp [intOf]; omega
          · have hji : (m : Int) ≤ (j : Int) := by omega
            obtain rfl : m = j := by omega
            have hcol : ColB w2 (w.heap.size + 1) (w.heap.size + 1 + 1) (bothL (firstK S (k + 1)) (firstK R m)) wi := by rw [firstK_succ, bothL_snoc, ← HLK.out]; exact hI.col
            have HCOL := Lib.hid hcol
            clear hcol hI
            go_wp2_with fail
            go_roundw
            case rel => exact ⟨k + 1, by omega, by go_num, HCOL.out⟩
            case measure => simp [intOf]; omega
      · have hki : (n : Int) ≤ (k : Int) := by omega
        obtain rfl : n = k := by omega
        obtain ⟨hB, ⟨v, hbx, hown⟩, hsz⟩ := hC
        obtain ⟨q0, q1, q2, q3⟩ := ColB.cells hbx
        have hrw : wo.heap[w.heap.size]? = some (.cells #[.slice none 0 0, .bool false] 109 (0, 0)) := (hB.block _ (by omega)).trans HRES.out
        obtain ⟨r0, r1, r2, r3⟩ := ColB.cells hrw
        have r4 : wo.frozen? ⟨w.heap.size, 1, none⟩ = false := by simp [World.frozen?, hrw]
        obtain ⟨A', c', rfl⟩ := own_form hown
        have HOW := Lib.hid hown
        have HBB := Lib.hid hB
        clear hbx hown hrw hB
        go_wp2_with fail
        refine bodyPost_ret (v := .agg #[.slice A' (bothL (firstK S n) (firstK R m)).length c', .bool false]) ?_ rfl ⟨_, rfl, ?_, ?_⟩
        · simp [results, Try.results109, go_sem, r0, r1]
        · exact set1 (set1 (HW.out.trans (HBB.out.mono (by omega))) (Nat.le_refl _) _ _) (Nat.le_refl _) _ _
        · exact own_mono (own_set (own_set HOW.out (by omega) _ _) (by omega) _ _) (by omega)
end Go.Proofs.Ytmeljcbefnojfaa
