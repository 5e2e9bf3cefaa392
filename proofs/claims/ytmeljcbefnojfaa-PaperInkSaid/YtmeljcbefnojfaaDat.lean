import Derived.Test.YtmeljcbefnojfaaRpt
import Derived.Test.YtmeljcbefnojfaaSam
import Derived.Deep.Matrix
namespace Go.Proofs.Ytmeljcbefnojfaa
open Go.RowKit
theorem add_block (a : Addr) (n : Nat) : (a.add n).block = a.block := by unfold Addr.add; split <;> rfl
theorem add_adds (a : Addr) (i j : Nat) : (a.add i).add j = a.add (i + j) := by
  unfold Addr.add
  by_cases hi : i = 0 <;> by_cases hj : j = 0 <;> simp [hi, hj, Nat.add_assoc]
theorem add_at (a : Addr) (m j : Nat) (hj : 0 < j) : (⟨(a.add m).block, (a.add m).off + j, none⟩ : Addr) = a.add (m + j) := by
  rw [← add_adds]
  generalize a.add m = b
  unfold Addr.add
  rw [if_neg (by omega)]
/-- a slice of points reads as it says, below a block -/
def PtsIn (A : Option Addr) (n : Nat) (P : Nat → Pt) (B : Nat) (w : World) : Prop :=
  (n : Int) ≤ 9223372036854775807 ∧ ∀ i, i < n → ∃ a : Addr, A = some a ∧ a.block < B ∧ w.cell? (a.add (i * 3)) = some (.int .i64 (P i).x) ∧ w.cell? ⟨(a.add (i * 3)).block, (a.add (i * 3)).off + 1, none⟩ = some (.int .i64 (P i).y) ∧ w.cell? ⟨(a.add (i * 3)).block, (a.add (i * 3)).off + 2, none⟩ = some (.int .i64 (P i).half)
theorem PtsIn.up {A : Option Addr} {n : Nat} {P : Nat → Pt} {B C : Nat} {w w' : World} (h : PtsIn A n P B w) (hb : Below C w w') (hC : B ≤ C) : PtsIn A n P B w' :=
  ⟨h.1, fun i hi => by
    obtain ⟨a, e, hl, h1, h2, h3⟩ := h.2 i hi
    exact ⟨a, e, hl, (hb.cell (by simp only [add_block]; omega)).trans h1, (hb.cell (by simp only [add_block]; omega)).trans h2, (hb.cell (by simp only [add_block]; omega)).trans h3⟩⟩
/-- a set of spans reads as it says, below a block -/
def SpsIn (A : Option Addr) (n : Nat) (S : Nat → Int × Int) (B : Nat) (w : World) : Prop :=
  (n : Int) ≤ 9223372036854775807 ∧ ∀ i, i < n → ∃ a : Addr, A = some a ∧ a.block < B ∧ w.cell? (a.add (i * 2)) = some (.int .i64 (S i).1) ∧ w.cell? ⟨(a.add (i * 2)).block, (a.add (i * 2)).off + 1, none⟩ = some (.int .i64 (S i).2)
theorem SpsIn.up {A : Option Addr} {n : Nat} {S : Nat → Int × Int} {B C : Nat} {w w' : World} (h : SpsIn A n S B w) (hb : Below C w w') (hC : B ≤ C) : SpsIn A n S B w' :=
  ⟨h.1, fun i hi => by
    obtain ⟨a, e, hl, h1, h2⟩ := h.2 i hi
    exact ⟨a, e, hl, (hb.cell (by simp only [add_block]; omega)).trans h1, (hb.cell (by simp only [add_block]; omega)).trans h2⟩⟩
theorem SpsIn.more {A : Option Addr} {n : Nat} {S : Nat → Int × Int} {B C : Nat} {w : World} (h : SpsIn A n S B w) (hC : B ≤ C) : SpsIn A n S C w :=
  ⟨h.1, fun i hi => by
    obtain ⟨a, e, hl, h1, h2⟩ := h.2 i hi
    exact ⟨a, e, by omega, h1, h2⟩⟩
theorem PtsIn.more {A : Option Addr} {n : Nat} {P : Nat → Pt} {B C : Nat} {w : World} (h : PtsIn A n P B w) (hC : B ≤ C) : PtsIn A n P C w :=
  ⟨h.1, fun i hi => by
    obtain ⟨a, e, hl, h1, h2, h3⟩ := h.2 i hi
    exact ⟨a, e, by omega, h1, h2, h3⟩⟩
/-- the columns of an inked sheet: where each set lies, its length and room, its spans -/
structure Cls where
  A : Nat → Option Addr
  L : Nat → Nat
  C : Nat → Nat
  S : Nat → Nat → Int × Int
def ClsIn (A : Option Addr) (n : Nat) (x : Cls) (B : Nat) (w : World) : Prop :=
  (n : Int) ≤ 9223372036854775807 ∧ ∀ i, i < n → ∃ a : Addr, A = some a ∧ a.block < B ∧ w.cell? (a.add i) = some (.slice (x.A i) (x.L i) (x.C i)) ∧ SpsIn (x.A i) (x.L i) (x.S i) B w
theorem ClsIn.up {A : Option Addr} {n : Nat} {x : Cls} {B C : Nat} {w w' : World} (h : ClsIn A n x B w) (hb : Below C w w') (hC : B ≤ C) : ClsIn A n x B w' :=
  ⟨h.1, fun i hi => by
    obtain ⟨a, e, hl, h1, h2⟩ := h.2 i hi
    exact ⟨a, e, hl, (hb.cell (by simp only [add_block]; omega)).trans h1, h2.up hb hC⟩⟩
theorem ClsIn.more {A : Option Addr} {n : Nat} {x : Cls} {B C : Nat} {w : World} (h : ClsIn A n x B w) (hC : B ≤ C) : ClsIn A n x C w :=
  ⟨h.1, fun i hi => by
    obtain ⟨a, e, hl, h1, h2⟩ := h.2 i hi
    exact ⟨a, e, by omega, h1, h2.more hC⟩⟩
/-- the first point that is not valid, or the number of points -/
def firstBad (P : Nat → Pt) (n : Nat) : Nat → Prop := fun k => (∀ i, i < k → (P i).Ok) ∧ (k < n → ¬ (P k).Ok) ∧ k ≤ n
theorem firstBad_ex (P : Nat → Pt) (n : Nat) : ∃ k, firstBad P n k := by
  induction n with
  | zero => exact ⟨0, fun i hi => absurd hi (by omega), fun h => absurd h (by omega), Nat.le_refl _⟩
  | succ n ih =>
    obtain ⟨k, h1, h2, h3⟩ := ih
    by_cases hk : k < n
    · exact ⟨k, h1, fun _ => h2 hk, by omega⟩
    · obtain rfl : k = n := by omega
      by_cases hP : (P k).Ok
      · refine ⟨k + 1, fun i hi => ?_, fun h => absurd h (by omega), by omega⟩
        by_cases hik : i = k
        · subst hik; exact hP
        · exact h1 i (by omega)
      · exact ⟨k, h1, fun _ => hP, by omega⟩
end Go.Proofs.Ytmeljcbefnojfaa
namespace Go.Proofs.Ytmeljcbefnojfaa
open Go.RowKit
/-- what a trace's check answers -/
def ctE (n k : Nat) : Int := if 2000 < n then 2 else if k < n then 11 else 0
def ctI (n k : Nat) : Int := if 2000 < n then 0 else if k < n then k else 0
theorem ret_tup2 {a b c d : Int} (h : a = c) (h2 : b = d) : Ending.returned (.tuple #[.int .i64 a, .int .i64 b]) = .returned (.tuple #[.int .i64 c, .int .i64 d]) := by rw [h, h2]
set_option maxHeartbeats 1000000 in
theorem CheckTrace_any (A : Option Addr) (n c : Nat) (P : Nat → Pt) (j : Nat) (w : World) (hin : PtsIn A n P w.heap.size w) (hj : firstBad P n j) :
    Calls Try.prog 21 #[.slice A n c] w fun e w' => e = .returned (.tuple #[.int .i64 (ctE n j), .int .i64 (ctI n j)]) ∧ Below w.heap.size w w' := by
  have HIN := Lib.hid hin
  obtain ⟨hn, _⟩ := hin
  have HJ := Lib.hid hj
  have hjn := hj.2.2
  clear hj
  by_cases hbig : (2000 : Int) < n
  · go_enter Try.func21, Try.ntmps21
    go_wp2_with fail
    go_ret2
    exact ⟨ret_tup2 (by unfold ctE; rw [if_pos (by omega)]) (by unfold ctI; rw [if_pos (by omega)]), Below.refl _ _⟩
  · have hbig2 : (n : Int) ≤ 2000 := by omega
    go_enter Try.func21, Try.ntmps21
    go_wp2_with fail
    go_loopw [11] (fun i wr => ∃ k : Nat, k ≤ j ∧ i = .int .i64 k ∧ Below w.heap.size w wr) (fun i _ => n - (intOf i).toNat)
    case atStart => exact ⟨0, Nat.zero_le _, rfl, Below.refl _ _⟩
    case round =>
      obtain ⟨k, hk, rfl, hB⟩ := hrel
      obtain ⟨wo, rfl⟩ : ∃ wo : World, wo = wr := ⟨_, rfl⟩
      have hk0 : (0 : Int) ≤ (k : Int) := by omega
      by_cases hlt : k < n
      · obtain ⟨a, rfl, ab, c0, c1, c2⟩ := (HIN.out.up hB (Nat.le_refl _)).2 k hlt
        have hki : (k : Int) < (n : Int) := by omega
        have hsz := hB.size
        by_cases hkj : k < j
        · have hok := HJ.out.1 k hkj
          go_wp2_with fail
          refine (isPoint_t (P k) _ hok).mono ?_
          rintro e w1 ⟨rfl, hb⟩
          go_wp2_with fail
          go_roundw
          case rel => exact ⟨k + 1, by omega, by go_num, (hB.alloc hB.size _).trans (hb.mono (by simp only [World.size_alloc]; omega))⟩
          case measure => simp [intOf]; omega
        · obtain rfl : k = j := by omega
          have hno := HJ.out.2.1 hlt
          go_wp2_with fail
          refine (isPoint_f (P k) _ hno).mono ?_
          rintro e w1 ⟨rfl, hb⟩
          go_wp2_with fail
          go_ret2
          exact ⟨ret_tup2 (by unfold ctE; rw [if_neg (by omega), if_pos hlt]) (by unfold ctI; rw [if_neg (by omega), if_pos hlt]), (hB.alloc hB.size _).trans (hb.mono (by simp only [World.size_alloc]; omega))⟩
      · have hki : (n : Int) ≤ (k : Int) := by omega
        go_wp2_with fail
        go_ret2
        exact ⟨ret_tup2 (by unfold ctE; rw [if_neg (by omega), if_neg (by omega)]) (by unfold ctI; rw [if_neg (by omega), if_neg (by omega)]), hB⟩
end Go.Proofs.Ytmeljcbefnojfaa
namespace Go.Proofs.Ytmeljcbefnojfaa
open Go.RowKit
/-- the least number that a span of a set may begin with -/
def lst (S : Nat → Int × Int) : Nat → Int
  | 0 => 0
  | k + 1 => (S k).2 + 2
def SetOk (S : Nat → Int × Int) (n : Nat) : Prop := ∀ i, i < n → lst S i ≤ (S i).1 ∧ (S i).1 ≤ (S i).2 ∧ (S i).2 ≤ 12000
theorem SetOk.lst_bd {S : Nat → Int × Int} {k : Nat} (h : SetOk S k) : 0 ≤ lst S k ∧ lst S k ≤ 12002 := by
  have key : ∀ j, j ≤ k → 0 ≤ lst S j ∧ lst S j ≤ 12002 := by
    intro j
    induction j with
    | zero => intro _; exact ⟨Int.le_refl _, show (0 : Int) ≤ 12002 by omega⟩
    | succ j ih =>
      intro hj
      obtain ⟨h1, h2, h3⟩ := h j (by omega)
      have := ih (by omega)
      exact ⟨by show 0 ≤ (S j).2 + 2; omega, by show (S j).2 + 2 ≤ 12002; omega⟩
  exact key k (Nat.le_refl _)
theorem SetOk.snoc {S : Nat → Int × Int} {k : Nat} (h : SetOk S k) (h1 : lst S k ≤ (S k).1 ∧ (S k).1 ≤ (S k).2 ∧ (S k).2 ≤ 12000) : SetOk S (k + 1) := by
  intro i hi
  by_cases hik : i = k
  · subst hik; exact h1
  · exact h i (by omega)
theorem not_ok {S : Nat → Int × Int} {n k : Nat} {G : Bool} (hG : G = true ↔ SetOk S n) (hk : k < n) (h : ¬ (lst S k ≤ (S k).1 ∧ (S k).1 ≤ (S k).2 ∧ (S k).2 ≤ 12000)) : G = false := by
  cases G with
  | false => rfl
  | true => exact absurd (hG.1 rfl k hk) h
set_option maxHeartbeats 1000000 in
theorem isSet_any (A : Option Addr) (n c : Nat) (S : Nat → Int × Int) (G : Bool) (w : World) (hin : SpsIn A n S w.heap.size w) (hG : G = true ↔ SetOk S n) :
    Calls Try.prog 79 #[.slice A n c] w fun e w' => e = .returned (.bool G) ∧ Below w.heap.size w w' := by
  have HIN := Lib.hid hin
  obtain ⟨hn, _⟩ := hin
  have HG := Lib.hid hG
  clear hG
  go_enter Try.func79, Try.ntmps79
  go_wp2_with fail
  go_loopw [3, 8] (fun l i wr => ∃ k : Nat, k ≤ n ∧ l = .int .i64 (lst S k) ∧ i = .int .i64 k ∧ SetOk S k ∧ Below w.heap.size w wr) (fun _ i _ => n - (intOf i).toNat)
  case atStart => exact ⟨0, Nat.zero_le _, rfl, rfl, fun i hi => absurd hi (by omega), Below.refl _ _⟩
  case round =>
    obtain ⟨k, hk, rfl, rfl, hok, hB⟩ := hrel
    obtain ⟨wo, rfl⟩ : ∃ wo : World, wo = wr := ⟨_, rfl⟩
    have hk0 : (0 : Int) ≤ (k : Int) := by omega
    have hbd := hok.lst_bd
    have HOK := Lib.hid hok
    clear hok
    by_cases hlt : k < n
    · obtain ⟨a, rfl, ab, c0, c1⟩ := (HIN.out.up hB (Nat.le_refl _)).2 k hlt
      have hki : (k : Int) < (n : Int) := by omega
      by_cases t1 : (S k).1 < lst S k
      · obtain rfl : G = false := not_ok HG.out hlt (by omega)
        have d1 : decide ((S k).1 < lst S k) = true := by simpa using t1
        go_wp2_with fail
        go_ret
        exact ⟨rfl, hB.alloc hB.size _⟩
      · have d1 : decide ((S k).1 < lst S k) = false := by simpa using t1
        by_cases t2 : (S k).1 > (S k).2
        · obtain rfl : G = false := not_ok HG.out hlt (by omega)
          have d2 : decide ((S k).1 > (S k).2) = true := by simpa using t2
          go_wp2_with fail
          go_ret
          exact ⟨rfl, hB.alloc hB.size _⟩
        · have d2 : decide ((S k).1 > (S k).2) = false := by simpa using t2
          by_cases t3 : (S k).2 > 12000
          · obtain rfl : G = false := not_ok HG.out hlt (by omega)
            have d3 : decide ((S k).2 > 12000) = true := by simpa using t3
            go_wp2_with fail
            go_ret
            exact ⟨rfl, hB.alloc hB.size _⟩
          · have d3 : decide ((S k).2 > 12000) = false := by simpa using t3
            go_wp2_with fail
            go_roundw
            case rel => exact ⟨k + 1, by omega, rfl, by go_num, HOK.out.snoc (by omega), hB.alloc hB.size _⟩
            case measure => simp [intOf]; omega
    · have hki : (n : Int) ≤ (k : Int) := by omega
      obtain rfl : k = n := by omega
      obtain rfl : G = true := HG.out.2 HOK.out
      go_wp2_with fail
      go_ret
      exact ⟨rfl, hB⟩
end Go.Proofs.Ytmeljcbefnojfaa
namespace Go.Proofs.Ytmeljcbefnojfaa
open Go.RowKit
set_option maxRecDepth 100000 in
set_option maxHeartbeats 2000000 in
theorem goodSet_any (A : Option Addr) (n c : Nat) (S : Nat → Int × Int) (G : Bool) (w : World) (hin : SpsIn A n S w.heap.size w) (hG : G = true ↔ SetOk S n ∧ n ≤ 8) :
    Calls Try.prog 80 #[.slice A n c] w fun e w' => e = .returned (.bool G) ∧ Below w.heap.size w w' := by
  have HIN := Lib.hid hin
  obtain ⟨hn, _⟩ := hin
  have HG := Lib.hid hG
  clear hG
  have no : ∀ k, k < n → ¬ (lst S k ≤ (S k).1 ∧ (S k).1 ≤ (S k).2 ∧ (S k).2 ≤ 12000) → G = false := by
    intro k hk hno
    cases hg : G with
    | false => rfl
    | true => exact absurd ((HG.out.1 hg).1 k hk) hno
  have NO := Lib.hid no
  clear no
  go_enter Try.func80, Try.ntmps80
  go_wp2_with fail
  go_loopw [3] (fun i wr => ∃ k : Nat, k ≤ n ∧ i = .int .i64 k ∧ SetOk S k ∧ Below w.heap.size w wr) (fun i _ => n - (intOf i).toNat)
  case atStart => exact ⟨0, Nat.zero_le _, rfl, fun i hi => absurd hi (by omega), Below.refl _ _⟩
  case round =>
    obtain ⟨k, hk, rfl, hok, hB⟩ := hrel
    obtain ⟨wo, rfl⟩ : ∃ wo : World, wo = wr := ⟨_, rfl⟩
    have hk0 : (0 : Int) ≤ (k : Int) := by omega
    have hbd := hok.lst_bd
    have HOK := Lib.hid hok
    clear hok
    by_cases hlt : k < n
    · obtain ⟨a, rfl, ab, c0, c1⟩ := (HIN.out.up hB (Nat.le_refl _)).2 k hlt
      have hki : (k : Int) < (n : Int) := by omega
      by_cases t1 : (S k).1 < 0
      · obtain rfl : G = false := NO.out k hlt (by omega)
        have d1 : decide ((S k).1 < 0) = true := by simpa using t1
        go_wp2_with fail
        go_quiet (fail)
        go_wp2_with fail
        go_ret
        exact ⟨rfl, below_drewN hB _⟩
      · have d1 : decide ((S k).1 < 0) = false := by simpa using t1
        by_cases t2 : (S k).1 > (S k).2
        · obtain rfl : G = false := NO.out k hlt (by omega)
          have d2 : decide ((S k).1 > (S k).2) = true := by simpa using t2
          go_wp2_with fail
          go_quiet (fail)
          go_wp2_with fail
          go_ret
          exact ⟨rfl, below_drewN hB _⟩
        · have d2 : decide ((S k).1 > (S k).2) = false := by simpa using t2
          by_cases t3 : (S k).2 > 12000
          · obtain rfl : G = false := NO.out k hlt (by omega)
            have d3 : decide ((S k).2 > 12000) = true := by simpa using t3
            go_wp2_with fail
            go_quiet (fail)
            go_wp2_with fail
            go_ret
            exact ⟨rfl, below_drewN hB _⟩
          · have d3 : decide ((S k).2 > 12000) = false := by simpa using t3
            by_cases hz : k = 0
            · have hs : SetOk S (k + 1) := HOK.out.snoc ⟨by rw [hz]; show (0 : Int) ≤ _; rw [hz] at t1; omega, by omega, by omega⟩
              have HS := Lib.hid hs
              have d4 : decide (0 < k) = false := by simp [hz]
              clear hs hz
              go_wp2_with fail
              go_quiet (fail)
              go_wp2_with fail
              go_roundw
              case rel => exact ⟨k + 1, by omega, by go_num, HS.out, below_drewN hB _⟩
              case measure => simp [intOf]; omega
            · obtain ⟨a', e', _, c2, c3⟩ := (HIN.out.up hB (Nat.le_refl _)).2 (k - 1) (by omega)
              cases e'
              have hk1 : (1 : Int) ≤ (k : Int) := by omega
              have d4 : decide (0 < k) = true := by simp; omega
              have hl : lst S k = (S (k - 1)).2 + 2 := by
                obtain ⟨m, rfl⟩ : ∃ m, k = m + 1 := ⟨k - 1, by omega⟩
                rfl
              have HL := Lib.hid hl
              clear hz
              have hi1 : IntKind.i64.wrap ((S k).1 - 1) = (S k).1 - 1 := IntWalk.i64_in _ (by omega)
              have hi2 : IntKind.i64.wrap ((k : Int) - 1) = (k : Int) - 1 := IntWalk.i64_in _ (by omega)
              have hi3 : ((k : Int) - 1).toNat = k - 1 := by omega
              have hi4 : 0 ≤ (k : Int) - 1 := by omega
              have hi5 : (k : Int) - 1 < n := by omega
              by_cases t4 : (S k).1 - 1 ≤ (S (k - 1)).2
              · obtain rfl : G = false := NO.out k hlt (by omega)
                have d5 : decide ((S k).1 - 1 ≤ (S (k - 1)).2) = true := by simpa using t4
                clear hl
                go_wp2_with fail
                go_quiet (fail)
                clear hi1 hi2 hi3
                go_wp2_with fail
                go_ret
                exact ⟨rfl, below_drewN hB _⟩
              · have hs : SetOk S (k + 1) := HOK.out.snoc ⟨by omega, by omega, by omega⟩
                have HS := Lib.hid hs
                have d5 : decide ((S k).1 - 1 ≤ (S (k - 1)).2) = false := by simpa using t4
                clear hs hl
                go_wp2_with fail
                go_quiet (fail)
                clear hi1 hi2 hi3
                go_wp2_with fail
                go_roundw
                case rel => exact ⟨k + 1, by omega, by go_num, HS.out, below_drewN hB _⟩
                case measure => simp [intOf]; omega
    · have hki : (n : Int) ≤ (k : Int) := by omega
      obtain rfl : k = n := by omega
      have hg : decide ((k : Int) ≤ 8) = G := by
        cases hG : G with
        | true => have := (HG.out.1 hG).2; simp; omega
        | false =>
          by_cases h8 : k ≤ 8
          · have := HG.out.2 ⟨HOK.out, h8⟩; rw [hG] at this; cases this
          · simp; omega
      have HGG := Lib.hid hg
      clear hg
      go_wp2_with fail
      go_ret
      exact ⟨by rw [HGG.out]; rfl, hB⟩
end Go.Proofs.Ytmeljcbefnojfaa
namespace Go.Proofs.Ytmeljcbefnojfaa
open Go.RowKit
set_option maxHeartbeats 1000000 in
theorem RCheckTrace_any (A : Option Addr) (n c : Nat) (P : Nat → Pt) (j : Nat) (w : World) (hin : PtsIn A n P w.heap.size w) (hj : firstBad P n j) :
    Calls Try.prog 22 #[.slice A n c] w fun e w' => e = .returned (.tuple #[.int .i64 (ctE n j), .int .i64 (ctI n j)]) ∧ Below w.heap.size w w' := by
  have HIN := Lib.hid hin
  obtain ⟨hn, _⟩ := hin
  have HJ := Lib.hid hj
  have hjn := hj.2.2
  clear hj
  by_cases hbig : (2000 : Int) < n
  · go_enter Try.func22, Try.ntmps22
    go_wp2_with fail
    go_ret2
    exact ⟨ret_tup2 (by unfold ctE; rw [if_pos (by omega)]) (by unfold ctI; rw [if_pos (by omega)]), Below.refl _ _⟩
  · have hbig2 : (n : Int) ≤ 2000 := by omega
    go_enter Try.func22, Try.ntmps22
    go_wp2_with fail
    go_loopw [4] (fun i wr => ∃ k : Nat, k ≤ j ∧ i = .int .i64 k ∧ Below w.heap.size w wr) (fun i _ => n - (intOf i).toNat)
    case atStart => exact ⟨0, Nat.zero_le _, rfl, Below.refl _ _⟩
    case round =>
      obtain ⟨k, hk, rfl, hB⟩ := hrel
      obtain ⟨wo, rfl⟩ : ∃ wo : World, wo = wr := ⟨_, rfl⟩
      have hk0 : (0 : Int) ≤ (k : Int) := by omega
      by_cases hlt : k < n
      · obtain ⟨a, rfl, ab, c0, c1, c2⟩ := (HIN.out.up hB (Nat.le_refl _)).2 k hlt
        have hki : (k : Int) < (n : Int) := by omega
        have hsz := hB.size
        by_cases hkj : k < j
        · have hok := HJ.out.1 k hkj
          go_wp2_with fail
          refine (right_t (P k) _ hok).mono ?_
          rintro e w1 ⟨rfl, hb⟩
          go_wp2_with fail
          go_roundw
          case rel => exact ⟨k + 1, by omega, by go_num, hB.trans (hb.mono hB.size)⟩
          case measure => simp [intOf]; omega
        · obtain rfl : k = j := by omega
          have hno := HJ.out.2.1 hlt
          go_wp2_with fail
          refine (right_f (P k) _ hno).mono ?_
          rintro e w1 ⟨rfl, hb⟩
          go_wp2_with fail
          go_ret2
          exact ⟨ret_tup2 (by unfold ctE; rw [if_neg (by omega), if_pos hlt]) (by unfold ctI; rw [if_neg (by omega), if_pos hlt]), hB.trans (hb.mono hB.size)⟩
      · have hki : (n : Int) ≤ (k : Int) := by omega
        go_wp2_with fail
        go_ret2
        exact ⟨ret_tup2 (by unfold ctE; rw [if_neg (by omega), if_neg (by omega)]) (by unfold ctI; rw [if_neg (by omega), if_neg (by omega)]), hB⟩
/-- an inked sheet is valid -/
def RowOk (x : Cls) (i : Nat) : Prop := x.L i ≤ 8 ∧ SetOk (x.S i) (x.L i)
def InkOk (x : Cls) (n : Nat) : Prop := 1 ≤ n ∧ n ≤ 200 ∧ ∀ i, i < n → RowOk x i
def inkE (G : Bool) : Int := match G with | true => 0 | false => 12
theorem ink_no {x : Cls} {n k : Nat} {G : Bool} (hG : G = true ↔ InkOk x n) (hk : k < n) (h : ¬ RowOk x k) : G = false := by
  cases G with
  | false => rfl
  | true => exact absurd ((hG.1 rfl).2.2 k hk) h
theorem rows_snoc {x : Cls} {k : Nat} (h : ∀ i, i < k → RowOk x i) (h1 : RowOk x k) : ∀ i, i < k + 1 → RowOk x i := by
  intro i hi
  by_cases hik : i = k
  · subst hik; exact h1
  · exact h i (by omega)
set_option maxHeartbeats 1000000 in
theorem CheckInked_any (A : Option Addr) (n c : Nat) (x : Cls) (G : Bool) (w : World) (hin : ClsIn A n x w.heap.size w) (hG : G = true ↔ InkOk x n) :
    Calls Try.prog 29 #[.agg #[.slice A n c]] w fun e w' => e = .returned (.int .i64 (inkE G)) ∧ Below w.heap.size w w' := by
  have HIN := Lib.hid hin
  obtain ⟨hn, _⟩ := hin
  have HG := Lib.hid hG
  clear hG
  by_cases hbt : 1 ≤ (n : Int) ∧ (n : Int) ≤ 200
  · go_enter Try.func29, Try.ntmps29
    go_wp2_with (first | (go_at_call 75; refine (between_t _ _ _ _ (by assumption)).mono ?_; rintro e w' ⟨rfl, rfl⟩) | fail)
    go_loopw [4, 13] (fun _ i wr => ∃ k : Nat, k ≤ n ∧ i = .int .i64 k ∧ (∀ i, i < k → RowOk x i) ∧ Below w.heap.size w wr) (fun _ i _ => n - (intOf i).toNat)
    case atStart => exact ⟨0, Nat.zero_le _, rfl, fun i hi => absurd hi (by omega), box1 _ _⟩
    case round =>
      obtain ⟨k, hk, rfl, hok, hB⟩ := hrel
      obtain ⟨wo, rfl⟩ : ∃ wo : World, wo = wr := ⟨_, rfl⟩
      have hk0 : (0 : Int) ≤ (k : Int) := by omega
      have HOK := Lib.hid hok
      have hsz := hB.size
      clear hok
      by_cases hlt : k < n
      · obtain ⟨a, rfl, ab, c0, hs⟩ := (HIN.out.up hB (Nat.le_refl _)).2 k hlt
        have HS := Lib.hid hs
        clear hs
        have hki : (k : Int) < (n : Int) := by omega
        by_cases t1 : 8 < x.L k
        · obtain rfl : G = false := ink_no HG.out hlt (fun h => absurd h.1 (by omega))
          have d1 : decide (8 < x.L k) = true := by simpa using t1
          go_wp2_with fail
          go_ret
          exact ⟨rfl, hB⟩
        · have d1 : decide (8 < x.L k) = false := by simpa using t1
          by_cases t2 : SetOk (x.S k) (x.L k)
          · go_wp2_with fail
            refine (isSet_any _ _ _ (x.S k) true _ (HS.out.more hsz) ⟨fun _ => t2, fun _ => rfl⟩).mono ?_
            rintro e w1 ⟨rfl, hb⟩
            go_wp2_with fail
            go_roundw
            case rel => exact ⟨k + 1, by omega, by go_num, rows_snoc HOK.out ⟨by omega, t2⟩, hB.trans (hb.mono hB.size)⟩
            case measure => simp [intOf]; omega
          · obtain rfl : G = false := ink_no HG.out hlt (fun h => t2 h.2)
            go_wp2_with fail
            refine (isSet_any _ _ _ (x.S k) false _ (HS.out.more hsz) ⟨(fun h => by cases h), fun h => absurd h t2⟩).mono ?_
            rintro e w1 ⟨rfl, hb⟩
            go_wp2_with fail
            go_ret
            exact ⟨rfl, hB.trans (hb.mono hB.size)⟩
      · have hki : (n : Int) ≤ (k : Int) := by omega
        obtain rfl : k = n := by omega
        obtain rfl : G = true := HG.out.2 ⟨by omega, by omega, HOK.out⟩
        go_wp2_with fail
        go_ret
        exact ⟨rfl, hB⟩
  · go_enter Try.func29, Try.ntmps29
    go_wp2_with (first | (go_at_call 75; refine (between_f _ _ _ _ (by assumption)).mono ?_; rintro e w' ⟨rfl, rfl⟩) | fail)
    obtain rfl : G = false := by
      cases G with
      | false => rfl
      | true => have := HG.out.1 rfl; exact absurd ⟨by have := this.1; omega, by have := this.2.1; omega⟩ hbt
    go_ret
    exact ⟨rfl, box1 _ _⟩
set_option maxHeartbeats 1000000 in
theorem RCheckInked_any (A : Option Addr) (n c : Nat) (x : Cls) (G : Bool) (w : World) (hin : ClsIn A n x w.heap.size w) (hG : G = true ↔ InkOk x n) :
    Calls Try.prog 30 #[.agg #[.slice A n c]] w fun e w' => e = .returned (.int .i64 (inkE G)) ∧ Below w.heap.size w w' := by
  have HIN := Lib.hid hin
  obtain ⟨hn, _⟩ := hin
  have HG := Lib.hid hG
  clear hG
  by_cases hbt : 1 ≤ (n : Int) ∧ (n : Int) ≤ 200
  · go_enter Try.func30, Try.ntmps30
    go_wp2_with (first | (go_at_call 77; refine (within_t _ _ _ _ (by assumption)).mono ?_; rintro e w' ⟨rfl, rfl⟩) | fail)
    go_loopw [3] (fun i wr => ∃ k : Nat, k ≤ n ∧ i = .int .i64 k ∧ (∀ i, i < k → RowOk x i) ∧ Below w.heap.size w wr ∧ wr.cell? ⟨w.heap.size, 0, none⟩ = some (.slice A n c)) (fun i _ => n - (intOf i).toNat)
    case atStart => exact ⟨0, Nat.zero_le _, rfl, fun i hi => absurd hi (by omega), box1 _ _, by go_simp⟩
    case round =>
      obtain ⟨k, hk, rfl, hok, hB, hcx⟩ := hrel
      obtain ⟨wo, rfl⟩ : ∃ wo : World, wo = wr := ⟨_, rfl⟩
      have hk0 : (0 : Int) ≤ (k : Int) := by omega
      have HOK := Lib.hid hok
      have hsz := hB.size
      have hlt0 := World.block_lt_of_cell? _ _ hcx
      clear hok
      by_cases hlt : k < n
      · obtain ⟨a, rfl, ab, c0, hs⟩ := (HIN.out.up hB (Nat.le_refl _)).2 k hlt
        have HS := Lib.hid hs
        clear hs
        have hki : (k : Int) < (n : Int) := by omega
        by_cases t2 : RowOk x k
        · go_wp2_with fail
          refine (goodSet_any _ _ _ (x.S k) true _ (HS.out.more hsz) ⟨fun _ => ⟨t2.2, t2.1⟩, fun _ => rfl⟩).mono ?_
          rintro e w1 ⟨rfl, hb⟩
          have hc1 := low_cell hb hlt0 hcx
          go_wp2_with fail
          go_roundw
          case rel => exact ⟨k + 1, by omega, by go_num, rows_snoc HOK.out t2, hB.trans (hb.mono hB.size), hc1⟩
          case measure => simp [intOf]; omega
        · obtain rfl : G = false := ink_no HG.out hlt t2
          go_wp2_with fail
          refine (goodSet_any _ _ _ (x.S k) false _ (HS.out.more hsz) ⟨(fun h => by cases h), fun h => absurd ⟨h.2, h.1⟩ t2⟩).mono ?_
          rintro e w1 ⟨rfl, hb⟩
          go_wp2_with fail
          go_ret
          exact ⟨rfl, hB.trans (hb.mono hB.size)⟩
      · have hki : (n : Int) ≤ (k : Int) := by omega
        obtain rfl : k = n := by omega
        obtain rfl : G = true := HG.out.2 ⟨by omega, by omega, HOK.out⟩
        go_wp2_with fail
        go_ret
        exact ⟨rfl, hB⟩
  · go_enter Try.func30, Try.ntmps30
    go_wp2_with (first | (go_at_call 77; refine (within_f _ _ _ _ (by assumption)).mono ?_; rintro e w' ⟨rfl, rfl⟩) | fail)
    obtain rfl : G = false := by
      cases G with
      | false => rfl
      | true => have := HG.out.1 rfl; exact absurd ⟨by have := this.1; omega, by have := this.2.1; omega⟩ hbt
    go_ret
    exact ⟨rfl, box1 _ _⟩
end Go.Proofs.Ytmeljcbefnojfaa
namespace Go.Proofs.Ytmeljcbefnojfaa
open Go.RowKit
def AnyBool (w : World) (e : Ending) (w' : World) : Prop := (∃ b : Bool, e = .returned (.bool b)) ∧ Below w.heap.size w w'
set_option maxHeartbeats 400000 in
theorem few_any (A B : Option Addr) (n c m d : Nat) (w : World) (hn : (n : Int) ≤ 9223372036854775807) (_hm : (m : Int) ≤ 9223372036854775807) :
    Calls Try.prog 19 #[.slice A n c, .slice B m d] w (AnyBool w) := by
  go_enter Try.func19, Try.ntmps19
  go_wp2_with fail
  all_goals (go_ret; exact ⟨⟨_, rfl⟩, Below.refl _ _⟩)
set_option maxHeartbeats 400000 in
theorem small_any (A : Option Addr) (n c : Nat) (x : Cls) (w : World) (hin : ClsIn A n x w.heap.size w) :
    Calls Try.prog 20 #[.agg #[.slice A n c]] w (AnyBool w) := by
  have HIN := Lib.hid hin
  obtain ⟨hn, _⟩ := hin
  go_enter Try.func20, Try.ntmps20
  go_wp2_with fail
  go_loopw [3, 4] (fun v i wr => ∃ (k : Nat) (z : Int), k ≤ n ∧ v = .int .i64 z ∧ i = .int .i64 k ∧ Below w.heap.size w wr ∧ wr.cell? ⟨w.heap.size, 0, none⟩ = some (.slice A n c)) (fun _ i _ => n - (intOf i).toNat)
  case atStart => exact ⟨0, n, Nat.zero_le _, rfl, rfl, box1 _ _, by go_simp⟩
  case round =>
    obtain ⟨k, z, hk, rfl, rfl, hB, hcx⟩ := hrel
    obtain ⟨wo, rfl⟩ : ∃ wo : World, wo = wr := ⟨_, rfl⟩
    have hk0 : (0 : Int) ≤ (k : Int) := by omega
    by_cases hlt : k < n
    · obtain ⟨a, rfl, ab, c0, hs⟩ := (HIN.out.up hB (Nat.le_refl _)).2 k hlt
      have hki : (k : Int) < (n : Int) := by omega
      clear hs
      go_wp2_with fail
      go_roundw
      case rel => exact ⟨k + 1, _, by omega, rfl, by go_num, hB, hcx⟩
      case measure => simp [intOf]; omega
    · have hki : (n : Int) ≤ (k : Int) := by omega
      go_wp2_with fail
      go_ret
      exact ⟨⟨_, rfl⟩, hB⟩
end Go.Proofs.Ytmeljcbefnojfaa
namespace Go.Proofs.Ytmeljcbefnojfaa
open Go.RowKit
theorem Try.infoInt : (Try.prog.info? 3).map (fun i => (i.zero, i.size, i.bytes)) = some (some (.int .i64 0), 1, 8) := by kernel_rfl
/-- the numbers up to k that a test chooses -/
def selL (f : Nat → Bool) (k : Nat) : List Nat := (List.range k).filter f
theorem selL_yes {f : Nat → Bool} {k : Nat} (h : f k = true) : selL f (k + 1) = selL f k ++ [k] := by simp [selL, List.range_succ, h]
theorem selL_no {f : Nat → Bool} {k : Nat} (h : f k = false) : selL f (k + 1) = selL f k := by simp [selL, List.range_succ, h]
theorem selL_le (f : Nat → Bool) (k : Nat) : (selL f k).length ≤ k := by have := List.length_filter_le f (List.range k); simpa [selL] using this
def intsV (l : List Nat) : List Value := l.map fun (i : Nat) => .int .i64 (i : Int)
theorem intsV_snoc (l : List Nat) (k : Nat) : intsV (l ++ [k]) = intsV l ++ [.int .i64 (k : Int)] := by simp [intsV]
/-- a list of numbers and an error are returned; the list is the call's own -/
def IPost (w : World) (L : List Nat) (E : Int) (e : Ending) (w' : World) : Prop := ∃ v, e = .returned (.tuple #[v, .int .i64 E]) ∧ Below w.heap.size w w' ∧ w'.ownsRow w.heap.size 3 1 v L.length (intsV L)
theorem own_mono {w : World} {B C : Nat} {e : TypeId} {size n : Nat} {v : Value} {xs : List Value} (h : w.ownsRow B e size v n xs) (hC : C ≤ B) : w.ownsRow C e size v n xs := by
  obtain ⟨h0, hx | ⟨g, cap, cur, e1, e3, h4⟩⟩ := h
  · exact ⟨h0, .inl hx⟩
  · exact ⟨h0, .inr ⟨g, cap, cur, e1, by omega, h4⟩⟩
theorem own_keep {W W' : World} {B n size : Nat} {e : TypeId} {v : Value} {xs : List Value} (h : W.ownsRow B e size v n xs) (hb : Below W.heap.size W W') : W'.ownsRow B e size v n xs := by
  obtain ⟨h1, h2 | ⟨g, cap, cur, rfl, e3, e4⟩⟩ := id h
  · exact ⟨h1, .inl h2⟩
  · exact ownsRow_keep h hb
theorem new1 (W : World) (x : Int) : ∀ j u, ([.int .i64 x] : List Value)[j]? = some u → (W.alloc (.cells #[.int .i64 x] 3)).cell? ((⟨W.heap.size, 0, none⟩ : Addr).add j) = some u := by
  intro j u hj
  match j with
  | 0 => cases hj; unfold Addr.add; rw [if_pos rfl]; go_simp
  | j + 1 => simp at hj
structure SelI (w : World) (f : Nat → Bool) (k : Nat) (v : Value) (wr : World) : Prop where
  below : Below w.heap.size w wr
  own : wr.ownsRow (w.heap.size + 1) 3 1 v (selL f k).length (intsV (selL f k))
  box : w.heap.size < wr.heap.size
theorem SelI.app {w wr w1 : World} {f : Nat → Bool} {k : Nat} {v v' : Value} {o : Obj} (h : SelI w f k v wr) (hf : f k = true) (hg : (wr.alloc o).grownBy w1 v.ownBlock)
    (h' : w1.ownsRow (w.heap.size + 1) 3 1 v' ((selL f k).length + 1) (intsV (selL f k) ++ [.int .i64 (k : Int)])) : SelI w f (k + 1) v' w1 := by
  obtain ⟨h1, h2, h3⟩ := h
  refine ⟨?_, ?_, ?_⟩
  · refine (h1.alloc h1.size o).grown hg (by simp only [World.size_alloc]; omega) (fun r e => ?_)
    obtain ⟨_, hx | ⟨g, cap, cur, e1, e3, _⟩⟩ := h2
    · rw [hx.1] at e; cases e
    · rw [e1] at e
      simp [Value.ownBlock] at e
      omega
  · rw [selL_yes hf, intsV_snoc, List.length_append]; exact h'
  · have := hg.size; simp only [World.size_alloc] at this; omega
theorem SelI.skip {w wr : World} {f : Nat → Bool} {k : Nat} {v : Value} (h : SelI w f k v wr) (hf : f k = false) : SelI w f (k + 1) v wr := by
  obtain ⟨h1, h2, h3⟩ := h
  exact ⟨h1, by rw [selL_no hf]; exact h2, h3⟩
end Go.Proofs.Ytmeljcbefnojfaa
namespace Go.Proofs.Ytmeljcbefnojfaa
open Go.RowKit
set_option maxHeartbeats 400000 in
theorem gfn_any (m : Nat) (b : Bool) (w : World) (h : ((m : Int) == 0) = b) :
    Calls Try.prog 72 #[.int .i64 (m : Int)] w fun e w' => e = .returned (.bool b) ∧ w = w' := by
  go_enter Try.func72, Try.ntmps72
  go_wp2
  go_ret
  exact ⟨rfl, rfl⟩
set_option maxHeartbeats 400000 in
theorem cfn_any (m : Nat) (b : Bool) (w : World) (h : decide ((1 : Int) < (m : Int)) = b) :
    Calls Try.prog 74 #[.int .i64 (m : Int)] w fun e w' => e = .returned (.bool b) ∧ w = w' := by
  go_enter Try.func74, Try.ntmps74
  go_wp2
  go_ret
  exact ⟨rfl, rfl⟩
set_option maxRecDepth 100000 in
set_option maxHeartbeats 2000000 in
theorem cwG_yes (A : Option Addr) (n c : Nat) (x : Cls) (w : World) (hin : ClsIn A n x w.heap.size w) (hG : InkOk x n) :
    Calls Try.prog 71 #[.agg #[.slice A n c], .func (.func 72) #[] #[]] w (IPost w (selL (fun i => decide (x.L i = 0)) n) 0) := by
  obtain ⟨i0, hi0, hz0, hz1, hz2⟩ := info_parts Try.infoInt
  have HIN := Lib.hid hin
  obtain ⟨hn, _⟩ := hin
  have HG := Lib.hid hG
  obtain ⟨hn1, hn2, _⟩ := hG
  have KC : Hid (∀ w, ClsIn A n x w.heap.size w → Calls Try.prog 29 #[.agg #[.slice A n c]] w fun e w' => e = .returned (.int .i64 0) ∧ Below w.heap.size w w') := Lib.hid fun w h => CheckInked_any A n c x true w h ⟨fun _ => HG.out, fun _ => rfl⟩
  go_enter Try.func71, Try.ntmps71
  go_wp2_with fail
  refine (KC.out _ ((HIN.out.up (box1 w _) (Nat.le_refl _)).more (box1 w _).size)).mono ?_
  rintro e w1 ⟨rfl, hb⟩
  have hc1 := low_cell (b := w.heap.size) (o := 0) (v := .slice A n c) hb (by simp only [World.size_alloc]; omega) (by go_simp)
  have hB1 : Below w.heap.size w w1 := (box1 w _).trans (hb.mono (by simp only [World.size_alloc]; omega))
  have hz1' : w.heap.size < w1.heap.size := World.block_lt_of_cell? _ _ hc1
  clear hb
  go_wp2_with fail
  go_loopw [7, 8, 9, 18] (fun v _ _ i wr => ∃ k : Nat, k ≤ n ∧ i = .int .i64 k ∧ SelI w (fun i => decide (x.L i = 0)) k v wr) (fun _ _ _ i _ => n - (intOf i).toNat)
  case atStart => exact ⟨0, Nat.zero_le _, rfl, hB1, World.ownsRow_nil _ _ _ 1, hz1'⟩
  case round =>
    obtain ⟨k, hk, rfl, hS⟩ := hrel
    obtain ⟨wo, rfl⟩ : ∃ wo : World, wo = wr := ⟨_, rfl⟩
    clear hc1 hz1' hB1
    have hk0 : (0 : Int) ≤ (k : Int) := by omega
    have hle := selL_le (fun i => decide (x.L i = 0)) k
    have HS := Lib.hid hS
    obtain ⟨hB, hown, hbox⟩ := hS
    by_cases hlt : k < n
    · obtain ⟨a, rfl, ab, c0, hs⟩ := (HIN.out.up hB (Nat.le_refl _)).2 k hlt
      have hL8 := (HG.out.2.2 k hlt).1
      clear hs
      have hki : (k : Int) < (n : Int) := by omega
      by_cases t : x.L k = 0
      · have hy : (fun i => decide (x.L i = 0)) k = true := by simpa using t
        have HY := Lib.hid hy
        have d1 : ((x.L k : Int) == 0) = true := by (first | simpa using t | (simp; omega))
        clear hy t
        go_wp2_with (first | (go_at_call 72; refine (gfn_any _ true _ (by assumption)).mono ?_; rintro e w' ⟨rfl, rfl⟩) | (at_builtin; refine wpList_append_own _ rfl _ _ 36 rfl (w.heap.size + 1) 3 i0 (.int .i64 0) 1 8 Try.underlying36 hi0 hz0 hz1 hz2 rfl (by decide) _ (selL (fun i => decide (x.L i = 0)) k).length _ rfl (hown.alloc _) ⟨wo.heap.size, 0, none⟩ 1 1 [.int .i64 (k : Int)] rfl rfl (new1 wo k) (by simp [Value.oneCell']) (by skip; unfold maxLen; omega) (by skip; omega) (by simp only [World.size_alloc]; omega) ?_; intro v1 w1 hown1 hg1 _) | fail)
        have hJ := HS.out.app HY.out hg1 hown1
        clear hown1 hg1 hown
        go_wp2_with fail
        go_roundw
        case rel => exact ⟨k + 1, by omega, by go_num, hJ⟩
        case measure => simp [intOf]; omega
      · have hy : (fun i => decide (x.L i = 0)) k = false := by simpa using t
        have HY := Lib.hid hy
        have d1 : ((x.L k : Int) == 0) = false := by (first | simpa using t | (simp; omega))
        clear hy t
        go_wp2_with ((go_at_call 72; refine (gfn_any _ false _ (by assumption)).mono ?_; rintro e w' ⟨rfl, rfl⟩))
        go_roundw
        case rel => exact ⟨k + 1, by omega, by go_num, HS.out.skip HY.out⟩
        case measure => simp [intOf]; omega
    · have hki : (n : Int) ≤ (k : Int) := by omega
      obtain rfl : k = n := by omega
      go_wp2_with fail
      go_ret2
      exact ⟨_, rfl, hB, own_mono hown (by omega)⟩
theorem cwG_no (A : Option Addr) (n c : Nat) (x : Cls) (w : World) (hin : ClsIn A n x w.heap.size w) (hG : ¬ InkOk x n) :
    Calls Try.prog 71 #[.agg #[.slice A n c], .func (.func 72) #[] #[]] w (IPost w [] 12) := by
  have KC : Hid (∀ w, ClsIn A n x w.heap.size w → Calls Try.prog 29 #[.agg #[.slice A n c]] w fun e w' => e = .returned (.int .i64 12) ∧ Below w.heap.size w w') := Lib.hid fun w h => CheckInked_any A n c x false w h ⟨(fun h => by cases h), fun h => absurd h hG⟩
  have HIN := Lib.hid hin
  clear hin hG
  go_enter Try.func71, Try.ntmps71
  go_wp2_with fail
  refine (KC.out _ ((HIN.out.up (box1 w _) (Nat.le_refl _)).more (box1 w _).size)).mono ?_
  rintro e w1 ⟨rfl, hb⟩
  have hB1 : Below w.heap.size w w1 := (box1 w _).trans (hb.mono (by simp only [World.size_alloc]; omega))
  clear hb
  go_wp2_with fail
  go_ret2
  exact ⟨_, rfl, hB1, World.ownsRow_nil _ _ _ 1⟩
set_option maxRecDepth 100000 in
set_option maxHeartbeats 2000000 in
theorem cwC_yes (A : Option Addr) (n c : Nat) (x : Cls) (w : World) (hin : ClsIn A n x w.heap.size w) (hG : InkOk x n) :
    Calls Try.prog 71 #[.agg #[.slice A n c], .func (.func 74) #[] #[]] w (IPost w (selL (fun i => decide (1 < x.L i)) n) 0) := by
  obtain ⟨i0, hi0, hz0, hz1, hz2⟩ := info_parts Try.infoInt
  have HIN := Lib.hid hin
  obtain ⟨hn, _⟩ := hin
  have HG := Lib.hid hG
  obtain ⟨hn1, hn2, _⟩ := hG
  have KC : Hid (∀ w, ClsIn A n x w.heap.size w → Calls Try.prog 29 #[.agg #[.slice A n c]] w fun e w' => e = .returned (.int .i64 0) ∧ Below w.heap.size w w') := Lib.hid fun w h => CheckInked_any A n c x true w h ⟨fun _ => HG.out, fun _ => rfl⟩
  go_enter Try.func71, Try.ntmps71
  go_wp2_with fail
  refine (KC.out _ ((HIN.out.up (box1 w _) (Nat.le_refl _)).more (box1 w _).size)).mono ?_
  rintro e w1 ⟨rfl, hb⟩
  have hc1 := low_cell (b := w.heap.size) (o := 0) (v := .slice A n c) hb (by simp only [World.size_alloc]; omega) (by go_simp)
  have hB1 : Below w.heap.size w w1 := (box1 w _).trans (hb.mono (by simp only [World.size_alloc]; omega))
  have hz1' : w.heap.size < w1.heap.size := World.block_lt_of_cell? _ _ hc1
  clear hb
  go_wp2_with fail
  go_loopw [7, 8, 9, 18] (fun v _ _ i wr => ∃ k : Nat, k ≤ n ∧ i = .int .i64 k ∧ SelI w (fun i => decide (1 < x.L i)) k v wr) (fun _ _ _ i _ => n - (intOf i).toNat)
  case atStart => exact ⟨0, Nat.zero_le _, rfl, hB1, World.ownsRow_nil _ _ _ 1, hz1'⟩
  case round =>
    obtain ⟨k, hk, rfl, hS⟩ := hrel
    obtain ⟨wo, rfl⟩ : ∃ wo : World, wo = wr := ⟨_, rfl⟩
    clear hc1 hz1' hB1
    have hk0 : (0 : Int) ≤ (k : Int) := by omega
    have hle := selL_le (fun i => decide (1 < x.L i)) k
    have HS := Lib.hid hS
    obtain ⟨hB, hown, hbox⟩ := hS
    by_cases hlt : k < n
    · obtain ⟨a, rfl, ab, c0, hs⟩ := (HIN.out.up hB (Nat.le_refl _)).2 k hlt
      have hL8 := (HG.out.2.2 k hlt).1
      clear hs
      have hki : (k : Int) < (n : Int) := by omega
      by_cases t : 1 < x.L k
      · have hy : (fun i => decide (1 < x.L i)) k = true := by simpa using t
        have HY := Lib.hid hy
        have d1 : decide ((1 : Int) < (x.L k : Int)) = true := by (first | simpa using t | (simp; omega))
        clear hy t
        go_wp2_with (first | (go_at_call 74; refine (cfn_any _ true _ (by assumption)).mono ?_; rintro e w' ⟨rfl, rfl⟩) | (at_builtin; refine wpList_append_own _ rfl _ _ 36 rfl (w.heap.size + 1) 3 i0 (.int .i64 0) 1 8 Try.underlying36 hi0 hz0 hz1 hz2 rfl (by decide) _ (selL (fun i => decide (1 < x.L i)) k).length _ rfl (hown.alloc _) ⟨wo.heap.size, 0, none⟩ 1 1 [.int .i64 (k : Int)] rfl rfl (new1 wo k) (by simp [Value.oneCell']) (by skip; unfold maxLen; omega) (by skip; omega) (by simp only [World.size_alloc]; omega) ?_; intro v1 w1 hown1 hg1 _) | fail)
        have hJ := HS.out.app HY.out hg1 hown1
        clear hown1 hg1 hown
        go_wp2_with fail
        go_roundw
        case rel => exact ⟨k + 1, by omega, by go_num, hJ⟩
        case measure => simp [intOf]; omega
      · have hy : (fun i => decide (1 < x.L i)) k = false := by simpa using t
        have HY := Lib.hid hy
        have d1 : decide ((1 : Int) < (x.L k : Int)) = false := by (first | simpa using t | (simp; omega))
        clear hy t
        go_wp2_with ((go_at_call 74; refine (cfn_any _ false _ (by assumption)).mono ?_; rintro e w' ⟨rfl, rfl⟩))
        go_roundw
        case rel => exact ⟨k + 1, by omega, by go_num, HS.out.skip HY.out⟩
        case measure => simp [intOf]; omega
    · have hki : (n : Int) ≤ (k : Int) := by omega
      obtain rfl : k = n := by omega
      go_wp2_with fail
      go_ret2
      exact ⟨_, rfl, hB, own_mono hown (by omega)⟩
theorem cwC_no (A : Option Addr) (n c : Nat) (x : Cls) (w : World) (hin : ClsIn A n x w.heap.size w) (hG : ¬ InkOk x n) :
    Calls Try.prog 71 #[.agg #[.slice A n c], .func (.func 74) #[] #[]] w (IPost w [] 12) := by
  have KC : Hid (∀ w, ClsIn A n x w.heap.size w → Calls Try.prog 29 #[.agg #[.slice A n c]] w fun e w' => e = .returned (.int .i64 12) ∧ Below w.heap.size w w') := Lib.hid fun w h => CheckInked_any A n c x false w h ⟨(fun h => by cases h), fun h => absurd h hG⟩
  have HIN := Lib.hid hin
  clear hin hG
  go_enter Try.func71, Try.ntmps71
  go_wp2_with fail
  refine (KC.out _ ((HIN.out.up (box1 w _) (Nat.le_refl _)).more (box1 w _).size)).mono ?_
  rintro e w1 ⟨rfl, hb⟩
  have hB1 : Below w.heap.size w w1 := (box1 w _).trans (hb.mono (by simp only [World.size_alloc]; omega))
  clear hb
  go_wp2_with fail
  go_ret2
  exact ⟨_, rfl, hB1, World.ownsRow_nil _ _ _ 1⟩
theorem SelI.cell {w wr w1 : World} {f : Nat → Bool} {k : Nat} {v : Value} {o : Obj} {u : Value} (h : SelI w f k v wr) (hg : (wr.alloc o).grownBy w1 v.ownBlock) (hc : wr.cell? ⟨w.heap.size, 0, none⟩ = some u) : w1.cell? ⟨w.heap.size, 0, none⟩ = some u := by
  obtain ⟨h1, h2, h3⟩ := h
  refine cell_row hg (by simp only [World.size_alloc]; omega) (fun e => ?_) (cell_up (box1 wr o) h3 hc)
  obtain ⟨_, hx | ⟨g, cap, cur, e1, e3, _⟩⟩ := h2
  · rw [hx.1] at e; cases e
  · rw [e1] at e
    simp [Value.ownBlock] at e
    omega
set_option maxRecDepth 100000 in
set_option maxHeartbeats 2000000 in
theorem szd_yes (A : Option Addr) (n c : Nat) (x : Cls) (lo hi : Int) (f : Nat → Bool) (hf : ∀ i, i < n → (f i = true ↔ lo ≤ (x.L i : Int) ∧ (x.L i : Int) ≤ hi)) (w : World) (hin : ClsIn A n x w.heap.size w) (hG : InkOk x n) :
    Calls Try.prog 73 #[.agg #[.slice A n c], .int .i64 lo, .int .i64 hi] w (IPost w (selL f n) 0) := by
  obtain ⟨i0, hi0, hz0, hz1, hz2⟩ := info_parts Try.infoInt
  have HIN := Lib.hid hin
  obtain ⟨hn, _⟩ := hin
  have HF := Lib.hid hf
  clear hf
  have HG := Lib.hid hG
  obtain ⟨hn1, hn2, _⟩ := hG
  have KC : Hid (∀ w, ClsIn A n x w.heap.size w → Calls Try.prog 30 #[.agg #[.slice A n c]] w fun e w' => e = .returned (.int .i64 0) ∧ Below w.heap.size w w') := Lib.hid fun w h => RCheckInked_any A n c x true w h ⟨fun _ => HG.out, fun _ => rfl⟩
  go_enter Try.func73, Try.ntmps73
  go_wp2_with fail
  refine (KC.out _ ((HIN.out.up (box1 w _) (Nat.le_refl _)).more (box1 w _).size)).mono ?_
  rintro e w1 ⟨rfl, hb⟩
  have hc1 := low_cell (b := w.heap.size) (o := 0) (v := .slice A n c) hb (by simp only [World.size_alloc]; omega) (by go_simp)
  have hB1 : Below w.heap.size w w1 := (box1 w _).trans (hb.mono (by simp only [World.size_alloc]; omega))
  have hz1' : w.heap.size < w1.heap.size := World.block_lt_of_cell? _ _ hc1
  clear hb
  go_wp2_with fail
  go_loopw [8, 9] (fun v i wr => ∃ k : Nat, k ≤ n ∧ i = .int .i64 k ∧ SelI w f k v wr ∧ wr.cell? ⟨w.heap.size, 0, none⟩ = some (.slice A n c)) (fun _ i _ => n - (intOf i).toNat)
  case atStart => exact ⟨0, Nat.zero_le _, rfl, ⟨hB1, World.ownsRow_nil _ _ _ 1, hz1'⟩, hc1⟩
  case round =>
    obtain ⟨k, hk, rfl, hS, hcx⟩ := hrel
    obtain ⟨wo, rfl⟩ : ∃ wo : World, wo = wr := ⟨_, rfl⟩
    clear hc1 hz1' hB1
    have hk0 : (0 : Int) ≤ (k : Int) := by omega
    have hle := selL_le f k
    have HS := Lib.hid hS
    obtain ⟨hB, hown, hbox⟩ := hS
    by_cases hlt : k < n
    · obtain ⟨a, rfl, ab, c0, hs⟩ := (HIN.out.up hB (Nat.le_refl _)).2 k hlt
      clear hs
      have hki : (k : Int) < (n : Int) := by omega
      have HCX := Lib.hid hcx
      by_cases t : lo ≤ (x.L k : Int) ∧ (x.L k : Int) ≤ hi
      · have HY := Lib.hid ((HF.out k hlt).2 t)
        go_wp2_with (first | (go_at_call 77; refine (within_t _ _ _ _ (by assumption)).mono ?_; rintro e w' ⟨rfl, rfl⟩) | (at_builtin; refine wpList_append_own _ rfl _ _ 36 rfl (w.heap.size + 1) 3 i0 (.int .i64 0) 1 8 Try.underlying36 hi0 hz0 hz1 hz2 rfl (by decide) _ (selL f k).length _ rfl (hown.alloc _) ⟨wo.heap.size, 0, none⟩ 1 1 [.int .i64 (k : Int)] rfl rfl (new1 wo k) (by simp [Value.oneCell']) (by skip; unfold maxLen; omega) (by skip; omega) (by simp only [World.size_alloc]; omega) ?_; intro v1 w1 hown1 hg1 _) | fail)
        have hJ := HS.out.app HY.out hg1 hown1
        have hc2 := HS.out.cell hg1 HCX.out
        clear hown1 hg1 hown hcx
        go_wp2_with fail
        go_roundw
        case rel => exact ⟨k + 1, by omega, by go_num, hJ, hc2⟩
        case measure => simp [intOf]; omega
      · have hy : f k = false := by
          cases hfk : f k with
          | false => rfl
          | true => exact absurd ((HF.out k hlt).1 hfk) t
        have HY := Lib.hid hy
        clear hy
        go_wp2_with ((go_at_call 77; refine (within_f _ _ _ _ (by assumption)).mono ?_; rintro e w' ⟨rfl, rfl⟩))
        go_roundw
        case rel => exact ⟨k + 1, by omega, by go_num, HS.out.skip HY.out, HCX.out⟩
        case measure => simp [intOf]; omega
    · have hki : (n : Int) ≤ (k : Int) := by omega
      obtain rfl : k = n := by omega
      go_wp2_with fail
      go_ret2
      exact ⟨_, rfl, hB, own_mono hown (by omega)⟩
theorem szd_no (A : Option Addr) (n c : Nat) (x : Cls) (lo hi : Int) (w : World) (hin : ClsIn A n x w.heap.size w) (hG : ¬ InkOk x n) :
    Calls Try.prog 73 #[.agg #[.slice A n c], .int .i64 lo, .int .i64 hi] w (IPost w [] 12) := by
  have KC : Hid (∀ w, ClsIn A n x w.heap.size w → Calls Try.prog 30 #[.agg #[.slice A n c]] w fun e w' => e = .returned (.int .i64 12) ∧ Below w.heap.size w w') := Lib.hid fun w h => RCheckInked_any A n c x false w h ⟨(fun h => by cases h), fun h => absurd h hG⟩
  have HIN := Lib.hid hin
  clear hin hG
  go_enter Try.func73, Try.ntmps73
  go_wp2_with fail
  refine (KC.out _ ((HIN.out.up (box1 w _) (Nat.le_refl _)).more (box1 w _).size)).mono ?_
  rintro e w1 ⟨rfl, hb⟩
  have hB1 : Below w.heap.size w w1 := (box1 w _).trans (hb.mono (by simp only [World.size_alloc]; omega))
  clear hb
  go_wp2_with fail
  go_ret2
  exact ⟨_, rfl, hB1, World.ownsRow_nil _ _ _ 1⟩
end Go.Proofs.Ytmeljcbefnojfaa
namespace Go.Proofs.Ytmeljcbefnojfaa
open Go.RowKit
def gapF (x : Cls) (i : Nat) : Bool := decide (x.L i = 0)
def croF (x : Cls) (i : Nat) : Bool := decide (1 < x.L i)
set_option maxHeartbeats 400000 in
theorem Gaps_yes (A : Option Addr) (n c : Nat) (x : Cls) (w : World) (hin : ClsIn A n x w.heap.size w) (hG : InkOk x n) :
    Calls Try.prog 23 #[.agg #[.slice A n c]] w (IPost w (selL (gapF x) n) 0) := by
  have KC : Hid (∀ w, ClsIn A n x w.heap.size w → _) := Lib.hid fun w h => cwG_yes A n c x w h hG
  have H1 := Lib.hid ((hin.up (box1 w (.cells #[.slice A n c] 29)) (Nat.le_refl _)).more (box1 w (.cells #[.slice A n c] 29)).size)
  clear hin hG
  go_enter Try.func23, Try.ntmps23
  go_wp2_with fail
  refine (KC.out _ H1.out).mono ?_
  rintro e w1 ⟨v, rfl, hb, hown⟩
  have hB1 : Below w.heap.size w w1 := (box1 w _).trans (hb.mono (by simp only [World.size_alloc]; omega))
  have hO := own_mono hown (C := w.heap.size) (by simp only [World.size_alloc]; omega)
  clear hb hown
  go_wp2_with fail
  go_ret2
  exact ⟨_, rfl, hB1, hO⟩
set_option maxHeartbeats 400000 in
theorem Gaps_no (A : Option Addr) (n c : Nat) (x : Cls) (w : World) (hin : ClsIn A n x w.heap.size w) (hG : ¬ InkOk x n) :
    Calls Try.prog 23 #[.agg #[.slice A n c]] w (IPost w [] 12) := by
  have KC : Hid (∀ w, ClsIn A n x w.heap.size w → _) := Lib.hid fun w h => cwG_no A n c x w h hG
  have H1 := Lib.hid ((hin.up (box1 w (.cells #[.slice A n c] 29)) (Nat.le_refl _)).more (box1 w (.cells #[.slice A n c] 29)).size)
  clear hin hG
  go_enter Try.func23, Try.ntmps23
  go_wp2_with fail
  refine (KC.out _ H1.out).mono ?_
  rintro e w1 ⟨v, rfl, hb, hown⟩
  have hB1 : Below w.heap.size w w1 := (box1 w _).trans (hb.mono (by simp only [World.size_alloc]; omega))
  have hO := own_mono hown (C := w.heap.size) (by simp only [World.size_alloc]; omega)
  clear hb hown
  go_wp2_with fail
  go_ret2
  exact ⟨_, rfl, hB1, hO⟩
set_option maxHeartbeats 400000 in
theorem Crossings_yes (A : Option Addr) (n c : Nat) (x : Cls) (w : World) (hin : ClsIn A n x w.heap.size w) (hG : InkOk x n) :
    Calls Try.prog 25 #[.agg #[.slice A n c]] w (IPost w (selL (croF x) n) 0) := by
  have KC : Hid (∀ w, ClsIn A n x w.heap.size w → _) := Lib.hid fun w h => cwC_yes A n c x w h hG
  have H1 := Lib.hid ((hin.up (box1 w (.cells #[.slice A n c] 29)) (Nat.le_refl _)).more (box1 w (.cells #[.slice A n c] 29)).size)
  clear hin hG
  go_enter Try.func25, Try.ntmps25
  go_wp2_with fail
  refine (KC.out _ H1.out).mono ?_
  rintro e w1 ⟨v, rfl, hb, hown⟩
  have hB1 : Below w.heap.size w w1 := (box1 w _).trans (hb.mono (by simp only [World.size_alloc]; omega))
  have hO := own_mono hown (C := w.heap.size) (by simp only [World.size_alloc]; omega)
  clear hb hown
  go_wp2_with fail
  go_ret2
  exact ⟨_, rfl, hB1, hO⟩
set_option maxHeartbeats 400000 in
theorem Crossings_no (A : Option Addr) (n c : Nat) (x : Cls) (w : World) (hin : ClsIn A n x w.heap.size w) (hG : ¬ InkOk x n) :
    Calls Try.prog 25 #[.agg #[.slice A n c]] w (IPost w [] 12) := by
  have KC : Hid (∀ w, ClsIn A n x w.heap.size w → _) := Lib.hid fun w h => cwC_no A n c x w h hG
  have H1 := Lib.hid ((hin.up (box1 w (.cells #[.slice A n c] 29)) (Nat.le_refl _)).more (box1 w (.cells #[.slice A n c] 29)).size)
  clear hin hG
  go_enter Try.func25, Try.ntmps25
  go_wp2_with fail
  refine (KC.out _ H1.out).mono ?_
  rintro e w1 ⟨v, rfl, hb, hown⟩
  have hB1 : Below w.heap.size w w1 := (box1 w _).trans (hb.mono (by simp only [World.size_alloc]; omega))
  have hO := own_mono hown (C := w.heap.size) (by simp only [World.size_alloc]; omega)
  clear hb hown
  go_wp2_with fail
  go_ret2
  exact ⟨_, rfl, hB1, hO⟩
set_option maxHeartbeats 400000 in
theorem RGaps_yes (A : Option Addr) (n c : Nat) (x : Cls) (w : World) (hin : ClsIn A n x w.heap.size w) (hG : InkOk x n) :
    Calls Try.prog 24 #[.agg #[.slice A n c]] w (IPost w (selL (gapF x) n) 0) := by
  have KC : Hid (∀ w, ClsIn A n x w.heap.size w → _) := Lib.hid fun w h => szd_yes A n c x 0 0 (gapF x) (fun i _ => by unfold gapF; simp) w h hG
  have H1 := Lib.hid ((hin.up (box1 w (.cells #[.slice A n c] 29)) (Nat.le_refl _)).more (box1 w (.cells #[.slice A n c] 29)).size)
  clear hin hG
  go_enter Try.func24, Try.ntmps24
  go_wp2_with fail
  refine (KC.out _ H1.out).mono ?_
  rintro e w1 ⟨v, rfl, hb, hown⟩
  have hB1 : Below w.heap.size w w1 := (box1 w _).trans (hb.mono (by simp only [World.size_alloc]; omega))
  have hO := own_mono hown (C := w.heap.size) (by simp only [World.size_alloc]; omega)
  clear hb hown
  go_wp2_with fail
  go_ret2
  exact ⟨_, rfl, hB1, hO⟩
set_option maxHeartbeats 400000 in
theorem RGaps_no (A : Option Addr) (n c : Nat) (x : Cls) (w : World) (hin : ClsIn A n x w.heap.size w) (hG : ¬ InkOk x n) :
    Calls Try.prog 24 #[.agg #[.slice A n c]] w (IPost w [] 12) := by
  have KC : Hid (∀ w, ClsIn A n x w.heap.size w → _) := Lib.hid fun w h => szd_no A n c x 0 0 w h hG
  have H1 := Lib.hid ((hin.up (box1 w (.cells #[.slice A n c] 29)) (Nat.le_refl _)).more (box1 w (.cells #[.slice A n c] 29)).size)
  clear hin hG
  go_enter Try.func24, Try.ntmps24
  go_wp2_with fail
  refine (KC.out _ H1.out).mono ?_
  rintro e w1 ⟨v, rfl, hb, hown⟩
  have hB1 : Below w.heap.size w w1 := (box1 w _).trans (hb.mono (by simp only [World.size_alloc]; omega))
  have hO := own_mono hown (C := w.heap.size) (by simp only [World.size_alloc]; omega)
  clear hb hown
  go_wp2_with fail
  go_ret2
  exact ⟨_, rfl, hB1, hO⟩
set_option maxHeartbeats 400000 in
theorem RCrossings_yes (A : Option Addr) (n c : Nat) (x : Cls) (w : World) (hin : ClsIn A n x w.heap.size w) (hG : InkOk x n) :
    Calls Try.prog 26 #[.agg #[.slice A n c]] w (IPost w (selL (croF x) n) 0) := by
  have KC : Hid (∀ w, ClsIn A n x w.heap.size w → _) := Lib.hid fun w h => szd_yes A n c x 2 8 (croF x) (fun i hi => by have := (hG.2.2 i hi).1; unfold croF; simp; omega) w h hG
  have H1 := Lib.hid ((hin.up (box1 w (.cells #[.slice A n c] 29)) (Nat.le_refl _)).more (box1 w (.cells #[.slice A n c] 29)).size)
  clear hin hG
  go_enter Try.func26, Try.ntmps26
  go_wp2_with fail
  refine (KC.out _ H1.out).mono ?_
  rintro e w1 ⟨v, rfl, hb, hown⟩
  have hB1 : Below w.heap.size w w1 := (box1 w _).trans (hb.mono (by simp only [World.size_alloc]; omega))
  have hO := own_mono hown (C := w.heap.size) (by simp only [World.size_alloc]; omega)
  clear hb hown
  go_wp2_with fail
  go_ret2
  exact ⟨_, rfl, hB1, hO⟩
set_option maxHeartbeats 400000 in
theorem RCrossings_no (A : Option Addr) (n c : Nat) (x : Cls) (w : World) (hin : ClsIn A n x w.heap.size w) (hG : ¬ InkOk x n) :
    Calls Try.prog 26 #[.agg #[.slice A n c]] w (IPost w [] 12) := by
  have KC : Hid (∀ w, ClsIn A n x w.heap.size w → _) := Lib.hid fun w h => szd_no A n c x 2 8 w h hG
  have H1 := Lib.hid ((hin.up (box1 w (.cells #[.slice A n c] 29)) (Nat.le_refl _)).more (box1 w (.cells #[.slice A n c] 29)).size)
  clear hin hG
  go_enter Try.func26, Try.ntmps26
  go_wp2_with fail
  refine (KC.out _ H1.out).mono ?_
  rintro e w1 ⟨v, rfl, hb, hown⟩
  have hB1 : Below w.heap.size w w1 := (box1 w _).trans (hb.mono (by simp only [World.size_alloc]; omega))
  have hO := own_mono hown (C := w.heap.size) (by simp only [World.size_alloc]; omega)
  clear hb hown
  go_wp2_with fail
  go_ret2
  exact ⟨_, rfl, hB1, hO⟩
/-- a row of numbers of the call's own, as a slice -/
theorem ints_form {w : World} {B n : Nat} {v : Value} {l : List Nat} (h : w.ownsRow B 3 1 v n (intsV l)) (hn : l.length = n) : ∃ (A : Option Addr) (c : Nat), v = .slice A n c ∧ ∀ i, i < n → ∃ g, A = some ⟨g, 0, none⟩ ∧ g < w.heap.size ∧ w.cell? ⟨g, i, none⟩ = some (.int .i64 (l.getD i 0 : Nat)) := by
  rcases Nat.eq_zero_or_pos n with h0 | h0
  · subst h0
    obtain ⟨_, hx | ⟨g, cap, cur, e1, e3, _⟩⟩ := h
    · exact ⟨none, 0, hx.1, fun i hi => absurd hi (by omega)⟩
    · exact ⟨_, _, e1, fun i hi => absurd hi (by omega)⟩
  · obtain ⟨g, cap, hv, _, hlt⟩ := h.form h0
    subst hv
    refine ⟨_, _, rfl, fun i hi => ⟨g, rfl, hlt, ?_⟩⟩
    have hh : i < l.length := by omega
    have := h.cells (g := g) rfl (j := i) (u := .int .i64 (l.getD i 0 : Nat)) (by simp [intsV, List.getD, List.getElem?_eq_getElem hh])
    unfold Addr.add at this
    split at this
    · rename_i h1; subst h1; exact this
    · simpa using this
set_option maxHeartbeats 1000000 in
theorem SameInts_true (l : List Nat) (n : Nat) (A B : Option Addr) (c d : Nat) (w : World) (hn : (n : Int) ≤ 9223372036854775807)
    (h1 : ∀ i, i < n → ∃ g, A = some ⟨g, 0, none⟩ ∧ g < w.heap.size ∧ w.cell? ⟨g, i, none⟩ = some (.int .i64 (l.getD i 0 : Nat))) (h2 : ∀ i, i < n → ∃ g, B = some ⟨g, 0, none⟩ ∧ g < w.heap.size ∧ w.cell? ⟨g, i, none⟩ = some (.int .i64 (l.getD i 0 : Nat))) :
    Calls Try.prog 31 #[.slice A n c, .slice B n d] w fun e w' => e = .returned (.bool true) ∧ ∃ q, w' = w.drewN q := by
  have H1 := Lib.hid h1
  have H2 := Lib.hid h2
  clear h1 h2
  go_enter Try.func31, Try.ntmps31
  go_wp2_with fail
  go_loopw [5] (fun i wr => ∃ k : Nat, k ≤ n ∧ i = .int .i64 k ∧ ∃ q, wr = w.drewN q) (fun i _ => n - (intOf i).toNat)
  case atStart => exact ⟨0, Nat.zero_le _, rfl, 0, rfl⟩
  case round =>
    obtain ⟨k, hk, rfl, q, rfl⟩ := hrel
    have hk0 : (0 : Int) ≤ (k : Int) := by omega
    by_cases hlt : k < n
    · obtain ⟨g, rfl, g1, c1⟩ := H1.out k hlt
      obtain ⟨g', rfl, g1', c1'⟩ := H2.out k hlt
      have hki : (k : Int) < (n : Int) := by omega
      generalize ((l.getD k 0 : Nat) : Int) = z at c1 c1'
      go_wp2_with fail
      go_quiet (fail)
      go_wp2_with fail
      go_roundw
      case rel => exact ⟨k + 1, by omega, by go_num, _, rfl⟩
      case measure => simp [intOf]; omega
    · have hki : (n : Int) ≤ (k : Int) := by omega
      go_wp2_with fail
      go_ret
      exact ⟨rfl, q, rfl⟩
/-- two rows of the same numbers are the same -/
theorem same_ints {W : World} {v u : Value} {l : List Nat} {B C : Nat} (hl : l.length ≤ 200) (h1 : W.ownsRow B 3 1 v l.length (intsV l)) (h2 : W.ownsRow C 3 1 u l.length (intsV l)) :
    Calls Try.prog 31 #[v, u] W fun e w' => e = .returned (.bool true) ∧ Below W.heap.size W w' := by
  obtain ⟨A, c, rfl, k1⟩ := ints_form h1 rfl
  obtain ⟨D, d, rfl, k2⟩ := ints_form h2 rfl
  exact (SameInts_true l l.length A D c d W (by omega) k1 k2).mono fun _ _ ⟨he, q, hw⟩ => ⟨he, by rw [hw]; exact below_drewN (Below.refl _ _) q⟩
end Go.Proofs.Ytmeljcbefnojfaa
