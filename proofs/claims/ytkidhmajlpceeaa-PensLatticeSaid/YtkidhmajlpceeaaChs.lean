import Derived.Test.YtkidhmajlpceeaaRea
namespace Go.Proofs.Ytkidhmajlpceeaa
open Go.RowKit
theorem run_make_ints (n : Nat) (hn : n ≤ 1000) (w : World) :
    (Instr.makeSlice 28 (.int .i64 (n : Int)) (.int .i64 (n : Int))).run Try.prog w = .ok (.slice (some ⟨w.heap.size, 0, none⟩) n n) (w.alloc (.cells (madeCells #[.int .i64 0] n) 3)) := by
  obtain ⟨i0, hi0, hz0, hz1, hz2⟩ := info_parts Try.infoInt
  have hr := run_make (P := Try.prog) (w := w) 28 3 i0 _ Try.underlying28 hi0 hz0 .i64 .i64 n n (by omega) (by omega) (by rw [hz2]; omega) (by omega)
  rw [hz1] at hr
  simp only [Int.toNat_natCast, Nat.mul_one] at hr
  exact hr
/-- a block of numbers, known whole -/
structure InR (g n : Nat) (Z : Nat → Int) (w : World) : Prop where
  lt : g < w.heap.size
  c : ∀ i, i < n → w.cell? ⟨g, i, none⟩ = some (.int .i64 (Z i))
  f : ∀ o, w.frozen? ⟨g, o, none⟩ = false
theorem InR.up {g n : Nat} {Z : Nat → Int} {w w' : World} (h : InR g n Z w) (hb : Below w.heap.size w w') : InR g n Z w' :=
  ⟨Nat.lt_of_lt_of_le h.lt hb.size, fun i hi => cell_up hb h.lt (h.c i hi), fun o => low_frozen hb h.lt (h.f o)⟩
theorem InR.set {g n k : Nat} {Z : Nat → Int} {w : World} {x : Int} (h : InR g n Z w) (hk : k < n) : InR g n (fun i => if i = k then x else Z i) (w.setCell ⟨g, k, none⟩ (.int .i64 x)) := by
  refine ⟨by have := h.lt; go_simp, fun i hi => ?_, fun o => by rw [World.frozen?_setCell]; exact h.f o⟩
  have e := h.c i hi
  by_cases hik : i = k
  · subst hik
    rw [World.cell?_setCell_same' _ _ _ (by rw [e]; rfl), if_pos rfl]
  · rw [World.cell?_setCell_other _ _ _ _ (by intro e; have e2 := congrArg Addr.off e; simp only at e2; omega), e, if_neg hik]
theorem InR.new (w : World) (n : Nat) : InR w.heap.size n (fun _ => 0) (w.alloc (.cells (madeCells #[.int .i64 0] n) 3)) := by
  have hh : (w.alloc (.cells (madeCells #[.int .i64 0] n) 3)).heap[w.heap.size]? = some (.cells (madeCells #[.int .i64 0] n) 3 (0, 0)) := World.alloc_heap_new w _
  refine ⟨by simp, fun i hi => ?_, fun o => ?_⟩
  · simp only [World.cell?, hh]
    simp [madeCells, hi, Nat.mod_one]
  · simp only [World.frozen?, hh]
    simp
theorem InR.ints {g n : Nat} {Z : Nat → Int} {w : World} (h : InR g n Z w) (hn : n ≤ 1000) : IntsIn (some ⟨g, 0, none⟩) n Z w.heap.size w :=
  ⟨by omega, fun i hi => ⟨_, rfl, h.lt, by rw [Addr.add_lit, Nat.zero_add]; exact h.c i hi⟩⟩
theorem SpR.other {g n G o : Nat} {S : Nat → Int × Int} {w : World} {u : Value} (h : SpR g n S w) (hne : g ≠ G) : SpR g n S (w.setCell ⟨G, o, none⟩ u) :=
  ⟨by have := h.lt; go_simp, fun i hi => cell_ne (h.c0 i hi) hne, fun i hi => cell_ne (h.c1 i hi) hne, fun o => by rw [World.frozen?_setCell]; exact h.f o⟩
theorem SpR.sps {g n : Nat} {S : Nat → Int × Int} {w : World} (h : SpR g n S w) (hn : n ≤ 1000) : SpsIn (some ⟨g, 0, none⟩) n S w.heap.size w :=
  ⟨by omega, fun i hi => ⟨_, rfl, h.lt, by rw [Addr.add_lit, Nat.zero_add]; exact h.c0 i hi, by rw [Addr.add_lit, Nat.zero_add]; exact h.c1 i hi⟩⟩
/-- numbers as they read and no error, or nothing and an error -/
def NPost (w : World) (n : Nat) (Z : Nat → Int) (E : Int) (e : Ending) (w' : World) : Prop :=
  (E = 0 → ∃ A c, e = .returned (.tuple #[.slice A n c, .int .i64 0]) ∧ IntsIn A n Z w'.heap.size w' ∧ Below w.heap.size w w') ∧ (E ≠ 0 → e = .returned (.tuple #[.slice none 0 0, .int .i64 E]) ∧ Below w.heap.size w w')
def Cz (f : Int → Int → Int → Int) (S : Nat → Int × Int) (Z : Nat → Int) (i : Nat) : Int := f (S i).1 (S i).2 (Z i)
def Czk (f : Int → Int → Int → Int) (S : Nat → Int × Int) (Z : Nat → Int) (k i : Nat) : Int := if i < k then Cz f S Z i else 0
theorem Czk_succ (f : Int → Int → Int → Int) (S : Nat → Int × Int) (Z : Nat → Int) (k : Nat) : (fun i => if i = k then f (S k).1 (S k).2 (Z k) else Czk f S Z k i) = Czk f S Z (k + 1) := by
  funext i
  unfold Czk
  by_cases hi : i = k
  · rw [if_pos hi, if_pos (by omega), hi]; rfl
  · rw [if_neg hi]
    by_cases h2 : i < k
    · rw [if_pos h2, if_pos (by omega)]
    · rw [if_neg h2, if_neg (by omega)]
theorem reaR_zero {p : Pn} {n : Nat} {Z : Nat → Int} (h : reaR p n Z 0) : p.Ok ∧ LsOk Z n ∧ Ful (Gs p Z n) n := by
  rcases h with ⟨_, h⟩ | ⟨h1, ⟨_, h⟩ | ⟨h2, ⟨_, h⟩ | ⟨h3, _⟩⟩⟩
  · omega
  · omega
  · omega
  · exact ⟨h1, h2, h3⟩
set_option maxRecDepth 100000 in
set_option maxHeartbeats 4000000 in
theorem choose_any (F : Nat) (f : Int → Int → Int → Int) (p : Pn) (A : Option Addr) (n c : Nat) (Z : Nat → Int) (E : Int) (w : World) (eg : ∀ args w, (callFunc F args).run Try.prog w = .ok (.enter F args) w)
    (hF : ∀ (x y z : Int) (W : World), x ≤ y → Calls Try.prog F #[.agg #[.int .i64 x, .int .i64 y], .int .i64 z] W fun e w' => e = .returned (.int .i64 (f x y z)) ∧ Below W.heap.size W w')
    (hin : IntsIn A n Z w.heap.size w) (hE : reaR p n Z E) :
    Calls Try.prog 81 #[p.v, .slice A n c, .func (.func F) #[] #[]] w fun e w' => NPost w n (Cz f (Rls p Z n) Z) E e w' := by
  have HIN := Lib.hid hin
  have HE := Lib.hid hE
  have HF := Lib.hid hF
  have hn := hin.1
  have K := Lib.hid fun o => Reals_any p A n c Z E (w.alloc o) ((hin.up (box1 w o) (Nat.le_refl _)).more (box1 w o).size) hE
  clear hin hE hF
  by_cases h0 : E = 0
  · subst h0
    obtain ⟨hp, hl, hf⟩ := reaR_zero HE.out
    have hmk := run_make_ints n (by have := hl.2.1; omega)
    have HL := Lib.hid hl
    have HFu := Lib.hid hf
    clear hl hf hp
    go_enter Try.func81, Try.ntmps81
    go_wp2_with fail
    refine (K.out _).mono ?_
    rintro e w1 ⟨hz, -⟩
    obtain ⟨g, cap, rfl, hg, hS, hb⟩ := hz rfl
    have HB1 := Lib.hid ((box1 _ _).trans (hb.mono (by simp)))
    have HS := Lib.hid hS
    have HGW := Lib.hid hg
    clear hS hb hg hz
    go_wp2_with fail
    clear hmk
    have HI0 := Lib.hid (InR.new w1 n)
    have hgl := HS.out.lt
    go_loopw [11, 12, 27] (fun _ _ i wr => ∃ k : Nat, k ≤ n ∧ i = .int .i64 k ∧ InR w1.heap.size n (Czk f (Rls p Z n) Z k) wr ∧ SpR g n (Rls p Z n) wr ∧ Below w.heap.size w wr ∧ w1.heap.size < wr.heap.size) (fun _ _ i _ => n - (intOf i).toNat)
    case atStart => exact ⟨0, Nat.zero_le _, rfl, by (have e : Czk f (Rls p Z n) Z 0 = fun _ => 0 := by funext i; unfold Czk; rw [if_neg (by omega)]); rw [e]; exact HI0.out, HS.out.up (box1 _ _), HB1.out.trans ((box1 _ _).mono HB1.out.size), by simp⟩
    case round =>
      obtain ⟨k, hk, rfl, hI, hS, hB, hsz⟩ := hrel
      obtain ⟨wo, rfl⟩ : ∃ wo : World, wo = wr := ⟨_, rfl⟩
      have hk0 : (0 : Int) ≤ (k : Int) := by omega
      have HI := Lib.hid hI
      have HS2 := Lib.hid hS
      have HB := Lib.hid hB
      by_cases hlt : k < n
      · obtain ⟨a, rfl, ab, c0⟩ := (HIN.out.up hB (Nat.le_refl _)).2 k hlt
        have hki : (k : Int) < (n : Int) := by omega
        have r0 := hS.c0 k hlt
        have r1 := hS.c1 k hlt
        have i0 := hI.c k hlt
        have i1 := hI.f k
        have gl := hS.lt
        have az : (a.add k).block < wo.heap.size := World.block_lt_of_cell? _ _ c0
        have KK := Lib.hid fun W => HF.out (Rls p Z n k).1 (Rls p Z n k).2 (Z k) W (by have := HFu.out k hlt; unfold Rls; simp only; omega)
        clear hI hS hB HI0
        go_wp2_with fail
        have hbx := box1 wo (.cells #[.int .i64 (Rls p Z n k).1, .int .i64 (Rls p Z n k).2] 23)
        go_region_with (go_at_fn F; refine (KK.out _).mono ?_; rintro e wA ⟨rfl, hbA⟩; have hb' : Below wo.heap.size wo wA := (hbx.trans ((show Below (wo.alloc (.cells #[.int .i64 (Rls p Z n k).1, .int .i64 (Rls p Z n k).2] 23)).heap.size (wo.alloc (.cells #[.int .i64 (Rls p Z n k).1, .int .i64 (Rls p Z n k).2] 23)) wA from by first | exact hbA | exact (Below.refl _ _).drew.trans (hbA.mono (by simp only [World.size_drew]; omega))).mono hbx.size)); have i2 := (HI.out.up hb').c k hlt; have i3 := (HI.out.up hb').f k; have i4 := hb'.size; have HB' := Lib.hid hb'; clear hb' hbA)
        all_goals
          have NI := (HI.out.up HB'.out).set (x := f (Rls p Z n k).1 (Rls p Z n k).2 (Z k)) hlt
          rw [Czk_succ] at NI
          have NH := Lib.hid NI
          have NS := Lib.hid ((HS2.out.up HB'.out).other (G := w1.heap.size) (o := k) (u := .int .i64 (f (Rls p Z n k).1 (Rls p Z n k).2 (Z k))) (by omega))
          have NB := Lib.hid (set1 (HB.out.trans (HB'.out.mono HB.out.size)) HB1.out.size k (.int .i64 (f (Rls p Z n k).1 (Rls p Z n k).2 (Z k))))
          clear NI hbx
          go_wp2_with fail
          go_roundw
          case rel => exact ⟨k + 1, by omega, by go_num, NH.out, NS.out, NB.out, by simp only [World.size_setCell]; omega⟩
          case measure => simp [intOf]; omega
      · have hki : (n : Int) ≤ (k : Int) := by omega
        obtain rfl : k = n := by omega
        have NN : Hid (InR w1.heap.size k (Cz f (Rls p Z k) Z) wo) := Lib.hid ⟨hI.lt, fun i hi => by have := hI.c i hi; unfold Czk at this; rwa [if_pos hi] at this, hI.f⟩
        clear hI hS hB
        go_wp2_with fail
        go_ret2
        exact ⟨fun _ => ⟨_, _, rfl, NN.out.ints (by have := HL.out.2.1; omega), HB.out⟩, fun e => absurd rfl e⟩
  · have h0' : (E == 0) = false := by simpa using h0
    have h0'' : (E != 0) = true := by simpa using h0
    have H0 := Lib.hid h0
    clear h0
    go_enter Try.func81, Try.ntmps81
    go_wp2_with fail
    refine (K.out _).mono ?_
    rintro e w1 ⟨-, hz⟩
    obtain ⟨rfl, hb⟩ := hz H0.out
    clear hz
    go_wp2_with fail
    go_ret2
    exact ⟨fun e => absurd e H0.out, fun _ => ⟨rfl, (box1 _ _).trans (hb.mono (by simp))⟩⟩
theorem eg_low : ∀ args w, (callFunc 82 args).run Try.prog w = .ok (.enter 82 args) w := enters_of Try.func82 (by kernel_rfl) rfl
theorem eg_high : ∀ args w, (callFunc 83 args).run Try.prog w = .ok (.enter 83 args) w := enters_of Try.func83 (by kernel_rfl) rfl
theorem eg_real : ∀ args w, (callFunc 84 args).run Try.prog w = .ok (.enter 84 args) w := enters_of Try.func84 (by kernel_rfl) rfl
theorem low1_any (x y z : Int) (w : World) : Calls Try.prog 82 #[.agg #[.int .i64 x, .int .i64 y], .int .i64 z] w fun e w' => e = .returned (.int .i64 x) ∧ Below w.heap.size w w' := by
  go_enter Try.func82, Try.ntmps82
  go_wp2
  go_ret
  exact ⟨rfl, box1 _ _⟩
theorem high1_any (x y z : Int) (w : World) : Calls Try.prog 83 #[.agg #[.int .i64 x, .int .i64 y], .int .i64 z] w fun e w' => e = .returned (.int .i64 y) ∧ Below w.heap.size w w' := by
  go_enter Try.func83, Try.ntmps83
  go_wp2
  go_ret
  exact ⟨rfl, box1 _ _⟩
set_option maxHeartbeats 400000 in
theorem real1_any (x y z : Int) (w : World) (h : x ≤ y) : Calls Try.prog 84 #[.agg #[.int .i64 x, .int .i64 y], .int .i64 z] w fun e w' => e = .returned (.int .i64 (max x (min y z))) ∧ Below w.heap.size w w' := by
  have K3 := Lib.hid fun (A : Option Addr) (c : Nat) (W : World) (hin : IntsIn A 3 (asZ [x, z, y]) W.heap.size W) => middle_any A c x z y W h hin
  clear h
  go_enter Try.func84, Try.ntmps84
  go_wp2_with fail
  refine (K3.out _ _ _ (ints_of (l := [x, z, y]) (by simp) (by simp) (fun i u hi => ?_))).mono ?_
  · match i, hi with
    | 0, hi => cases hi; go_simp
    | 1, hi => cases hi; go_simp
    | 2, hi => cases hi; go_simp
    | i + 3, hi => simp at hi
  rintro e w2 ⟨rfl, hb⟩
  go_wp2_with fail
  go_ret
  exact ⟨rfl, (box2 _ _ _).trans (hb.mono (by simp only [World.size_alloc]; omega))⟩
set_option maxHeartbeats 1000000 in
theorem Lowest_any (p : Pn) (A : Option Addr) (n c : Nat) (Z : Nat → Int) (E : Int) (w : World) (hin : IntsIn A n Z w.heap.size w) (hE : reaR p n Z E) :
    Calls Try.prog 37 #[p.v, .slice A n c] w fun e w' => NPost w n (Cz (fun x _y _z => x) (Rls p Z n) Z) E e w' := by
  have K := Lib.hid fun o => choose_any 82 (fun x y z => x) p A n c Z E (w.alloc o) eg_low (fun x y z W h => low1_any x y z W) ((hin.up (box1 w o) (Nat.le_refl _)).more (box1 w o).size) hE
  clear hin hE
  go_enter Try.func37, Try.ntmps37
  go_wp2_with fail
  refine (K.out _).mono ?_
  rintro e w1 ⟨h1, h2⟩
  by_cases h0 : E = 0
  · subst h0
    obtain ⟨A1, c1, rfl, hr, hb⟩ := h1 rfl
    have HR := Lib.hid hr
    clear h1 h2 hr
    go_wp2_with fail
    go_ret2
    exact ⟨fun _ => ⟨_, _, rfl, HR.out, (box1 _ _).trans (hb.mono (by simp))⟩, fun e => absurd rfl e⟩
  · obtain ⟨rfl, hb⟩ := h2 h0
    have H0 := Lib.hid h0
    clear h1 h2 h0
    go_wp2_with fail
    go_ret2
    exact ⟨fun e => absurd e H0.out, fun _ => ⟨rfl, (box1 _ _).trans (hb.mono (by simp))⟩⟩
set_option maxHeartbeats 1000000 in
theorem Highest_any (p : Pn) (A : Option Addr) (n c : Nat) (Z : Nat → Int) (E : Int) (w : World) (hin : IntsIn A n Z w.heap.size w) (hE : reaR p n Z E) :
    Calls Try.prog 39 #[p.v, .slice A n c] w fun e w' => NPost w n (Cz (fun _x y _z => y) (Rls p Z n) Z) E e w' := by
  have K := Lib.hid fun o => choose_any 83 (fun x y z => y) p A n c Z E (w.alloc o) eg_high (fun x y z W h => high1_any x y z W) ((hin.up (box1 w o) (Nat.le_refl _)).more (box1 w o).size) hE
  clear hin hE
  go_enter Try.func39, Try.ntmps39
  go_wp2_with fail
  refine (K.out _).mono ?_
  rintro e w1 ⟨h1, h2⟩
  by_cases h0 : E = 0
  · subst h0
    obtain ⟨A1, c1, rfl, hr, hb⟩ := h1 rfl
    have HR := Lib.hid hr
    clear h1 h2 hr
    go_wp2_with fail
    go_ret2
    exact ⟨fun _ => ⟨_, _, rfl, HR.out, (box1 _ _).trans (hb.mono (by simp))⟩, fun e => absurd rfl e⟩
  · obtain ⟨rfl, hb⟩ := h2 h0
    have H0 := Lib.hid h0
    clear h1 h2 h0
    go_wp2_with fail
    go_ret2
    exact ⟨fun e => absurd e H0.out, fun _ => ⟨rfl, (box1 _ _).trans (hb.mono (by simp))⟩⟩
set_option maxHeartbeats 1000000 in
theorem Real_any (p : Pn) (A : Option Addr) (n c : Nat) (Z : Nat → Int) (E : Int) (w : World) (hin : IntsIn A n Z w.heap.size w) (hE : reaR p n Z E) :
    Calls Try.prog 41 #[p.v, .slice A n c] w fun e w' => NPost w n (Cz (fun x y z => max x (min y z)) (Rls p Z n) Z) E e w' := by
  have K := Lib.hid fun o => choose_any 84 (fun x y z => max x (min y z)) p A n c Z E (w.alloc o) eg_real (fun x y z W h => real1_any x y z W h) ((hin.up (box1 w o) (Nat.le_refl _)).more (box1 w o).size) hE
  clear hin hE
  go_enter Try.func41, Try.ntmps41
  go_wp2_with fail
  refine (K.out _).mono ?_
  rintro e w1 ⟨h1, h2⟩
  by_cases h0 : E = 0
  · subst h0
    obtain ⟨A1, c1, rfl, hr, hb⟩ := h1 rfl
    have HR := Lib.hid hr
    clear h1 h2 hr
    go_wp2_with fail
    go_ret2
    exact ⟨fun _ => ⟨_, _, rfl, HR.out, (box1 _ _).trans (hb.mono (by simp))⟩, fun e => absurd rfl e⟩
  · obtain ⟨rfl, hb⟩ := h2 h0
    have H0 := Lib.hid h0
    clear h1 h2 h0
    go_wp2_with fail
    go_ret2
    exact ⟨fun e => absurd e H0.out, fun _ => ⟨rfl, (box1 _ _).trans (hb.mono (by simp))⟩⟩
end Go.Proofs.Ytkidhmajlpceeaa
