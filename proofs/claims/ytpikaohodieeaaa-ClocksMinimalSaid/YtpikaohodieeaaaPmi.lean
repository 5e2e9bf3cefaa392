/- ClocksMinimal's law. -/
import Derived.Test.YtpikaohodieeaaaMnm
namespace Go.Proofs.Ytpikaohodieeaaa
open Go.RowKit
set_option linter.unusedSimpArgs false
set_option linter.unusedVariables false
/-- a list of lists in memory, with room behind none -/
def LssC (A : Option Addr) (P : List (List Int)) (w : World) : Prop :=
  (P.length : Int) ≤ 1000000000 ∧ ∀ (i : Nat) (x : List Int), P[i]? = some x → ∃ (a : Addr) (A' : Option Addr) (c' : Nat), A = some a ∧ a.block < w.heap.size ∧ w.cell? (a.add i) = some (.slice A' x.length c') ∧ LiIn A' x w ∧ (0 < x.length → x.length ≤ c')
theorem LssC.up {A : Option Addr} {P : List (List Int)} {w w' : World} (h : LssC A P w) (hb : Below w.heap.size w w') : LssC A P w' :=
  ⟨h.1, fun i x hx => by
    obtain ⟨a, A', c', e, hl, h1, h2, h3⟩ := h.2 i x hx
    exact ⟨a, A', c', e, Nat.lt_of_lt_of_le hl hb.size, cellA_of hb h1, h2.up hb, h3⟩⟩
theorem LssC.at {A : Option Addr} {P : List (List Int)} {w : World} (h : LssC A P w) {i : Nat} (hi : i < P.length) : ∃ (x : List Int) (a : Addr) (A' : Option Addr) (c' : Nat), x ∈ P ∧ P[i]? = some x ∧ A = some a ∧ a.block < w.heap.size ∧ w.cell? (a.add i) = some (.slice A' x.length c') ∧ LiIn A' x w ∧ (0 < x.length → x.length ≤ c') := by
  obtain ⟨a, A', c', h1, h2, h3, h4, h5⟩ := h.2 i _ (List.getElem?_eq_getElem hi)
  exact ⟨_, a, A', c', List.getElem_mem hi, List.getElem?_eq_getElem hi, h1, h2, h3, h4, h5⟩
theorem LsR.lssC {B0 : Nat} {w w' : World} {P : List (List Int)} {A : Option Addr} {n c : Nat} (h : LsR B0 w P (.slice A n c) w') (hx : ∀ x, x ∈ P → x.length ≤ 1000) (hP : P.length ≤ 100000) : LssC A P w' := by
  obtain ⟨h1, vs, h2, h3⟩ := h
  refine ⟨by omega, fun i x hi => ?_⟩
  obtain ⟨u, e1, e2⟩ := h3 i x hi
  have hlt := (List.getElem?_eq_some_iff.1 hi).1
  obtain ⟨A', c', e3, e4⟩ := id e2
  obtain rfl : u = .slice A' x.length c' := by injection e3 with e3; injection e3
  have hl := (e2.li (hx x (List.mem_of_getElem? hi))).2
  obtain ⟨f0, ⟨f1, f2⟩ | ⟨g, cap, cur, f1, f2, f3, f4⟩⟩ := id h2
  · omega
  · injection f1 with f1 _ _
    subst f1
    have hcs := h2.cells (g := g) rfl
    exact ⟨⟨g, 0, none⟩, A', c', rfl, (Array.getElem?_eq_some_iff.1 f3).1, hcs _ _ e1, hl, fun h0 => by obtain ⟨b, g1, g2, g3, g4, g5, g6, g7⟩ := e4 0 h0; exact g7⟩
theorem pkL_ok {d : Drm} {m n : Nat} {F : Nat → Int × Int × Int} {Z : Nat → Int} (hk : MksOk d m F) (hn : n ≤ 64) (hZ : ∀ i, i < n → 0 ≤ Z i ∧ Z i < m) : MksOk d (pkL F m Z n).length (lsF (pkL F m Z n)) := by
  obtain ⟨e1, e2⟩ := pkL_len_ok (F := F) hZ
  refine ⟨by omega, fun i hi => ?_⟩
  have hz := hZ i (by omega)
  have := hk.2 (Z i).toNat (by omega)
  unfold mkOk at *
  rw [e2 i (by omega)]
  exact this
/-- whether the first numbers of a list are all among others -/
def allB (n : Nat) (Z : Nat → Int) (x : List Int) (e : Nat) : Bool := (List.range e).all fun q => (List.range n).any fun i => Z i == x.getD q 0
theorem allB_succ (n : Nat) (Z : Nat → Int) (x : List Int) (e : Nat) : allB n Z x (e + 1) = (allB n Z x e && (List.range n).any fun i => Z i == x.getD e 0) := by
  unfold allB
  rw [List.range_succ, List.all_append]
  simp
/-- whether one of the first lists lies within others -/
def withB (n : Nat) (Z : Nat → Int) (L : List (List Int)) (a : Nat) : Bool := (List.range a).any fun i => allB n Z (L.getD i []) (L.getD i []).length
theorem withB_succ {n : Nat} {Z : Nat → Int} {L : List (List Int)} {a : Nat} {x : List Int} (h : L[a]? = some x) : withB n Z L (a + 1) = (withB n Z L a || allB n Z x x.length) := by
  unfold withB
  rw [List.range_succ, List.any_append]
  have e : L.getD a [] = x := by rw [List.getD_eq_getElem?_getD, h]; rfl
  simp only [List.any_cons, List.any_nil, Bool.or_false]
  rw [e]
theorem withB_iff {n : Nat} {Z : Nat → Int} {L : List (List Int)} : withB n Z L L.length = true ↔ ∃ x, x ∈ L ∧ ∀ y, y ∈ x → ∃ i, i < n ∧ Z i = y := by
  have hall : ∀ x : List Int, allB n Z x x.length = true ↔ ∀ y, y ∈ x → ∃ i, i < n ∧ Z i = y := fun x => by
    unfold allB
    rw [List.all_eq_true]
    constructor
    · intro h y hy
      obtain ⟨q, hq, e⟩ := List.getElem_of_mem hy
      have := (any_iff n Z _).1 (h q (List.mem_range.2 hq))
      rwa [List.getD_eq_getElem?_getD, List.getElem?_eq_getElem hq, Option.getD_some, e] at this
    · intro h q hq
      have hq := List.mem_range.1 hq
      refine (any_iff n Z _).2 (h _ ?_)
      rw [List.getD_eq_getElem?_getD, List.getElem?_eq_getElem hq]
      exact List.getElem_mem hq
  unfold withB
  rw [List.any_eq_true]
  constructor
  · rintro ⟨i, hi, h⟩
    have hi := List.mem_range.1 hi
    refine ⟨_, ?_, (hall _).1 h⟩
    rw [List.getD_eq_getElem?_getD, List.getElem?_eq_getElem hi]
    exact List.getElem_mem hi
  · rintro ⟨x, hx, h⟩
    obtain ⟨i, hi, e⟩ := List.getElem_of_mem hx
    refine ⟨i, List.mem_range.2 hi, ?_⟩
    rw [List.getD_eq_getElem?_getD, List.getElem?_eq_getElem hi, Option.getD_some, e]
    exact (hall x).2 h
theorem dropK_len {x : List Int} {k : Nat} (h : k < x.length) : (dropK x k).length = k + (x.length - (k + 1)) := by
  unfold dropK
  rw [List.length_append, List.length_take, List.length_drop]
  omega
theorem intsZ_at {l : List Int} {j : Nat} {u : Value} (h : (intsZ l)[j]? = some u) : j < l.length ∧ u = .int .i64 (l.getD j 0) := by
  unfold intsZ at h
  rw [List.getElem?_map] at h
  cases e : l[j]? with
  | none => rw [e] at h; cases h
  | some z =>
    rw [e] at h
    cases h
    exact ⟨(List.getElem?_eq_some_iff.1 e).1, by rw [List.getD_eq_getElem?_getD, e]; rfl⟩
theorem intsZ_one (l : List Int) : ∀ u ∈ intsZ l, u.oneCell' = true := by
  intro u hu
  unfold intsZ at hu
  rw [List.mem_map] at hu
  obtain ⟨z, _, rfl⟩ := hu
  rfl
theorem li_cut {ay : Addr} {x : List Int} {w : World} (h : LiIn (some ay) x w) (k : Nat) : (∀ j u, (intsZ (x.take k))[j]? = some u → w.cell? (ay.add j) = some u) ∧ ∀ j u, (intsZ (x.drop (k + 1)))[j]? = some u → w.cell? ((ay.add (k + 1)).add j) = some u := by
  have hc : ∀ i, i < x.length → w.cell? (ay.add i) = some (.int .i64 (x.getD i 0)) := fun i hi => by
    obtain ⟨a, ea, _, hc⟩ := h.2 i hi
    cases ea
    exact hc
  refine ⟨fun j u hu => ?_, fun j u hu => ?_⟩
  · obtain ⟨h1, rfl⟩ := intsZ_at hu
    rw [List.length_take] at h1
    rw [hc j (by omega), List.getD_eq_getElem?_getD, List.getD_eq_getElem?_getD, List.getElem?_take_of_lt (by omega)]
  · obtain ⟨h1, rfl⟩ := intsZ_at hu
    rw [List.length_drop] at h1
    rw [add_adds, hc _ (by omega), List.getD_eq_getElem?_getD, List.getD_eq_getElem?_getD, List.getElem?_drop]
theorem li_cut2 (ay : Addr) {x : List Int} {c : Nat} (hc : x.length ≤ c) (e : Nat) : ∃ zz : Addr, (if c = e + 1 then some ay else some ({ block := ay.block, off := ay.off + (e + 1) } : Addr)) = some zz ∧ ∀ w : World, LiIn (some ay) x w → ∀ j u, (intsZ (x.drop (e + 1)))[j]? = some u → w.cell? (zz.add j) = some u := by
  by_cases h : c = e + 1
  · refine ⟨ay, if_pos h, fun w _ j u hu => ?_⟩
    obtain ⟨h1, _⟩ := intsZ_at hu
    rw [List.length_drop] at h1
    omega
  · refine ⟨ay.add (e + 1), by rw [if_neg h, add_pos _ _ (by omega)], fun w hw => (li_cut hw e).2⟩
set_option maxRecDepth 100000 in
set_option maxHeartbeats 40000000 in
theorem minimal_law (c : Clo) (S : Option Addr) (n sc : Nat) (Z : Nat → Int) (w : World) (hc : ClIn c w.heap.size w) (hs : IntsIn S n Z w.heap.size w) :
    Calls Try.prog 13 #[c.v, .slice S n sc] w fun e w' => e = .returned (.bool true) ∧ Below w.heap.size w w' := by
  have CC : Hid (∀ W, Below w.heap.size w W → ClIn c W.heap.size W) := Lib.hid fun W h => (hc.up h (Nat.le_refl _)).more h.size
  obtain ⟨G, hG⟩ := few_ex c
  have HG := Lib.hid hG
  have SS : Hid (∀ W, Below w.heap.size w W → IntsIn S n Z W.heap.size W) := Lib.hid fun W h => (hs.up h (Nat.le_refl _)).more h.size
  have hsn := hs.1
  clear hc hG hs
  go_enter Try.func13, Try.ntmps13
  go_wp2_with fail
  refine (awake_any _).mono ?_
  rintro e w2 ⟨rfl, hb⟩
  have D := Lib.hid (nextB (box1 w (cloO c)) hb)
  have C : Hid (HasCl c w.heap.size w2) := Lib.hid ((cl_new w c).up hb)
  clear hb
  obtain ⟨c0, c1, c2⟩ := C.out
  have zC := C.out.lt
  go_wp2_with fail
  refine (few_any c G _ HG.out).mono ?_
  rintro e w3 ⟨rfl, hb⟩
  have J := Lib.hid (hb)
  have D := Lib.hid (nextB D.out J.out)
  clear c0 c1 c2 zC
  have C := Lib.hid (C.out.up J.out)
  clear hb
  obtain ⟨c0, c1, c2⟩ := C.out
  have zC := C.out.lt
  cases G with
  | false =>
    go_wp2_with fail
    go_ret
    exact ⟨rfl, D.out⟩
  | true =>
    clear HG
    by_cases h30 : ¬ n ≤ 30
    · have hgt : (30 : Int) < (n : Int) := by omega
      go_wp2_with fail
      go_ret
      exact ⟨rfl, D.out⟩
    have h30 : n ≤ 30 := by omega
    have hgt : ¬ (30 : Int) < (n : Int) := by omega
    obtain ⟨L, E, hE⟩ := paR_ex c.d c.m c.F
    have KD := Lib.hid fun W h => Pairs_any c.d c.MA c.m c.mc c.F L E W (CC.out W h).1 (CC.out W h).2 hE
    by_cases hz : ¬ (E = 3 ∨ E = 0)
    · have hL0 : L = [] := by
        rcases hE with ⟨_, h, _⟩ | ⟨_, _, _, h⟩
        · exact h
        · exact absurd (by rw [h]; split; exact .inl rfl; exact .inr rfl) hz
      subst hL0
      have hn1 : (E != 0) = true := by simpa using fun h => hz (.inr h)
      have hn3 : (E != 3) = true := by simpa using fun h => hz (.inl h)
      clear hE hz
      go_wp2_with fail
      refine (KD.out _ D.out).mono ?_
      rintro e w4 ⟨v, rfl, hv⟩
      have hb := hv.1
      have J := Lib.hid (hb)
      have D := Lib.hid (nextB D.out J.out)
      clear c0 c1 c2 zC
      have C := Lib.hid (C.out.up J.out)
      obtain ⟨Av, kv, ev⟩ := hv.slice
      rw [show ([] : List (List Int)).length = 0 from rfl] at ev
      subst ev
      clear hv
      clear hb
      obtain ⟨c0, c1, c2⟩ := C.out
      have zC := C.out.lt
      go_wp2_with fail
      go_ret
      exact ⟨rfl, D.out⟩
    have hE3 : E = 3 ∨ E = 0 := by omega
    obtain ⟨hd, hk, hP⟩ : DrOk c.d ∧ MksOk c.d c.m c.F ∧ ConR c.d c.m c.F L := by
      rcases hE with ⟨h, _⟩ | ⟨h1, h2, h3, _⟩
      · omega
      · exact ⟨h1, h2, h3⟩
    have hLx : ∀ x, x ∈ L → x.length ≤ 2 := fun x hx => by
      obtain ⟨r0, al, pr, e, _⟩ := hP
      have := con_two r0 al pr c.m x (by rw [← e]; exact hx)
      omega
    have hLl : L.length ≤ 100000 := by
      obtain ⟨r0, al, pr, e, _⟩ := hP
      have h1 := con_max r0 al pr c.m
      rw [← e] at h1
      have h2 : c.m * c.m ≤ 64 * 64 := Nat.mul_le_mul hk.1 hk.1
      have h3 := hk.1
      omega
    have HXL := Lib.hid (And.intro hLx hLl)
    have HDK := Lib.hid (And.intro hd (And.intro hk hP))
    have hm64 : c.m ≤ 64 := hk.1
    have hLi : (L.length : Int) ≤ 100000 := by omega
    have KF : Hid (∀ A' c' x k, x ∈ L → k < x.length → ∀ W, Below w.heap.size w W → IntsIn A' (dropK x k).length (fun j => (dropK x k).getD j 0) W.heap.size W → Calls Try.prog 70 #[.slice c.MA c.m c.mc, .slice A' (dropK x k).length c'] W fun e w' => ∃ B kc N H, e = .returned (.slice B N kc) ∧ (FeR c.d N H true 0 ∧ TrsIn B N H w'.heap.size w') ∧ Below W.heap.size W w') := Lib.hid fun A' c' x k hx hkx W h hi => (pick_any c.MA A' c.m (dropK x k).length c.mc c' c.F _ W (CC.out W h).2 hi (by have := dropK_len hkx; have := hLx x hx; omega) (by omega)).mono fun e w' ⟨B, kc, h1, h2, h3⟩ => by
        obtain ⟨m1, m2⟩ := min_math hP hx hkx (Z := fun j => (dropK x k).getD j 0) (fun i _ => rfl)
        exact ⟨B, kc, _, _, h1, ⟨.inr ⟨rfl, hd, pkL_ok hk (by have := dropK_len hkx; have := hLx x hx; omega) m2, fun _ => m1, fun _ => rfl⟩, h2⟩, h3⟩
    obtain ⟨R, hR⟩ := bool_of (∃ T, Rdg c.d.n (gapF c.d) (pkL c.F c.m Z n).length (lsF (pkL c.F c.m Z n)) T)
    have HR := Lib.hid hR
    obtain ⟨j, j1, j2, j3⟩ := first_bad (fun i => (0 ≤ Z i ∧ Z i < c.m) ∧ (i = 0 ∨ Z (i - 1) < Z i)) n
    have J2 := Lib.hid j2
    have J3 := Lib.hid j3
    clear hE hz hd hk hP hLx hLl hR j2 j3
    rcases hE3 with rfl | rfl
    · go_wp2_with fail
      refine (KD.out _ D.out).mono ?_
      rintro e w4 ⟨v, rfl, hv⟩
      have hb := hv.1
      have J := Lib.hid (hb)
      have D := Lib.hid (nextB D.out J.out)
      clear c0 c1 c2 zC
      have C := Lib.hid (C.out.up J.out)
      obtain ⟨A, ca, rfl⟩ := hv.slice
      have LA : Hid (∀ W, Below w4.heap.size w4 W → LssC A L W) := Lib.hid fun W h => (hv.lssC (fun x hx => by have := HXL.out.1 x hx; omega) HXL.out.2).up h
      have Dw4 := Lib.hid D.out
      clear hv KD
      clear hb
      obtain ⟨c0, c1, c2⟩ := C.out
      have zC := C.out.lt
      go_wp2_with fail
      clear c0 c1 c2 zC
      go_loopw [8] (fun i wr => ∃ a : Nat, a ≤ j ∧ i = .int .i64 (a : Int) ∧ Below w4.heap.size w4 wr) (fun i _ => n - (intOf i).toNat)
      case atStart => exact ⟨0, Nat.zero_le _, rfl, Below.refl _ _⟩
      case round =>
        obtain ⟨a, ha, rfl, hb⟩ := hrel
        obtain ⟨w5, rfl⟩ : ∃ w5 : World, w5 = wr := ⟨_, rfl⟩
        have D5 := Lib.hid hb
        have D := Lib.hid (nextB Dw4.out hb)
        have C := Lib.hid (C.out.up hb)
        have ha0 : (0 : Int) ≤ (a : Int) := by omega
        clear hb
        obtain ⟨c0, c1, c2⟩ := C.out
        have zC := C.out.lt
        by_cases hlt : a < n
        · have hai : (a : Int) < (n : Int) := by omega
          have wa : IntKind.i64.wrap ((a : Int) + 1) = ((a + 1 : Nat) : Int) := by rw [show ((a : Int) + 1) = ((a + 1 : Nat) : Int) by omega]; exact IntWalk.i64_in _ (by omega)
          have WA := Lib.hid wa
          clear wa
          obtain ⟨az, eS, lS, s0⟩ := (SS.out w5 D.out).2 a hlt
          obtain ⟨z, hz⟩ : ∃ z, z = Z a := ⟨_, rfl⟩
          rw [← hz] at s0
          have HZa := Lib.hid hz
          clear hz
          by_cases haj : a < j
          · obtain ⟨⟨g1, g2⟩, g3⟩ := J2.out a haj
            rw [← HZa.out] at g1 g2 g3
            by_cases h0 : a = 0
            · have d1 : decide (z < 0) = false := decide_eq_false (by omega)
              have d2 : decide (z ≥ (c.m : Int)) = false := decide_eq_false (by omega)
              have d2' : decide ((c.m : Int) ≤ z) = false := d2
              have d3 : decide ((a : Int) > 0) = false := decide_eq_false (by omega)
              have d3' : decide ((0 : Int) < (a : Int)) = false := d3
              have d3n : decide (0 < a) = false := decide_eq_false (by omega)
              clear g1 g2 g3 h0
              subst eS
              go_wp2_with fail
              refine wp_region_M [] (fun w' => w'.cell? ⟨w.heap.size, 2, none⟩ = some (.slice c.MA c.m c.mc) ∧ w'.cell? (az.add a) = some (.int .i64 z)) (by kernel_rfl) (by kernel_rfl) (by (try dsimp only); (repeat' apply And.intro); all_goals first | assumption | (go_simp; done)) (fun hT0 => ?_)
              refine M_take (v := ?_) 0 rfl (by kernel_rfl) (by assumption) (fun _ _ _ h => h) (Or.inl ⟨by rfl, ?_⟩) ?_
              rotate_left
              · (intro w hSw; (try dsimp only at hSw); go_simp; (try with_reducible rfl))
              (try simp only [Act.put, List.setIfInBounds_toArray, List.set_cons_zero, List.set_cons_succ])
              refine M_take (v := ?_) 1 rfl (by kernel_rfl) (by assumption) (fun _ _ _ h => h) (Or.inl ⟨by rfl, ?_⟩) ?_
              rotate_left
              · (intro w hSw; (try dsimp only at hSw); go_simp; (try with_reducible rfl))
              (try simp only [Act.put, List.setIfInBounds_toArray, List.set_cons_zero, List.set_cons_succ])
              refine M_take (v := ?_) 2 rfl (by kernel_rfl) (by assumption) (fun _ _ _ h => h) (Or.inl ⟨by rfl, ?_⟩) ?_
              rotate_left
              · (intro w hSw; (try dsimp only at hSw); go_simp; (try with_reducible rfl))
              (try simp only [Act.put, List.setIfInBounds_toArray, List.set_cons_zero, List.set_cons_succ])
              refine M_take (v := ?_) 3 rfl (by kernel_rfl) (by assumption) (fun _ _ _ h => h) (Or.inl ⟨by rfl, ?_⟩) ?_
              rotate_left
              · (intro w hSw; (try dsimp only at hSw); go_simp; (try with_reducible rfl))
              (try simp only [Act.put, List.setIfInBounds_toArray, List.set_cons_zero, List.set_cons_succ])
              refine M_take (v := ?_) 4 rfl (by kernel_rfl) (by assumption) (fun _ _ _ h => h) (Or.inl ⟨by rfl, ?_⟩) ?_
              rotate_left
              · (intro w hSw; (try dsimp only at hSw); go_simp; (try with_reducible rfl))
              (try simp only [Act.put, List.setIfInBounds_toArray, List.set_cons_zero, List.set_cons_succ])
              refine M_take (v := ?_) 5 rfl (by kernel_rfl) (by assumption) (fun _ _ _ h => h) (Or.inl ⟨by rfl, ?_⟩) ?_
              rotate_left
              · (intro w hSw; (try dsimp only at hSw); go_simp; (try with_reducible rfl))
              (try simp only [Act.put, List.setIfInBounds_toArray, List.set_cons_zero, List.set_cons_succ])
              refine M_take (v := ?_) 6 rfl (by kernel_rfl) (by assumption) (fun _ _ _ h => h) (Or.inl ⟨by rfl, ?_⟩) ?_
              rotate_left
              · (intro w hSw; (try dsimp only at hSw); go_simp; (try with_reducible rfl))
              (try simp only [Act.put, List.setIfInBounds_toArray, List.set_cons_zero, List.set_cons_succ])
              refine M_take (v := ?_) 7 rfl (by kernel_rfl) (by assumption) (fun _ _ _ h => h) (Or.inl ⟨by rfl, ?_⟩) ?_
              rotate_left
              · (intro w hSw; (try dsimp only at hSw); go_simp; (try with_reducible rfl))
              (try simp only [Act.put, List.setIfInBounds_toArray, List.set_cons_zero, List.set_cons_succ])
              refine M_take (v := ?_) 8 rfl (by kernel_rfl) (by assumption) (fun _ _ _ h => h) (Or.inl ⟨by rfl, ?_⟩) ?_
              rotate_left
              · (intro w hSw; (try dsimp only at hSw); go_simp; (try with_reducible rfl))
              (try simp only [Act.put, List.setIfInBounds_toArray, List.set_cons_zero, List.set_cons_succ])
              refine M_take (v := ?_) 9 rfl (by kernel_rfl) (by assumption) (fun _ _ _ h => h) (Or.inl ⟨by rfl, ?_⟩) ?_
              rotate_left
              · (intro w hSw; (try dsimp only at hSw); go_simp; (try with_reducible rfl))
              (try simp only [Act.put, List.setIfInBounds_toArray, List.set_cons_zero, List.set_cons_succ])
              refine M_take (v := ?_) 10 rfl (by kernel_rfl) (by assumption) (fun _ _ _ h => h) (Or.inl ⟨by rfl, ?_⟩) ?_
              rotate_left
              · (intro w hSw; (try dsimp only at hSw); go_simp; (try with_reducible rfl))
              (try simp only [Act.put, List.setIfInBounds_toArray, List.set_cons_zero, List.set_cons_succ])
              refine M_take (v := ?_) 11 rfl (by kernel_rfl) (by assumption) (fun _ _ _ h => h) (Or.inl ⟨by rfl, ?_⟩) ?_
              rotate_left
              · (intro w hSw; (try dsimp only at hSw); go_simp; (try with_reducible rfl))
              (try simp only [Act.put, List.setIfInBounds_toArray, List.set_cons_zero, List.set_cons_succ])
              refine M_take (v := ?_) 12 rfl (by kernel_rfl) (by assumption) (fun _ _ _ h => h) (Or.inl ⟨by rfl, ?_⟩) ?_
              rotate_left
              · (intro w hSw; (try dsimp only at hSw); go_simp; (try with_reducible rfl))
              (try simp only [Act.put, List.setIfInBounds_toArray, List.set_cons_zero, List.set_cons_succ])
              refine M_take (v := ?_) 13 rfl (by kernel_rfl) (by assumption) (fun _ _ _ h => h) (Or.inl ⟨by rfl, ?_⟩) ?_
              rotate_left
              · (intro w hSw; (try dsimp only at hSw); go_simp; (try with_reducible rfl))
              (try simp only [Act.put, List.setIfInBounds_toArray, List.set_cons_zero, List.set_cons_succ])
              refine M_take (v := ?_) 14 rfl (by kernel_rfl) (by assumption) (fun _ _ _ h => h) (Or.inl ⟨by rfl, ?_⟩) ?_
              rotate_left
              · (intro w hSw; (try dsimp only at hSw); go_simp; (try with_reducible rfl))
              (try simp only [Act.put, List.setIfInBounds_toArray, List.set_cons_zero, List.set_cons_succ])
              refine M_take (v := ?_) 15 rfl (by kernel_rfl) (by assumption) (fun _ _ _ h => h) (Or.inl ⟨by rfl, ?_⟩) ?_
              rotate_left
              · (intro w hSw; (try dsimp only at hSw); go_simp; (try with_reducible rfl))
              (try simp only [Act.put, List.setIfInBounds_toArray, List.set_cons_zero, List.set_cons_succ])
              refine M_take (v := ?_) 16 rfl (by kernel_rfl) (by assumption) (fun _ _ _ h => h) (Or.inl ⟨by rfl, ?_⟩) ?_
              rotate_left
              · (intro w hSw; (try dsimp only at hSw); go_simp; (try with_reducible rfl))
              (try simp only [Act.put, List.setIfInBounds_toArray, List.set_cons_zero, List.set_cons_succ])
              refine M_take (v := ?_) 17 rfl (by kernel_rfl) (by assumption) (fun _ _ _ h => h) (Or.inl ⟨by rfl, ?_⟩) ?_
              rotate_left
              · (intro w hSw; (try dsimp only at hSw); go_simp; (try with_reducible rfl))
              (try simp only [Act.put, List.setIfInBounds_toArray, List.set_cons_zero, List.set_cons_succ])
              refine M_take (v := ?_) 18 rfl (by kernel_rfl) (by assumption) (fun _ _ _ h => h) (Or.inl ⟨by rfl, ?_⟩) ?_
              rotate_left
              · (intro w hSw; (try dsimp only at hSw); go_simp; (try with_reducible rfl))
              (try simp only [Act.put, List.setIfInBounds_toArray, List.set_cons_zero, List.set_cons_succ])
              refine M_take 19 rfl (by kernel_rfl) (by assumption) (fun _ _ _ h => h) (Or.inr ⟨by rfl, rfl⟩) ?_
              (try simp only [Act.put, List.setIfInBounds_toArray, List.set_cons_zero, List.set_cons_succ])
              refine M_take 20 rfl (by kernel_rfl) (by assumption) (fun _ _ _ h => h) (Or.inr ⟨by rfl, rfl⟩) ?_
              (try simp only [Act.put, List.setIfInBounds_toArray, List.set_cons_zero, List.set_cons_succ])
              refine M_take 21 rfl (by kernel_rfl) (by assumption) (fun _ _ _ h => h) (Or.inr ⟨by rfl, rfl⟩) ?_
              (try simp only [Act.put, List.setIfInBounds_toArray, List.set_cons_zero, List.set_cons_succ])
              refine M_take 22 rfl (by kernel_rfl) (by assumption) (fun _ _ _ h => h) (Or.inr ⟨by rfl, rfl⟩) ?_
              (try simp only [Act.put, List.setIfInBounds_toArray, List.set_cons_zero, List.set_cons_succ])
              refine M_take 23 rfl (by kernel_rfl) (by assumption) (fun _ _ _ h => h) (Or.inr ⟨by rfl, rfl⟩) ?_
              (try simp only [Act.put, List.setIfInBounds_toArray, List.set_cons_zero, List.set_cons_succ])
              refine M_take 24 rfl (by kernel_rfl) (by assumption) (fun _ _ _ h => h) (Or.inr ⟨by rfl, rfl⟩) ?_
              (try simp only [Act.put, List.setIfInBounds_toArray, List.set_cons_zero, List.set_cons_succ])
              refine M_take 25 rfl (by kernel_rfl) (by assumption) (fun _ _ _ h => h) (Or.inr ⟨by rfl, rfl⟩) ?_
              (try simp only [Act.put, List.setIfInBounds_toArray, List.set_cons_zero, List.set_cons_succ])
              refine M_take 26 rfl (by kernel_rfl) (by assumption) (fun _ _ _ h => h) (Or.inr ⟨by rfl, rfl⟩) ?_
              (try simp only [Act.put, List.setIfInBounds_toArray, List.set_cons_zero, List.set_cons_succ])
              refine M_take 27 rfl (by kernel_rfl) (by assumption) (fun _ _ _ h => h) (Or.inr ⟨by rfl, rfl⟩) ?_
              (try simp only [Act.put, List.setIfInBounds_toArray, List.set_cons_zero, List.set_cons_succ])
              refine M_take 28 rfl (by kernel_rfl) (by assumption) (fun _ _ _ h => h) (Or.inr ⟨by rfl, rfl⟩) ?_
              (try simp only [Act.put, List.setIfInBounds_toArray, List.set_cons_zero, List.set_cons_succ])
              refine M_take (v := ?_) 29 rfl (by kernel_rfl) (by assumption) (fun _ _ _ h => h) (Or.inl ⟨by rfl, ?_⟩) ?_
              rotate_left
              · (intro w hSw; (try dsimp only at hSw); go_simp; (try with_reducible rfl))
              (try simp only [Act.put, List.setIfInBounds_toArray, List.set_cons_zero, List.set_cons_succ])
              refine M_take (v := ?_) 30 rfl (by kernel_rfl) (by assumption) (fun _ _ _ h => h) (Or.inl ⟨by rfl, ?_⟩) ?_
              rotate_left
              · (intro w hSw; (try dsimp only at hSw); go_simp; (try with_reducible rfl))
              (try simp only [Act.put, List.setIfInBounds_toArray, List.set_cons_zero, List.set_cons_succ])
              refine M_done (by kernel_rfl) ?_ _
              clear hT0 c0 c1 c2 zC s0
              have wa := WA.out
              go_wp2_with fail
              go_roundw
              case rel => exact ⟨a + 1, by omega, by first | rfl | go_num, D5.out.drew⟩
              case measure => (simp [intOf] <;> omega)
            · obtain ⟨b, hb1⟩ : ∃ b : Nat, b + 1 = a := ⟨a - 1, by omega⟩
              have hbn : b < n := by omega
              have wb : IntKind.i64.wrap ((a : Int) - 1) = (b : Int) := by rw [show ((a : Int) - 1) = (b : Int) by omega]; exact IntWalk.i64_in _ (by omega)
              obtain ⟨az2, eS2, lS2, s1⟩ := (SS.out w5 D.out).2 b hbn
              rw [eS] at eS2
              cases eS2
              obtain ⟨z2, hz2⟩ : ∃ z, z = Z b := ⟨_, rfl⟩
              rw [← hz2] at s1
              have HZb := Lib.hid hz2
              have hb0 : (0 : Int) ≤ (b : Int) := by omega
              have hbi : (b : Int) < (n : Int) := by omega
              have HB1 := Lib.hid hb1
              clear hz2
              have g4 : z2 < z := by have h := g3.resolve_left h0; rw [← hb1, Nat.add_sub_cancel, ← HZb.out] at h; exact h
              have d1 : decide (z < 0) = false := decide_eq_false (by omega)
              have d2 : decide (z ≥ (c.m : Int)) = false := decide_eq_false (by omega)
              have d2' : decide ((c.m : Int) ≤ z) = false := d2
              have d3 : decide ((a : Int) > 0) = true := decide_eq_true (by omega)
              have d3' : decide ((0 : Int) < (a : Int)) = true := d3
              have d3n : decide (0 < a) = true := decide_eq_true (by omega)
              have d4 : decide (z ≤ z2) = false := decide_eq_false (by omega)
              clear g1 g2 g3 g4
              clear hb1
              subst eS
              go_wp2_with fail
              refine wp_region_M [] (fun w' => w'.cell? ⟨w.heap.size, 2, none⟩ = some (.slice c.MA c.m c.mc) ∧ w'.cell? (az.add a) = some (.int .i64 z) ∧ w'.cell? (az.add b) = some (.int .i64 z2)) (by kernel_rfl) (by kernel_rfl) (by (try dsimp only); (repeat' apply And.intro); all_goals first | assumption | (go_simp; done)) (fun hT0 => ?_)
              refine M_take (v := ?_) 0 rfl (by kernel_rfl) (by assumption) (fun _ _ _ h => h) (Or.inl ⟨by rfl, ?_⟩) ?_
              rotate_left
              · (intro w hSw; (try dsimp only at hSw); go_simp; (try with_reducible rfl))
              (try simp only [Act.put, List.setIfInBounds_toArray, List.set_cons_zero, List.set_cons_succ])
              refine M_take (v := ?_) 1 rfl (by kernel_rfl) (by assumption) (fun _ _ _ h => h) (Or.inl ⟨by rfl, ?_⟩) ?_
              rotate_left
              · (intro w hSw; (try dsimp only at hSw); go_simp; (try with_reducible rfl))
              (try simp only [Act.put, List.setIfInBounds_toArray, List.set_cons_zero, List.set_cons_succ])
              refine M_take (v := ?_) 2 rfl (by kernel_rfl) (by assumption) (fun _ _ _ h => h) (Or.inl ⟨by rfl, ?_⟩) ?_
              rotate_left
              · (intro w hSw; (try dsimp only at hSw); go_simp; (try with_reducible rfl))
              (try simp only [Act.put, List.setIfInBounds_toArray, List.set_cons_zero, List.set_cons_succ])
              refine M_take (v := ?_) 3 rfl (by kernel_rfl) (by assumption) (fun _ _ _ h => h) (Or.inl ⟨by rfl, ?_⟩) ?_
              rotate_left
              · (intro w hSw; (try dsimp only at hSw); go_simp; (try with_reducible rfl))
              (try simp only [Act.put, List.setIfInBounds_toArray, List.set_cons_zero, List.set_cons_succ])
              refine M_take (v := ?_) 4 rfl (by kernel_rfl) (by assumption) (fun _ _ _ h => h) (Or.inl ⟨by rfl, ?_⟩) ?_
              rotate_left
              · (intro w hSw; (try dsimp only at hSw); go_simp; (try with_reducible rfl))
              (try simp only [Act.put, List.setIfInBounds_toArray, List.set_cons_zero, List.set_cons_succ])
              refine M_take (v := ?_) 5 rfl (by kernel_rfl) (by assumption) (fun _ _ _ h => h) (Or.inl ⟨by rfl, ?_⟩) ?_
              rotate_left
              · (intro w hSw; (try dsimp only at hSw); go_simp; (try with_reducible rfl))
              (try simp only [Act.put, List.setIfInBounds_toArray, List.set_cons_zero, List.set_cons_succ])
              refine M_take (v := ?_) 6 rfl (by kernel_rfl) (by assumption) (fun _ _ _ h => h) (Or.inl ⟨by rfl, ?_⟩) ?_
              rotate_left
              · (intro w hSw; (try dsimp only at hSw); go_simp; (try with_reducible rfl))
              (try simp only [Act.put, List.setIfInBounds_toArray, List.set_cons_zero, List.set_cons_succ])
              refine M_take (v := ?_) 7 rfl (by kernel_rfl) (by assumption) (fun _ _ _ h => h) (Or.inl ⟨by rfl, ?_⟩) ?_
              rotate_left
              · (intro w hSw; (try dsimp only at hSw); go_simp; (try with_reducible rfl))
              (try simp only [Act.put, List.setIfInBounds_toArray, List.set_cons_zero, List.set_cons_succ])
              refine M_take (v := ?_) 8 rfl (by kernel_rfl) (by assumption) (fun _ _ _ h => h) (Or.inl ⟨by rfl, ?_⟩) ?_
              rotate_left
              · (intro w hSw; (try dsimp only at hSw); go_simp; (try with_reducible rfl))
              (try simp only [Act.put, List.setIfInBounds_toArray, List.set_cons_zero, List.set_cons_succ])
              refine M_take (v := ?_) 9 rfl (by kernel_rfl) (by assumption) (fun _ _ _ h => h) (Or.inl ⟨by rfl, ?_⟩) ?_
              rotate_left
              · (intro w hSw; (try dsimp only at hSw); go_simp; (try with_reducible rfl))
              (try simp only [Act.put, List.setIfInBounds_toArray, List.set_cons_zero, List.set_cons_succ])
              refine M_take (v := ?_) 10 rfl (by kernel_rfl) (by assumption) (fun _ _ _ h => h) (Or.inl ⟨by rfl, ?_⟩) ?_
              rotate_left
              · (intro w hSw; (try dsimp only at hSw); go_simp; (try with_reducible rfl))
              (try simp only [Act.put, List.setIfInBounds_toArray, List.set_cons_zero, List.set_cons_succ])
              refine M_take (v := ?_) 11 rfl (by kernel_rfl) (by assumption) (fun _ _ _ h => h) (Or.inl ⟨by rfl, ?_⟩) ?_
              rotate_left
              · (intro w hSw; (try dsimp only at hSw); go_simp; (try with_reducible rfl))
              (try simp only [Act.put, List.setIfInBounds_toArray, List.set_cons_zero, List.set_cons_succ])
              refine M_take (v := ?_) 12 rfl (by kernel_rfl) (by assumption) (fun _ _ _ h => h) (Or.inl ⟨by rfl, ?_⟩) ?_
              rotate_left
              · (intro w hSw; (try dsimp only at hSw); go_simp; (try with_reducible rfl))
              (try simp only [Act.put, List.setIfInBounds_toArray, List.set_cons_zero, List.set_cons_succ])
              refine M_take (v := ?_) 13 rfl (by kernel_rfl) (by assumption) (fun _ _ _ h => h) (Or.inl ⟨by rfl, ?_⟩) ?_
              rotate_left
              · (intro w hSw; (try dsimp only at hSw); go_simp; (try with_reducible rfl))
              (try simp only [Act.put, List.setIfInBounds_toArray, List.set_cons_zero, List.set_cons_succ])
              refine M_take (v := ?_) 14 rfl (by kernel_rfl) (by assumption) (fun _ _ _ h => h) (Or.inl ⟨by rfl, ?_⟩) ?_
              rotate_left
              · (intro w hSw; (try dsimp only at hSw); go_simp; (try with_reducible rfl))
              (try simp only [Act.put, List.setIfInBounds_toArray, List.set_cons_zero, List.set_cons_succ])
              refine M_take (v := ?_) 15 rfl (by kernel_rfl) (by assumption) (fun _ _ _ h => h) (Or.inl ⟨by rfl, ?_⟩) ?_
              rotate_left
              · (intro w hSw; (try dsimp only at hSw); go_simp; (try with_reducible rfl))
              (try simp only [Act.put, List.setIfInBounds_toArray, List.set_cons_zero, List.set_cons_succ])
              refine M_take (v := ?_) 16 rfl (by kernel_rfl) (by assumption) (fun _ _ _ h => h) (Or.inl ⟨by rfl, ?_⟩) ?_
              rotate_left
              · (intro w hSw; (try dsimp only at hSw); go_simp; (try with_reducible rfl))
              (try simp only [Act.put, List.setIfInBounds_toArray, List.set_cons_zero, List.set_cons_succ])
              refine M_take (v := ?_) 17 rfl (by kernel_rfl) (by assumption) (fun _ _ _ h => h) (Or.inl ⟨by rfl, ?_⟩) ?_
              rotate_left
              · (intro w hSw; (try dsimp only at hSw); go_simp; (try with_reducible rfl))
              (try simp only [Act.put, List.setIfInBounds_toArray, List.set_cons_zero, List.set_cons_succ])
              refine M_take (v := ?_) 18 rfl (by kernel_rfl) (by assumption) (fun _ _ _ h => h) (Or.inl ⟨by rfl, ?_⟩) ?_
              rotate_left
              · (intro w hSw; (try dsimp only at hSw); go_simp; (try with_reducible rfl))
              (try simp only [Act.put, List.setIfInBounds_toArray, List.set_cons_zero, List.set_cons_succ])
              refine M_take (v := ?_) 19 rfl (by kernel_rfl) (by assumption) (fun _ _ _ h => h) (Or.inl ⟨by rfl, ?_⟩) ?_
              rotate_left
              · (intro w hSw; (try dsimp only at hSw); go_simp; (try with_reducible rfl))
              (try simp only [Act.put, List.setIfInBounds_toArray, List.set_cons_zero, List.set_cons_succ])
              refine M_take (v := ?_) 20 rfl (by kernel_rfl) (by assumption) (fun _ _ _ h => h) (Or.inl ⟨by rfl, ?_⟩) ?_
              rotate_left
              · (intro w hSw; (try dsimp only at hSw); go_simp; (try with_reducible rfl))
              (try simp only [Act.put, List.setIfInBounds_toArray, List.set_cons_zero, List.set_cons_succ])
              refine M_take (v := ?_) 21 rfl (by kernel_rfl) (by assumption) (fun _ _ _ h => h) (Or.inl ⟨by rfl, ?_⟩) ?_
              rotate_left
              · (intro w hSw; (try dsimp only at hSw); go_simp; (try with_reducible rfl))
              (try simp only [Act.put, List.setIfInBounds_toArray, List.set_cons_zero, List.set_cons_succ])
              refine M_take (v := ?_) 22 rfl (by kernel_rfl) (by assumption) (fun _ _ _ h => h) (Or.inl ⟨by rfl, ?_⟩) ?_
              rotate_left
              · (intro w hSw; (try dsimp only at hSw); go_simp; (try with_reducible rfl))
              (try simp only [Act.put, List.setIfInBounds_toArray, List.set_cons_zero, List.set_cons_succ])
              refine M_take (v := ?_) 23 rfl (by kernel_rfl) (by assumption) (fun _ _ _ h => h) (Or.inl ⟨by rfl, ?_⟩) ?_
              rotate_left
              · (intro w hSw; (try dsimp only at hSw); go_simp; (try with_reducible rfl))
              (try simp only [Act.put, List.setIfInBounds_toArray, List.set_cons_zero, List.set_cons_succ])
              refine M_take (v := ?_) 24 rfl (by kernel_rfl) (by assumption) (fun _ _ _ h => h) (Or.inl ⟨by rfl, ?_⟩) ?_
              rotate_left
              · (intro w hSw; (try dsimp only at hSw); go_simp; (try with_reducible rfl))
              (try simp only [Act.put, List.setIfInBounds_toArray, List.set_cons_zero, List.set_cons_succ])
              refine M_take (v := ?_) 25 rfl (by kernel_rfl) (by assumption) (fun _ _ _ h => h) (Or.inl ⟨by rfl, ?_⟩) ?_
              rotate_left
              · (intro w hSw; (try dsimp only at hSw); go_simp; (try with_reducible rfl))
              (try simp only [Act.put, List.setIfInBounds_toArray, List.set_cons_zero, List.set_cons_succ])
              refine M_take (v := ?_) 26 rfl (by kernel_rfl) (by assumption) (fun _ _ _ h => h) (Or.inl ⟨by rfl, ?_⟩) ?_
              rotate_left
              · (intro w hSw; (try dsimp only at hSw); go_simp; (try with_reducible rfl))
              (try simp only [Act.put, List.setIfInBounds_toArray, List.set_cons_zero, List.set_cons_succ])
              refine M_take (v := ?_) 27 rfl (by kernel_rfl) (by assumption) (fun _ _ _ h => h) (Or.inl ⟨by rfl, ?_⟩) ?_
              rotate_left
              · (intro w hSw; (try dsimp only at hSw); go_simp; (try with_reducible rfl))
              (try simp only [Act.put, List.setIfInBounds_toArray, List.set_cons_zero, List.set_cons_succ])
              refine M_take (v := ?_) 28 rfl (by kernel_rfl) (by assumption) (fun _ _ _ h => h) (Or.inl ⟨by rfl, ?_⟩) ?_
              rotate_left
              · (intro w hSw; (try dsimp only at hSw); go_simp; (try with_reducible rfl))
              (try simp only [Act.put, List.setIfInBounds_toArray, List.set_cons_zero, List.set_cons_succ])
              refine M_take (v := ?_) 29 rfl (by kernel_rfl) (by assumption) (fun _ _ _ h => h) (Or.inl ⟨by rfl, ?_⟩) ?_
              rotate_left
              · (intro w hSw; (try dsimp only at hSw); go_simp; (try with_reducible rfl))
              (try simp only [Act.put, List.setIfInBounds_toArray, List.set_cons_zero, List.set_cons_succ])
              refine M_take (v := ?_) 30 rfl (by kernel_rfl) (by assumption) (fun _ _ _ h => h) (Or.inl ⟨by rfl, ?_⟩) ?_
              rotate_left
              · (intro w hSw; (try dsimp only at hSw); go_simp; (try with_reducible rfl))
              (try simp only [Act.put, List.setIfInBounds_toArray, List.set_cons_zero, List.set_cons_succ])
              refine M_done (by kernel_rfl) ?_ _
              clear hT0 c0 c1 c2 zC s0 s1
              have wa := WA.out
              go_wp2_with fail
              go_roundw
              case rel => exact ⟨a + 1, by omega, by first | rfl | go_num, D5.out.drew⟩
              case measure => (simp [intOf] <;> omega)
          · have hbad := J3.out (by omega)
            have haj2 : a = j := by omega
            rw [← haj2] at hbad
            have HB3 := Lib.hid hbad
            clear hbad haj2
            by_cases q1 : z < 0
            · have d1 : decide (z < 0) = true := decide_eq_true q1
              clear q1
              subst eS
              go_wp2_with fail
              refine wp_region_M [] (fun w' => w'.cell? ⟨w.heap.size, 2, none⟩ = some (.slice c.MA c.m c.mc) ∧ w'.cell? (az.add a) = some (.int .i64 z)) (by kernel_rfl) (by kernel_rfl) (by (try dsimp only); (repeat' apply And.intro); all_goals first | assumption | (go_simp; done)) (fun hT0 => ?_)
              refine M_take (v := ?_) 0 rfl (by kernel_rfl) (by assumption) (fun _ _ _ h => h) (Or.inl ⟨by rfl, ?_⟩) ?_
              rotate_left
              · (intro w hSw; (try dsimp only at hSw); go_simp; (try with_reducible rfl))
              (try simp only [Act.put, List.setIfInBounds_toArray, List.set_cons_zero, List.set_cons_succ])
              refine M_take (v := ?_) 1 rfl (by kernel_rfl) (by assumption) (fun _ _ _ h => h) (Or.inl ⟨by rfl, ?_⟩) ?_
              rotate_left
              · (intro w hSw; (try dsimp only at hSw); go_simp; (try with_reducible rfl))
              (try simp only [Act.put, List.setIfInBounds_toArray, List.set_cons_zero, List.set_cons_succ])
              refine M_take (v := ?_) 2 rfl (by kernel_rfl) (by assumption) (fun _ _ _ h => h) (Or.inl ⟨by rfl, ?_⟩) ?_
              rotate_left
              · (intro w hSw; (try dsimp only at hSw); go_simp; (try with_reducible rfl))
              (try simp only [Act.put, List.setIfInBounds_toArray, List.set_cons_zero, List.set_cons_succ])
              refine M_take (v := ?_) 3 rfl (by kernel_rfl) (by assumption) (fun _ _ _ h => h) (Or.inl ⟨by rfl, ?_⟩) ?_
              rotate_left
              · (intro w hSw; (try dsimp only at hSw); go_simp; (try with_reducible rfl))
              (try simp only [Act.put, List.setIfInBounds_toArray, List.set_cons_zero, List.set_cons_succ])
              refine M_take (v := ?_) 4 rfl (by kernel_rfl) (by assumption) (fun _ _ _ h => h) (Or.inl ⟨by rfl, ?_⟩) ?_
              rotate_left
              · (intro w hSw; (try dsimp only at hSw); go_simp; (try with_reducible rfl))
              (try simp only [Act.put, List.setIfInBounds_toArray, List.set_cons_zero, List.set_cons_succ])
              refine M_take (v := ?_) 5 rfl (by kernel_rfl) (by assumption) (fun _ _ _ h => h) (Or.inl ⟨by rfl, ?_⟩) ?_
              rotate_left
              · (intro w hSw; (try dsimp only at hSw); go_simp; (try with_reducible rfl))
              (try simp only [Act.put, List.setIfInBounds_toArray, List.set_cons_zero, List.set_cons_succ])
              refine M_take 6 rfl (by kernel_rfl) (by assumption) (fun _ _ _ h => h) (Or.inr ⟨by rfl, rfl⟩) ?_
              (try simp only [Act.put, List.setIfInBounds_toArray, List.set_cons_zero, List.set_cons_succ])
              refine M_take 7 rfl (by kernel_rfl) (by assumption) (fun _ _ _ h => h) (Or.inr ⟨by rfl, rfl⟩) ?_
              (try simp only [Act.put, List.setIfInBounds_toArray, List.set_cons_zero, List.set_cons_succ])
              refine M_take 8 rfl (by kernel_rfl) (by assumption) (fun _ _ _ h => h) (Or.inr ⟨by rfl, rfl⟩) ?_
              (try simp only [Act.put, List.setIfInBounds_toArray, List.set_cons_zero, List.set_cons_succ])
              refine M_take 9 rfl (by kernel_rfl) (by assumption) (fun _ _ _ h => h) (Or.inr ⟨by rfl, rfl⟩) ?_
              (try simp only [Act.put, List.setIfInBounds_toArray, List.set_cons_zero, List.set_cons_succ])
              refine M_take 10 rfl (by kernel_rfl) (by assumption) (fun _ _ _ h => h) (Or.inr ⟨by rfl, rfl⟩) ?_
              (try simp only [Act.put, List.setIfInBounds_toArray, List.set_cons_zero, List.set_cons_succ])
              refine M_take 11 rfl (by kernel_rfl) (by assumption) (fun _ _ _ h => h) (Or.inr ⟨by rfl, rfl⟩) ?_
              (try simp only [Act.put, List.setIfInBounds_toArray, List.set_cons_zero, List.set_cons_succ])
              refine M_take 12 rfl (by kernel_rfl) (by assumption) (fun _ _ _ h => h) (Or.inr ⟨by rfl, rfl⟩) ?_
              (try simp only [Act.put, List.setIfInBounds_toArray, List.set_cons_zero, List.set_cons_succ])
              refine M_take 13 rfl (by kernel_rfl) (by assumption) (fun _ _ _ h => h) (Or.inr ⟨by rfl, rfl⟩) ?_
              (try simp only [Act.put, List.setIfInBounds_toArray, List.set_cons_zero, List.set_cons_succ])
              refine M_take (v := ?_) 14 rfl (by kernel_rfl) (by assumption) (fun _ _ _ h => h) (Or.inl ⟨by rfl, ?_⟩) ?_
              rotate_left
              · (intro w hSw; (try dsimp only at hSw); go_simp; (try with_reducible rfl))
              (try simp only [Act.put, List.setIfInBounds_toArray, List.set_cons_zero, List.set_cons_succ])
              refine M_take (v := ?_) 15 rfl (by kernel_rfl) (by assumption) (fun _ _ _ h => h) (Or.inl ⟨by rfl, ?_⟩) ?_
              rotate_left
              · (intro w hSw; (try dsimp only at hSw); go_simp; (try with_reducible rfl))
              (try simp only [Act.put, List.setIfInBounds_toArray, List.set_cons_zero, List.set_cons_succ])
              refine M_take 16 rfl (by kernel_rfl) (by assumption) (fun _ _ _ h => h) (Or.inr ⟨by rfl, rfl⟩) ?_
              (try simp only [Act.put, List.setIfInBounds_toArray, List.set_cons_zero, List.set_cons_succ])
              refine M_take 17 rfl (by kernel_rfl) (by assumption) (fun _ _ _ h => h) (Or.inr ⟨by rfl, rfl⟩) ?_
              (try simp only [Act.put, List.setIfInBounds_toArray, List.set_cons_zero, List.set_cons_succ])
              refine M_take 18 rfl (by kernel_rfl) (by assumption) (fun _ _ _ h => h) (Or.inr ⟨by rfl, rfl⟩) ?_
              (try simp only [Act.put, List.setIfInBounds_toArray, List.set_cons_zero, List.set_cons_succ])
              refine M_take 19 rfl (by kernel_rfl) (by assumption) (fun _ _ _ h => h) (Or.inr ⟨by rfl, rfl⟩) ?_
              (try simp only [Act.put, List.setIfInBounds_toArray, List.set_cons_zero, List.set_cons_succ])
              refine M_take 20 rfl (by kernel_rfl) (by assumption) (fun _ _ _ h => h) (Or.inr ⟨by rfl, rfl⟩) ?_
              (try simp only [Act.put, List.setIfInBounds_toArray, List.set_cons_zero, List.set_cons_succ])
              refine M_take 21 rfl (by kernel_rfl) (by assumption) (fun _ _ _ h => h) (Or.inr ⟨by rfl, rfl⟩) ?_
              (try simp only [Act.put, List.setIfInBounds_toArray, List.set_cons_zero, List.set_cons_succ])
              refine M_take 22 rfl (by kernel_rfl) (by assumption) (fun _ _ _ h => h) (Or.inr ⟨by rfl, rfl⟩) ?_
              (try simp only [Act.put, List.setIfInBounds_toArray, List.set_cons_zero, List.set_cons_succ])
              refine M_take 23 rfl (by kernel_rfl) (by assumption) (fun _ _ _ h => h) (Or.inr ⟨by rfl, rfl⟩) ?_
              (try simp only [Act.put, List.setIfInBounds_toArray, List.set_cons_zero, List.set_cons_succ])
              refine M_take 24 rfl (by kernel_rfl) (by assumption) (fun _ _ _ h => h) (Or.inr ⟨by rfl, rfl⟩) ?_
              (try simp only [Act.put, List.setIfInBounds_toArray, List.set_cons_zero, List.set_cons_succ])
              refine M_take 25 rfl (by kernel_rfl) (by assumption) (fun _ _ _ h => h) (Or.inr ⟨by rfl, rfl⟩) ?_
              (try simp only [Act.put, List.setIfInBounds_toArray, List.set_cons_zero, List.set_cons_succ])
              refine M_take 26 rfl (by kernel_rfl) (by assumption) (fun _ _ _ h => h) (Or.inr ⟨by rfl, rfl⟩) ?_
              (try simp only [Act.put, List.setIfInBounds_toArray, List.set_cons_zero, List.set_cons_succ])
              refine M_take 27 rfl (by kernel_rfl) (by assumption) (fun _ _ _ h => h) (Or.inr ⟨by rfl, rfl⟩) ?_
              (try simp only [Act.put, List.setIfInBounds_toArray, List.set_cons_zero, List.set_cons_succ])
              refine M_take 28 rfl (by kernel_rfl) (by assumption) (fun _ _ _ h => h) (Or.inr ⟨by rfl, rfl⟩) ?_
              (try simp only [Act.put, List.setIfInBounds_toArray, List.set_cons_zero, List.set_cons_succ])
              refine M_take 29 rfl (by kernel_rfl) (by assumption) (fun _ _ _ h => h) (Or.inr ⟨by rfl, rfl⟩) ?_
              (try simp only [Act.put, List.setIfInBounds_toArray, List.set_cons_zero, List.set_cons_succ])
              refine M_take (v := ?_) 30 rfl (by kernel_rfl) (by assumption) (fun _ _ _ h => h) (Or.inl ⟨by rfl, ?_⟩) ?_
              rotate_left
              · (intro w hSw; (try dsimp only at hSw); go_simp; (try with_reducible rfl))
              (try simp only [Act.put, List.setIfInBounds_toArray, List.set_cons_zero, List.set_cons_succ])
              refine M_done (by kernel_rfl) ?_ _
              clear hT0 c0 c1 c2 zC s0
              go_wp2_with fail
              go_ret
              exact ⟨rfl, D.out.drew⟩
            by_cases q2 : (c.m : Int) ≤ z
            · have d1 : decide (z < 0) = false := decide_eq_false (by omega)
              have d2 : decide (z ≥ (c.m : Int)) = true := decide_eq_true q2
              have d2' : decide ((c.m : Int) ≤ z) = true := d2
              clear q1 q2
              subst eS
              go_wp2_with fail
              refine wp_region_M [] (fun w' => w'.cell? ⟨w.heap.size, 2, none⟩ = some (.slice c.MA c.m c.mc) ∧ w'.cell? (az.add a) = some (.int .i64 z)) (by kernel_rfl) (by kernel_rfl) (by (try dsimp only); (repeat' apply And.intro); all_goals first | assumption | (go_simp; done)) (fun hT0 => ?_)
              refine M_take (v := ?_) 0 rfl (by kernel_rfl) (by assumption) (fun _ _ _ h => h) (Or.inl ⟨by rfl, ?_⟩) ?_
              rotate_left
              · (intro w hSw; (try dsimp only at hSw); go_simp; (try with_reducible rfl))
              (try simp only [Act.put, List.setIfInBounds_toArray, List.set_cons_zero, List.set_cons_succ])
              refine M_take (v := ?_) 1 rfl (by kernel_rfl) (by assumption) (fun _ _ _ h => h) (Or.inl ⟨by rfl, ?_⟩) ?_
              rotate_left
              · (intro w hSw; (try dsimp only at hSw); go_simp; (try with_reducible rfl))
              (try simp only [Act.put, List.setIfInBounds_toArray, List.set_cons_zero, List.set_cons_succ])
              refine M_take (v := ?_) 2 rfl (by kernel_rfl) (by assumption) (fun _ _ _ h => h) (Or.inl ⟨by rfl, ?_⟩) ?_
              rotate_left
              · (intro w hSw; (try dsimp only at hSw); go_simp; (try with_reducible rfl))
              (try simp only [Act.put, List.setIfInBounds_toArray, List.set_cons_zero, List.set_cons_succ])
              refine M_take (v := ?_) 3 rfl (by kernel_rfl) (by assumption) (fun _ _ _ h => h) (Or.inl ⟨by rfl, ?_⟩) ?_
              rotate_left
              · (intro w hSw; (try dsimp only at hSw); go_simp; (try with_reducible rfl))
              (try simp only [Act.put, List.setIfInBounds_toArray, List.set_cons_zero, List.set_cons_succ])
              refine M_take (v := ?_) 4 rfl (by kernel_rfl) (by assumption) (fun _ _ _ h => h) (Or.inl ⟨by rfl, ?_⟩) ?_
              rotate_left
              · (intro w hSw; (try dsimp only at hSw); go_simp; (try with_reducible rfl))
              (try simp only [Act.put, List.setIfInBounds_toArray, List.set_cons_zero, List.set_cons_succ])
              refine M_take (v := ?_) 5 rfl (by kernel_rfl) (by assumption) (fun _ _ _ h => h) (Or.inl ⟨by rfl, ?_⟩) ?_
              rotate_left
              · (intro w hSw; (try dsimp only at hSw); go_simp; (try with_reducible rfl))
              (try simp only [Act.put, List.setIfInBounds_toArray, List.set_cons_zero, List.set_cons_succ])
              refine M_take (v := ?_) 6 rfl (by kernel_rfl) (by assumption) (fun _ _ _ h => h) (Or.inl ⟨by rfl, ?_⟩) ?_
              rotate_left
              · (intro w hSw; (try dsimp only at hSw); go_simp; (try with_reducible rfl))
              (try simp only [Act.put, List.setIfInBounds_toArray, List.set_cons_zero, List.set_cons_succ])
              refine M_take (v := ?_) 7 rfl (by kernel_rfl) (by assumption) (fun _ _ _ h => h) (Or.inl ⟨by rfl, ?_⟩) ?_
              rotate_left
              · (intro w hSw; (try dsimp only at hSw); go_simp; (try with_reducible rfl))
              (try simp only [Act.put, List.setIfInBounds_toArray, List.set_cons_zero, List.set_cons_succ])
              refine M_take (v := ?_) 8 rfl (by kernel_rfl) (by assumption) (fun _ _ _ h => h) (Or.inl ⟨by rfl, ?_⟩) ?_
              rotate_left
              · (intro w hSw; (try dsimp only at hSw); go_simp; (try with_reducible rfl))
              (try simp only [Act.put, List.setIfInBounds_toArray, List.set_cons_zero, List.set_cons_succ])
              refine M_take (v := ?_) 9 rfl (by kernel_rfl) (by assumption) (fun _ _ _ h => h) (Or.inl ⟨by rfl, ?_⟩) ?_
              rotate_left
              · (intro w hSw; (try dsimp only at hSw); go_simp; (try with_reducible rfl))
              (try simp only [Act.put, List.setIfInBounds_toArray, List.set_cons_zero, List.set_cons_succ])
              refine M_take (v := ?_) 10 rfl (by kernel_rfl) (by assumption) (fun _ _ _ h => h) (Or.inl ⟨by rfl, ?_⟩) ?_
              rotate_left
              · (intro w hSw; (try dsimp only at hSw); go_simp; (try with_reducible rfl))
              (try simp only [Act.put, List.setIfInBounds_toArray, List.set_cons_zero, List.set_cons_succ])
              refine M_take (v := ?_) 11 rfl (by kernel_rfl) (by assumption) (fun _ _ _ h => h) (Or.inl ⟨by rfl, ?_⟩) ?_
              rotate_left
              · (intro w hSw; (try dsimp only at hSw); go_simp; (try with_reducible rfl))
              (try simp only [Act.put, List.setIfInBounds_toArray, List.set_cons_zero, List.set_cons_succ])
              refine M_take (v := ?_) 12 rfl (by kernel_rfl) (by assumption) (fun _ _ _ h => h) (Or.inl ⟨by rfl, ?_⟩) ?_
              rotate_left
              · (intro w hSw; (try dsimp only at hSw); go_simp; (try with_reducible rfl))
              (try simp only [Act.put, List.setIfInBounds_toArray, List.set_cons_zero, List.set_cons_succ])
              refine M_take (v := ?_) 13 rfl (by kernel_rfl) (by assumption) (fun _ _ _ h => h) (Or.inl ⟨by rfl, ?_⟩) ?_
              rotate_left
              · (intro w hSw; (try dsimp only at hSw); go_simp; (try with_reducible rfl))
              (try simp only [Act.put, List.setIfInBounds_toArray, List.set_cons_zero, List.set_cons_succ])
              refine M_take (v := ?_) 14 rfl (by kernel_rfl) (by assumption) (fun _ _ _ h => h) (Or.inl ⟨by rfl, ?_⟩) ?_
              rotate_left
              · (intro w hSw; (try dsimp only at hSw); go_simp; (try with_reducible rfl))
              (try simp only [Act.put, List.setIfInBounds_toArray, List.set_cons_zero, List.set_cons_succ])
              refine M_take (v := ?_) 15 rfl (by kernel_rfl) (by assumption) (fun _ _ _ h => h) (Or.inl ⟨by rfl, ?_⟩) ?_
              rotate_left
              · (intro w hSw; (try dsimp only at hSw); go_simp; (try with_reducible rfl))
              (try simp only [Act.put, List.setIfInBounds_toArray, List.set_cons_zero, List.set_cons_succ])
              refine M_take 16 rfl (by kernel_rfl) (by assumption) (fun _ _ _ h => h) (Or.inr ⟨by rfl, rfl⟩) ?_
              (try simp only [Act.put, List.setIfInBounds_toArray, List.set_cons_zero, List.set_cons_succ])
              refine M_take 17 rfl (by kernel_rfl) (by assumption) (fun _ _ _ h => h) (Or.inr ⟨by rfl, rfl⟩) ?_
              (try simp only [Act.put, List.setIfInBounds_toArray, List.set_cons_zero, List.set_cons_succ])
              refine M_take 18 rfl (by kernel_rfl) (by assumption) (fun _ _ _ h => h) (Or.inr ⟨by rfl, rfl⟩) ?_
              (try simp only [Act.put, List.setIfInBounds_toArray, List.set_cons_zero, List.set_cons_succ])
              refine M_take 19 rfl (by kernel_rfl) (by assumption) (fun _ _ _ h => h) (Or.inr ⟨by rfl, rfl⟩) ?_
              (try simp only [Act.put, List.setIfInBounds_toArray, List.set_cons_zero, List.set_cons_succ])
              refine M_take 20 rfl (by kernel_rfl) (by assumption) (fun _ _ _ h => h) (Or.inr ⟨by rfl, rfl⟩) ?_
              (try simp only [Act.put, List.setIfInBounds_toArray, List.set_cons_zero, List.set_cons_succ])
              refine M_take 21 rfl (by kernel_rfl) (by assumption) (fun _ _ _ h => h) (Or.inr ⟨by rfl, rfl⟩) ?_
              (try simp only [Act.put, List.setIfInBounds_toArray, List.set_cons_zero, List.set_cons_succ])
              refine M_take 22 rfl (by kernel_rfl) (by assumption) (fun _ _ _ h => h) (Or.inr ⟨by rfl, rfl⟩) ?_
              (try simp only [Act.put, List.setIfInBounds_toArray, List.set_cons_zero, List.set_cons_succ])
              refine M_take 23 rfl (by kernel_rfl) (by assumption) (fun _ _ _ h => h) (Or.inr ⟨by rfl, rfl⟩) ?_
              (try simp only [Act.put, List.setIfInBounds_toArray, List.set_cons_zero, List.set_cons_succ])
              refine M_take 24 rfl (by kernel_rfl) (by assumption) (fun _ _ _ h => h) (Or.inr ⟨by rfl, rfl⟩) ?_
              (try simp only [Act.put, List.setIfInBounds_toArray, List.set_cons_zero, List.set_cons_succ])
              refine M_take 25 rfl (by kernel_rfl) (by assumption) (fun _ _ _ h => h) (Or.inr ⟨by rfl, rfl⟩) ?_
              (try simp only [Act.put, List.setIfInBounds_toArray, List.set_cons_zero, List.set_cons_succ])
              refine M_take 26 rfl (by kernel_rfl) (by assumption) (fun _ _ _ h => h) (Or.inr ⟨by rfl, rfl⟩) ?_
              (try simp only [Act.put, List.setIfInBounds_toArray, List.set_cons_zero, List.set_cons_succ])
              refine M_take 27 rfl (by kernel_rfl) (by assumption) (fun _ _ _ h => h) (Or.inr ⟨by rfl, rfl⟩) ?_
              (try simp only [Act.put, List.setIfInBounds_toArray, List.set_cons_zero, List.set_cons_succ])
              refine M_take 28 rfl (by kernel_rfl) (by assumption) (fun _ _ _ h => h) (Or.inr ⟨by rfl, rfl⟩) ?_
              (try simp only [Act.put, List.setIfInBounds_toArray, List.set_cons_zero, List.set_cons_succ])
              refine M_take 29 rfl (by kernel_rfl) (by assumption) (fun _ _ _ h => h) (Or.inr ⟨by rfl, rfl⟩) ?_
              (try simp only [Act.put, List.setIfInBounds_toArray, List.set_cons_zero, List.set_cons_succ])
              refine M_take (v := ?_) 30 rfl (by kernel_rfl) (by assumption) (fun _ _ _ h => h) (Or.inl ⟨by rfl, ?_⟩) ?_
              rotate_left
              · (intro w hSw; (try dsimp only at hSw); go_simp; (try with_reducible rfl))
              (try simp only [Act.put, List.setIfInBounds_toArray, List.set_cons_zero, List.set_cons_succ])
              refine M_done (by kernel_rfl) ?_ _
              clear hT0 c0 c1 c2 zC s0
              go_wp2_with fail
              go_ret
              exact ⟨rfl, D.out.drew⟩
            have h0 : ¬ a = 0 := fun h => HB3.out ⟨⟨by rw [← HZa.out]; omega, by rw [← HZa.out]; omega⟩, .inl h⟩
            obtain ⟨b, hb1⟩ : ∃ b : Nat, b + 1 = a := ⟨a - 1, by omega⟩
            have hbn : b < n := by omega
            have wb : IntKind.i64.wrap ((a : Int) - 1) = (b : Int) := by rw [show ((a : Int) - 1) = (b : Int) by omega]; exact IntWalk.i64_in _ (by omega)
            obtain ⟨az2, eS2, lS2, s1⟩ := (SS.out w5 D.out).2 b hbn
            rw [eS] at eS2
            cases eS2
            obtain ⟨z2, hz2⟩ : ∃ z, z = Z b := ⟨_, rfl⟩
            rw [← hz2] at s1
            have HZb := Lib.hid hz2
            have hb0 : (0 : Int) ≤ (b : Int) := by omega
            have hbi : (b : Int) < (n : Int) := by omega
            have HB1 := Lib.hid hb1
            clear hz2
            have g4 : z ≤ z2 := by
              by_cases h : z ≤ z2
              · exact h
              · exact absurd ⟨⟨by rw [← HZa.out]; omega, by rw [← HZa.out]; omega⟩, .inr (by rw [← hb1, Nat.add_sub_cancel, hb1, ← HZb.out, ← HZa.out]; omega)⟩ HB3.out
            have d1 : decide (z < 0) = false := decide_eq_false (by omega)
            have d2 : decide (z ≥ (c.m : Int)) = false := decide_eq_false (by omega)
            have d2' : decide ((c.m : Int) ≤ z) = false := d2
            have d3 : decide ((a : Int) > 0) = true := decide_eq_true (by omega)
            have d3' : decide ((0 : Int) < (a : Int)) = true := d3
            have d3n : decide (0 < a) = true := decide_eq_true (by omega)
            have d4 : decide (z ≤ z2) = true := decide_eq_true g4
            clear q1 q2 g4
            clear hb1
            subst eS
            go_wp2_with fail
            refine wp_region_M [] (fun w' => w'.cell? ⟨w.heap.size, 2, none⟩ = some (.slice c.MA c.m c.mc) ∧ w'.cell? (az.add a) = some (.int .i64 z) ∧ w'.cell? (az.add b) = some (.int .i64 z2)) (by kernel_rfl) (by kernel_rfl) (by (try dsimp only); (repeat' apply And.intro); all_goals first | assumption | (go_simp; done)) (fun hT0 => ?_)
            refine M_take (v := ?_) 0 rfl (by kernel_rfl) (by assumption) (fun _ _ _ h => h) (Or.inl ⟨by rfl, ?_⟩) ?_
            rotate_left
            · (intro w hSw; (try dsimp only at hSw); go_simp; (try with_reducible rfl))
            (try simp only [Act.put, List.setIfInBounds_toArray, List.set_cons_zero, List.set_cons_succ])
            refine M_take (v := ?_) 1 rfl (by kernel_rfl) (by assumption) (fun _ _ _ h => h) (Or.inl ⟨by rfl, ?_⟩) ?_
            rotate_left
            · (intro w hSw; (try dsimp only at hSw); go_simp; (try with_reducible rfl))
            (try simp only [Act.put, List.setIfInBounds_toArray, List.set_cons_zero, List.set_cons_succ])
            refine M_take (v := ?_) 2 rfl (by kernel_rfl) (by assumption) (fun _ _ _ h => h) (Or.inl ⟨by rfl, ?_⟩) ?_
            rotate_left
            · (intro w hSw; (try dsimp only at hSw); go_simp; (try with_reducible rfl))
            (try simp only [Act.put, List.setIfInBounds_toArray, List.set_cons_zero, List.set_cons_succ])
            refine M_take (v := ?_) 3 rfl (by kernel_rfl) (by assumption) (fun _ _ _ h => h) (Or.inl ⟨by rfl, ?_⟩) ?_
            rotate_left
            · (intro w hSw; (try dsimp only at hSw); go_simp; (try with_reducible rfl))
            (try simp only [Act.put, List.setIfInBounds_toArray, List.set_cons_zero, List.set_cons_succ])
            refine M_take (v := ?_) 4 rfl (by kernel_rfl) (by assumption) (fun _ _ _ h => h) (Or.inl ⟨by rfl, ?_⟩) ?_
            rotate_left
            · (intro w hSw; (try dsimp only at hSw); go_simp; (try with_reducible rfl))
            (try simp only [Act.put, List.setIfInBounds_toArray, List.set_cons_zero, List.set_cons_succ])
            refine M_take (v := ?_) 5 rfl (by kernel_rfl) (by assumption) (fun _ _ _ h => h) (Or.inl ⟨by rfl, ?_⟩) ?_
            rotate_left
            · (intro w hSw; (try dsimp only at hSw); go_simp; (try with_reducible rfl))
            (try simp only [Act.put, List.setIfInBounds_toArray, List.set_cons_zero, List.set_cons_succ])
            refine M_take (v := ?_) 6 rfl (by kernel_rfl) (by assumption) (fun _ _ _ h => h) (Or.inl ⟨by rfl, ?_⟩) ?_
            rotate_left
            · (intro w hSw; (try dsimp only at hSw); go_simp; (try with_reducible rfl))
            (try simp only [Act.put, List.setIfInBounds_toArray, List.set_cons_zero, List.set_cons_succ])
            refine M_take (v := ?_) 7 rfl (by kernel_rfl) (by assumption) (fun _ _ _ h => h) (Or.inl ⟨by rfl, ?_⟩) ?_
            rotate_left
            · (intro w hSw; (try dsimp only at hSw); go_simp; (try with_reducible rfl))
            (try simp only [Act.put, List.setIfInBounds_toArray, List.set_cons_zero, List.set_cons_succ])
            refine M_take (v := ?_) 8 rfl (by kernel_rfl) (by assumption) (fun _ _ _ h => h) (Or.inl ⟨by rfl, ?_⟩) ?_
            rotate_left
            · (intro w hSw; (try dsimp only at hSw); go_simp; (try with_reducible rfl))
            (try simp only [Act.put, List.setIfInBounds_toArray, List.set_cons_zero, List.set_cons_succ])
            refine M_take (v := ?_) 9 rfl (by kernel_rfl) (by assumption) (fun _ _ _ h => h) (Or.inl ⟨by rfl, ?_⟩) ?_
            rotate_left
            · (intro w hSw; (try dsimp only at hSw); go_simp; (try with_reducible rfl))
            (try simp only [Act.put, List.setIfInBounds_toArray, List.set_cons_zero, List.set_cons_succ])
            refine M_take (v := ?_) 10 rfl (by kernel_rfl) (by assumption) (fun _ _ _ h => h) (Or.inl ⟨by rfl, ?_⟩) ?_
            rotate_left
            · (intro w hSw; (try dsimp only at hSw); go_simp; (try with_reducible rfl))
            (try simp only [Act.put, List.setIfInBounds_toArray, List.set_cons_zero, List.set_cons_succ])
            refine M_take (v := ?_) 11 rfl (by kernel_rfl) (by assumption) (fun _ _ _ h => h) (Or.inl ⟨by rfl, ?_⟩) ?_
            rotate_left
            · (intro w hSw; (try dsimp only at hSw); go_simp; (try with_reducible rfl))
            (try simp only [Act.put, List.setIfInBounds_toArray, List.set_cons_zero, List.set_cons_succ])
            refine M_take (v := ?_) 12 rfl (by kernel_rfl) (by assumption) (fun _ _ _ h => h) (Or.inl ⟨by rfl, ?_⟩) ?_
            rotate_left
            · (intro w hSw; (try dsimp only at hSw); go_simp; (try with_reducible rfl))
            (try simp only [Act.put, List.setIfInBounds_toArray, List.set_cons_zero, List.set_cons_succ])
            refine M_take (v := ?_) 13 rfl (by kernel_rfl) (by assumption) (fun _ _ _ h => h) (Or.inl ⟨by rfl, ?_⟩) ?_
            rotate_left
            · (intro w hSw; (try dsimp only at hSw); go_simp; (try with_reducible rfl))
            (try simp only [Act.put, List.setIfInBounds_toArray, List.set_cons_zero, List.set_cons_succ])
            refine M_take (v := ?_) 14 rfl (by kernel_rfl) (by assumption) (fun _ _ _ h => h) (Or.inl ⟨by rfl, ?_⟩) ?_
            rotate_left
            · (intro w hSw; (try dsimp only at hSw); go_simp; (try with_reducible rfl))
            (try simp only [Act.put, List.setIfInBounds_toArray, List.set_cons_zero, List.set_cons_succ])
            refine M_take (v := ?_) 15 rfl (by kernel_rfl) (by assumption) (fun _ _ _ h => h) (Or.inl ⟨by rfl, ?_⟩) ?_
            rotate_left
            · (intro w hSw; (try dsimp only at hSw); go_simp; (try with_reducible rfl))
            (try simp only [Act.put, List.setIfInBounds_toArray, List.set_cons_zero, List.set_cons_succ])
            refine M_take (v := ?_) 16 rfl (by kernel_rfl) (by assumption) (fun _ _ _ h => h) (Or.inl ⟨by rfl, ?_⟩) ?_
            rotate_left
            · (intro w hSw; (try dsimp only at hSw); go_simp; (try with_reducible rfl))
            (try simp only [Act.put, List.setIfInBounds_toArray, List.set_cons_zero, List.set_cons_succ])
            refine M_take (v := ?_) 17 rfl (by kernel_rfl) (by assumption) (fun _ _ _ h => h) (Or.inl ⟨by rfl, ?_⟩) ?_
            rotate_left
            · (intro w hSw; (try dsimp only at hSw); go_simp; (try with_reducible rfl))
            (try simp only [Act.put, List.setIfInBounds_toArray, List.set_cons_zero, List.set_cons_succ])
            refine M_take (v := ?_) 18 rfl (by kernel_rfl) (by assumption) (fun _ _ _ h => h) (Or.inl ⟨by rfl, ?_⟩) ?_
            rotate_left
            · (intro w hSw; (try dsimp only at hSw); go_simp; (try with_reducible rfl))
            (try simp only [Act.put, List.setIfInBounds_toArray, List.set_cons_zero, List.set_cons_succ])
            refine M_take (v := ?_) 19 rfl (by kernel_rfl) (by assumption) (fun _ _ _ h => h) (Or.inl ⟨by rfl, ?_⟩) ?_
            rotate_left
            · (intro w hSw; (try dsimp only at hSw); go_simp; (try with_reducible rfl))
            (try simp only [Act.put, List.setIfInBounds_toArray, List.set_cons_zero, List.set_cons_succ])
            refine M_take (v := ?_) 20 rfl (by kernel_rfl) (by assumption) (fun _ _ _ h => h) (Or.inl ⟨by rfl, ?_⟩) ?_
            rotate_left
            · (intro w hSw; (try dsimp only at hSw); go_simp; (try with_reducible rfl))
            (try simp only [Act.put, List.setIfInBounds_toArray, List.set_cons_zero, List.set_cons_succ])
            refine M_take (v := ?_) 21 rfl (by kernel_rfl) (by assumption) (fun _ _ _ h => h) (Or.inl ⟨by rfl, ?_⟩) ?_
            rotate_left
            · (intro w hSw; (try dsimp only at hSw); go_simp; (try with_reducible rfl))
            (try simp only [Act.put, List.setIfInBounds_toArray, List.set_cons_zero, List.set_cons_succ])
            refine M_take (v := ?_) 22 rfl (by kernel_rfl) (by assumption) (fun _ _ _ h => h) (Or.inl ⟨by rfl, ?_⟩) ?_
            rotate_left
            · (intro w hSw; (try dsimp only at hSw); go_simp; (try with_reducible rfl))
            (try simp only [Act.put, List.setIfInBounds_toArray, List.set_cons_zero, List.set_cons_succ])
            refine M_take (v := ?_) 23 rfl (by kernel_rfl) (by assumption) (fun _ _ _ h => h) (Or.inl ⟨by rfl, ?_⟩) ?_
            rotate_left
            · (intro w hSw; (try dsimp only at hSw); go_simp; (try with_reducible rfl))
            (try simp only [Act.put, List.setIfInBounds_toArray, List.set_cons_zero, List.set_cons_succ])
            refine M_take (v := ?_) 24 rfl (by kernel_rfl) (by assumption) (fun _ _ _ h => h) (Or.inl ⟨by rfl, ?_⟩) ?_
            rotate_left
            · (intro w hSw; (try dsimp only at hSw); go_simp; (try with_reducible rfl))
            (try simp only [Act.put, List.setIfInBounds_toArray, List.set_cons_zero, List.set_cons_succ])
            refine M_take (v := ?_) 25 rfl (by kernel_rfl) (by assumption) (fun _ _ _ h => h) (Or.inl ⟨by rfl, ?_⟩) ?_
            rotate_left
            · (intro w hSw; (try dsimp only at hSw); go_simp; (try with_reducible rfl))
            (try simp only [Act.put, List.setIfInBounds_toArray, List.set_cons_zero, List.set_cons_succ])
            refine M_take (v := ?_) 26 rfl (by kernel_rfl) (by assumption) (fun _ _ _ h => h) (Or.inl ⟨by rfl, ?_⟩) ?_
            rotate_left
            · (intro w hSw; (try dsimp only at hSw); go_simp; (try with_reducible rfl))
            (try simp only [Act.put, List.setIfInBounds_toArray, List.set_cons_zero, List.set_cons_succ])
            refine M_take (v := ?_) 27 rfl (by kernel_rfl) (by assumption) (fun _ _ _ h => h) (Or.inl ⟨by rfl, ?_⟩) ?_
            rotate_left
            · (intro w hSw; (try dsimp only at hSw); go_simp; (try with_reducible rfl))
            (try simp only [Act.put, List.setIfInBounds_toArray, List.set_cons_zero, List.set_cons_succ])
            refine M_take (v := ?_) 28 rfl (by kernel_rfl) (by assumption) (fun _ _ _ h => h) (Or.inl ⟨by rfl, ?_⟩) ?_
            rotate_left
            · (intro w hSw; (try dsimp only at hSw); go_simp; (try with_reducible rfl))
            (try simp only [Act.put, List.setIfInBounds_toArray, List.set_cons_zero, List.set_cons_succ])
            refine M_take (v := ?_) 29 rfl (by kernel_rfl) (by assumption) (fun _ _ _ h => h) (Or.inl ⟨by rfl, ?_⟩) ?_
            rotate_left
            · (intro w hSw; (try dsimp only at hSw); go_simp; (try with_reducible rfl))
            (try simp only [Act.put, List.setIfInBounds_toArray, List.set_cons_zero, List.set_cons_succ])
            refine M_take (v := ?_) 30 rfl (by kernel_rfl) (by assumption) (fun _ _ _ h => h) (Or.inl ⟨by rfl, ?_⟩) ?_
            rotate_left
            · (intro w hSw; (try dsimp only at hSw); go_simp; (try with_reducible rfl))
            (try simp only [Act.put, List.setIfInBounds_toArray, List.set_cons_zero, List.set_cons_succ])
            refine M_done (by kernel_rfl) ?_ _
            clear hT0 c0 c1 c2 zC s0 s1
            go_wp2_with fail
            go_ret
            exact ⟨rfl, D.out.drew⟩
        · obtain rfl : a = n := by omega
          obtain rfl : j = a := by omega
          have hai : ¬ ((j : Int) < (j : Int)) := by omega
          have HZ : Hid (∀ i, i < j → 0 ≤ Z i ∧ Z i < c.m) := Lib.hid fun i hi => (J2.out i hi).1
          have hW := set_math HDK.out.2.2 (n := j) (Z := Z) HZ.out
          have hRW : R = !(withB j Z L L.length) := by
            apply Bool.eq_iff_iff.2
            rw [HR.out, hW, ← withB_iff (n := j) (Z := Z)]
            cases withB j Z L L.length <;> simp
          have HRW := Lib.hid hRW
          have KE : Hid (∀ W, Below w.heap.size w W → Calls Try.prog 70 #[.slice c.MA c.m c.mc, .slice S j sc] W fun e w' => ∃ B kc N H, e = .returned (.slice B N kc) ∧ (FeR c.d N H R 0 ∧ TrsIn B N H w'.heap.size w') ∧ Below W.heap.size W w') := Lib.hid fun W h => (pick_any c.MA S c.m j c.mc sc c.F Z W (CC.out W h).2 (SS.out W h) (by omega) (by omega)).mono fun e w' ⟨B, kc, h1, h2, h3⟩ => ⟨B, kc, _, _, h1, ⟨.inr ⟨rfl, HDK.out.1, pkL_ok HDK.out.2.1 (by omega) HZ.out, HR.out⟩, h2⟩, h3⟩
          clear hW hRW hlt j1 ha
          have Dw5 := Lib.hid D.out
          go_wp2_with fail
          clear c0 c1 c2 zC
          go_loopw [9, 10, 11, 12, 13, 14, 15] (fun vw vi va vk vr vo vf wr => ∃ a : Nat, a ≤ L.length ∧ vi = .int .i64 (a : Int) ∧ vw = .bool (withB j Z L a) ∧ Below w5.heap.size w5 wr) (fun _ vi _ _ _ _ _ _ => L.length - (intOf vi).toNat)
          case atStart => exact ⟨0, Nat.zero_le _, rfl, rfl, Below.refl _ _⟩
          case round =>
            obtain ⟨a, ha, rfl, rfl, hb⟩ := hrel
            obtain ⟨w6, rfl⟩ : ∃ w6 : World, w6 = wr := ⟨_, rfl⟩
            have B6 := Lib.hid hb
            have D := Lib.hid (nextB Dw5.out hb)
            have D4 := Lib.hid (nextB D5.out hb)
            have C := Lib.hid (C.out.up hb)
            have ha0 : (0 : Int) ≤ (a : Int) := by omega
            clear hb
            by_cases hlt : a < L.length
            · have hai : (a : Int) < (L.length : Int) := by omega
              obtain ⟨x, ad, A1, c1', hxL, hxa, eA, lA, p0, hxi, hcap⟩ := (LA.out w6 D4.out).at hlt
              have HWS := Lib.hid (withB_succ (n := j) (Z := Z) hxa)
              have hx2 := HXL.out.1 x hxL
              have HCAP := Lib.hid hcap
              have XI : Hid (∀ W, Below w6.heap.size w6 W → LiIn A1 x W) := Lib.hid fun W h => hxi.up h
              have PT : Hid (∀ W, Below w6.heap.size w6 W → W.cell? (ad.add a) = some (.slice A1 x.length c1')) := Lib.hid fun W h => cellA_of h p0
              have KF1 := Lib.hid (fun A' c' k => KF.out A' c' x k hxL)
              have wa : IntKind.i64.wrap ((a : Int) + 1) = ((a + 1 : Nat) : Int) := by rw [show ((a : Int) + 1) = ((a + 1 : Nat) : Int) by omega]; exact IntWalk.i64_in _ (by omega)
              have WA := Lib.hid wa
              subst eA
              clear hxi wa lA hxa hcap hxL
              go_wp2_with fail
              clear p0
              go_loopw [11, 12, 13, 14, 15] (fun va vk vr vo vf wr => ∃ e : Nat, e ≤ x.length ∧ vk = .int .i64 (e : Int) ∧ va = .bool (allB j Z x e) ∧ Below w6.heap.size w6 wr) (fun _ vk _ _ _ _ => x.length - (intOf vk).toNat)
              case atStart => exact ⟨0, Nat.zero_le _, rfl, rfl, Below.refl _ _⟩
              case round =>
                obtain ⟨e, hel, rfl, rfl, hb⟩ := hrel
                obtain ⟨w7, rfl⟩ : ∃ w7 : World, w7 = wr := ⟨_, rfl⟩
                have B7 := Lib.hid hb
                have D7 := Lib.hid (nextB D.out hb)
                have C := Lib.hid (C.out.up hb)
                clear hb
                have he0 : (0 : Int) ≤ (e : Int) := by omega
                have p0 := PT.out w7 B7.out
                by_cases hle : e < x.length
                · have hei : (e : Int) < (x.length : Int) := by omega
                  obtain ⟨ay, ey, ly, y0⟩ := (XI.out w7 B7.out).2 e hle
                  subst ey
                  have hcap : x.length ≤ c1' := HCAP.out (by omega)
                  have hcapi : (x.length : Int) ≤ (c1' : Int) := by omega
                  have hec : (e : Int) ≤ (c1' : Int) := by omega
                  have hec1 : (e : Int) + 1 ≤ (c1' : Int) := by omega
                  have he1 : (e : Int) + 1 ≤ (x.length : Int) := by omega
                  have he10 : (0 : Int) ≤ (e : Int) + 1 := by omega
                  have we : IntKind.i64.wrap ((e : Int) + 1) = ((e + 1 : Nat) : Int) := by rw [show ((e : Int) + 1) = ((e + 1 : Nat) : Int) by omega]; exact IntWalk.i64_in _ (by omega)
                  have WE := Lib.hid we
                  have HC : Hid (Calls Try.prog 69 #[.slice S j sc, .int .i64 (x.getD e 0)] w7 fun e5 w' => e5 = .returned (.bool ((List.range j).any (fun a => Z a == x.getD e 0))) ∧ w' = w7) := Lib.hid (has_any S j sc Z _ _ w7 (SS.out _ D7.out) (any_iff j _ _))
                  have HN := Lib.hid (allB_succ j Z x e)
                  generalize (List.range j).any (fun a => Z a == x.getD e 0) = gq at HC HN
                  simp only at y0
                  generalize x.getD e 0 = y at y0 HC
                  clear we ly
                  have PQ : Hid (∀ W, Below w7.heap.size w7 W → LiIn (some ay) x W) := Lib.hid fun W h => XI.out W (nextB B7.out h)
                  have P7 : Hid (∀ W, Below w7.heap.size w7 W → W.cell? (ad.add a) = some (.slice (some ay) x.length c1')) := Lib.hid fun W h => PT.out W (nextB B7.out h)
                  obtain ⟨i0, hi0, hz0, hz1, hz2⟩ := info_parts Try.infoInt
                  obtain ⟨zz, hzz, hcut⟩ := li_cut2 ay hcap e
                  have HCUT := Lib.hid hcut
                  have HZZ := Lib.hid hzz
                  clear hcut hzz
                  cases hh : allB j Z x e with
                  | true =>
                    rw [hh] at HN
                    clear hh
                    go_wp2_with fail
                    refine HC.out.mono ?_
                    rintro e5 w11 ⟨rfl, hw11⟩
                    rw [hw11]
                    clear hw11 w11
                    go_wp2_with fail
                    clear y0
                    have we := WE.out
                    refine wp_region_M [] (fun w' => w'.cell? (ad.add a) = some (.slice (some ay) x.length c1')) (by kernel_rfl) (by kernel_rfl) (by (try dsimp only); (repeat' apply And.intro); all_goals first | assumption | (go_simp; done)) (fun hT0 => ?_)
                    refine M_take (v := ?_) 1 rfl (by kernel_rfl) (by assumption) (fun _ _ _ h => h) (Or.inl ⟨by rfl, ?_⟩) ?_
                    rotate_left
                    · (intro w hSw; (try dsimp only at hSw); go_simp; (try with_reducible rfl))
                    (try simp only [Act.put, List.setIfInBounds_toArray, List.set_cons_zero, List.set_cons_succ])
                    refine M_take (v := ?_) 2 rfl (by kernel_rfl) (by assumption) (fun _ _ _ h => h) (Or.inl ⟨by rfl, ?_⟩) ?_
                    rotate_left
                    · (intro w hSw; (try dsimp only at hSw); go_simp; (try with_reducible rfl))
                    (try simp only [Act.put, List.setIfInBounds_toArray, List.set_cons_zero, List.set_cons_succ])
                    refine M_take (v := ?_) 3 rfl (by kernel_rfl) (by assumption) (fun _ _ _ h => h) (Or.inl ⟨by rfl, ?_⟩) ?_
                    rotate_left
                    · (intro w hSw; (try dsimp only at hSw); go_simp; (try with_reducible rfl))
                    (try simp only [Act.put, List.setIfInBounds_toArray, List.set_cons_zero, List.set_cons_succ])
                    refine M_take (v := ?_) 4 rfl (by kernel_rfl) (by assumption) (fun _ _ _ h => h) (Or.inl ⟨by rfl, ?_⟩) ?_
                    rotate_left
                    · (intro w hSw; (try dsimp only at hSw); go_simp; (try with_reducible rfl))
                    (try simp only [Act.put, List.setIfInBounds_toArray, List.set_cons_zero, List.set_cons_succ])
                    refine M_take (v := ?_) 5 rfl (by kernel_rfl) (by assumption) (fun _ _ _ h => h) (Or.inl ⟨by rfl, ?_⟩) ?_
                    rotate_left
                    · (intro w hSw; (try dsimp only at hSw); go_simp; (try with_reducible rfl))
                    (try simp only [Act.put, List.setIfInBounds_toArray, List.set_cons_zero, List.set_cons_succ])
                    refine M_take (v := ?_) 6 rfl (by kernel_rfl) (by assumption) (fun _ _ _ h => h) (Or.inl ⟨by rfl, ?_⟩) ?_
                    rotate_left
                    · (intro w hSw; (try dsimp only at hSw); go_simp; (try with_reducible rfl))
                    (try simp only [Act.put, List.setIfInBounds_toArray, List.set_cons_zero, List.set_cons_succ])
                    refine M_take (v := ?_) 8 rfl (by kernel_rfl) (by assumption) (fun _ _ _ h => h) (Or.inl ⟨by rfl, ?_⟩) ?_
                    rotate_left
                    · (intro w hSw; (try dsimp only at hSw); go_simp; (try with_reducible rfl))
                    (try simp only [Act.put, List.setIfInBounds_toArray, List.set_cons_zero, List.set_cons_succ])
                    refine M_take (v := ?_) 9 rfl (by kernel_rfl) (by assumption) (fun _ _ _ h => h) (Or.inl ⟨by rfl, ?_⟩) ?_
                    rotate_left
                    · (intro w hSw; (try dsimp only at hSw); go_simp; (try with_reducible rfl))
                    (try simp only [Act.put, List.setIfInBounds_toArray, List.set_cons_zero, List.set_cons_succ])
                    refine M_take (v := ?_) 10 rfl (by kernel_rfl) (by assumption) (fun _ _ _ h => h) (Or.inl ⟨by rfl, ?_⟩) ?_
                    rotate_left
                    · (intro w hSw; (try dsimp only at hSw); go_simp; (try with_reducible rfl))
                    (try simp only [Act.put, List.setIfInBounds_toArray, List.set_cons_zero, List.set_cons_succ])
                    refine M_take (v := ?_) 11 rfl (by kernel_rfl) (by assumption) (fun _ _ _ h => h) (Or.inl ⟨by rfl, ?_⟩) ?_
                    rotate_left
                    · (intro w hSw; (try dsimp only at hSw); go_simp; (try with_reducible rfl))
                    (try simp only [Act.put, List.setIfInBounds_toArray, List.set_cons_zero, List.set_cons_succ])
                    refine M_take (v := ?_) 12 rfl (by kernel_rfl) (by assumption) (fun _ _ _ h => h) (Or.inl ⟨by rfl, ?_⟩) ?_
                    rotate_left
                    · (intro w hSw; (try dsimp only at hSw); go_simp; (try with_reducible rfl))
                    (try simp only [Act.put, List.setIfInBounds_toArray, List.set_cons_zero, List.set_cons_succ])
                    refine M_take (v := ?_) 13 rfl (by kernel_rfl) (by assumption) (fun _ _ _ h => h) (Or.inl ⟨by rfl, ?_⟩) ?_
                    rotate_left
                    · (intro w hSw; (try dsimp only at hSw); go_simp; (try with_reducible rfl))
                    (try simp only [Act.put, List.setIfInBounds_toArray, List.set_cons_zero, List.set_cons_succ])
                    refine M_take (v := ?_) 14 rfl (by kernel_rfl) (by assumption) (fun _ _ _ h => h) (Or.inl ⟨by rfl, ?_⟩) ?_
                    rotate_left
                    · (intro w hSw; (try dsimp only at hSw); go_simp; (try with_reducible rfl))
                    (try simp only [Act.put, List.setIfInBounds_toArray, List.set_cons_zero, List.set_cons_succ])
                    refine M_step 0 rfl (by kernel_rfl) (fun K hK => ?_)
                    go_simp
                    have D2 := Lib.hid (show Below w7.heap.size w7 (w7.drew.alloc (.cells #[] 3)) from nextB (Below.refl _ _).drew (box1 w7.drew _))
                    have hT2 : (fun w' => w'.cell? (ad.add a) = some (.slice (some ay) x.length c1')) (w7.drew.alloc (.cells #[] 3)) := P7.out _ D2.out
                    have ho2 : (w7.drew.alloc (.cells #[] 3)).ownsRow w7.heap.size 3 1 (.slice (some ⟨w7.heap.size, 0, none⟩) 0 0) 0 [] := own_empty w7.drew _ _
                    refine hK.out _ _ (fun _ => hT2) ?_
                    clear hK K
                    (try simp only [Act.put, List.setIfInBounds_toArray, List.set_cons_zero, List.set_cons_succ])
                    refine M_step 7 rfl (by kernel_rfl) (fun K hK => ?_)
                    refine step_append_own rfl (.tmp 113) (.tmp 119) 29 rfl w7.heap.size 3 i0 (.int .i64 0) 1 8 Try.underlying29 hi0 hz0 hz1 hz2 rfl (by decide) _ 0 [] (by simp [Act.eval]; first | done | rfl) ho2 ay e c1' (intsZ (x.take e)) (by simp [Act.eval]; first | done | exact HZZ.out | rfl) (by simp [intsZ]; try omega) (((li_cut (PQ.out _ D2.out) e).1)) (intsZ_one _) (by unfold maxLen; omega) (by omega) D2.out.size ?_
                    intro v1 w2 hown1 hg1
                    have D3 := Lib.hid (D2.out.grown hg1 D2.out.size (fun r e => (own_block ho2 e).1))
                    have hT3 : (fun w' => w'.cell? (ad.add a) = some (.slice (some ay) x.length c1')) w2 := P7.out _ D3.out
                    refine hK.out _ _ (fun _ => hT3) ?_
                    clear hK K hg1 ho2
                    (try simp only [Act.put, List.setIfInBounds_toArray, List.set_cons_zero, List.set_cons_succ])
                    rw [HZZ.out]
                    refine M_step 15 rfl (by kernel_rfl) (fun K hK => ?_)
                    refine step_append_own rfl (.tmp 120) (.tmp 127) 29 rfl w7.heap.size 3 i0 (.int .i64 0) 1 8 Try.underlying29 hi0 hz0 hz1 hz2 rfl (by decide) _ _ _ (by simp [Act.eval]; first | done | rfl) hown1 zz (x.length - (e + 1)) (c1' - (e + 1)) (intsZ (x.drop (e + 1))) (by simp [Act.eval]; first | done | exact HZZ.out | rfl) (by simp [intsZ]; try omega) ((HCUT.out _ (PQ.out _ D3.out))) (intsZ_one _) (by unfold maxLen; omega) (by omega) D3.out.size ?_
                    intro v2 w3 hown2 hg2
                    have D4 := Lib.hid (D3.out.grown hg2 D3.out.size (fun r e => (own_block hown1 e).1))
                    have hT4 : (fun w' => w'.cell? (ad.add a) = some (.slice (some ay) x.length c1')) w3 := P7.out _ D4.out
                    have hown3 : w3.ownsRow w7.heap.size 3 1 v2 (dropK x e).length (intsZ (dropK x e)) := by
                      rw [dropK_len hle]
                      unfold dropK
                      rw [show intsZ (x.take e ++ x.drop (e + 1)) = intsZ (x.take e) ++ intsZ (x.drop (e + 1)) by simp [intsZ]]
                      rw [Nat.zero_add, List.nil_append] at hown2
                      exact hown2
                    obtain ⟨A2, k2, rfl, hi2⟩ := row_ints hown3 (by have := dropK_len hle; omega)
                    have HI2 := Lib.hid hi2
                    refine hK.out _ _ (fun _ => hT4) ?_
                    clear hK K hg2 hown2 hown3 hi2 hown1
                    (try simp only [Act.put, List.setIfInBounds_toArray, List.set_cons_zero, List.set_cons_succ])
                    refine M_step 16 rfl (by kernel_rfl) (fun K hK => ?_)
                    go_simp
                    refine hK.out _ _ (fun _ => by assumption) ?_
                    clear hK K
                    (try simp only [Act.put, List.setIfInBounds_toArray, List.set_cons_zero, List.set_cons_succ])
                    refine M_done (by kernel_rfl) ?_ _
                    clear hT0 hT2 hT3 hT4 p0
                    have D8 := Lib.hid (nextB D7.out D4.out)
                    have C := Lib.hid (C.out.up D4.out)
                    have KF2 := Lib.hid (KF1.out A2 k2 e hle)
                    obtain ⟨c0, c1, c2⟩ := C.out
                    have zC := C.out.lt
                    generalize (dropK x e).length = q2 at KF2 HI2 ⊢
                    have CT : Hid (∀ W, Below w3.heap.size w3 W → W.cell? ⟨w.heap.size, 0, none⟩ = some (.slice c.d.RA c.d.n c.d.rc) ∧ W.cell? ⟨w.heap.size, 1, none⟩ = some (.slice c.d.SA c.d.m c.d.sc) ∧ W.cell? ⟨w.heap.size, 2, none⟩ = some (.slice c.MA c.m c.mc)) := Lib.hid fun W h => ⟨cell_up h zC c0, cell_up h zC c1, cell_up h zC c2⟩
                    go_wp2_with fail
                    refine wp_region_M [] (fun w' => w'.cell? ⟨w.heap.size, 0, none⟩ = some (.slice c.d.RA c.d.n c.d.rc) ∧ w'.cell? ⟨w.heap.size, 1, none⟩ = some (.slice c.d.SA c.d.m c.d.sc) ∧ w'.cell? ⟨w.heap.size, 2, none⟩ = some (.slice c.MA c.m c.mc)) (by kernel_rfl) (by kernel_rfl) (by (try dsimp only); (repeat' apply And.intro); all_goals first | assumption | (go_simp; done)) (fun hT0 => ?_)
                    refine M_take (v := ?_) 0 rfl (by kernel_rfl) (by assumption) (fun _ _ _ h => h) (Or.inl ⟨by rfl, ?_⟩) ?_
                    rotate_left
                    · (intro w hSw; (try dsimp only at hSw); go_simp; (try with_reducible rfl))
                    (try simp only [Act.put, List.setIfInBounds_toArray, List.set_cons_zero, List.set_cons_succ])
                    refine M_take (v := ?_) 1 rfl (by kernel_rfl) (by assumption) (fun _ _ _ h => h) (Or.inl ⟨by rfl, ?_⟩) ?_
                    rotate_left
                    · (intro w hSw; (try dsimp only at hSw); go_simp; (try with_reducible rfl))
                    (try simp only [Act.put, List.setIfInBounds_toArray, List.set_cons_zero, List.set_cons_succ])
                    refine M_take (v := ?_) 2 rfl (by kernel_rfl) (by assumption) (fun _ _ _ h => h) (Or.inl ⟨by rfl, ?_⟩) ?_
                    rotate_left
                    · (intro w hSw; (try dsimp only at hSw); go_simp; (try with_reducible rfl))
                    (try simp only [Act.put, List.setIfInBounds_toArray, List.set_cons_zero, List.set_cons_succ])
                    refine M_take (v := ?_) 3 rfl (by kernel_rfl) (by assumption) (fun _ _ _ h => h) (Or.inl ⟨by rfl, ?_⟩) ?_
                    rotate_left
                    · (intro w hSw; (try dsimp only at hSw); go_simp; (try with_reducible rfl))
                    (try simp only [Act.put, List.setIfInBounds_toArray, List.set_cons_zero, List.set_cons_succ])
                    refine M_take (v := ?_) 4 rfl (by kernel_rfl) (by assumption) (fun _ _ _ h => h) (Or.inl ⟨by rfl, ?_⟩) ?_
                    rotate_left
                    · (intro w hSw; (try dsimp only at hSw); go_simp; (try with_reducible rfl))
                    (try simp only [Act.put, List.setIfInBounds_toArray, List.set_cons_zero, List.set_cons_succ])
                    refine M_step 5 rfl (by kernel_rfl) (fun K hK => ?_)
                    go_simp
                    go_at_call 70
                    refine (KF2.out _ (nextB D8.out (Below.refl _ _).drew) (by exact (IntsIn.up HI2.out (Below.refl _ _).drew (Nat.le_refl _)).more (Nat.le_refl _))).mono ?_
                    rintro e8 w8 ⟨B8, k8, N8, H8, rfl, hF8, hb8⟩
                    have B8' := Lib.hid (show Below w3.heap.size w3 w8 from nextB (Below.refl _ _).drew hb8)
                    have F8 := Lib.hid hF8
                    have hT8 : (fun w' => w'.cell? ⟨w.heap.size, 0, none⟩ = some (.slice c.d.RA c.d.n c.d.rc) ∧ w'.cell? ⟨w.heap.size, 1, none⟩ = some (.slice c.d.SA c.d.m c.d.sc) ∧ w'.cell? ⟨w.heap.size, 2, none⟩ = some (.slice c.MA c.m c.mc)) w8 := CT.out w8 B8'.out
                    clear hb8 hF8
                    refine hK.out _ _ (fun _ => hT8) ?_
                    clear hK K
                    (try simp only [Act.put, List.setIfInBounds_toArray, List.set_cons_zero, List.set_cons_succ])
                    refine M_step 6 rfl (by kernel_rfl) (fun K hK => ?_)
                    go_simp
                    go_at_call 33
                    refine (Feasible_any c.d B8 N8 k8 H8 true 0 w8 (CC.out w8 (nextB D8.out B8'.out)).1 F8.out.2 F8.out.1).mono ?_
                    rintro e9 w9 ⟨rfl, hb9⟩
                    have B9 := Lib.hid (nextB B8'.out hb9)
                    have hT9 : (fun w' => w'.cell? ⟨w.heap.size, 0, none⟩ = some (.slice c.d.RA c.d.n c.d.rc) ∧ w'.cell? ⟨w.heap.size, 1, none⟩ = some (.slice c.d.SA c.d.m c.d.sc) ∧ w'.cell? ⟨w.heap.size, 2, none⟩ = some (.slice c.MA c.m c.mc)) w9 := CT.out w9 B9.out
                    clear hb9
                    refine hK.out _ _ (fun _ => hT9) ?_
                    clear hK K
                    (try simp only [Act.put, List.setIfInBounds_toArray, List.set_cons_zero, List.set_cons_succ])
                    refine M_take (v := ?_) 7 rfl (by kernel_rfl) (by assumption) (fun _ _ _ h => h) (Or.inl ⟨by rfl, ?_⟩) ?_
                    rotate_left
                    · (intro w hSw; (try dsimp only at hSw); go_simp; (try with_reducible rfl))
                    (try simp only [Act.put, List.setIfInBounds_toArray, List.set_cons_zero, List.set_cons_succ])
                    refine M_take (v := ?_) 8 rfl (by kernel_rfl) (by assumption) (fun _ _ _ h => h) (Or.inl ⟨by rfl, ?_⟩) ?_
                    rotate_left
                    · (intro w hSw; (try dsimp only at hSw); go_simp; (try with_reducible rfl))
                    (try simp only [Act.put, List.setIfInBounds_toArray, List.set_cons_zero, List.set_cons_succ])
                    refine M_take (v := ?_) 9 rfl (by kernel_rfl) (by assumption) (fun _ _ _ h => h) (Or.inl ⟨by rfl, ?_⟩) ?_
                    rotate_left
                    · (intro w hSw; (try dsimp only at hSw); go_simp; (try with_reducible rfl))
                    (try simp only [Act.put, List.setIfInBounds_toArray, List.set_cons_zero, List.set_cons_succ])
                    refine M_step 10 rfl (by kernel_rfl) (fun K hK => ?_)
                    go_simp
                    refine hK.out _ _ (fun _ => by assumption) ?_
                    clear hK K
                    (try simp only [Act.put, List.setIfInBounds_toArray, List.set_cons_zero, List.set_cons_succ])
                    refine M_step 11 rfl (by kernel_rfl) (fun K hK => ?_)
                    go_simp
                    refine hK.out _ _ (fun _ => by assumption) ?_
                    clear hK K
                    (try simp only [Act.put, List.setIfInBounds_toArray, List.set_cons_zero, List.set_cons_succ])
                    refine M_done (by kernel_rfl) ?_ _
                    clear hT0 hT8 hT9 c0 c1 c2 zC
                    have we := WE.out
                    go_wp2_with fail
                    go_roundw
                    case rel => exact ⟨e + 1, by omega, by first | rfl | go_num, by rw [HN.out]; rfl, nextB B7.out (nextB D4.out B9.out)⟩
                    case measure => (simp [intOf] <;> omega)
                  | false =>
                    rw [hh] at HN
                    clear hh
                    go_wp2_with fail
                    clear y0
                    have we := WE.out
                    refine wp_region_M [] (fun w' => w'.cell? (ad.add a) = some (.slice (some ay) x.length c1')) (by kernel_rfl) (by kernel_rfl) (by (try dsimp only); (repeat' apply And.intro); all_goals first | assumption | (go_simp; done)) (fun hT0 => ?_)
                    refine M_take (v := ?_) 1 rfl (by kernel_rfl) (by assumption) (fun _ _ _ h => h) (Or.inl ⟨by rfl, ?_⟩) ?_
                    rotate_left
                    · (intro w hSw; (try dsimp only at hSw); go_simp; (try with_reducible rfl))
                    (try simp only [Act.put, List.setIfInBounds_toArray, List.set_cons_zero, List.set_cons_succ])
                    refine M_take (v := ?_) 2 rfl (by kernel_rfl) (by assumption) (fun _ _ _ h => h) (Or.inl ⟨by rfl, ?_⟩) ?_
                    rotate_left
                    · (intro w hSw; (try dsimp only at hSw); go_simp; (try with_reducible rfl))
                    (try simp only [Act.put, List.setIfInBounds_toArray, List.set_cons_zero, List.set_cons_succ])
                    refine M_take (v := ?_) 3 rfl (by kernel_rfl) (by assumption) (fun _ _ _ h => h) (Or.inl ⟨by rfl, ?_⟩) ?_
                    rotate_left
                    · (intro w hSw; (try dsimp only at hSw); go_simp; (try with_reducible rfl))
                    (try simp only [Act.put, List.setIfInBounds_toArray, List.set_cons_zero, List.set_cons_succ])
                    refine M_take (v := ?_) 4 rfl (by kernel_rfl) (by assumption) (fun _ _ _ h => h) (Or.inl ⟨by rfl, ?_⟩) ?_
                    rotate_left
                    · (intro w hSw; (try dsimp only at hSw); go_simp; (try with_reducible rfl))
                    (try simp only [Act.put, List.setIfInBounds_toArray, List.set_cons_zero, List.set_cons_succ])
                    refine M_take (v := ?_) 5 rfl (by kernel_rfl) (by assumption) (fun _ _ _ h => h) (Or.inl ⟨by rfl, ?_⟩) ?_
                    rotate_left
                    · (intro w hSw; (try dsimp only at hSw); go_simp; (try with_reducible rfl))
                    (try simp only [Act.put, List.setIfInBounds_toArray, List.set_cons_zero, List.set_cons_succ])
                    refine M_take (v := ?_) 6 rfl (by kernel_rfl) (by assumption) (fun _ _ _ h => h) (Or.inl ⟨by rfl, ?_⟩) ?_
                    rotate_left
                    · (intro w hSw; (try dsimp only at hSw); go_simp; (try with_reducible rfl))
                    (try simp only [Act.put, List.setIfInBounds_toArray, List.set_cons_zero, List.set_cons_succ])
                    refine M_take (v := ?_) 8 rfl (by kernel_rfl) (by assumption) (fun _ _ _ h => h) (Or.inl ⟨by rfl, ?_⟩) ?_
                    rotate_left
                    · (intro w hSw; (try dsimp only at hSw); go_simp; (try with_reducible rfl))
                    (try simp only [Act.put, List.setIfInBounds_toArray, List.set_cons_zero, List.set_cons_succ])
                    refine M_take (v := ?_) 9 rfl (by kernel_rfl) (by assumption) (fun _ _ _ h => h) (Or.inl ⟨by rfl, ?_⟩) ?_
                    rotate_left
                    · (intro w hSw; (try dsimp only at hSw); go_simp; (try with_reducible rfl))
                    (try simp only [Act.put, List.setIfInBounds_toArray, List.set_cons_zero, List.set_cons_succ])
                    refine M_take (v := ?_) 10 rfl (by kernel_rfl) (by assumption) (fun _ _ _ h => h) (Or.inl ⟨by rfl, ?_⟩) ?_
                    rotate_left
                    · (intro w hSw; (try dsimp only at hSw); go_simp; (try with_reducible rfl))
                    (try simp only [Act.put, List.setIfInBounds_toArray, List.set_cons_zero, List.set_cons_succ])
                    refine M_take (v := ?_) 11 rfl (by kernel_rfl) (by assumption) (fun _ _ _ h => h) (Or.inl ⟨by rfl, ?_⟩) ?_
                    rotate_left
                    · (intro w hSw; (try dsimp only at hSw); go_simp; (try with_reducible rfl))
                    (try simp only [Act.put, List.setIfInBounds_toArray, List.set_cons_zero, List.set_cons_succ])
                    refine M_take (v := ?_) 12 rfl (by kernel_rfl) (by assumption) (fun _ _ _ h => h) (Or.inl ⟨by rfl, ?_⟩) ?_
                    rotate_left
                    · (intro w hSw; (try dsimp only at hSw); go_simp; (try with_reducible rfl))
                    (try simp only [Act.put, List.setIfInBounds_toArray, List.set_cons_zero, List.set_cons_succ])
                    refine M_take (v := ?_) 13 rfl (by kernel_rfl) (by assumption) (fun _ _ _ h => h) (Or.inl ⟨by rfl, ?_⟩) ?_
                    rotate_left
                    · (intro w hSw; (try dsimp only at hSw); go_simp; (try with_reducible rfl))
                    (try simp only [Act.put, List.setIfInBounds_toArray, List.set_cons_zero, List.set_cons_succ])
                    refine M_take (v := ?_) 14 rfl (by kernel_rfl) (by assumption) (fun _ _ _ h => h) (Or.inl ⟨by rfl, ?_⟩) ?_
                    rotate_left
                    · (intro w hSw; (try dsimp only at hSw); go_simp; (try with_reducible rfl))
                    (try simp only [Act.put, List.setIfInBounds_toArray, List.set_cons_zero, List.set_cons_succ])
                    refine M_step 0 rfl (by kernel_rfl) (fun K hK => ?_)
                    go_simp
                    have D2 := Lib.hid (show Below w7.heap.size w7 (w7.drew.alloc (.cells #[] 3)) from nextB (Below.refl _ _).drew (box1 w7.drew _))
                    have hT2 : (fun w' => w'.cell? (ad.add a) = some (.slice (some ay) x.length c1')) (w7.drew.alloc (.cells #[] 3)) := P7.out _ D2.out
                    have ho2 : (w7.drew.alloc (.cells #[] 3)).ownsRow w7.heap.size 3 1 (.slice (some ⟨w7.heap.size, 0, none⟩) 0 0) 0 [] := own_empty w7.drew _ _
                    refine hK.out _ _ (fun _ => hT2) ?_
                    clear hK K
                    (try simp only [Act.put, List.setIfInBounds_toArray, List.set_cons_zero, List.set_cons_succ])
                    refine M_step 7 rfl (by kernel_rfl) (fun K hK => ?_)
                    refine step_append_own rfl (.tmp 113) (.tmp 119) 29 rfl w7.heap.size 3 i0 (.int .i64 0) 1 8 Try.underlying29 hi0 hz0 hz1 hz2 rfl (by decide) _ 0 [] (by simp [Act.eval]; first | done | rfl) ho2 ay e c1' (intsZ (x.take e)) (by simp [Act.eval]; first | done | exact HZZ.out | rfl) (by simp [intsZ]; try omega) (((li_cut (PQ.out _ D2.out) e).1)) (intsZ_one _) (by unfold maxLen; omega) (by omega) D2.out.size ?_
                    intro v1 w2 hown1 hg1
                    have D3 := Lib.hid (D2.out.grown hg1 D2.out.size (fun r e => (own_block ho2 e).1))
                    have hT3 : (fun w' => w'.cell? (ad.add a) = some (.slice (some ay) x.length c1')) w2 := P7.out _ D3.out
                    refine hK.out _ _ (fun _ => hT3) ?_
                    clear hK K hg1 ho2
                    (try simp only [Act.put, List.setIfInBounds_toArray, List.set_cons_zero, List.set_cons_succ])
                    rw [HZZ.out]
                    refine M_step 15 rfl (by kernel_rfl) (fun K hK => ?_)
                    refine step_append_own rfl (.tmp 120) (.tmp 127) 29 rfl w7.heap.size 3 i0 (.int .i64 0) 1 8 Try.underlying29 hi0 hz0 hz1 hz2 rfl (by decide) _ _ _ (by simp [Act.eval]; first | done | rfl) hown1 zz (x.length - (e + 1)) (c1' - (e + 1)) (intsZ (x.drop (e + 1))) (by simp [Act.eval]; first | done | exact HZZ.out | rfl) (by simp [intsZ]; try omega) ((HCUT.out _ (PQ.out _ D3.out))) (intsZ_one _) (by unfold maxLen; omega) (by omega) D3.out.size ?_
                    intro v2 w3 hown2 hg2
                    have D4 := Lib.hid (D3.out.grown hg2 D3.out.size (fun r e => (own_block hown1 e).1))
                    have hT4 : (fun w' => w'.cell? (ad.add a) = some (.slice (some ay) x.length c1')) w3 := P7.out _ D4.out
                    have hown3 : w3.ownsRow w7.heap.size 3 1 v2 (dropK x e).length (intsZ (dropK x e)) := by
                      rw [dropK_len hle]
                      unfold dropK
                      rw [show intsZ (x.take e ++ x.drop (e + 1)) = intsZ (x.take e) ++ intsZ (x.drop (e + 1)) by simp [intsZ]]
                      rw [Nat.zero_add, List.nil_append] at hown2
                      exact hown2
                    obtain ⟨A2, k2, rfl, hi2⟩ := row_ints hown3 (by have := dropK_len hle; omega)
                    have HI2 := Lib.hid hi2
                    refine hK.out _ _ (fun _ => hT4) ?_
                    clear hK K hg2 hown2 hown3 hi2 hown1
                    (try simp only [Act.put, List.setIfInBounds_toArray, List.set_cons_zero, List.set_cons_succ])
                    refine M_step 16 rfl (by kernel_rfl) (fun K hK => ?_)
                    go_simp
                    refine hK.out _ _ (fun _ => by assumption) ?_
                    clear hK K
                    (try simp only [Act.put, List.setIfInBounds_toArray, List.set_cons_zero, List.set_cons_succ])
                    refine M_done (by kernel_rfl) ?_ _
                    clear hT0 hT2 hT3 hT4 p0
                    have D8 := Lib.hid (nextB D7.out D4.out)
                    have C := Lib.hid (C.out.up D4.out)
                    have KF2 := Lib.hid (KF1.out A2 k2 e hle)
                    obtain ⟨c0, c1, c2⟩ := C.out
                    have zC := C.out.lt
                    generalize (dropK x e).length = q2 at KF2 HI2 ⊢
                    have CT : Hid (∀ W, Below w3.heap.size w3 W → W.cell? ⟨w.heap.size, 0, none⟩ = some (.slice c.d.RA c.d.n c.d.rc) ∧ W.cell? ⟨w.heap.size, 1, none⟩ = some (.slice c.d.SA c.d.m c.d.sc) ∧ W.cell? ⟨w.heap.size, 2, none⟩ = some (.slice c.MA c.m c.mc)) := Lib.hid fun W h => ⟨cell_up h zC c0, cell_up h zC c1, cell_up h zC c2⟩
                    go_wp2_with fail
                    refine wp_region_M [] (fun w' => w'.cell? ⟨w.heap.size, 0, none⟩ = some (.slice c.d.RA c.d.n c.d.rc) ∧ w'.cell? ⟨w.heap.size, 1, none⟩ = some (.slice c.d.SA c.d.m c.d.sc) ∧ w'.cell? ⟨w.heap.size, 2, none⟩ = some (.slice c.MA c.m c.mc)) (by kernel_rfl) (by kernel_rfl) (by (try dsimp only); (repeat' apply And.intro); all_goals first | assumption | (go_simp; done)) (fun hT0 => ?_)
                    refine M_take (v := ?_) 0 rfl (by kernel_rfl) (by assumption) (fun _ _ _ h => h) (Or.inl ⟨by rfl, ?_⟩) ?_
                    rotate_left
                    · (intro w hSw; (try dsimp only at hSw); go_simp; (try with_reducible rfl))
                    (try simp only [Act.put, List.setIfInBounds_toArray, List.set_cons_zero, List.set_cons_succ])
                    refine M_take (v := ?_) 1 rfl (by kernel_rfl) (by assumption) (fun _ _ _ h => h) (Or.inl ⟨by rfl, ?_⟩) ?_
                    rotate_left
                    · (intro w hSw; (try dsimp only at hSw); go_simp; (try with_reducible rfl))
                    (try simp only [Act.put, List.setIfInBounds_toArray, List.set_cons_zero, List.set_cons_succ])
                    refine M_take (v := ?_) 2 rfl (by kernel_rfl) (by assumption) (fun _ _ _ h => h) (Or.inl ⟨by rfl, ?_⟩) ?_
                    rotate_left
                    · (intro w hSw; (try dsimp only at hSw); go_simp; (try with_reducible rfl))
                    (try simp only [Act.put, List.setIfInBounds_toArray, List.set_cons_zero, List.set_cons_succ])
                    refine M_take (v := ?_) 3 rfl (by kernel_rfl) (by assumption) (fun _ _ _ h => h) (Or.inl ⟨by rfl, ?_⟩) ?_
                    rotate_left
                    · (intro w hSw; (try dsimp only at hSw); go_simp; (try with_reducible rfl))
                    (try simp only [Act.put, List.setIfInBounds_toArray, List.set_cons_zero, List.set_cons_succ])
                    refine M_take (v := ?_) 4 rfl (by kernel_rfl) (by assumption) (fun _ _ _ h => h) (Or.inl ⟨by rfl, ?_⟩) ?_
                    rotate_left
                    · (intro w hSw; (try dsimp only at hSw); go_simp; (try with_reducible rfl))
                    (try simp only [Act.put, List.setIfInBounds_toArray, List.set_cons_zero, List.set_cons_succ])
                    refine M_step 5 rfl (by kernel_rfl) (fun K hK => ?_)
                    go_simp
                    go_at_call 70
                    refine (KF2.out _ (nextB D8.out (Below.refl _ _).drew) (by exact (IntsIn.up HI2.out (Below.refl _ _).drew (Nat.le_refl _)).more (Nat.le_refl _))).mono ?_
                    rintro e8 w8 ⟨B8, k8, N8, H8, rfl, hF8, hb8⟩
                    have B8' := Lib.hid (show Below w3.heap.size w3 w8 from nextB (Below.refl _ _).drew hb8)
                    have F8 := Lib.hid hF8
                    have hT8 : (fun w' => w'.cell? ⟨w.heap.size, 0, none⟩ = some (.slice c.d.RA c.d.n c.d.rc) ∧ w'.cell? ⟨w.heap.size, 1, none⟩ = some (.slice c.d.SA c.d.m c.d.sc) ∧ w'.cell? ⟨w.heap.size, 2, none⟩ = some (.slice c.MA c.m c.mc)) w8 := CT.out w8 B8'.out
                    clear hb8 hF8
                    refine hK.out _ _ (fun _ => hT8) ?_
                    clear hK K
                    (try simp only [Act.put, List.setIfInBounds_toArray, List.set_cons_zero, List.set_cons_succ])
                    refine M_step 6 rfl (by kernel_rfl) (fun K hK => ?_)
                    go_simp
                    go_at_call 33
                    refine (Feasible_any c.d B8 N8 k8 H8 true 0 w8 (CC.out w8 (nextB D8.out B8'.out)).1 F8.out.2 F8.out.1).mono ?_
                    rintro e9 w9 ⟨rfl, hb9⟩
                    have B9 := Lib.hid (nextB B8'.out hb9)
                    have hT9 : (fun w' => w'.cell? ⟨w.heap.size, 0, none⟩ = some (.slice c.d.RA c.d.n c.d.rc) ∧ w'.cell? ⟨w.heap.size, 1, none⟩ = some (.slice c.d.SA c.d.m c.d.sc) ∧ w'.cell? ⟨w.heap.size, 2, none⟩ = some (.slice c.MA c.m c.mc)) w9 := CT.out w9 B9.out
                    clear hb9
                    refine hK.out _ _ (fun _ => hT9) ?_
                    clear hK K
                    (try simp only [Act.put, List.setIfInBounds_toArray, List.set_cons_zero, List.set_cons_succ])
                    refine M_take (v := ?_) 7 rfl (by kernel_rfl) (by assumption) (fun _ _ _ h => h) (Or.inl ⟨by rfl, ?_⟩) ?_
                    rotate_left
                    · (intro w hSw; (try dsimp only at hSw); go_simp; (try with_reducible rfl))
                    (try simp only [Act.put, List.setIfInBounds_toArray, List.set_cons_zero, List.set_cons_succ])
                    refine M_take (v := ?_) 8 rfl (by kernel_rfl) (by assumption) (fun _ _ _ h => h) (Or.inl ⟨by rfl, ?_⟩) ?_
                    rotate_left
                    · (intro w hSw; (try dsimp only at hSw); go_simp; (try with_reducible rfl))
                    (try simp only [Act.put, List.setIfInBounds_toArray, List.set_cons_zero, List.set_cons_succ])
                    refine M_take (v := ?_) 9 rfl (by kernel_rfl) (by assumption) (fun _ _ _ h => h) (Or.inl ⟨by rfl, ?_⟩) ?_
                    rotate_left
                    · (intro w hSw; (try dsimp only at hSw); go_simp; (try with_reducible rfl))
                    (try simp only [Act.put, List.setIfInBounds_toArray, List.set_cons_zero, List.set_cons_succ])
                    refine M_step 10 rfl (by kernel_rfl) (fun K hK => ?_)
                    go_simp
                    refine hK.out _ _ (fun _ => by assumption) ?_
                    clear hK K
                    (try simp only [Act.put, List.setIfInBounds_toArray, List.set_cons_zero, List.set_cons_succ])
                    refine M_step 11 rfl (by kernel_rfl) (fun K hK => ?_)
                    go_simp
                    refine hK.out _ _ (fun _ => by assumption) ?_
                    clear hK K
                    (try simp only [Act.put, List.setIfInBounds_toArray, List.set_cons_zero, List.set_cons_succ])
                    refine M_done (by kernel_rfl) ?_ _
                    clear hT0 hT8 hT9 c0 c1 c2 zC
                    have we := WE.out
                    go_wp2_with fail
                    go_roundw
                    case rel => exact ⟨e + 1, by omega, by first | rfl | go_num, by rw [HN.out]; rfl, nextB B7.out (nextB D4.out B9.out)⟩
                    case measure => (simp [intOf] <;> omega)
                · obtain rfl : e = x.length := by omega
                  have hei : ¬ ((x.length : Int) < (x.length : Int)) := by omega
                  have hws := HWS.out
                  generalize allB j Z x x.length = gx at hws ⊢
                  generalize withB j Z L a = gy at hws ⊢
                  have HWS := Lib.hid hws
                  clear hws
                  have wa := WA.out
                  cases gy with
                  | true =>
                    go_wp2_with fail
                    go_roundw
                    case rel => exact ⟨a + 1, by omega, by first | rfl | go_num, by rw [HWS.out]; rfl, nextB B6.out B7.out⟩
                    case measure => (simp [intOf] <;> omega)
                  | false =>
                    go_wp2_with fail
                    go_roundw
                    case rel => exact ⟨a + 1, by omega, by first | rfl | go_num, by rw [HWS.out]; rfl, nextB B6.out B7.out⟩
                    case measure => (simp [intOf] <;> omega)
            · obtain rfl : a = L.length := by omega
              have hai : ¬ ((L.length : Int) < (L.length : Int)) := by omega
              have hrw := HRW.out
              generalize withB j Z L L.length = gy at hrw ⊢
              have HRW := Lib.hid hrw
              clear hrw
              obtain ⟨c0, c1, c2⟩ := C.out
              have zC := C.out.lt
              have CT : Hid (∀ W, Below w6.heap.size w6 W → W.cell? ⟨w.heap.size, 0, none⟩ = some (.slice c.d.RA c.d.n c.d.rc) ∧ W.cell? ⟨w.heap.size, 1, none⟩ = some (.slice c.d.SA c.d.m c.d.sc) ∧ W.cell? ⟨w.heap.size, 2, none⟩ = some (.slice c.MA c.m c.mc)) := Lib.hid fun W h => ⟨cell_up h zC c0, cell_up h zC c1, cell_up h zC c2⟩
              go_wp2_with fail
              refine wp_region_M [] (fun w' => w'.cell? ⟨w.heap.size, 0, none⟩ = some (.slice c.d.RA c.d.n c.d.rc) ∧ w'.cell? ⟨w.heap.size, 1, none⟩ = some (.slice c.d.SA c.d.m c.d.sc) ∧ w'.cell? ⟨w.heap.size, 2, none⟩ = some (.slice c.MA c.m c.mc)) (by kernel_rfl) (by kernel_rfl) (by (try dsimp only); (repeat' apply And.intro); all_goals first | assumption | (go_simp; done)) (fun hT0 => ?_)
              refine M_take (v := ?_) 0 rfl (by kernel_rfl) (by assumption) (fun _ _ _ h => h) (Or.inl ⟨by rfl, ?_⟩) ?_
              rotate_left
              · (intro w hSw; (try dsimp only at hSw); go_simp; (try with_reducible rfl))
              (try simp only [Act.put, List.setIfInBounds_toArray, List.set_cons_zero, List.set_cons_succ])
              refine M_take (v := ?_) 1 rfl (by kernel_rfl) (by assumption) (fun _ _ _ h => h) (Or.inl ⟨by rfl, ?_⟩) ?_
              rotate_left
              · (intro w hSw; (try dsimp only at hSw); go_simp; (try with_reducible rfl))
              (try simp only [Act.put, List.setIfInBounds_toArray, List.set_cons_zero, List.set_cons_succ])
              refine M_take (v := ?_) 2 rfl (by kernel_rfl) (by assumption) (fun _ _ _ h => h) (Or.inl ⟨by rfl, ?_⟩) ?_
              rotate_left
              · (intro w hSw; (try dsimp only at hSw); go_simp; (try with_reducible rfl))
              (try simp only [Act.put, List.setIfInBounds_toArray, List.set_cons_zero, List.set_cons_succ])
              refine M_take (v := ?_) 3 rfl (by kernel_rfl) (by assumption) (fun _ _ _ h => h) (Or.inl ⟨by rfl, ?_⟩) ?_
              rotate_left
              · (intro w hSw; (try dsimp only at hSw); go_simp; (try with_reducible rfl))
              (try simp only [Act.put, List.setIfInBounds_toArray, List.set_cons_zero, List.set_cons_succ])
              refine M_take (v := ?_) 4 rfl (by kernel_rfl) (by assumption) (fun _ _ _ h => h) (Or.inl ⟨by rfl, ?_⟩) ?_
              rotate_left
              · (intro w hSw; (try dsimp only at hSw); go_simp; (try with_reducible rfl))
              (try simp only [Act.put, List.setIfInBounds_toArray, List.set_cons_zero, List.set_cons_succ])
              refine M_step 5 rfl (by kernel_rfl) (fun K hK => ?_)
              go_simp
              go_at_call 70
              refine (KE.out _ (nextB D.out (Below.refl _ _).drew)).mono ?_
              rintro e8 w8 ⟨B8, k8, N8, H8, rfl, hF8, hb8⟩
              have B8' := Lib.hid (show Below w6.heap.size w6 w8 from nextB (Below.refl _ _).drew hb8)
              have F8 := Lib.hid hF8
              have hT8 : (fun w' => w'.cell? ⟨w.heap.size, 0, none⟩ = some (.slice c.d.RA c.d.n c.d.rc) ∧ w'.cell? ⟨w.heap.size, 1, none⟩ = some (.slice c.d.SA c.d.m c.d.sc) ∧ w'.cell? ⟨w.heap.size, 2, none⟩ = some (.slice c.MA c.m c.mc)) w8 := CT.out w8 B8'.out
              clear hb8 hF8
              refine hK.out _ _ (fun _ => hT8) ?_
              clear hK K
              (try simp only [Act.put, List.setIfInBounds_toArray, List.set_cons_zero, List.set_cons_succ])
              refine M_step 6 rfl (by kernel_rfl) (fun K hK => ?_)
              go_simp
              go_at_call 33
              refine (Feasible_any c.d B8 N8 k8 H8 R 0 w8 (CC.out w8 (nextB D.out B8'.out)).1 F8.out.2 F8.out.1).mono ?_
              rintro e9 w9 ⟨rfl, hb9⟩
              have B9 := Lib.hid (nextB B8'.out hb9)
              have hT9 : (fun w' => w'.cell? ⟨w.heap.size, 0, none⟩ = some (.slice c.d.RA c.d.n c.d.rc) ∧ w'.cell? ⟨w.heap.size, 1, none⟩ = some (.slice c.d.SA c.d.m c.d.sc) ∧ w'.cell? ⟨w.heap.size, 2, none⟩ = some (.slice c.MA c.m c.mc)) w9 := CT.out w9 B9.out
              clear hb9
              refine hK.out _ _ (fun _ => hT9) ?_
              clear hK K
              (try simp only [Act.put, List.setIfInBounds_toArray, List.set_cons_zero, List.set_cons_succ])
              refine M_take (v := ?_) 7 rfl (by kernel_rfl) (by assumption) (fun _ _ _ h => h) (Or.inl ⟨by rfl, ?_⟩) ?_
              rotate_left
              · (intro w hSw; (try dsimp only at hSw); go_simp; (try with_reducible rfl))
              (try simp only [Act.put, List.setIfInBounds_toArray, List.set_cons_zero, List.set_cons_succ])
              refine M_take (v := ?_) 8 rfl (by kernel_rfl) (by assumption) (fun _ _ _ h => h) (Or.inl ⟨by rfl, ?_⟩) ?_
              rotate_left
              · (intro w hSw; (try dsimp only at hSw); go_simp; (try with_reducible rfl))
              (try simp only [Act.put, List.setIfInBounds_toArray, List.set_cons_zero, List.set_cons_succ])
              refine M_take (v := ?_) 9 rfl (by kernel_rfl) (by assumption) (fun _ _ _ h => h) (Or.inl ⟨by rfl, ?_⟩) ?_
              rotate_left
              · (intro w hSw; (try dsimp only at hSw); go_simp; (try with_reducible rfl))
              (try simp only [Act.put, List.setIfInBounds_toArray, List.set_cons_zero, List.set_cons_succ])
              refine M_step 10 rfl (by kernel_rfl) (fun K hK => ?_)
              go_simp
              refine hK.out _ _ (fun _ => by assumption) ?_
              clear hK K
              (try simp only [Act.put, List.setIfInBounds_toArray, List.set_cons_zero, List.set_cons_succ])
              refine M_step 11 rfl (by kernel_rfl) (fun K hK => ?_)
              go_simp
              refine hK.out _ _ (fun _ => by assumption) ?_
              clear hK K
              (try simp only [Act.put, List.setIfInBounds_toArray, List.set_cons_zero, List.set_cons_succ])
              refine M_done (by kernel_rfl) ?_ _
              clear hT0 hT8 hT9 c0 c1 c2 zC
              have D := Lib.hid (nextB D.out B9.out)
              cases gy with
              | true =>
                obtain rfl : R = false := HRW.out
                go_wp2_with fail
                go_ret
                exact ⟨rfl, D.out⟩
              | false =>
                obtain rfl : R = true := HRW.out
                go_wp2_with fail
                go_ret
                exact ⟨rfl, D.out⟩
    · go_wp2_with fail
      refine (KD.out _ D.out).mono ?_
      rintro e w4 ⟨v, rfl, hv⟩
      have hb := hv.1
      have J := Lib.hid (hb)
      have D := Lib.hid (nextB D.out J.out)
      clear c0 c1 c2 zC
      have C := Lib.hid (C.out.up J.out)
      obtain ⟨A, ca, rfl⟩ := hv.slice
      have LA : Hid (∀ W, Below w4.heap.size w4 W → LssC A L W) := Lib.hid fun W h => (hv.lssC (fun x hx => by have := HXL.out.1 x hx; omega) HXL.out.2).up h
      have Dw4 := Lib.hid D.out
      clear hv KD
      clear hb
      obtain ⟨c0, c1, c2⟩ := C.out
      have zC := C.out.lt
      go_wp2_with fail
      clear c0 c1 c2 zC
      go_loopw [8] (fun i wr => ∃ a : Nat, a ≤ j ∧ i = .int .i64 (a : Int) ∧ Below w4.heap.size w4 wr) (fun i _ => n - (intOf i).toNat)
      case atStart => exact ⟨0, Nat.zero_le _, rfl, Below.refl _ _⟩
      case round =>
        obtain ⟨a, ha, rfl, hb⟩ := hrel
        obtain ⟨w5, rfl⟩ : ∃ w5 : World, w5 = wr := ⟨_, rfl⟩
        have D5 := Lib.hid hb
        have D := Lib.hid (nextB Dw4.out hb)
        have C := Lib.hid (C.out.up hb)
        have ha0 : (0 : Int) ≤ (a : Int) := by omega
        clear hb
        obtain ⟨c0, c1, c2⟩ := C.out
        have zC := C.out.lt
        by_cases hlt : a < n
        · have hai : (a : Int) < (n : Int) := by omega
          have wa : IntKind.i64.wrap ((a : Int) + 1) = ((a + 1 : Nat) : Int) := by rw [show ((a : Int) + 1) = ((a + 1 : Nat) : Int) by omega]; exact IntWalk.i64_in _ (by omega)
          have WA := Lib.hid wa
          clear wa
          obtain ⟨az, eS, lS, s0⟩ := (SS.out w5 D.out).2 a hlt
          obtain ⟨z, hz⟩ : ∃ z, z = Z a := ⟨_, rfl⟩
          rw [← hz] at s0
          have HZa := Lib.hid hz
          clear hz
          by_cases haj : a < j
          · obtain ⟨⟨g1, g2⟩, g3⟩ := J2.out a haj
            rw [← HZa.out] at g1 g2 g3
            by_cases h0 : a = 0
            · have d1 : decide (z < 0) = false := decide_eq_false (by omega)
              have d2 : decide (z ≥ (c.m : Int)) = false := decide_eq_false (by omega)
              have d2' : decide ((c.m : Int) ≤ z) = false := d2
              have d3 : decide ((a : Int) > 0) = false := decide_eq_false (by omega)
              have d3' : decide ((0 : Int) < (a : Int)) = false := d3
              have d3n : decide (0 < a) = false := decide_eq_false (by omega)
              clear g1 g2 g3 h0
              subst eS
              go_wp2_with fail
              refine wp_region_M [] (fun w' => w'.cell? ⟨w.heap.size, 2, none⟩ = some (.slice c.MA c.m c.mc) ∧ w'.cell? (az.add a) = some (.int .i64 z)) (by kernel_rfl) (by kernel_rfl) (by (try dsimp only); (repeat' apply And.intro); all_goals first | assumption | (go_simp; done)) (fun hT0 => ?_)
              refine M_take (v := ?_) 0 rfl (by kernel_rfl) (by assumption) (fun _ _ _ h => h) (Or.inl ⟨by rfl, ?_⟩) ?_
              rotate_left
              · (intro w hSw; (try dsimp only at hSw); go_simp; (try with_reducible rfl))
              (try simp only [Act.put, List.setIfInBounds_toArray, List.set_cons_zero, List.set_cons_succ])
              refine M_take (v := ?_) 1 rfl (by kernel_rfl) (by assumption) (fun _ _ _ h => h) (Or.inl ⟨by rfl, ?_⟩) ?_
              rotate_left
              · (intro w hSw; (try dsimp only at hSw); go_simp; (try with_reducible rfl))
              (try simp only [Act.put, List.setIfInBounds_toArray, List.set_cons_zero, List.set_cons_succ])
              refine M_take (v := ?_) 2 rfl (by kernel_rfl) (by assumption) (fun _ _ _ h => h) (Or.inl ⟨by rfl, ?_⟩) ?_
              rotate_left
              · (intro w hSw; (try dsimp only at hSw); go_simp; (try with_reducible rfl))
              (try simp only [Act.put, List.setIfInBounds_toArray, List.set_cons_zero, List.set_cons_succ])
              refine M_take (v := ?_) 3 rfl (by kernel_rfl) (by assumption) (fun _ _ _ h => h) (Or.inl ⟨by rfl, ?_⟩) ?_
              rotate_left
              · (intro w hSw; (try dsimp only at hSw); go_simp; (try with_reducible rfl))
              (try simp only [Act.put, List.setIfInBounds_toArray, List.set_cons_zero, List.set_cons_succ])
              refine M_take (v := ?_) 4 rfl (by kernel_rfl) (by assumption) (fun _ _ _ h => h) (Or.inl ⟨by rfl, ?_⟩) ?_
              rotate_left
              · (intro w hSw; (try dsimp only at hSw); go_simp; (try with_reducible rfl))
              (try simp only [Act.put, List.setIfInBounds_toArray, List.set_cons_zero, List.set_cons_succ])
              refine M_take (v := ?_) 5 rfl (by kernel_rfl) (by assumption) (fun _ _ _ h => h) (Or.inl ⟨by rfl, ?_⟩) ?_
              rotate_left
              · (intro w hSw; (try dsimp only at hSw); go_simp; (try with_reducible rfl))
              (try simp only [Act.put, List.setIfInBounds_toArray, List.set_cons_zero, List.set_cons_succ])
              refine M_take (v := ?_) 6 rfl (by kernel_rfl) (by assumption) (fun _ _ _ h => h) (Or.inl ⟨by rfl, ?_⟩) ?_
              rotate_left
              · (intro w hSw; (try dsimp only at hSw); go_simp; (try with_reducible rfl))
              (try simp only [Act.put, List.setIfInBounds_toArray, List.set_cons_zero, List.set_cons_succ])
              refine M_take (v := ?_) 7 rfl (by kernel_rfl) (by assumption) (fun _ _ _ h => h) (Or.inl ⟨by rfl, ?_⟩) ?_
              rotate_left
              · (intro w hSw; (try dsimp only at hSw); go_simp; (try with_reducible rfl))
              (try simp only [Act.put, List.setIfInBounds_toArray, List.set_cons_zero, List.set_cons_succ])
              refine M_take (v := ?_) 8 rfl (by kernel_rfl) (by assumption) (fun _ _ _ h => h) (Or.inl ⟨by rfl, ?_⟩) ?_
              rotate_left
              · (intro w hSw; (try dsimp only at hSw); go_simp; (try with_reducible rfl))
              (try simp only [Act.put, List.setIfInBounds_toArray, List.set_cons_zero, List.set_cons_succ])
              refine M_take (v := ?_) 9 rfl (by kernel_rfl) (by assumption) (fun _ _ _ h => h) (Or.inl ⟨by rfl, ?_⟩) ?_
              rotate_left
              · (intro w hSw; (try dsimp only at hSw); go_simp; (try with_reducible rfl))
              (try simp only [Act.put, List.setIfInBounds_toArray, List.set_cons_zero, List.set_cons_succ])
              refine M_take (v := ?_) 10 rfl (by kernel_rfl) (by assumption) (fun _ _ _ h => h) (Or.inl ⟨by rfl, ?_⟩) ?_
              rotate_left
              · (intro w hSw; (try dsimp only at hSw); go_simp; (try with_reducible rfl))
              (try simp only [Act.put, List.setIfInBounds_toArray, List.set_cons_zero, List.set_cons_succ])
              refine M_take (v := ?_) 11 rfl (by kernel_rfl) (by assumption) (fun _ _ _ h => h) (Or.inl ⟨by rfl, ?_⟩) ?_
              rotate_left
              · (intro w hSw; (try dsimp only at hSw); go_simp; (try with_reducible rfl))
              (try simp only [Act.put, List.setIfInBounds_toArray, List.set_cons_zero, List.set_cons_succ])
              refine M_take (v := ?_) 12 rfl (by kernel_rfl) (by assumption) (fun _ _ _ h => h) (Or.inl ⟨by rfl, ?_⟩) ?_
              rotate_left
              · (intro w hSw; (try dsimp only at hSw); go_simp; (try with_reducible rfl))
              (try simp only [Act.put, List.setIfInBounds_toArray, List.set_cons_zero, List.set_cons_succ])
              refine M_take (v := ?_) 13 rfl (by kernel_rfl) (by assumption) (fun _ _ _ h => h) (Or.inl ⟨by rfl, ?_⟩) ?_
              rotate_left
              · (intro w hSw; (try dsimp only at hSw); go_simp; (try with_reducible rfl))
              (try simp only [Act.put, List.setIfInBounds_toArray, List.set_cons_zero, List.set_cons_succ])
              refine M_take (v := ?_) 14 rfl (by kernel_rfl) (by assumption) (fun _ _ _ h => h) (Or.inl ⟨by rfl, ?_⟩) ?_
              rotate_left
              · (intro w hSw; (try dsimp only at hSw); go_simp; (try with_reducible rfl))
              (try simp only [Act.put, List.setIfInBounds_toArray, List.set_cons_zero, List.set_cons_succ])
              refine M_take (v := ?_) 15 rfl (by kernel_rfl) (by assumption) (fun _ _ _ h => h) (Or.inl ⟨by rfl, ?_⟩) ?_
              rotate_left
              · (intro w hSw; (try dsimp only at hSw); go_simp; (try with_reducible rfl))
              (try simp only [Act.put, List.setIfInBounds_toArray, List.set_cons_zero, List.set_cons_succ])
              refine M_take (v := ?_) 16 rfl (by kernel_rfl) (by assumption) (fun _ _ _ h => h) (Or.inl ⟨by rfl, ?_⟩) ?_
              rotate_left
              · (intro w hSw; (try dsimp only at hSw); go_simp; (try with_reducible rfl))
              (try simp only [Act.put, List.setIfInBounds_toArray, List.set_cons_zero, List.set_cons_succ])
              refine M_take (v := ?_) 17 rfl (by kernel_rfl) (by assumption) (fun _ _ _ h => h) (Or.inl ⟨by rfl, ?_⟩) ?_
              rotate_left
              · (intro w hSw; (try dsimp only at hSw); go_simp; (try with_reducible rfl))
              (try simp only [Act.put, List.setIfInBounds_toArray, List.set_cons_zero, List.set_cons_succ])
              refine M_take (v := ?_) 18 rfl (by kernel_rfl) (by assumption) (fun _ _ _ h => h) (Or.inl ⟨by rfl, ?_⟩) ?_
              rotate_left
              · (intro w hSw; (try dsimp only at hSw); go_simp; (try with_reducible rfl))
              (try simp only [Act.put, List.setIfInBounds_toArray, List.set_cons_zero, List.set_cons_succ])
              refine M_take 19 rfl (by kernel_rfl) (by assumption) (fun _ _ _ h => h) (Or.inr ⟨by rfl, rfl⟩) ?_
              (try simp only [Act.put, List.setIfInBounds_toArray, List.set_cons_zero, List.set_cons_succ])
              refine M_take 20 rfl (by kernel_rfl) (by assumption) (fun _ _ _ h => h) (Or.inr ⟨by rfl, rfl⟩) ?_
              (try simp only [Act.put, List.setIfInBounds_toArray, List.set_cons_zero, List.set_cons_succ])
              refine M_take 21 rfl (by kernel_rfl) (by assumption) (fun _ _ _ h => h) (Or.inr ⟨by rfl, rfl⟩) ?_
              (try simp only [Act.put, List.setIfInBounds_toArray, List.set_cons_zero, List.set_cons_succ])
              refine M_take 22 rfl (by kernel_rfl) (by assumption) (fun _ _ _ h => h) (Or.inr ⟨by rfl, rfl⟩) ?_
              (try simp only [Act.put, List.setIfInBounds_toArray, List.set_cons_zero, List.set_cons_succ])
              refine M_take 23 rfl (by kernel_rfl) (by assumption) (fun _ _ _ h => h) (Or.inr ⟨by rfl, rfl⟩) ?_
              (try simp only [Act.put, List.setIfInBounds_toArray, List.set_cons_zero, List.set_cons_succ])
              refine M_take 24 rfl (by kernel_rfl) (by assumption) (fun _ _ _ h => h) (Or.inr ⟨by rfl, rfl⟩) ?_
              (try simp only [Act.put, List.setIfInBounds_toArray, List.set_cons_zero, List.set_cons_succ])
              refine M_take 25 rfl (by kernel_rfl) (by assumption) (fun _ _ _ h => h) (Or.inr ⟨by rfl, rfl⟩) ?_
              (try simp only [Act.put, List.setIfInBounds_toArray, List.set_cons_zero, List.set_cons_succ])
              refine M_take 26 rfl (by kernel_rfl) (by assumption) (fun _ _ _ h => h) (Or.inr ⟨by rfl, rfl⟩) ?_
              (try simp only [Act.put, List.setIfInBounds_toArray, List.set_cons_zero, List.set_cons_succ])
              refine M_take 27 rfl (by kernel_rfl) (by assumption) (fun _ _ _ h => h) (Or.inr ⟨by rfl, rfl⟩) ?_
              (try simp only [Act.put, List.setIfInBounds_toArray, List.set_cons_zero, List.set_cons_succ])
              refine M_take 28 rfl (by kernel_rfl) (by assumption) (fun _ _ _ h => h) (Or.inr ⟨by rfl, rfl⟩) ?_
              (try simp only [Act.put, List.setIfInBounds_toArray, List.set_cons_zero, List.set_cons_succ])
              refine M_take (v := ?_) 29 rfl (by kernel_rfl) (by assumption) (fun _ _ _ h => h) (Or.inl ⟨by rfl, ?_⟩) ?_
              rotate_left
              · (intro w hSw; (try dsimp only at hSw); go_simp; (try with_reducible rfl))
              (try simp only [Act.put, List.setIfInBounds_toArray, List.set_cons_zero, List.set_cons_succ])
              refine M_take (v := ?_) 30 rfl (by kernel_rfl) (by assumption) (fun _ _ _ h => h) (Or.inl ⟨by rfl, ?_⟩) ?_
              rotate_left
              · (intro w hSw; (try dsimp only at hSw); go_simp; (try with_reducible rfl))
              (try simp only [Act.put, List.setIfInBounds_toArray, List.set_cons_zero, List.set_cons_succ])
              refine M_done (by kernel_rfl) ?_ _
              clear hT0 c0 c1 c2 zC s0
              have wa := WA.out
              go_wp2_with fail
              go_roundw
              case rel => exact ⟨a + 1, by omega, by first | rfl | go_num, D5.out.drew⟩
              case measure => (simp [intOf] <;> omega)
            · obtain ⟨b, hb1⟩ : ∃ b : Nat, b + 1 = a := ⟨a - 1, by omega⟩
              have hbn : b < n := by omega
              have wb : IntKind.i64.wrap ((a : Int) - 1) = (b : Int) := by rw [show ((a : Int) - 1) = (b : Int) by omega]; exact IntWalk.i64_in _ (by omega)
              obtain ⟨az2, eS2, lS2, s1⟩ := (SS.out w5 D.out).2 b hbn
              rw [eS] at eS2
              cases eS2
              obtain ⟨z2, hz2⟩ : ∃ z, z = Z b := ⟨_, rfl⟩
              rw [← hz2] at s1
              have HZb := Lib.hid hz2
              have hb0 : (0 : Int) ≤ (b : Int) := by omega
              have hbi : (b : Int) < (n : Int) := by omega
              have HB1 := Lib.hid hb1
              clear hz2
              have g4 : z2 < z := by have h := g3.resolve_left h0; rw [← hb1, Nat.add_sub_cancel, ← HZb.out] at h; exact h
              have d1 : decide (z < 0) = false := decide_eq_false (by omega)
              have d2 : decide (z ≥ (c.m : Int)) = false := decide_eq_false (by omega)
              have d2' : decide ((c.m : Int) ≤ z) = false := d2
              have d3 : decide ((a : Int) > 0) = true := decide_eq_true (by omega)
              have d3' : decide ((0 : Int) < (a : Int)) = true := d3
              have d3n : decide (0 < a) = true := decide_eq_true (by omega)
              have d4 : decide (z ≤ z2) = false := decide_eq_false (by omega)
              clear g1 g2 g3 g4
              clear hb1
              subst eS
              go_wp2_with fail
              refine wp_region_M [] (fun w' => w'.cell? ⟨w.heap.size, 2, none⟩ = some (.slice c.MA c.m c.mc) ∧ w'.cell? (az.add a) = some (.int .i64 z) ∧ w'.cell? (az.add b) = some (.int .i64 z2)) (by kernel_rfl) (by kernel_rfl) (by (try dsimp only); (repeat' apply And.intro); all_goals first | assumption | (go_simp; done)) (fun hT0 => ?_)
              refine M_take (v := ?_) 0 rfl (by kernel_rfl) (by assumption) (fun _ _ _ h => h) (Or.inl ⟨by rfl, ?_⟩) ?_
              rotate_left
              · (intro w hSw; (try dsimp only at hSw); go_simp; (try with_reducible rfl))
              (try simp only [Act.put, List.setIfInBounds_toArray, List.set_cons_zero, List.set_cons_succ])
              refine M_take (v := ?_) 1 rfl (by kernel_rfl) (by assumption) (fun _ _ _ h => h) (Or.inl ⟨by rfl, ?_⟩) ?_
              rotate_left
              · (intro w hSw; (try dsimp only at hSw); go_simp; (try with_reducible rfl))
              (try simp only [Act.put, List.setIfInBounds_toArray, List.set_cons_zero, List.set_cons_succ])
              refine M_take (v := ?_) 2 rfl (by kernel_rfl) (by assumption) (fun _ _ _ h => h) (Or.inl ⟨by rfl, ?_⟩) ?_
              rotate_left
              · (intro w hSw; (try dsimp only at hSw); go_simp; (try with_reducible rfl))
              (try simp only [Act.put, List.setIfInBounds_toArray, List.set_cons_zero, List.set_cons_succ])
              refine M_take (v := ?_) 3 rfl (by kernel_rfl) (by assumption) (fun _ _ _ h => h) (Or.inl ⟨by rfl, ?_⟩) ?_
              rotate_left
              · (intro w hSw; (try dsimp only at hSw); go_simp; (try with_reducible rfl))
              (try simp only [Act.put, List.setIfInBounds_toArray, List.set_cons_zero, List.set_cons_succ])
              refine M_take (v := ?_) 4 rfl (by kernel_rfl) (by assumption) (fun _ _ _ h => h) (Or.inl ⟨by rfl, ?_⟩) ?_
              rotate_left
              · (intro w hSw; (try dsimp only at hSw); go_simp; (try with_reducible rfl))
              (try simp only [Act.put, List.setIfInBounds_toArray, List.set_cons_zero, List.set_cons_succ])
              refine M_take (v := ?_) 5 rfl (by kernel_rfl) (by assumption) (fun _ _ _ h => h) (Or.inl ⟨by rfl, ?_⟩) ?_
              rotate_left
              · (intro w hSw; (try dsimp only at hSw); go_simp; (try with_reducible rfl))
              (try simp only [Act.put, List.setIfInBounds_toArray, List.set_cons_zero, List.set_cons_succ])
              refine M_take (v := ?_) 6 rfl (by kernel_rfl) (by assumption) (fun _ _ _ h => h) (Or.inl ⟨by rfl, ?_⟩) ?_
              rotate_left
              · (intro w hSw; (try dsimp only at hSw); go_simp; (try with_reducible rfl))
              (try simp only [Act.put, List.setIfInBounds_toArray, List.set_cons_zero, List.set_cons_succ])
              refine M_take (v := ?_) 7 rfl (by kernel_rfl) (by assumption) (fun _ _ _ h => h) (Or.inl ⟨by rfl, ?_⟩) ?_
              rotate_left
              · (intro w hSw; (try dsimp only at hSw); go_simp; (try with_reducible rfl))
              (try simp only [Act.put, List.setIfInBounds_toArray, List.set_cons_zero, List.set_cons_succ])
              refine M_take (v := ?_) 8 rfl (by kernel_rfl) (by assumption) (fun _ _ _ h => h) (Or.inl ⟨by rfl, ?_⟩) ?_
              rotate_left
              · (intro w hSw; (try dsimp only at hSw); go_simp; (try with_reducible rfl))
              (try simp only [Act.put, List.setIfInBounds_toArray, List.set_cons_zero, List.set_cons_succ])
              refine M_take (v := ?_) 9 rfl (by kernel_rfl) (by assumption) (fun _ _ _ h => h) (Or.inl ⟨by rfl, ?_⟩) ?_
              rotate_left
              · (intro w hSw; (try dsimp only at hSw); go_simp; (try with_reducible rfl))
              (try simp only [Act.put, List.setIfInBounds_toArray, List.set_cons_zero, List.set_cons_succ])
              refine M_take (v := ?_) 10 rfl (by kernel_rfl) (by assumption) (fun _ _ _ h => h) (Or.inl ⟨by rfl, ?_⟩) ?_
              rotate_left
              · (intro w hSw; (try dsimp only at hSw); go_simp; (try with_reducible rfl))
              (try simp only [Act.put, List.setIfInBounds_toArray, List.set_cons_zero, List.set_cons_succ])
              refine M_take (v := ?_) 11 rfl (by kernel_rfl) (by assumption) (fun _ _ _ h => h) (Or.inl ⟨by rfl, ?_⟩) ?_
              rotate_left
              · (intro w hSw; (try dsimp only at hSw); go_simp; (try with_reducible rfl))
              (try simp only [Act.put, List.setIfInBounds_toArray, List.set_cons_zero, List.set_cons_succ])
              refine M_take (v := ?_) 12 rfl (by kernel_rfl) (by assumption) (fun _ _ _ h => h) (Or.inl ⟨by rfl, ?_⟩) ?_
              rotate_left
              · (intro w hSw; (try dsimp only at hSw); go_simp; (try with_reducible rfl))
              (try simp only [Act.put, List.setIfInBounds_toArray, List.set_cons_zero, List.set_cons_succ])
              refine M_take (v := ?_) 13 rfl (by kernel_rfl) (by assumption) (fun _ _ _ h => h) (Or.inl ⟨by rfl, ?_⟩) ?_
              rotate_left
              · (intro w hSw; (try dsimp only at hSw); go_simp; (try with_reducible rfl))
              (try simp only [Act.put, List.setIfInBounds_toArray, List.set_cons_zero, List.set_cons_succ])
              refine M_take (v := ?_) 14 rfl (by kernel_rfl) (by assumption) (fun _ _ _ h => h) (Or.inl ⟨by rfl, ?_⟩) ?_
              rotate_left
              · (intro w hSw; (try dsimp only at hSw); go_simp; (try with_reducible rfl))
              (try simp only [Act.put, List.setIfInBounds_toArray, List.set_cons_zero, List.set_cons_succ])
              refine M_take (v := ?_) 15 rfl (by kernel_rfl) (by assumption) (fun _ _ _ h => h) (Or.inl ⟨by rfl, ?_⟩) ?_
              rotate_left
              · (intro w hSw; (try dsimp only at hSw); go_simp; (try with_reducible rfl))
              (try simp only [Act.put, List.setIfInBounds_toArray, List.set_cons_zero, List.set_cons_succ])
              refine M_take (v := ?_) 16 rfl (by kernel_rfl) (by assumption) (fun _ _ _ h => h) (Or.inl ⟨by rfl, ?_⟩) ?_
              rotate_left
              · (intro w hSw; (try dsimp only at hSw); go_simp; (try with_reducible rfl))
              (try simp only [Act.put, List.setIfInBounds_toArray, List.set_cons_zero, List.set_cons_succ])
              refine M_take (v := ?_) 17 rfl (by kernel_rfl) (by assumption) (fun _ _ _ h => h) (Or.inl ⟨by rfl, ?_⟩) ?_
              rotate_left
              · (intro w hSw; (try dsimp only at hSw); go_simp; (try with_reducible rfl))
              (try simp only [Act.put, List.setIfInBounds_toArray, List.set_cons_zero, List.set_cons_succ])
              refine M_take (v := ?_) 18 rfl (by kernel_rfl) (by assumption) (fun _ _ _ h => h) (Or.inl ⟨by rfl, ?_⟩) ?_
              rotate_left
              · (intro w hSw; (try dsimp only at hSw); go_simp; (try with_reducible rfl))
              (try simp only [Act.put, List.setIfInBounds_toArray, List.set_cons_zero, List.set_cons_succ])
              refine M_take (v := ?_) 19 rfl (by kernel_rfl) (by assumption) (fun _ _ _ h => h) (Or.inl ⟨by rfl, ?_⟩) ?_
              rotate_left
              · (intro w hSw; (try dsimp only at hSw); go_simp; (try with_reducible rfl))
              (try simp only [Act.put, List.setIfInBounds_toArray, List.set_cons_zero, List.set_cons_succ])
              refine M_take (v := ?_) 20 rfl (by kernel_rfl) (by assumption) (fun _ _ _ h => h) (Or.inl ⟨by rfl, ?_⟩) ?_
              rotate_left
              · (intro w hSw; (try dsimp only at hSw); go_simp; (try with_reducible rfl))
              (try simp only [Act.put, List.setIfInBounds_toArray, List.set_cons_zero, List.set_cons_succ])
              refine M_take (v := ?_) 21 rfl (by kernel_rfl) (by assumption) (fun _ _ _ h => h) (Or.inl ⟨by rfl, ?_⟩) ?_
              rotate_left
              · (intro w hSw; (try dsimp only at hSw); go_simp; (try with_reducible rfl))
              (try simp only [Act.put, List.setIfInBounds_toArray, List.set_cons_zero, List.set_cons_succ])
              refine M_take (v := ?_) 22 rfl (by kernel_rfl) (by assumption) (fun _ _ _ h => h) (Or.inl ⟨by rfl, ?_⟩) ?_
              rotate_left
              · (intro w hSw; (try dsimp only at hSw); go_simp; (try with_reducible rfl))
              (try simp only [Act.put, List.setIfInBounds_toArray, List.set_cons_zero, List.set_cons_succ])
              refine M_take (v := ?_) 23 rfl (by kernel_rfl) (by assumption) (fun _ _ _ h => h) (Or.inl ⟨by rfl, ?_⟩) ?_
              rotate_left
              · (intro w hSw; (try dsimp only at hSw); go_simp; (try with_reducible rfl))
              (try simp only [Act.put, List.setIfInBounds_toArray, List.set_cons_zero, List.set_cons_succ])
              refine M_take (v := ?_) 24 rfl (by kernel_rfl) (by assumption) (fun _ _ _ h => h) (Or.inl ⟨by rfl, ?_⟩) ?_
              rotate_left
              · (intro w hSw; (try dsimp only at hSw); go_simp; (try with_reducible rfl))
              (try simp only [Act.put, List.setIfInBounds_toArray, List.set_cons_zero, List.set_cons_succ])
              refine M_take (v := ?_) 25 rfl (by kernel_rfl) (by assumption) (fun _ _ _ h => h) (Or.inl ⟨by rfl, ?_⟩) ?_
              rotate_left
              · (intro w hSw; (try dsimp only at hSw); go_simp; (try with_reducible rfl))
              (try simp only [Act.put, List.setIfInBounds_toArray, List.set_cons_zero, List.set_cons_succ])
              refine M_take (v := ?_) 26 rfl (by kernel_rfl) (by assumption) (fun _ _ _ h => h) (Or.inl ⟨by rfl, ?_⟩) ?_
              rotate_left
              · (intro w hSw; (try dsimp only at hSw); go_simp; (try with_reducible rfl))
              (try simp only [Act.put, List.setIfInBounds_toArray, List.set_cons_zero, List.set_cons_succ])
              refine M_take (v := ?_) 27 rfl (by kernel_rfl) (by assumption) (fun _ _ _ h => h) (Or.inl ⟨by rfl, ?_⟩) ?_
              rotate_left
              · (intro w hSw; (try dsimp only at hSw); go_simp; (try with_reducible rfl))
              (try simp only [Act.put, List.setIfInBounds_toArray, List.set_cons_zero, List.set_cons_succ])
              refine M_take (v := ?_) 28 rfl (by kernel_rfl) (by assumption) (fun _ _ _ h => h) (Or.inl ⟨by rfl, ?_⟩) ?_
              rotate_left
              · (intro w hSw; (try dsimp only at hSw); go_simp; (try with_reducible rfl))
              (try simp only [Act.put, List.setIfInBounds_toArray, List.set_cons_zero, List.set_cons_succ])
              refine M_take (v := ?_) 29 rfl (by kernel_rfl) (by assumption) (fun _ _ _ h => h) (Or.inl ⟨by rfl, ?_⟩) ?_
              rotate_left
              · (intro w hSw; (try dsimp only at hSw); go_simp; (try with_reducible rfl))
              (try simp only [Act.put, List.setIfInBounds_toArray, List.set_cons_zero, List.set_cons_succ])
              refine M_take (v := ?_) 30 rfl (by kernel_rfl) (by assumption) (fun _ _ _ h => h) (Or.inl ⟨by rfl, ?_⟩) ?_
              rotate_left
              · (intro w hSw; (try dsimp only at hSw); go_simp; (try with_reducible rfl))
              (try simp only [Act.put, List.setIfInBounds_toArray, List.set_cons_zero, List.set_cons_succ])
              refine M_done (by kernel_rfl) ?_ _
              clear hT0 c0 c1 c2 zC s0 s1
              have wa := WA.out
              go_wp2_with fail
              go_roundw
              case rel => exact ⟨a + 1, by omega, by first | rfl | go_num, D5.out.drew⟩
              case measure => (simp [intOf] <;> omega)
          · have hbad := J3.out (by omega)
            have haj2 : a = j := by omega
            rw [← haj2] at hbad
            have HB3 := Lib.hid hbad
            clear hbad haj2
            by_cases q1 : z < 0
            · have d1 : decide (z < 0) = true := decide_eq_true q1
              clear q1
              subst eS
              go_wp2_with fail
              refine wp_region_M [] (fun w' => w'.cell? ⟨w.heap.size, 2, none⟩ = some (.slice c.MA c.m c.mc) ∧ w'.cell? (az.add a) = some (.int .i64 z)) (by kernel_rfl) (by kernel_rfl) (by (try dsimp only); (repeat' apply And.intro); all_goals first | assumption | (go_simp; done)) (fun hT0 => ?_)
              refine M_take (v := ?_) 0 rfl (by kernel_rfl) (by assumption) (fun _ _ _ h => h) (Or.inl ⟨by rfl, ?_⟩) ?_
              rotate_left
              · (intro w hSw; (try dsimp only at hSw); go_simp; (try with_reducible rfl))
              (try simp only [Act.put, List.setIfInBounds_toArray, List.set_cons_zero, List.set_cons_succ])
              refine M_take (v := ?_) 1 rfl (by kernel_rfl) (by assumption) (fun _ _ _ h => h) (Or.inl ⟨by rfl, ?_⟩) ?_
              rotate_left
              · (intro w hSw; (try dsimp only at hSw); go_simp; (try with_reducible rfl))
              (try simp only [Act.put, List.setIfInBounds_toArray, List.set_cons_zero, List.set_cons_succ])
              refine M_take (v := ?_) 2 rfl (by kernel_rfl) (by assumption) (fun _ _ _ h => h) (Or.inl ⟨by rfl, ?_⟩) ?_
              rotate_left
              · (intro w hSw; (try dsimp only at hSw); go_simp; (try with_reducible rfl))
              (try simp only [Act.put, List.setIfInBounds_toArray, List.set_cons_zero, List.set_cons_succ])
              refine M_take (v := ?_) 3 rfl (by kernel_rfl) (by assumption) (fun _ _ _ h => h) (Or.inl ⟨by rfl, ?_⟩) ?_
              rotate_left
              · (intro w hSw; (try dsimp only at hSw); go_simp; (try with_reducible rfl))
              (try simp only [Act.put, List.setIfInBounds_toArray, List.set_cons_zero, List.set_cons_succ])
              refine M_take (v := ?_) 4 rfl (by kernel_rfl) (by assumption) (fun _ _ _ h => h) (Or.inl ⟨by rfl, ?_⟩) ?_
              rotate_left
              · (intro w hSw; (try dsimp only at hSw); go_simp; (try with_reducible rfl))
              (try simp only [Act.put, List.setIfInBounds_toArray, List.set_cons_zero, List.set_cons_succ])
              refine M_take (v := ?_) 5 rfl (by kernel_rfl) (by assumption) (fun _ _ _ h => h) (Or.inl ⟨by rfl, ?_⟩) ?_
              rotate_left
              · (intro w hSw; (try dsimp only at hSw); go_simp; (try with_reducible rfl))
              (try simp only [Act.put, List.setIfInBounds_toArray, List.set_cons_zero, List.set_cons_succ])
              refine M_take 6 rfl (by kernel_rfl) (by assumption) (fun _ _ _ h => h) (Or.inr ⟨by rfl, rfl⟩) ?_
              (try simp only [Act.put, List.setIfInBounds_toArray, List.set_cons_zero, List.set_cons_succ])
              refine M_take 7 rfl (by kernel_rfl) (by assumption) (fun _ _ _ h => h) (Or.inr ⟨by rfl, rfl⟩) ?_
              (try simp only [Act.put, List.setIfInBounds_toArray, List.set_cons_zero, List.set_cons_succ])
              refine M_take 8 rfl (by kernel_rfl) (by assumption) (fun _ _ _ h => h) (Or.inr ⟨by rfl, rfl⟩) ?_
              (try simp only [Act.put, List.setIfInBounds_toArray, List.set_cons_zero, List.set_cons_succ])
              refine M_take 9 rfl (by kernel_rfl) (by assumption) (fun _ _ _ h => h) (Or.inr ⟨by rfl, rfl⟩) ?_
              (try simp only [Act.put, List.setIfInBounds_toArray, List.set_cons_zero, List.set_cons_succ])
              refine M_take 10 rfl (by kernel_rfl) (by assumption) (fun _ _ _ h => h) (Or.inr ⟨by rfl, rfl⟩) ?_
              (try simp only [Act.put, List.setIfInBounds_toArray, List.set_cons_zero, List.set_cons_succ])
              refine M_take 11 rfl (by kernel_rfl) (by assumption) (fun _ _ _ h => h) (Or.inr ⟨by rfl, rfl⟩) ?_
              (try simp only [Act.put, List.setIfInBounds_toArray, List.set_cons_zero, List.set_cons_succ])
              refine M_take 12 rfl (by kernel_rfl) (by assumption) (fun _ _ _ h => h) (Or.inr ⟨by rfl, rfl⟩) ?_
              (try simp only [Act.put, List.setIfInBounds_toArray, List.set_cons_zero, List.set_cons_succ])
              refine M_take 13 rfl (by kernel_rfl) (by assumption) (fun _ _ _ h => h) (Or.inr ⟨by rfl, rfl⟩) ?_
              (try simp only [Act.put, List.setIfInBounds_toArray, List.set_cons_zero, List.set_cons_succ])
              refine M_take (v := ?_) 14 rfl (by kernel_rfl) (by assumption) (fun _ _ _ h => h) (Or.inl ⟨by rfl, ?_⟩) ?_
              rotate_left
              · (intro w hSw; (try dsimp only at hSw); go_simp; (try with_reducible rfl))
              (try simp only [Act.put, List.setIfInBounds_toArray, List.set_cons_zero, List.set_cons_succ])
              refine M_take (v := ?_) 15 rfl (by kernel_rfl) (by assumption) (fun _ _ _ h => h) (Or.inl ⟨by rfl, ?_⟩) ?_
              rotate_left
              · (intro w hSw; (try dsimp only at hSw); go_simp; (try with_reducible rfl))
              (try simp only [Act.put, List.setIfInBounds_toArray, List.set_cons_zero, List.set_cons_succ])
              refine M_take 16 rfl (by kernel_rfl) (by assumption) (fun _ _ _ h => h) (Or.inr ⟨by rfl, rfl⟩) ?_
              (try simp only [Act.put, List.setIfInBounds_toArray, List.set_cons_zero, List.set_cons_succ])
              refine M_take 17 rfl (by kernel_rfl) (by assumption) (fun _ _ _ h => h) (Or.inr ⟨by rfl, rfl⟩) ?_
              (try simp only [Act.put, List.setIfInBounds_toArray, List.set_cons_zero, List.set_cons_succ])
              refine M_take 18 rfl (by kernel_rfl) (by assumption) (fun _ _ _ h => h) (Or.inr ⟨by rfl, rfl⟩) ?_
              (try simp only [Act.put, List.setIfInBounds_toArray, List.set_cons_zero, List.set_cons_succ])
              refine M_take 19 rfl (by kernel_rfl) (by assumption) (fun _ _ _ h => h) (Or.inr ⟨by rfl, rfl⟩) ?_
              (try simp only [Act.put, List.setIfInBounds_toArray, List.set_cons_zero, List.set_cons_succ])
              refine M_take 20 rfl (by kernel_rfl) (by assumption) (fun _ _ _ h => h) (Or.inr ⟨by rfl, rfl⟩) ?_
              (try simp only [Act.put, List.setIfInBounds_toArray, List.set_cons_zero, List.set_cons_succ])
              refine M_take 21 rfl (by kernel_rfl) (by assumption) (fun _ _ _ h => h) (Or.inr ⟨by rfl, rfl⟩) ?_
              (try simp only [Act.put, List.setIfInBounds_toArray, List.set_cons_zero, List.set_cons_succ])
              refine M_take 22 rfl (by kernel_rfl) (by assumption) (fun _ _ _ h => h) (Or.inr ⟨by rfl, rfl⟩) ?_
              (try simp only [Act.put, List.setIfInBounds_toArray, List.set_cons_zero, List.set_cons_succ])
              refine M_take 23 rfl (by kernel_rfl) (by assumption) (fun _ _ _ h => h) (Or.inr ⟨by rfl, rfl⟩) ?_
              (try simp only [Act.put, List.setIfInBounds_toArray, List.set_cons_zero, List.set_cons_succ])
              refine M_take 24 rfl (by kernel_rfl) (by assumption) (fun _ _ _ h => h) (Or.inr ⟨by rfl, rfl⟩) ?_
              (try simp only [Act.put, List.setIfInBounds_toArray, List.set_cons_zero, List.set_cons_succ])
              refine M_take 25 rfl (by kernel_rfl) (by assumption) (fun _ _ _ h => h) (Or.inr ⟨by rfl, rfl⟩) ?_
              (try simp only [Act.put, List.setIfInBounds_toArray, List.set_cons_zero, List.set_cons_succ])
              refine M_take 26 rfl (by kernel_rfl) (by assumption) (fun _ _ _ h => h) (Or.inr ⟨by rfl, rfl⟩) ?_
              (try simp only [Act.put, List.setIfInBounds_toArray, List.set_cons_zero, List.set_cons_succ])
              refine M_take 27 rfl (by kernel_rfl) (by assumption) (fun _ _ _ h => h) (Or.inr ⟨by rfl, rfl⟩) ?_
              (try simp only [Act.put, List.setIfInBounds_toArray, List.set_cons_zero, List.set_cons_succ])
              refine M_take 28 rfl (by kernel_rfl) (by assumption) (fun _ _ _ h => h) (Or.inr ⟨by rfl, rfl⟩) ?_
              (try simp only [Act.put, List.setIfInBounds_toArray, List.set_cons_zero, List.set_cons_succ])
              refine M_take 29 rfl (by kernel_rfl) (by assumption) (fun _ _ _ h => h) (Or.inr ⟨by rfl, rfl⟩) ?_
              (try simp only [Act.put, List.setIfInBounds_toArray, List.set_cons_zero, List.set_cons_succ])
              refine M_take (v := ?_) 30 rfl (by kernel_rfl) (by assumption) (fun _ _ _ h => h) (Or.inl ⟨by rfl, ?_⟩) ?_
              rotate_left
              · (intro w hSw; (try dsimp only at hSw); go_simp; (try with_reducible rfl))
              (try simp only [Act.put, List.setIfInBounds_toArray, List.set_cons_zero, List.set_cons_succ])
              refine M_done (by kernel_rfl) ?_ _
              clear hT0 c0 c1 c2 zC s0
              go_wp2_with fail
              go_ret
              exact ⟨rfl, D.out.drew⟩
            by_cases q2 : (c.m : Int) ≤ z
            · have d1 : decide (z < 0) = false := decide_eq_false (by omega)
              have d2 : decide (z ≥ (c.m : Int)) = true := decide_eq_true q2
              have d2' : decide ((c.m : Int) ≤ z) = true := d2
              clear q1 q2
              subst eS
              go_wp2_with fail
              refine wp_region_M [] (fun w' => w'.cell? ⟨w.heap.size, 2, none⟩ = some (.slice c.MA c.m c.mc) ∧ w'.cell? (az.add a) = some (.int .i64 z)) (by kernel_rfl) (by kernel_rfl) (by (try dsimp only); (repeat' apply And.intro); all_goals first | assumption | (go_simp; done)) (fun hT0 => ?_)
              refine M_take (v := ?_) 0 rfl (by kernel_rfl) (by assumption) (fun _ _ _ h => h) (Or.inl ⟨by rfl, ?_⟩) ?_
              rotate_left
              · (intro w hSw; (try dsimp only at hSw); go_simp; (try with_reducible rfl))
              (try simp only [Act.put, List.setIfInBounds_toArray, List.set_cons_zero, List.set_cons_succ])
              refine M_take (v := ?_) 1 rfl (by kernel_rfl) (by assumption) (fun _ _ _ h => h) (Or.inl ⟨by rfl, ?_⟩) ?_
              rotate_left
              · (intro w hSw; (try dsimp only at hSw); go_simp; (try with_reducible rfl))
              (try simp only [Act.put, List.setIfInBounds_toArray, List.set_cons_zero, List.set_cons_succ])
              refine M_take (v := ?_) 2 rfl (by kernel_rfl) (by assumption) (fun _ _ _ h => h) (Or.inl ⟨by rfl, ?_⟩) ?_
              rotate_left
              · (intro w hSw; (try dsimp only at hSw); go_simp; (try with_reducible rfl))
              (try simp only [Act.put, List.setIfInBounds_toArray, List.set_cons_zero, List.set_cons_succ])
              refine M_take (v := ?_) 3 rfl (by kernel_rfl) (by assumption) (fun _ _ _ h => h) (Or.inl ⟨by rfl, ?_⟩) ?_
              rotate_left
              · (intro w hSw; (try dsimp only at hSw); go_simp; (try with_reducible rfl))
              (try simp only [Act.put, List.setIfInBounds_toArray, List.set_cons_zero, List.set_cons_succ])
              refine M_take (v := ?_) 4 rfl (by kernel_rfl) (by assumption) (fun _ _ _ h => h) (Or.inl ⟨by rfl, ?_⟩) ?_
              rotate_left
              · (intro w hSw; (try dsimp only at hSw); go_simp; (try with_reducible rfl))
              (try simp only [Act.put, List.setIfInBounds_toArray, List.set_cons_zero, List.set_cons_succ])
              refine M_take (v := ?_) 5 rfl (by kernel_rfl) (by assumption) (fun _ _ _ h => h) (Or.inl ⟨by rfl, ?_⟩) ?_
              rotate_left
              · (intro w hSw; (try dsimp only at hSw); go_simp; (try with_reducible rfl))
              (try simp only [Act.put, List.setIfInBounds_toArray, List.set_cons_zero, List.set_cons_succ])
              refine M_take (v := ?_) 6 rfl (by kernel_rfl) (by assumption) (fun _ _ _ h => h) (Or.inl ⟨by rfl, ?_⟩) ?_
              rotate_left
              · (intro w hSw; (try dsimp only at hSw); go_simp; (try with_reducible rfl))
              (try simp only [Act.put, List.setIfInBounds_toArray, List.set_cons_zero, List.set_cons_succ])
              refine M_take (v := ?_) 7 rfl (by kernel_rfl) (by assumption) (fun _ _ _ h => h) (Or.inl ⟨by rfl, ?_⟩) ?_
              rotate_left
              · (intro w hSw; (try dsimp only at hSw); go_simp; (try with_reducible rfl))
              (try simp only [Act.put, List.setIfInBounds_toArray, List.set_cons_zero, List.set_cons_succ])
              refine M_take (v := ?_) 8 rfl (by kernel_rfl) (by assumption) (fun _ _ _ h => h) (Or.inl ⟨by rfl, ?_⟩) ?_
              rotate_left
              · (intro w hSw; (try dsimp only at hSw); go_simp; (try with_reducible rfl))
              (try simp only [Act.put, List.setIfInBounds_toArray, List.set_cons_zero, List.set_cons_succ])
              refine M_take (v := ?_) 9 rfl (by kernel_rfl) (by assumption) (fun _ _ _ h => h) (Or.inl ⟨by rfl, ?_⟩) ?_
              rotate_left
              · (intro w hSw; (try dsimp only at hSw); go_simp; (try with_reducible rfl))
              (try simp only [Act.put, List.setIfInBounds_toArray, List.set_cons_zero, List.set_cons_succ])
              refine M_take (v := ?_) 10 rfl (by kernel_rfl) (by assumption) (fun _ _ _ h => h) (Or.inl ⟨by rfl, ?_⟩) ?_
              rotate_left
              · (intro w hSw; (try dsimp only at hSw); go_simp; (try with_reducible rfl))
              (try simp only [Act.put, List.setIfInBounds_toArray, List.set_cons_zero, List.set_cons_succ])
              refine M_take (v := ?_) 11 rfl (by kernel_rfl) (by assumption) (fun _ _ _ h => h) (Or.inl ⟨by rfl, ?_⟩) ?_
              rotate_left
              · (intro w hSw; (try dsimp only at hSw); go_simp; (try with_reducible rfl))
              (try simp only [Act.put, List.setIfInBounds_toArray, List.set_cons_zero, List.set_cons_succ])
              refine M_take (v := ?_) 12 rfl (by kernel_rfl) (by assumption) (fun _ _ _ h => h) (Or.inl ⟨by rfl, ?_⟩) ?_
              rotate_left
              · (intro w hSw; (try dsimp only at hSw); go_simp; (try with_reducible rfl))
              (try simp only [Act.put, List.setIfInBounds_toArray, List.set_cons_zero, List.set_cons_succ])
              refine M_take (v := ?_) 13 rfl (by kernel_rfl) (by assumption) (fun _ _ _ h => h) (Or.inl ⟨by rfl, ?_⟩) ?_
              rotate_left
              · (intro w hSw; (try dsimp only at hSw); go_simp; (try with_reducible rfl))
              (try simp only [Act.put, List.setIfInBounds_toArray, List.set_cons_zero, List.set_cons_succ])
              refine M_take (v := ?_) 14 rfl (by kernel_rfl) (by assumption) (fun _ _ _ h => h) (Or.inl ⟨by rfl, ?_⟩) ?_
              rotate_left
              · (intro w hSw; (try dsimp only at hSw); go_simp; (try with_reducible rfl))
              (try simp only [Act.put, List.setIfInBounds_toArray, List.set_cons_zero, List.set_cons_succ])
              refine M_take (v := ?_) 15 rfl (by kernel_rfl) (by assumption) (fun _ _ _ h => h) (Or.inl ⟨by rfl, ?_⟩) ?_
              rotate_left
              · (intro w hSw; (try dsimp only at hSw); go_simp; (try with_reducible rfl))
              (try simp only [Act.put, List.setIfInBounds_toArray, List.set_cons_zero, List.set_cons_succ])
              refine M_take 16 rfl (by kernel_rfl) (by assumption) (fun _ _ _ h => h) (Or.inr ⟨by rfl, rfl⟩) ?_
              (try simp only [Act.put, List.setIfInBounds_toArray, List.set_cons_zero, List.set_cons_succ])
              refine M_take 17 rfl (by kernel_rfl) (by assumption) (fun _ _ _ h => h) (Or.inr ⟨by rfl, rfl⟩) ?_
              (try simp only [Act.put, List.setIfInBounds_toArray, List.set_cons_zero, List.set_cons_succ])
              refine M_take 18 rfl (by kernel_rfl) (by assumption) (fun _ _ _ h => h) (Or.inr ⟨by rfl, rfl⟩) ?_
              (try simp only [Act.put, List.setIfInBounds_toArray, List.set_cons_zero, List.set_cons_succ])
              refine M_take 19 rfl (by kernel_rfl) (by assumption) (fun _ _ _ h => h) (Or.inr ⟨by rfl, rfl⟩) ?_
              (try simp only [Act.put, List.setIfInBounds_toArray, List.set_cons_zero, List.set_cons_succ])
              refine M_take 20 rfl (by kernel_rfl) (by assumption) (fun _ _ _ h => h) (Or.inr ⟨by rfl, rfl⟩) ?_
              (try simp only [Act.put, List.setIfInBounds_toArray, List.set_cons_zero, List.set_cons_succ])
              refine M_take 21 rfl (by kernel_rfl) (by assumption) (fun _ _ _ h => h) (Or.inr ⟨by rfl, rfl⟩) ?_
              (try simp only [Act.put, List.setIfInBounds_toArray, List.set_cons_zero, List.set_cons_succ])
              refine M_take 22 rfl (by kernel_rfl) (by assumption) (fun _ _ _ h => h) (Or.inr ⟨by rfl, rfl⟩) ?_
              (try simp only [Act.put, List.setIfInBounds_toArray, List.set_cons_zero, List.set_cons_succ])
              refine M_take 23 rfl (by kernel_rfl) (by assumption) (fun _ _ _ h => h) (Or.inr ⟨by rfl, rfl⟩) ?_
              (try simp only [Act.put, List.setIfInBounds_toArray, List.set_cons_zero, List.set_cons_succ])
              refine M_take 24 rfl (by kernel_rfl) (by assumption) (fun _ _ _ h => h) (Or.inr ⟨by rfl, rfl⟩) ?_
              (try simp only [Act.put, List.setIfInBounds_toArray, List.set_cons_zero, List.set_cons_succ])
              refine M_take 25 rfl (by kernel_rfl) (by assumption) (fun _ _ _ h => h) (Or.inr ⟨by rfl, rfl⟩) ?_
              (try simp only [Act.put, List.setIfInBounds_toArray, List.set_cons_zero, List.set_cons_succ])
              refine M_take 26 rfl (by kernel_rfl) (by assumption) (fun _ _ _ h => h) (Or.inr ⟨by rfl, rfl⟩) ?_
              (try simp only [Act.put, List.setIfInBounds_toArray, List.set_cons_zero, List.set_cons_succ])
              refine M_take 27 rfl (by kernel_rfl) (by assumption) (fun _ _ _ h => h) (Or.inr ⟨by rfl, rfl⟩) ?_
              (try simp only [Act.put, List.setIfInBounds_toArray, List.set_cons_zero, List.set_cons_succ])
              refine M_take 28 rfl (by kernel_rfl) (by assumption) (fun _ _ _ h => h) (Or.inr ⟨by rfl, rfl⟩) ?_
              (try simp only [Act.put, List.setIfInBounds_toArray, List.set_cons_zero, List.set_cons_succ])
              refine M_take 29 rfl (by kernel_rfl) (by assumption) (fun _ _ _ h => h) (Or.inr ⟨by rfl, rfl⟩) ?_
              (try simp only [Act.put, List.setIfInBounds_toArray, List.set_cons_zero, List.set_cons_succ])
              refine M_take (v := ?_) 30 rfl (by kernel_rfl) (by assumption) (fun _ _ _ h => h) (Or.inl ⟨by rfl, ?_⟩) ?_
              rotate_left
              · (intro w hSw; (try dsimp only at hSw); go_simp; (try with_reducible rfl))
              (try simp only [Act.put, List.setIfInBounds_toArray, List.set_cons_zero, List.set_cons_succ])
              refine M_done (by kernel_rfl) ?_ _
              clear hT0 c0 c1 c2 zC s0
              go_wp2_with fail
              go_ret
              exact ⟨rfl, D.out.drew⟩
            have h0 : ¬ a = 0 := fun h => HB3.out ⟨⟨by rw [← HZa.out]; omega, by rw [← HZa.out]; omega⟩, .inl h⟩
            obtain ⟨b, hb1⟩ : ∃ b : Nat, b + 1 = a := ⟨a - 1, by omega⟩
            have hbn : b < n := by omega
            have wb : IntKind.i64.wrap ((a : Int) - 1) = (b : Int) := by rw [show ((a : Int) - 1) = (b : Int) by omega]; exact IntWalk.i64_in _ (by omega)
            obtain ⟨az2, eS2, lS2, s1⟩ := (SS.out w5 D.out).2 b hbn
            rw [eS] at eS2
            cases eS2
            obtain ⟨z2, hz2⟩ : ∃ z, z = Z b := ⟨_, rfl⟩
            rw [← hz2] at s1
            have HZb := Lib.hid hz2
            have hb0 : (0 : Int) ≤ (b : Int) := by omega
            have hbi : (b : Int) < (n : Int) := by omega
            have HB1 := Lib.hid hb1
            clear hz2
            have g4 : z ≤ z2 := by
              by_cases h : z ≤ z2
              · exact h
              · exact absurd ⟨⟨by rw [← HZa.out]; omega, by rw [← HZa.out]; omega⟩, .inr (by rw [← hb1, Nat.add_sub_cancel, hb1, ← HZb.out, ← HZa.out]; omega)⟩ HB3.out
            have d1 : decide (z < 0) = false := decide_eq_false (by omega)
            have d2 : decide (z ≥ (c.m : Int)) = false := decide_eq_false (by omega)
            have d2' : decide ((c.m : Int) ≤ z) = false := d2
            have d3 : decide ((a : Int) > 0) = true := decide_eq_true (by omega)
            have d3' : decide ((0 : Int) < (a : Int)) = true := d3
            have d3n : decide (0 < a) = true := decide_eq_true (by omega)
            have d4 : decide (z ≤ z2) = true := decide_eq_true g4
            clear q1 q2 g4
            clear hb1
            subst eS
            go_wp2_with fail
            refine wp_region_M [] (fun w' => w'.cell? ⟨w.heap.size, 2, none⟩ = some (.slice c.MA c.m c.mc) ∧ w'.cell? (az.add a) = some (.int .i64 z) ∧ w'.cell? (az.add b) = some (.int .i64 z2)) (by kernel_rfl) (by kernel_rfl) (by (try dsimp only); (repeat' apply And.intro); all_goals first | assumption | (go_simp; done)) (fun hT0 => ?_)
            refine M_take (v := ?_) 0 rfl (by kernel_rfl) (by assumption) (fun _ _ _ h => h) (Or.inl ⟨by rfl, ?_⟩) ?_
            rotate_left
            · (intro w hSw; (try dsimp only at hSw); go_simp; (try with_reducible rfl))
            (try simp only [Act.put, List.setIfInBounds_toArray, List.set_cons_zero, List.set_cons_succ])
            refine M_take (v := ?_) 1 rfl (by kernel_rfl) (by assumption) (fun _ _ _ h => h) (Or.inl ⟨by rfl, ?_⟩) ?_
            rotate_left
            · (intro w hSw; (try dsimp only at hSw); go_simp; (try with_reducible rfl))
            (try simp only [Act.put, List.setIfInBounds_toArray, List.set_cons_zero, List.set_cons_succ])
            refine M_take (v := ?_) 2 rfl (by kernel_rfl) (by assumption) (fun _ _ _ h => h) (Or.inl ⟨by rfl, ?_⟩) ?_
            rotate_left
            · (intro w hSw; (try dsimp only at hSw); go_simp; (try with_reducible rfl))
            (try simp only [Act.put, List.setIfInBounds_toArray, List.set_cons_zero, List.set_cons_succ])
            refine M_take (v := ?_) 3 rfl (by kernel_rfl) (by assumption) (fun _ _ _ h => h) (Or.inl ⟨by rfl, ?_⟩) ?_
            rotate_left
            · (intro w hSw; (try dsimp only at hSw); go_simp; (try with_reducible rfl))
            (try simp only [Act.put, List.setIfInBounds_toArray, List.set_cons_zero, List.set_cons_succ])
            refine M_take (v := ?_) 4 rfl (by kernel_rfl) (by assumption) (fun _ _ _ h => h) (Or.inl ⟨by rfl, ?_⟩) ?_
            rotate_left
            · (intro w hSw; (try dsimp only at hSw); go_simp; (try with_reducible rfl))
            (try simp only [Act.put, List.setIfInBounds_toArray, List.set_cons_zero, List.set_cons_succ])
            refine M_take (v := ?_) 5 rfl (by kernel_rfl) (by assumption) (fun _ _ _ h => h) (Or.inl ⟨by rfl, ?_⟩) ?_
            rotate_left
            · (intro w hSw; (try dsimp only at hSw); go_simp; (try with_reducible rfl))
            (try simp only [Act.put, List.setIfInBounds_toArray, List.set_cons_zero, List.set_cons_succ])
            refine M_take (v := ?_) 6 rfl (by kernel_rfl) (by assumption) (fun _ _ _ h => h) (Or.inl ⟨by rfl, ?_⟩) ?_
            rotate_left
            · (intro w hSw; (try dsimp only at hSw); go_simp; (try with_reducible rfl))
            (try simp only [Act.put, List.setIfInBounds_toArray, List.set_cons_zero, List.set_cons_succ])
            refine M_take (v := ?_) 7 rfl (by kernel_rfl) (by assumption) (fun _ _ _ h => h) (Or.inl ⟨by rfl, ?_⟩) ?_
            rotate_left
            · (intro w hSw; (try dsimp only at hSw); go_simp; (try with_reducible rfl))
            (try simp only [Act.put, List.setIfInBounds_toArray, List.set_cons_zero, List.set_cons_succ])
            refine M_take (v := ?_) 8 rfl (by kernel_rfl) (by assumption) (fun _ _ _ h => h) (Or.inl ⟨by rfl, ?_⟩) ?_
            rotate_left
            · (intro w hSw; (try dsimp only at hSw); go_simp; (try with_reducible rfl))
            (try simp only [Act.put, List.setIfInBounds_toArray, List.set_cons_zero, List.set_cons_succ])
            refine M_take (v := ?_) 9 rfl (by kernel_rfl) (by assumption) (fun _ _ _ h => h) (Or.inl ⟨by rfl, ?_⟩) ?_
            rotate_left
            · (intro w hSw; (try dsimp only at hSw); go_simp; (try with_reducible rfl))
            (try simp only [Act.put, List.setIfInBounds_toArray, List.set_cons_zero, List.set_cons_succ])
            refine M_take (v := ?_) 10 rfl (by kernel_rfl) (by assumption) (fun _ _ _ h => h) (Or.inl ⟨by rfl, ?_⟩) ?_
            rotate_left
            · (intro w hSw; (try dsimp only at hSw); go_simp; (try with_reducible rfl))
            (try simp only [Act.put, List.setIfInBounds_toArray, List.set_cons_zero, List.set_cons_succ])
            refine M_take (v := ?_) 11 rfl (by kernel_rfl) (by assumption) (fun _ _ _ h => h) (Or.inl ⟨by rfl, ?_⟩) ?_
            rotate_left
            · (intro w hSw; (try dsimp only at hSw); go_simp; (try with_reducible rfl))
            (try simp only [Act.put, List.setIfInBounds_toArray, List.set_cons_zero, List.set_cons_succ])
            refine M_take (v := ?_) 12 rfl (by kernel_rfl) (by assumption) (fun _ _ _ h => h) (Or.inl ⟨by rfl, ?_⟩) ?_
            rotate_left
            · (intro w hSw; (try dsimp only at hSw); go_simp; (try with_reducible rfl))
            (try simp only [Act.put, List.setIfInBounds_toArray, List.set_cons_zero, List.set_cons_succ])
            refine M_take (v := ?_) 13 rfl (by kernel_rfl) (by assumption) (fun _ _ _ h => h) (Or.inl ⟨by rfl, ?_⟩) ?_
            rotate_left
            · (intro w hSw; (try dsimp only at hSw); go_simp; (try with_reducible rfl))
            (try simp only [Act.put, List.setIfInBounds_toArray, List.set_cons_zero, List.set_cons_succ])
            refine M_take (v := ?_) 14 rfl (by kernel_rfl) (by assumption) (fun _ _ _ h => h) (Or.inl ⟨by rfl, ?_⟩) ?_
            rotate_left
            · (intro w hSw; (try dsimp only at hSw); go_simp; (try with_reducible rfl))
            (try simp only [Act.put, List.setIfInBounds_toArray, List.set_cons_zero, List.set_cons_succ])
            refine M_take (v := ?_) 15 rfl (by kernel_rfl) (by assumption) (fun _ _ _ h => h) (Or.inl ⟨by rfl, ?_⟩) ?_
            rotate_left
            · (intro w hSw; (try dsimp only at hSw); go_simp; (try with_reducible rfl))
            (try simp only [Act.put, List.setIfInBounds_toArray, List.set_cons_zero, List.set_cons_succ])
            refine M_take (v := ?_) 16 rfl (by kernel_rfl) (by assumption) (fun _ _ _ h => h) (Or.inl ⟨by rfl, ?_⟩) ?_
            rotate_left
            · (intro w hSw; (try dsimp only at hSw); go_simp; (try with_reducible rfl))
            (try simp only [Act.put, List.setIfInBounds_toArray, List.set_cons_zero, List.set_cons_succ])
            refine M_take (v := ?_) 17 rfl (by kernel_rfl) (by assumption) (fun _ _ _ h => h) (Or.inl ⟨by rfl, ?_⟩) ?_
            rotate_left
            · (intro w hSw; (try dsimp only at hSw); go_simp; (try with_reducible rfl))
            (try simp only [Act.put, List.setIfInBounds_toArray, List.set_cons_zero, List.set_cons_succ])
            refine M_take (v := ?_) 18 rfl (by kernel_rfl) (by assumption) (fun _ _ _ h => h) (Or.inl ⟨by rfl, ?_⟩) ?_
            rotate_left
            · (intro w hSw; (try dsimp only at hSw); go_simp; (try with_reducible rfl))
            (try simp only [Act.put, List.setIfInBounds_toArray, List.set_cons_zero, List.set_cons_succ])
            refine M_take (v := ?_) 19 rfl (by kernel_rfl) (by assumption) (fun _ _ _ h => h) (Or.inl ⟨by rfl, ?_⟩) ?_
            rotate_left
            · (intro w hSw; (try dsimp only at hSw); go_simp; (try with_reducible rfl))
            (try simp only [Act.put, List.setIfInBounds_toArray, List.set_cons_zero, List.set_cons_succ])
            refine M_take (v := ?_) 20 rfl (by kernel_rfl) (by assumption) (fun _ _ _ h => h) (Or.inl ⟨by rfl, ?_⟩) ?_
            rotate_left
            · (intro w hSw; (try dsimp only at hSw); go_simp; (try with_reducible rfl))
            (try simp only [Act.put, List.setIfInBounds_toArray, List.set_cons_zero, List.set_cons_succ])
            refine M_take (v := ?_) 21 rfl (by kernel_rfl) (by assumption) (fun _ _ _ h => h) (Or.inl ⟨by rfl, ?_⟩) ?_
            rotate_left
            · (intro w hSw; (try dsimp only at hSw); go_simp; (try with_reducible rfl))
            (try simp only [Act.put, List.setIfInBounds_toArray, List.set_cons_zero, List.set_cons_succ])
            refine M_take (v := ?_) 22 rfl (by kernel_rfl) (by assumption) (fun _ _ _ h => h) (Or.inl ⟨by rfl, ?_⟩) ?_
            rotate_left
            · (intro w hSw; (try dsimp only at hSw); go_simp; (try with_reducible rfl))
            (try simp only [Act.put, List.setIfInBounds_toArray, List.set_cons_zero, List.set_cons_succ])
            refine M_take (v := ?_) 23 rfl (by kernel_rfl) (by assumption) (fun _ _ _ h => h) (Or.inl ⟨by rfl, ?_⟩) ?_
            rotate_left
            · (intro w hSw; (try dsimp only at hSw); go_simp; (try with_reducible rfl))
            (try simp only [Act.put, List.setIfInBounds_toArray, List.set_cons_zero, List.set_cons_succ])
            refine M_take (v := ?_) 24 rfl (by kernel_rfl) (by assumption) (fun _ _ _ h => h) (Or.inl ⟨by rfl, ?_⟩) ?_
            rotate_left
            · (intro w hSw; (try dsimp only at hSw); go_simp; (try with_reducible rfl))
            (try simp only [Act.put, List.setIfInBounds_toArray, List.set_cons_zero, List.set_cons_succ])
            refine M_take (v := ?_) 25 rfl (by kernel_rfl) (by assumption) (fun _ _ _ h => h) (Or.inl ⟨by rfl, ?_⟩) ?_
            rotate_left
            · (intro w hSw; (try dsimp only at hSw); go_simp; (try with_reducible rfl))
            (try simp only [Act.put, List.setIfInBounds_toArray, List.set_cons_zero, List.set_cons_succ])
            refine M_take (v := ?_) 26 rfl (by kernel_rfl) (by assumption) (fun _ _ _ h => h) (Or.inl ⟨by rfl, ?_⟩) ?_
            rotate_left
            · (intro w hSw; (try dsimp only at hSw); go_simp; (try with_reducible rfl))
            (try simp only [Act.put, List.setIfInBounds_toArray, List.set_cons_zero, List.set_cons_succ])
            refine M_take (v := ?_) 27 rfl (by kernel_rfl) (by assumption) (fun _ _ _ h => h) (Or.inl ⟨by rfl, ?_⟩) ?_
            rotate_left
            · (intro w hSw; (try dsimp only at hSw); go_simp; (try with_reducible rfl))
            (try simp only [Act.put, List.setIfInBounds_toArray, List.set_cons_zero, List.set_cons_succ])
            refine M_take (v := ?_) 28 rfl (by kernel_rfl) (by assumption) (fun _ _ _ h => h) (Or.inl ⟨by rfl, ?_⟩) ?_
            rotate_left
            · (intro w hSw; (try dsimp only at hSw); go_simp; (try with_reducible rfl))
            (try simp only [Act.put, List.setIfInBounds_toArray, List.set_cons_zero, List.set_cons_succ])
            refine M_take (v := ?_) 29 rfl (by kernel_rfl) (by assumption) (fun _ _ _ h => h) (Or.inl ⟨by rfl, ?_⟩) ?_
            rotate_left
            · (intro w hSw; (try dsimp only at hSw); go_simp; (try with_reducible rfl))
            (try simp only [Act.put, List.setIfInBounds_toArray, List.set_cons_zero, List.set_cons_succ])
            refine M_take (v := ?_) 30 rfl (by kernel_rfl) (by assumption) (fun _ _ _ h => h) (Or.inl ⟨by rfl, ?_⟩) ?_
            rotate_left
            · (intro w hSw; (try dsimp only at hSw); go_simp; (try with_reducible rfl))
            (try simp only [Act.put, List.setIfInBounds_toArray, List.set_cons_zero, List.set_cons_succ])
            refine M_done (by kernel_rfl) ?_ _
            clear hT0 c0 c1 c2 zC s0 s1
            go_wp2_with fail
            go_ret
            exact ⟨rfl, D.out.drew⟩
        · obtain rfl : a = n := by omega
          obtain rfl : j = a := by omega
          have hai : ¬ ((j : Int) < (j : Int)) := by omega
          have HZ : Hid (∀ i, i < j → 0 ≤ Z i ∧ Z i < c.m) := Lib.hid fun i hi => (J2.out i hi).1
          have hW := set_math HDK.out.2.2 (n := j) (Z := Z) HZ.out
          have hRW : R = !(withB j Z L L.length) := by
            apply Bool.eq_iff_iff.2
            rw [HR.out, hW, ← withB_iff (n := j) (Z := Z)]
            cases withB j Z L L.length <;> simp
          have HRW := Lib.hid hRW
          have KE : Hid (∀ W, Below w.heap.size w W → Calls Try.prog 70 #[.slice c.MA c.m c.mc, .slice S j sc] W fun e w' => ∃ B kc N H, e = .returned (.slice B N kc) ∧ (FeR c.d N H R 0 ∧ TrsIn B N H w'.heap.size w') ∧ Below W.heap.size W w') := Lib.hid fun W h => (pick_any c.MA S c.m j c.mc sc c.F Z W (CC.out W h).2 (SS.out W h) (by omega) (by omega)).mono fun e w' ⟨B, kc, h1, h2, h3⟩ => ⟨B, kc, _, _, h1, ⟨.inr ⟨rfl, HDK.out.1, pkL_ok HDK.out.2.1 (by omega) HZ.out, HR.out⟩, h2⟩, h3⟩
          clear hW hRW hlt j1 ha
          have Dw5 := Lib.hid D.out
          go_wp2_with fail
          clear c0 c1 c2 zC
          go_loopw [9, 10, 11, 12, 13, 14, 15] (fun vw vi va vk vr vo vf wr => ∃ a : Nat, a ≤ L.length ∧ vi = .int .i64 (a : Int) ∧ vw = .bool (withB j Z L a) ∧ Below w5.heap.size w5 wr) (fun _ vi _ _ _ _ _ _ => L.length - (intOf vi).toNat)
          case atStart => exact ⟨0, Nat.zero_le _, rfl, rfl, Below.refl _ _⟩
          case round =>
            obtain ⟨a, ha, rfl, rfl, hb⟩ := hrel
            obtain ⟨w6, rfl⟩ : ∃ w6 : World, w6 = wr := ⟨_, rfl⟩
            have B6 := Lib.hid hb
            have D := Lib.hid (nextB Dw5.out hb)
            have D4 := Lib.hid (nextB D5.out hb)
            have C := Lib.hid (C.out.up hb)
            have ha0 : (0 : Int) ≤ (a : Int) := by omega
            clear hb
            by_cases hlt : a < L.length
            · have hai : (a : Int) < (L.length : Int) := by omega
              obtain ⟨x, ad, A1, c1', hxL, hxa, eA, lA, p0, hxi, hcap⟩ := (LA.out w6 D4.out).at hlt
              have HWS := Lib.hid (withB_succ (n := j) (Z := Z) hxa)
              have hx2 := HXL.out.1 x hxL
              have HCAP := Lib.hid hcap
              have XI : Hid (∀ W, Below w6.heap.size w6 W → LiIn A1 x W) := Lib.hid fun W h => hxi.up h
              have PT : Hid (∀ W, Below w6.heap.size w6 W → W.cell? (ad.add a) = some (.slice A1 x.length c1')) := Lib.hid fun W h => cellA_of h p0
              have KF1 := Lib.hid (fun A' c' k => KF.out A' c' x k hxL)
              have wa : IntKind.i64.wrap ((a : Int) + 1) = ((a + 1 : Nat) : Int) := by rw [show ((a : Int) + 1) = ((a + 1 : Nat) : Int) by omega]; exact IntWalk.i64_in _ (by omega)
              have WA := Lib.hid wa
              subst eA
              clear hxi wa lA hxa hcap hxL
              go_wp2_with fail
              clear p0
              go_loopw [11, 12, 13, 14, 15] (fun va vk vr vo vf wr => ∃ e : Nat, e ≤ x.length ∧ vk = .int .i64 (e : Int) ∧ va = .bool (allB j Z x e) ∧ Below w6.heap.size w6 wr) (fun _ vk _ _ _ _ => x.length - (intOf vk).toNat)
              case atStart => exact ⟨0, Nat.zero_le _, rfl, rfl, Below.refl _ _⟩
              case round =>
                obtain ⟨e, hel, rfl, rfl, hb⟩ := hrel
                obtain ⟨w7, rfl⟩ : ∃ w7 : World, w7 = wr := ⟨_, rfl⟩
                have B7 := Lib.hid hb
                have D7 := Lib.hid (nextB D.out hb)
                have C := Lib.hid (C.out.up hb)
                clear hb
                have he0 : (0 : Int) ≤ (e : Int) := by omega
                have p0 := PT.out w7 B7.out
                by_cases hle : e < x.length
                · have hei : (e : Int) < (x.length : Int) := by omega
                  obtain ⟨ay, ey, ly, y0⟩ := (XI.out w7 B7.out).2 e hle
                  subst ey
                  have hcap : x.length ≤ c1' := HCAP.out (by omega)
                  have hcapi : (x.length : Int) ≤ (c1' : Int) := by omega
                  have hec : (e : Int) ≤ (c1' : Int) := by omega
                  have hec1 : (e : Int) + 1 ≤ (c1' : Int) := by omega
                  have he1 : (e : Int) + 1 ≤ (x.length : Int) := by omega
                  have he10 : (0 : Int) ≤ (e : Int) + 1 := by omega
                  have we : IntKind.i64.wrap ((e : Int) + 1) = ((e + 1 : Nat) : Int) := by rw [show ((e : Int) + 1) = ((e + 1 : Nat) : Int) by omega]; exact IntWalk.i64_in _ (by omega)
                  have WE := Lib.hid we
                  have HC : Hid (Calls Try.prog 69 #[.slice S j sc, .int .i64 (x.getD e 0)] w7 fun e5 w' => e5 = .returned (.bool ((List.range j).any (fun a => Z a == x.getD e 0))) ∧ w' = w7) := Lib.hid (has_any S j sc Z _ _ w7 (SS.out _ D7.out) (any_iff j _ _))
                  have HN := Lib.hid (allB_succ j Z x e)
                  generalize (List.range j).any (fun a => Z a == x.getD e 0) = gq at HC HN
                  simp only at y0
                  generalize x.getD e 0 = y at y0 HC
                  clear we ly
                  have PQ : Hid (∀ W, Below w7.heap.size w7 W → LiIn (some ay) x W) := Lib.hid fun W h => XI.out W (nextB B7.out h)
                  have P7 : Hid (∀ W, Below w7.heap.size w7 W → W.cell? (ad.add a) = some (.slice (some ay) x.length c1')) := Lib.hid fun W h => PT.out W (nextB B7.out h)
                  obtain ⟨i0, hi0, hz0, hz1, hz2⟩ := info_parts Try.infoInt
                  obtain ⟨zz, hzz, hcut⟩ := li_cut2 ay hcap e
                  have HCUT := Lib.hid hcut
                  have HZZ := Lib.hid hzz
                  clear hcut hzz
                  cases hh : allB j Z x e with
                  | true =>
                    rw [hh] at HN
                    clear hh
                    go_wp2_with fail
                    refine HC.out.mono ?_
                    rintro e5 w11 ⟨rfl, hw11⟩
                    rw [hw11]
                    clear hw11 w11
                    go_wp2_with fail
                    clear y0
                    have we := WE.out
                    refine wp_region_M [] (fun w' => w'.cell? (ad.add a) = some (.slice (some ay) x.length c1')) (by kernel_rfl) (by kernel_rfl) (by (try dsimp only); (repeat' apply And.intro); all_goals first | assumption | (go_simp; done)) (fun hT0 => ?_)
                    refine M_take (v := ?_) 1 rfl (by kernel_rfl) (by assumption) (fun _ _ _ h => h) (Or.inl ⟨by rfl, ?_⟩) ?_
                    rotate_left
                    · (intro w hSw; (try dsimp only at hSw); go_simp; (try with_reducible rfl))
                    (try simp only [Act.put, List.setIfInBounds_toArray, List.set_cons_zero, List.set_cons_succ])
                    refine M_take (v := ?_) 2 rfl (by kernel_rfl) (by assumption) (fun _ _ _ h => h) (Or.inl ⟨by rfl, ?_⟩) ?_
                    rotate_left
                    · (intro w hSw; (try dsimp only at hSw); go_simp; (try with_reducible rfl))
                    (try simp only [Act.put, List.setIfInBounds_toArray, List.set_cons_zero, List.set_cons_succ])
                    refine M_take (v := ?_) 3 rfl (by kernel_rfl) (by assumption) (fun _ _ _ h => h) (Or.inl ⟨by rfl, ?_⟩) ?_
                    rotate_left
                    · (intro w hSw; (try dsimp only at hSw); go_simp; (try with_reducible rfl))
                    (try simp only [Act.put, List.setIfInBounds_toArray, List.set_cons_zero, List.set_cons_succ])
                    refine M_take (v := ?_) 4 rfl (by kernel_rfl) (by assumption) (fun _ _ _ h => h) (Or.inl ⟨by rfl, ?_⟩) ?_
                    rotate_left
                    · (intro w hSw; (try dsimp only at hSw); go_simp; (try with_reducible rfl))
                    (try simp only [Act.put, List.setIfInBounds_toArray, List.set_cons_zero, List.set_cons_succ])
                    refine M_take (v := ?_) 5 rfl (by kernel_rfl) (by assumption) (fun _ _ _ h => h) (Or.inl ⟨by rfl, ?_⟩) ?_
                    rotate_left
                    · (intro w hSw; (try dsimp only at hSw); go_simp; (try with_reducible rfl))
                    (try simp only [Act.put, List.setIfInBounds_toArray, List.set_cons_zero, List.set_cons_succ])
                    refine M_take (v := ?_) 6 rfl (by kernel_rfl) (by assumption) (fun _ _ _ h => h) (Or.inl ⟨by rfl, ?_⟩) ?_
                    rotate_left
                    · (intro w hSw; (try dsimp only at hSw); go_simp; (try with_reducible rfl))
                    (try simp only [Act.put, List.setIfInBounds_toArray, List.set_cons_zero, List.set_cons_succ])
                    refine M_take (v := ?_) 8 rfl (by kernel_rfl) (by assumption) (fun _ _ _ h => h) (Or.inl ⟨by rfl, ?_⟩) ?_
                    rotate_left
                    · (intro w hSw; (try dsimp only at hSw); go_simp; (try with_reducible rfl))
                    (try simp only [Act.put, List.setIfInBounds_toArray, List.set_cons_zero, List.set_cons_succ])
                    refine M_take (v := ?_) 9 rfl (by kernel_rfl) (by assumption) (fun _ _ _ h => h) (Or.inl ⟨by rfl, ?_⟩) ?_
                    rotate_left
                    · (intro w hSw; (try dsimp only at hSw); go_simp; (try with_reducible rfl))
                    (try simp only [Act.put, List.setIfInBounds_toArray, List.set_cons_zero, List.set_cons_succ])
                    refine M_take (v := ?_) 10 rfl (by kernel_rfl) (by assumption) (fun _ _ _ h => h) (Or.inl ⟨by rfl, ?_⟩) ?_
                    rotate_left
                    · (intro w hSw; (try dsimp only at hSw); go_simp; (try with_reducible rfl))
                    (try simp only [Act.put, List.setIfInBounds_toArray, List.set_cons_zero, List.set_cons_succ])
                    refine M_take (v := ?_) 11 rfl (by kernel_rfl) (by assumption) (fun _ _ _ h => h) (Or.inl ⟨by rfl, ?_⟩) ?_
                    rotate_left
                    · (intro w hSw; (try dsimp only at hSw); go_simp; (try with_reducible rfl))
                    (try simp only [Act.put, List.setIfInBounds_toArray, List.set_cons_zero, List.set_cons_succ])
                    refine M_take (v := ?_) 12 rfl (by kernel_rfl) (by assumption) (fun _ _ _ h => h) (Or.inl ⟨by rfl, ?_⟩) ?_
                    rotate_left
                    · (intro w hSw; (try dsimp only at hSw); go_simp; (try with_reducible rfl))
                    (try simp only [Act.put, List.setIfInBounds_toArray, List.set_cons_zero, List.set_cons_succ])
                    refine M_take (v := ?_) 13 rfl (by kernel_rfl) (by assumption) (fun _ _ _ h => h) (Or.inl ⟨by rfl, ?_⟩) ?_
                    rotate_left
                    · (intro w hSw; (try dsimp only at hSw); go_simp; (try with_reducible rfl))
                    (try simp only [Act.put, List.setIfInBounds_toArray, List.set_cons_zero, List.set_cons_succ])
                    refine M_take (v := ?_) 14 rfl (by kernel_rfl) (by assumption) (fun _ _ _ h => h) (Or.inl ⟨by rfl, ?_⟩) ?_
                    rotate_left
                    · (intro w hSw; (try dsimp only at hSw); go_simp; (try with_reducible rfl))
                    (try simp only [Act.put, List.setIfInBounds_toArray, List.set_cons_zero, List.set_cons_succ])
                    refine M_step 0 rfl (by kernel_rfl) (fun K hK => ?_)
                    go_simp
                    have D2 := Lib.hid (show Below w7.heap.size w7 (w7.drew.alloc (.cells #[] 3)) from nextB (Below.refl _ _).drew (box1 w7.drew _))
                    have hT2 : (fun w' => w'.cell? (ad.add a) = some (.slice (some ay) x.length c1')) (w7.drew.alloc (.cells #[] 3)) := P7.out _ D2.out
                    have ho2 : (w7.drew.alloc (.cells #[] 3)).ownsRow w7.heap.size 3 1 (.slice (some ⟨w7.heap.size, 0, none⟩) 0 0) 0 [] := own_empty w7.drew _ _
                    refine hK.out _ _ (fun _ => hT2) ?_
                    clear hK K
                    (try simp only [Act.put, List.setIfInBounds_toArray, List.set_cons_zero, List.set_cons_succ])
                    refine M_step 7 rfl (by kernel_rfl) (fun K hK => ?_)
                    refine step_append_own rfl (.tmp 113) (.tmp 119) 29 rfl w7.heap.size 3 i0 (.int .i64 0) 1 8 Try.underlying29 hi0 hz0 hz1 hz2 rfl (by decide) _ 0 [] (by simp [Act.eval]; first | done | rfl) ho2 ay e c1' (intsZ (x.take e)) (by simp [Act.eval]; first | done | exact HZZ.out | rfl) (by simp [intsZ]; try omega) (((li_cut (PQ.out _ D2.out) e).1)) (intsZ_one _) (by unfold maxLen; omega) (by omega) D2.out.size ?_
                    intro v1 w2 hown1 hg1
                    have D3 := Lib.hid (D2.out.grown hg1 D2.out.size (fun r e => (own_block ho2 e).1))
                    have hT3 : (fun w' => w'.cell? (ad.add a) = some (.slice (some ay) x.length c1')) w2 := P7.out _ D3.out
                    refine hK.out _ _ (fun _ => hT3) ?_
                    clear hK K hg1 ho2
                    (try simp only [Act.put, List.setIfInBounds_toArray, List.set_cons_zero, List.set_cons_succ])
                    rw [HZZ.out]
                    refine M_step 15 rfl (by kernel_rfl) (fun K hK => ?_)
                    refine step_append_own rfl (.tmp 120) (.tmp 127) 29 rfl w7.heap.size 3 i0 (.int .i64 0) 1 8 Try.underlying29 hi0 hz0 hz1 hz2 rfl (by decide) _ _ _ (by simp [Act.eval]; first | done | rfl) hown1 zz (x.length - (e + 1)) (c1' - (e + 1)) (intsZ (x.drop (e + 1))) (by simp [Act.eval]; first | done | exact HZZ.out | rfl) (by simp [intsZ]; try omega) ((HCUT.out _ (PQ.out _ D3.out))) (intsZ_one _) (by unfold maxLen; omega) (by omega) D3.out.size ?_
                    intro v2 w3 hown2 hg2
                    have D4 := Lib.hid (D3.out.grown hg2 D3.out.size (fun r e => (own_block hown1 e).1))
                    have hT4 : (fun w' => w'.cell? (ad.add a) = some (.slice (some ay) x.length c1')) w3 := P7.out _ D4.out
                    have hown3 : w3.ownsRow w7.heap.size 3 1 v2 (dropK x e).length (intsZ (dropK x e)) := by
                      rw [dropK_len hle]
                      unfold dropK
                      rw [show intsZ (x.take e ++ x.drop (e + 1)) = intsZ (x.take e) ++ intsZ (x.drop (e + 1)) by simp [intsZ]]
                      rw [Nat.zero_add, List.nil_append] at hown2
                      exact hown2
                    obtain ⟨A2, k2, rfl, hi2⟩ := row_ints hown3 (by have := dropK_len hle; omega)
                    have HI2 := Lib.hid hi2
                    refine hK.out _ _ (fun _ => hT4) ?_
                    clear hK K hg2 hown2 hown3 hi2 hown1
                    (try simp only [Act.put, List.setIfInBounds_toArray, List.set_cons_zero, List.set_cons_succ])
                    refine M_step 16 rfl (by kernel_rfl) (fun K hK => ?_)
                    go_simp
                    refine hK.out _ _ (fun _ => by assumption) ?_
                    clear hK K
                    (try simp only [Act.put, List.setIfInBounds_toArray, List.set_cons_zero, List.set_cons_succ])
                    refine M_done (by kernel_rfl) ?_ _
                    clear hT0 hT2 hT3 hT4 p0
                    have D8 := Lib.hid (nextB D7.out D4.out)
                    have C := Lib.hid (C.out.up D4.out)
                    have KF2 := Lib.hid (KF1.out A2 k2 e hle)
                    obtain ⟨c0, c1, c2⟩ := C.out
                    have zC := C.out.lt
                    generalize (dropK x e).length = q2 at KF2 HI2 ⊢
                    have CT : Hid (∀ W, Below w3.heap.size w3 W → W.cell? ⟨w.heap.size, 0, none⟩ = some (.slice c.d.RA c.d.n c.d.rc) ∧ W.cell? ⟨w.heap.size, 1, none⟩ = some (.slice c.d.SA c.d.m c.d.sc) ∧ W.cell? ⟨w.heap.size, 2, none⟩ = some (.slice c.MA c.m c.mc)) := Lib.hid fun W h => ⟨cell_up h zC c0, cell_up h zC c1, cell_up h zC c2⟩
                    go_wp2_with fail
                    refine wp_region_M [] (fun w' => w'.cell? ⟨w.heap.size, 0, none⟩ = some (.slice c.d.RA c.d.n c.d.rc) ∧ w'.cell? ⟨w.heap.size, 1, none⟩ = some (.slice c.d.SA c.d.m c.d.sc) ∧ w'.cell? ⟨w.heap.size, 2, none⟩ = some (.slice c.MA c.m c.mc)) (by kernel_rfl) (by kernel_rfl) (by (try dsimp only); (repeat' apply And.intro); all_goals first | assumption | (go_simp; done)) (fun hT0 => ?_)
                    refine M_take (v := ?_) 0 rfl (by kernel_rfl) (by assumption) (fun _ _ _ h => h) (Or.inl ⟨by rfl, ?_⟩) ?_
                    rotate_left
                    · (intro w hSw; (try dsimp only at hSw); go_simp; (try with_reducible rfl))
                    (try simp only [Act.put, List.setIfInBounds_toArray, List.set_cons_zero, List.set_cons_succ])
                    refine M_take (v := ?_) 1 rfl (by kernel_rfl) (by assumption) (fun _ _ _ h => h) (Or.inl ⟨by rfl, ?_⟩) ?_
                    rotate_left
                    · (intro w hSw; (try dsimp only at hSw); go_simp; (try with_reducible rfl))
                    (try simp only [Act.put, List.setIfInBounds_toArray, List.set_cons_zero, List.set_cons_succ])
                    refine M_take (v := ?_) 2 rfl (by kernel_rfl) (by assumption) (fun _ _ _ h => h) (Or.inl ⟨by rfl, ?_⟩) ?_
                    rotate_left
                    · (intro w hSw; (try dsimp only at hSw); go_simp; (try with_reducible rfl))
                    (try simp only [Act.put, List.setIfInBounds_toArray, List.set_cons_zero, List.set_cons_succ])
                    refine M_take (v := ?_) 3 rfl (by kernel_rfl) (by assumption) (fun _ _ _ h => h) (Or.inl ⟨by rfl, ?_⟩) ?_
                    rotate_left
                    · (intro w hSw; (try dsimp only at hSw); go_simp; (try with_reducible rfl))
                    (try simp only [Act.put, List.setIfInBounds_toArray, List.set_cons_zero, List.set_cons_succ])
                    refine M_take (v := ?_) 4 rfl (by kernel_rfl) (by assumption) (fun _ _ _ h => h) (Or.inl ⟨by rfl, ?_⟩) ?_
                    rotate_left
                    · (intro w hSw; (try dsimp only at hSw); go_simp; (try with_reducible rfl))
                    (try simp only [Act.put, List.setIfInBounds_toArray, List.set_cons_zero, List.set_cons_succ])
                    refine M_step 5 rfl (by kernel_rfl) (fun K hK => ?_)
                    go_simp
                    go_at_call 70
                    refine (KF2.out _ (nextB D8.out (Below.refl _ _).drew) (by exact (IntsIn.up HI2.out (Below.refl _ _).drew (Nat.le_refl _)).more (Nat.le_refl _))).mono ?_
                    rintro e8 w8 ⟨B8, k8, N8, H8, rfl, hF8, hb8⟩
                    have B8' := Lib.hid (show Below w3.heap.size w3 w8 from nextB (Below.refl _ _).drew hb8)
                    have F8 := Lib.hid hF8
                    have hT8 : (fun w' => w'.cell? ⟨w.heap.size, 0, none⟩ = some (.slice c.d.RA c.d.n c.d.rc) ∧ w'.cell? ⟨w.heap.size, 1, none⟩ = some (.slice c.d.SA c.d.m c.d.sc) ∧ w'.cell? ⟨w.heap.size, 2, none⟩ = some (.slice c.MA c.m c.mc)) w8 := CT.out w8 B8'.out
                    clear hb8 hF8
                    refine hK.out _ _ (fun _ => hT8) ?_
                    clear hK K
                    (try simp only [Act.put, List.setIfInBounds_toArray, List.set_cons_zero, List.set_cons_succ])
                    refine M_step 6 rfl (by kernel_rfl) (fun K hK => ?_)
                    go_simp
                    go_at_call 33
                    refine (Feasible_any c.d B8 N8 k8 H8 true 0 w8 (CC.out w8 (nextB D8.out B8'.out)).1 F8.out.2 F8.out.1).mono ?_
                    rintro e9 w9 ⟨rfl, hb9⟩
                    have B9 := Lib.hid (nextB B8'.out hb9)
                    have hT9 : (fun w' => w'.cell? ⟨w.heap.size, 0, none⟩ = some (.slice c.d.RA c.d.n c.d.rc) ∧ w'.cell? ⟨w.heap.size, 1, none⟩ = some (.slice c.d.SA c.d.m c.d.sc) ∧ w'.cell? ⟨w.heap.size, 2, none⟩ = some (.slice c.MA c.m c.mc)) w9 := CT.out w9 B9.out
                    clear hb9
                    refine hK.out _ _ (fun _ => hT9) ?_
                    clear hK K
                    (try simp only [Act.put, List.setIfInBounds_toArray, List.set_cons_zero, List.set_cons_succ])
                    refine M_take (v := ?_) 7 rfl (by kernel_rfl) (by assumption) (fun _ _ _ h => h) (Or.inl ⟨by rfl, ?_⟩) ?_
                    rotate_left
                    · (intro w hSw; (try dsimp only at hSw); go_simp; (try with_reducible rfl))
                    (try simp only [Act.put, List.setIfInBounds_toArray, List.set_cons_zero, List.set_cons_succ])
                    refine M_take (v := ?_) 8 rfl (by kernel_rfl) (by assumption) (fun _ _ _ h => h) (Or.inl ⟨by rfl, ?_⟩) ?_
                    rotate_left
                    · (intro w hSw; (try dsimp only at hSw); go_simp; (try with_reducible rfl))
                    (try simp only [Act.put, List.setIfInBounds_toArray, List.set_cons_zero, List.set_cons_succ])
                    refine M_take (v := ?_) 9 rfl (by kernel_rfl) (by assumption) (fun _ _ _ h => h) (Or.inl ⟨by rfl, ?_⟩) ?_
                    rotate_left
                    · (intro w hSw; (try dsimp only at hSw); go_simp; (try with_reducible rfl))
                    (try simp only [Act.put, List.setIfInBounds_toArray, List.set_cons_zero, List.set_cons_succ])
                    refine M_step 10 rfl (by kernel_rfl) (fun K hK => ?_)
                    go_simp
                    refine hK.out _ _ (fun _ => by assumption) ?_
                    clear hK K
                    (try simp only [Act.put, List.setIfInBounds_toArray, List.set_cons_zero, List.set_cons_succ])
                    refine M_step 11 rfl (by kernel_rfl) (fun K hK => ?_)
                    go_simp
                    refine hK.out _ _ (fun _ => by assumption) ?_
                    clear hK K
                    (try simp only [Act.put, List.setIfInBounds_toArray, List.set_cons_zero, List.set_cons_succ])
                    refine M_done (by kernel_rfl) ?_ _
                    clear hT0 hT8 hT9 c0 c1 c2 zC
                    have we := WE.out
                    go_wp2_with fail
                    go_roundw
                    case rel => exact ⟨e + 1, by omega, by first | rfl | go_num, by rw [HN.out]; rfl, nextB B7.out (nextB D4.out B9.out)⟩
                    case measure => (simp [intOf] <;> omega)
                  | false =>
                    rw [hh] at HN
                    clear hh
                    go_wp2_with fail
                    clear y0
                    have we := WE.out
                    refine wp_region_M [] (fun w' => w'.cell? (ad.add a) = some (.slice (some ay) x.length c1')) (by kernel_rfl) (by kernel_rfl) (by (try dsimp only); (repeat' apply And.intro); all_goals first | assumption | (go_simp; done)) (fun hT0 => ?_)
                    refine M_take (v := ?_) 1 rfl (by kernel_rfl) (by assumption) (fun _ _ _ h => h) (Or.inl ⟨by rfl, ?_⟩) ?_
                    rotate_left
                    · (intro w hSw; (try dsimp only at hSw); go_simp; (try with_reducible rfl))
                    (try simp only [Act.put, List.setIfInBounds_toArray, List.set_cons_zero, List.set_cons_succ])
                    refine M_take (v := ?_) 2 rfl (by kernel_rfl) (by assumption) (fun _ _ _ h => h) (Or.inl ⟨by rfl, ?_⟩) ?_
                    rotate_left
                    · (intro w hSw; (try dsimp only at hSw); go_simp; (try with_reducible rfl))
                    (try simp only [Act.put, List.setIfInBounds_toArray, List.set_cons_zero, List.set_cons_succ])
                    refine M_take (v := ?_) 3 rfl (by kernel_rfl) (by assumption) (fun _ _ _ h => h) (Or.inl ⟨by rfl, ?_⟩) ?_
                    rotate_left
                    · (intro w hSw; (try dsimp only at hSw); go_simp; (try with_reducible rfl))
                    (try simp only [Act.put, List.setIfInBounds_toArray, List.set_cons_zero, List.set_cons_succ])
                    refine M_take (v := ?_) 4 rfl (by kernel_rfl) (by assumption) (fun _ _ _ h => h) (Or.inl ⟨by rfl, ?_⟩) ?_
                    rotate_left
                    · (intro w hSw; (try dsimp only at hSw); go_simp; (try with_reducible rfl))
                    (try simp only [Act.put, List.setIfInBounds_toArray, List.set_cons_zero, List.set_cons_succ])
                    refine M_take (v := ?_) 5 rfl (by kernel_rfl) (by assumption) (fun _ _ _ h => h) (Or.inl ⟨by rfl, ?_⟩) ?_
                    rotate_left
                    · (intro w hSw; (try dsimp only at hSw); go_simp; (try with_reducible rfl))
                    (try simp only [Act.put, List.setIfInBounds_toArray, List.set_cons_zero, List.set_cons_succ])
                    refine M_take (v := ?_) 6 rfl (by kernel_rfl) (by assumption) (fun _ _ _ h => h) (Or.inl ⟨by rfl, ?_⟩) ?_
                    rotate_left
                    · (intro w hSw; (try dsimp only at hSw); go_simp; (try with_reducible rfl))
                    (try simp only [Act.put, List.setIfInBounds_toArray, List.set_cons_zero, List.set_cons_succ])
                    refine M_take (v := ?_) 8 rfl (by kernel_rfl) (by assumption) (fun _ _ _ h => h) (Or.inl ⟨by rfl, ?_⟩) ?_
                    rotate_left
                    · (intro w hSw; (try dsimp only at hSw); go_simp; (try with_reducible rfl))
                    (try simp only [Act.put, List.setIfInBounds_toArray, List.set_cons_zero, List.set_cons_succ])
                    refine M_take (v := ?_) 9 rfl (by kernel_rfl) (by assumption) (fun _ _ _ h => h) (Or.inl ⟨by rfl, ?_⟩) ?_
                    rotate_left
                    · (intro w hSw; (try dsimp only at hSw); go_simp; (try with_reducible rfl))
                    (try simp only [Act.put, List.setIfInBounds_toArray, List.set_cons_zero, List.set_cons_succ])
                    refine M_take (v := ?_) 10 rfl (by kernel_rfl) (by assumption) (fun _ _ _ h => h) (Or.inl ⟨by rfl, ?_⟩) ?_
                    rotate_left
                    · (intro w hSw; (try dsimp only at hSw); go_simp; (try with_reducible rfl))
                    (try simp only [Act.put, List.setIfInBounds_toArray, List.set_cons_zero, List.set_cons_succ])
                    refine M_take (v := ?_) 11 rfl (by kernel_rfl) (by assumption) (fun _ _ _ h => h) (Or.inl ⟨by rfl, ?_⟩) ?_
                    rotate_left
                    · (intro w hSw; (try dsimp only at hSw); go_simp; (try with_reducible rfl))
                    (try simp only [Act.put, List.setIfInBounds_toArray, List.set_cons_zero, List.set_cons_succ])
                    refine M_take (v := ?_) 12 rfl (by kernel_rfl) (by assumption) (fun _ _ _ h => h) (Or.inl ⟨by rfl, ?_⟩) ?_
                    rotate_left
                    · (intro w hSw; (try dsimp only at hSw); go_simp; (try with_reducible rfl))
                    (try simp only [Act.put, List.setIfInBounds_toArray, List.set_cons_zero, List.set_cons_succ])
                    refine M_take (v := ?_) 13 rfl (by kernel_rfl) (by assumption) (fun _ _ _ h => h) (Or.inl ⟨by rfl, ?_⟩) ?_
                    rotate_left
                    · (intro w hSw; (try dsimp only at hSw); go_simp; (try with_reducible rfl))
                    (try simp only [Act.put, List.setIfInBounds_toArray, List.set_cons_zero, List.set_cons_succ])
                    refine M_take (v := ?_) 14 rfl (by kernel_rfl) (by assumption) (fun _ _ _ h => h) (Or.inl ⟨by rfl, ?_⟩) ?_
                    rotate_left
                    · (intro w hSw; (try dsimp only at hSw); go_simp; (try with_reducible rfl))
                    (try simp only [Act.put, List.setIfInBounds_toArray, List.set_cons_zero, List.set_cons_succ])
                    refine M_step 0 rfl (by kernel_rfl) (fun K hK => ?_)
                    go_simp
                    have D2 := Lib.hid (show Below w7.heap.size w7 (w7.drew.alloc (.cells #[] 3)) from nextB (Below.refl _ _).drew (box1 w7.drew _))
                    have hT2 : (fun w' => w'.cell? (ad.add a) = some (.slice (some ay) x.length c1')) (w7.drew.alloc (.cells #[] 3)) := P7.out _ D2.out
                    have ho2 : (w7.drew.alloc (.cells #[] 3)).ownsRow w7.heap.size 3 1 (.slice (some ⟨w7.heap.size, 0, none⟩) 0 0) 0 [] := own_empty w7.drew _ _
                    refine hK.out _ _ (fun _ => hT2) ?_
                    clear hK K
                    (try simp only [Act.put, List.setIfInBounds_toArray, List.set_cons_zero, List.set_cons_succ])
                    refine M_step 7 rfl (by kernel_rfl) (fun K hK => ?_)
                    refine step_append_own rfl (.tmp 113) (.tmp 119) 29 rfl w7.heap.size 3 i0 (.int .i64 0) 1 8 Try.underlying29 hi0 hz0 hz1 hz2 rfl (by decide) _ 0 [] (by simp [Act.eval]; first | done | rfl) ho2 ay e c1' (intsZ (x.take e)) (by simp [Act.eval]; first | done | exact HZZ.out | rfl) (by simp [intsZ]; try omega) (((li_cut (PQ.out _ D2.out) e).1)) (intsZ_one _) (by unfold maxLen; omega) (by omega) D2.out.size ?_
                    intro v1 w2 hown1 hg1
                    have D3 := Lib.hid (D2.out.grown hg1 D2.out.size (fun r e => (own_block ho2 e).1))
                    have hT3 : (fun w' => w'.cell? (ad.add a) = some (.slice (some ay) x.length c1')) w2 := P7.out _ D3.out
                    refine hK.out _ _ (fun _ => hT3) ?_
                    clear hK K hg1 ho2
                    (try simp only [Act.put, List.setIfInBounds_toArray, List.set_cons_zero, List.set_cons_succ])
                    rw [HZZ.out]
                    refine M_step 15 rfl (by kernel_rfl) (fun K hK => ?_)
                    refine step_append_own rfl (.tmp 120) (.tmp 127) 29 rfl w7.heap.size 3 i0 (.int .i64 0) 1 8 Try.underlying29 hi0 hz0 hz1 hz2 rfl (by decide) _ _ _ (by simp [Act.eval]; first | done | rfl) hown1 zz (x.length - (e + 1)) (c1' - (e + 1)) (intsZ (x.drop (e + 1))) (by simp [Act.eval]; first | done | exact HZZ.out | rfl) (by simp [intsZ]; try omega) ((HCUT.out _ (PQ.out _ D3.out))) (intsZ_one _) (by unfold maxLen; omega) (by omega) D3.out.size ?_
                    intro v2 w3 hown2 hg2
                    have D4 := Lib.hid (D3.out.grown hg2 D3.out.size (fun r e => (own_block hown1 e).1))
                    have hT4 : (fun w' => w'.cell? (ad.add a) = some (.slice (some ay) x.length c1')) w3 := P7.out _ D4.out
                    have hown3 : w3.ownsRow w7.heap.size 3 1 v2 (dropK x e).length (intsZ (dropK x e)) := by
                      rw [dropK_len hle]
                      unfold dropK
                      rw [show intsZ (x.take e ++ x.drop (e + 1)) = intsZ (x.take e) ++ intsZ (x.drop (e + 1)) by simp [intsZ]]
                      rw [Nat.zero_add, List.nil_append] at hown2
                      exact hown2
                    obtain ⟨A2, k2, rfl, hi2⟩ := row_ints hown3 (by have := dropK_len hle; omega)
                    have HI2 := Lib.hid hi2
                    refine hK.out _ _ (fun _ => hT4) ?_
                    clear hK K hg2 hown2 hown3 hi2 hown1
                    (try simp only [Act.put, List.setIfInBounds_toArray, List.set_cons_zero, List.set_cons_succ])
                    refine M_step 16 rfl (by kernel_rfl) (fun K hK => ?_)
                    go_simp
                    refine hK.out _ _ (fun _ => by assumption) ?_
                    clear hK K
                    (try simp only [Act.put, List.setIfInBounds_toArray, List.set_cons_zero, List.set_cons_succ])
                    refine M_done (by kernel_rfl) ?_ _
                    clear hT0 hT2 hT3 hT4 p0
                    have D8 := Lib.hid (nextB D7.out D4.out)
                    have C := Lib.hid (C.out.up D4.out)
                    have KF2 := Lib.hid (KF1.out A2 k2 e hle)
                    obtain ⟨c0, c1, c2⟩ := C.out
                    have zC := C.out.lt
                    generalize (dropK x e).length = q2 at KF2 HI2 ⊢
                    have CT : Hid (∀ W, Below w3.heap.size w3 W → W.cell? ⟨w.heap.size, 0, none⟩ = some (.slice c.d.RA c.d.n c.d.rc) ∧ W.cell? ⟨w.heap.size, 1, none⟩ = some (.slice c.d.SA c.d.m c.d.sc) ∧ W.cell? ⟨w.heap.size, 2, none⟩ = some (.slice c.MA c.m c.mc)) := Lib.hid fun W h => ⟨cell_up h zC c0, cell_up h zC c1, cell_up h zC c2⟩
                    go_wp2_with fail
                    refine wp_region_M [] (fun w' => w'.cell? ⟨w.heap.size, 0, none⟩ = some (.slice c.d.RA c.d.n c.d.rc) ∧ w'.cell? ⟨w.heap.size, 1, none⟩ = some (.slice c.d.SA c.d.m c.d.sc) ∧ w'.cell? ⟨w.heap.size, 2, none⟩ = some (.slice c.MA c.m c.mc)) (by kernel_rfl) (by kernel_rfl) (by (try dsimp only); (repeat' apply And.intro); all_goals first | assumption | (go_simp; done)) (fun hT0 => ?_)
                    refine M_take (v := ?_) 0 rfl (by kernel_rfl) (by assumption) (fun _ _ _ h => h) (Or.inl ⟨by rfl, ?_⟩) ?_
                    rotate_left
                    · (intro w hSw; (try dsimp only at hSw); go_simp; (try with_reducible rfl))
                    (try simp only [Act.put, List.setIfInBounds_toArray, List.set_cons_zero, List.set_cons_succ])
                    refine M_take (v := ?_) 1 rfl (by kernel_rfl) (by assumption) (fun _ _ _ h => h) (Or.inl ⟨by rfl, ?_⟩) ?_
                    rotate_left
                    · (intro w hSw; (try dsimp only at hSw); go_simp; (try with_reducible rfl))
                    (try simp only [Act.put, List.setIfInBounds_toArray, List.set_cons_zero, List.set_cons_succ])
                    refine M_take (v := ?_) 2 rfl (by kernel_rfl) (by assumption) (fun _ _ _ h => h) (Or.inl ⟨by rfl, ?_⟩) ?_
                    rotate_left
                    · (intro w hSw; (try dsimp only at hSw); go_simp; (try with_reducible rfl))
                    (try simp only [Act.put, List.setIfInBounds_toArray, List.set_cons_zero, List.set_cons_succ])
                    refine M_take (v := ?_) 3 rfl (by kernel_rfl) (by assumption) (fun _ _ _ h => h) (Or.inl ⟨by rfl, ?_⟩) ?_
                    rotate_left
                    · (intro w hSw; (try dsimp only at hSw); go_simp; (try with_reducible rfl))
                    (try simp only [Act.put, List.setIfInBounds_toArray, List.set_cons_zero, List.set_cons_succ])
                    refine M_take (v := ?_) 4 rfl (by kernel_rfl) (by assumption) (fun _ _ _ h => h) (Or.inl ⟨by rfl, ?_⟩) ?_
                    rotate_left
                    · (intro w hSw; (try dsimp only at hSw); go_simp; (try with_reducible rfl))
                    (try simp only [Act.put, List.setIfInBounds_toArray, List.set_cons_zero, List.set_cons_succ])
                    refine M_step 5 rfl (by kernel_rfl) (fun K hK => ?_)
                    go_simp
                    go_at_call 70
                    refine (KF2.out _ (nextB D8.out (Below.refl _ _).drew) (by exact (IntsIn.up HI2.out (Below.refl _ _).drew (Nat.le_refl _)).more (Nat.le_refl _))).mono ?_
                    rintro e8 w8 ⟨B8, k8, N8, H8, rfl, hF8, hb8⟩
                    have B8' := Lib.hid (show Below w3.heap.size w3 w8 from nextB (Below.refl _ _).drew hb8)
                    have F8 := Lib.hid hF8
                    have hT8 : (fun w' => w'.cell? ⟨w.heap.size, 0, none⟩ = some (.slice c.d.RA c.d.n c.d.rc) ∧ w'.cell? ⟨w.heap.size, 1, none⟩ = some (.slice c.d.SA c.d.m c.d.sc) ∧ w'.cell? ⟨w.heap.size, 2, none⟩ = some (.slice c.MA c.m c.mc)) w8 := CT.out w8 B8'.out
                    clear hb8 hF8
                    refine hK.out _ _ (fun _ => hT8) ?_
                    clear hK K
                    (try simp only [Act.put, List.setIfInBounds_toArray, List.set_cons_zero, List.set_cons_succ])
                    refine M_step 6 rfl (by kernel_rfl) (fun K hK => ?_)
                    go_simp
                    go_at_call 33
                    refine (Feasible_any c.d B8 N8 k8 H8 true 0 w8 (CC.out w8 (nextB D8.out B8'.out)).1 F8.out.2 F8.out.1).mono ?_
                    rintro e9 w9 ⟨rfl, hb9⟩
                    have B9 := Lib.hid (nextB B8'.out hb9)
                    have hT9 : (fun w' => w'.cell? ⟨w.heap.size, 0, none⟩ = some (.slice c.d.RA c.d.n c.d.rc) ∧ w'.cell? ⟨w.heap.size, 1, none⟩ = some (.slice c.d.SA c.d.m c.d.sc) ∧ w'.cell? ⟨w.heap.size, 2, none⟩ = some (.slice c.MA c.m c.mc)) w9 := CT.out w9 B9.out
                    clear hb9
                    refine hK.out _ _ (fun _ => hT9) ?_
                    clear hK K
                    (try simp only [Act.put, List.setIfInBounds_toArray, List.set_cons_zero, List.set_cons_succ])
                    refine M_take (v := ?_) 7 rfl (by kernel_rfl) (by assumption) (fun _ _ _ h => h) (Or.inl ⟨by rfl, ?_⟩) ?_
                    rotate_left
                    · (intro w hSw; (try dsimp only at hSw); go_simp; (try with_reducible rfl))
                    (try simp only [Act.put, List.setIfInBounds_toArray, List.set_cons_zero, List.set_cons_succ])
                    refine M_take (v := ?_) 8 rfl (by kernel_rfl) (by assumption) (fun _ _ _ h => h) (Or.inl ⟨by rfl, ?_⟩) ?_
                    rotate_left
                    · (intro w hSw; (try dsimp only at hSw); go_simp; (try with_reducible rfl))
                    (try simp only [Act.put, List.setIfInBounds_toArray, List.set_cons_zero, List.set_cons_succ])
                    refine M_take (v := ?_) 9 rfl (by kernel_rfl) (by assumption) (fun _ _ _ h => h) (Or.inl ⟨by rfl, ?_⟩) ?_
                    rotate_left
                    · (intro w hSw; (try dsimp only at hSw); go_simp; (try with_reducible rfl))
                    (try simp only [Act.put, List.setIfInBounds_toArray, List.set_cons_zero, List.set_cons_succ])
                    refine M_step 10 rfl (by kernel_rfl) (fun K hK => ?_)
                    go_simp
                    refine hK.out _ _ (fun _ => by assumption) ?_
                    clear hK K
                    (try simp only [Act.put, List.setIfInBounds_toArray, List.set_cons_zero, List.set_cons_succ])
                    refine M_step 11 rfl (by kernel_rfl) (fun K hK => ?_)
                    go_simp
                    refine hK.out _ _ (fun _ => by assumption) ?_
                    clear hK K
                    (try simp only [Act.put, List.setIfInBounds_toArray, List.set_cons_zero, List.set_cons_succ])
                    refine M_done (by kernel_rfl) ?_ _
                    clear hT0 hT8 hT9 c0 c1 c2 zC
                    have we := WE.out
                    go_wp2_with fail
                    go_roundw
                    case rel => exact ⟨e + 1, by omega, by first | rfl | go_num, by rw [HN.out]; rfl, nextB B7.out (nextB D4.out B9.out)⟩
                    case measure => (simp [intOf] <;> omega)
                · obtain rfl : e = x.length := by omega
                  have hei : ¬ ((x.length : Int) < (x.length : Int)) := by omega
                  have hws := HWS.out
                  generalize allB j Z x x.length = gx at hws ⊢
                  generalize withB j Z L a = gy at hws ⊢
                  have HWS := Lib.hid hws
                  clear hws
                  have wa := WA.out
                  cases gy with
                  | true =>
                    go_wp2_with fail
                    go_roundw
                    case rel => exact ⟨a + 1, by omega, by first | rfl | go_num, by rw [HWS.out]; rfl, nextB B6.out B7.out⟩
                    case measure => (simp [intOf] <;> omega)
                  | false =>
                    go_wp2_with fail
                    go_roundw
                    case rel => exact ⟨a + 1, by omega, by first | rfl | go_num, by rw [HWS.out]; rfl, nextB B6.out B7.out⟩
                    case measure => (simp [intOf] <;> omega)
            · obtain rfl : a = L.length := by omega
              have hai : ¬ ((L.length : Int) < (L.length : Int)) := by omega
              have hrw := HRW.out
              generalize withB j Z L L.length = gy at hrw ⊢
              have HRW := Lib.hid hrw
              clear hrw
              obtain ⟨c0, c1, c2⟩ := C.out
              have zC := C.out.lt
              have CT : Hid (∀ W, Below w6.heap.size w6 W → W.cell? ⟨w.heap.size, 0, none⟩ = some (.slice c.d.RA c.d.n c.d.rc) ∧ W.cell? ⟨w.heap.size, 1, none⟩ = some (.slice c.d.SA c.d.m c.d.sc) ∧ W.cell? ⟨w.heap.size, 2, none⟩ = some (.slice c.MA c.m c.mc)) := Lib.hid fun W h => ⟨cell_up h zC c0, cell_up h zC c1, cell_up h zC c2⟩
              go_wp2_with fail
              refine wp_region_M [] (fun w' => w'.cell? ⟨w.heap.size, 0, none⟩ = some (.slice c.d.RA c.d.n c.d.rc) ∧ w'.cell? ⟨w.heap.size, 1, none⟩ = some (.slice c.d.SA c.d.m c.d.sc) ∧ w'.cell? ⟨w.heap.size, 2, none⟩ = some (.slice c.MA c.m c.mc)) (by kernel_rfl) (by kernel_rfl) (by (try dsimp only); (repeat' apply And.intro); all_goals first | assumption | (go_simp; done)) (fun hT0 => ?_)
              refine M_take (v := ?_) 0 rfl (by kernel_rfl) (by assumption) (fun _ _ _ h => h) (Or.inl ⟨by rfl, ?_⟩) ?_
              rotate_left
              · (intro w hSw; (try dsimp only at hSw); go_simp; (try with_reducible rfl))
              (try simp only [Act.put, List.setIfInBounds_toArray, List.set_cons_zero, List.set_cons_succ])
              refine M_take (v := ?_) 1 rfl (by kernel_rfl) (by assumption) (fun _ _ _ h => h) (Or.inl ⟨by rfl, ?_⟩) ?_
              rotate_left
              · (intro w hSw; (try dsimp only at hSw); go_simp; (try with_reducible rfl))
              (try simp only [Act.put, List.setIfInBounds_toArray, List.set_cons_zero, List.set_cons_succ])
              refine M_take (v := ?_) 2 rfl (by kernel_rfl) (by assumption) (fun _ _ _ h => h) (Or.inl ⟨by rfl, ?_⟩) ?_
              rotate_left
              · (intro w hSw; (try dsimp only at hSw); go_simp; (try with_reducible rfl))
              (try simp only [Act.put, List.setIfInBounds_toArray, List.set_cons_zero, List.set_cons_succ])
              refine M_take (v := ?_) 3 rfl (by kernel_rfl) (by assumption) (fun _ _ _ h => h) (Or.inl ⟨by rfl, ?_⟩) ?_
              rotate_left
              · (intro w hSw; (try dsimp only at hSw); go_simp; (try with_reducible rfl))
              (try simp only [Act.put, List.setIfInBounds_toArray, List.set_cons_zero, List.set_cons_succ])
              refine M_take (v := ?_) 4 rfl (by kernel_rfl) (by assumption) (fun _ _ _ h => h) (Or.inl ⟨by rfl, ?_⟩) ?_
              rotate_left
              · (intro w hSw; (try dsimp only at hSw); go_simp; (try with_reducible rfl))
              (try simp only [Act.put, List.setIfInBounds_toArray, List.set_cons_zero, List.set_cons_succ])
              refine M_step 5 rfl (by kernel_rfl) (fun K hK => ?_)
              go_simp
              go_at_call 70
              refine (KE.out _ (nextB D.out (Below.refl _ _).drew)).mono ?_
              rintro e8 w8 ⟨B8, k8, N8, H8, rfl, hF8, hb8⟩
              have B8' := Lib.hid (show Below w6.heap.size w6 w8 from nextB (Below.refl _ _).drew hb8)
              have F8 := Lib.hid hF8
              have hT8 : (fun w' => w'.cell? ⟨w.heap.size, 0, none⟩ = some (.slice c.d.RA c.d.n c.d.rc) ∧ w'.cell? ⟨w.heap.size, 1, none⟩ = some (.slice c.d.SA c.d.m c.d.sc) ∧ w'.cell? ⟨w.heap.size, 2, none⟩ = some (.slice c.MA c.m c.mc)) w8 := CT.out w8 B8'.out
              clear hb8 hF8
              refine hK.out _ _ (fun _ => hT8) ?_
              clear hK K
              (try simp only [Act.put, List.setIfInBounds_toArray, List.set_cons_zero, List.set_cons_succ])
              refine M_step 6 rfl (by kernel_rfl) (fun K hK => ?_)
              go_simp
              go_at_call 33
              refine (Feasible_any c.d B8 N8 k8 H8 R 0 w8 (CC.out w8 (nextB D.out B8'.out)).1 F8.out.2 F8.out.1).mono ?_
              rintro e9 w9 ⟨rfl, hb9⟩
              have B9 := Lib.hid (nextB B8'.out hb9)
              have hT9 : (fun w' => w'.cell? ⟨w.heap.size, 0, none⟩ = some (.slice c.d.RA c.d.n c.d.rc) ∧ w'.cell? ⟨w.heap.size, 1, none⟩ = some (.slice c.d.SA c.d.m c.d.sc) ∧ w'.cell? ⟨w.heap.size, 2, none⟩ = some (.slice c.MA c.m c.mc)) w9 := CT.out w9 B9.out
              clear hb9
              refine hK.out _ _ (fun _ => hT9) ?_
              clear hK K
              (try simp only [Act.put, List.setIfInBounds_toArray, List.set_cons_zero, List.set_cons_succ])
              refine M_take (v := ?_) 7 rfl (by kernel_rfl) (by assumption) (fun _ _ _ h => h) (Or.inl ⟨by rfl, ?_⟩) ?_
              rotate_left
              · (intro w hSw; (try dsimp only at hSw); go_simp; (try with_reducible rfl))
              (try simp only [Act.put, List.setIfInBounds_toArray, List.set_cons_zero, List.set_cons_succ])
              refine M_take (v := ?_) 8 rfl (by kernel_rfl) (by assumption) (fun _ _ _ h => h) (Or.inl ⟨by rfl, ?_⟩) ?_
              rotate_left
              · (intro w hSw; (try dsimp only at hSw); go_simp; (try with_reducible rfl))
              (try simp only [Act.put, List.setIfInBounds_toArray, List.set_cons_zero, List.set_cons_succ])
              refine M_take (v := ?_) 9 rfl (by kernel_rfl) (by assumption) (fun _ _ _ h => h) (Or.inl ⟨by rfl, ?_⟩) ?_
              rotate_left
              · (intro w hSw; (try dsimp only at hSw); go_simp; (try with_reducible rfl))
              (try simp only [Act.put, List.setIfInBounds_toArray, List.set_cons_zero, List.set_cons_succ])
              refine M_step 10 rfl (by kernel_rfl) (fun K hK => ?_)
              go_simp
              refine hK.out _ _ (fun _ => by assumption) ?_
              clear hK K
              (try simp only [Act.put, List.setIfInBounds_toArray, List.set_cons_zero, List.set_cons_succ])
              refine M_step 11 rfl (by kernel_rfl) (fun K hK => ?_)
              go_simp
              refine hK.out _ _ (fun _ => by assumption) ?_
              clear hK K
              (try simp only [Act.put, List.setIfInBounds_toArray, List.set_cons_zero, List.set_cons_succ])
              refine M_done (by kernel_rfl) ?_ _
              clear hT0 hT8 hT9 c0 c1 c2 zC
              have D := Lib.hid (nextB D.out B9.out)
              cases gy with
              | true =>
                obtain rfl : R = false := HRW.out
                go_wp2_with fail
                go_ret
                exact ⟨rfl, D.out⟩
              | false =>
                obtain rfl : R = true := HRW.out
                go_wp2_with fail
                go_ret
                exact ⟨rfl, D.out⟩
end Go.Proofs.Ytpikaohodieeaaa
