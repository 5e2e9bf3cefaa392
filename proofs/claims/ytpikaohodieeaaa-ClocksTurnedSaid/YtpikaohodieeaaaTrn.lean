/- turned: a clock counted from the end. -/
import Derived.Test.YtpikaohodieeaaaTrm
namespace Go.Proofs.Ytpikaohodieeaaa
open Go.RowKit
set_option linter.unusedSimpArgs false
set_option linter.unusedVariables false
theorem new2b (W : World) (n : Nat) (x y : Int) (t : TypeId) (hn : n = W.heap.size) : ∀ j u, ([.int .i64 x, .int .i64 y] : List Value)[j]? = some u → (W.alloc (.cells #[.int .i64 x, .int .i64 y] t)).cell? ((⟨n, 0, none⟩ : Addr).add j) = some u := by
  subst hn
  exact new2 W t x y
theorem own_trs {w : World} {B n cap : Nat} {t : TypeId} {A : Option Addr} {F : Nat → Int × Int × Int} (h : w.ownsRow B t 3 (.slice A n cap) n (rowT F n)) (hn : n ≤ 1000) : TrsIn A n F w.heap.size w := by
  have h2 := h
  obtain ⟨_, ⟨f, f2⟩ | ⟨g, c, cur, f1, _⟩⟩ := h
  · subst f2; exact ⟨by omega, fun i hi => absurd hi (by omega)⟩
  · injection f1 with e1 e2 e3
    subst e1
    exact row_trs h2 hn
theorem own_sps {w : World} {B n cap : Nat} {A : Option Addr} {S : Nat → Int × Int} (h : w.ownsRow B 31 2 (.slice A n cap) n (rowS S n)) (h1 : 1 ≤ n) (hn : n ≤ 1000) : SpsIn A n S w.heap.size w := by
  obtain ⟨g, c, e, _, _, hS⟩ := row_SpR (B := B) (n := n) (S := S) (v := .slice A n cap) (by rw [Nat.zero_add, List.nil_append]; exact h) h1
  injection e with e1 e2 e3
  subst e1
  exact hS.sps hn
set_option maxRecDepth 100000 in
set_option maxHeartbeats 8000000 in
theorem turned_any (c : Clo) (w : World) (hin : ClIn c w.heap.size w) (hd : DrOk c.d) (hk : MksOk c.d c.m c.F) :
    Calls Try.prog 72 #[c.v] w fun e w' => ∃ c' : Clo, e = .returned c'.v ∧ ClIn c' w'.heap.size w' ∧ TrnR c c' ∧ Below w.heap.size w w' := by
  have CC : Hid (∀ W, Below w.heap.size w W → ClIn c W.heap.size W) := Lib.hid fun W h => (hin.up h (Nat.le_refl _)).more h.size
  have HD := Lib.hid hd
  have HK := Lib.hid hk
  have hn1 := hd.n1
  have hn2 := hd.n2
  have hm16 := hd.m
  have hm64 := hk.1
  obtain ⟨i0, hi0, hz0, hz1, hz2⟩ := info_parts Try.infoSpan
  obtain ⟨i1, hi1, hy0, hy1, hy2⟩ := info_parts Try.infoStop
  obtain ⟨i2, hi2, hx0, hx1, hx2⟩ := info_parts Try.infoMark
  obtain ⟨w3, hw3⟩ : ∃ w3 : World, w3 = ((w.alloc (.cells #[.slice c.d.RA c.d.n c.d.rc, .slice c.d.SA c.d.m c.d.sc, .slice c.MA c.m c.mc] 28)).alloc (.cells #[.slice none 0 0, .slice none 0 0, .slice none 0 0] 28)).alloc (.cells #[.slice none 0 0, .slice none 0 0, .slice none 0 0] 28) := ⟨_, rfl⟩
  have hI : TuI c w 0 0 0 (.slice none 0 0) (.slice none 0 0) (.slice none 0 0) w3 := by
    rw [hw3]
    refine ⟨box3 _ _ _ _, (cl_new w c).up (box2 _ _ _), ?_, ?_, World.ownsRow_nil _ _ _ _, World.ownsRow_nil _ _ _ _, World.ownsRow_nil _ _ _ _⟩
    · have h := (Bx3.new (w.alloc (cloO c)) 28 (.slice none 0 0) (.slice none 0 0) (.slice none 0 0)).up (box1 _ (.cells #[.slice none 0 0, .slice none 0 0, .slice none 0 0] 28))
      rw [World.size_alloc] at h
      exact h
    · have h := Bx3.new ((w.alloc (cloO c)).alloc (.cells #[.slice none 0 0, .slice none 0 0, .slice none 0 0] 28)) 28 (.slice none 0 0) (.slice none 0 0) (.slice none 0 0)
      simp only [World.size_alloc] at h
      exact h
  have I0 := Lib.hid hI
  obtain ⟨c0, c1, c2⟩ := hI.cl
  have zC := hI.cl.lt
  obtain ⟨b0, b1, b2, bf⟩ := hI.ob
  have zB := hI.ob.lt
  have HW3 := Lib.hid hw3
  clear hin hd hk hw3 hI
  have wn : IntKind.i64.wrap ((c.d.n : Int) - 1) = (c.d.n : Int) - 1 := IntWalk.i64_in _ (by omega)
  go_enter Try.func72, Try.ntmps72
  go_wp2_with fail
  rw [← HW3.out]
  clear c0 c1 c2 zC b0 b1 b2 bf zB
  go_loopw [5] (fun i wr => ∃ (j : Nat) (z : Int) (v : Value), z = (c.d.n : Int) - 1 - j ∧ j ≤ c.d.n ∧ i = .int .i64 z ∧ TuI c w j 0 0 v (.slice none 0 0) (.slice none 0 0) wr) (fun i _ => (intOf i + 1).toNat)
  case atStart => exact ⟨0, (c.d.n : Int) - 1, _, by simp, by omega, rfl, I0.out⟩
  case round =>
    obtain ⟨j, z, v, hz, hj, rfl, hT⟩ := hrel
    obtain ⟨wo, rfl⟩ : ∃ wo : World, wo = wr := ⟨_, rfl⟩
    have HT := Lib.hid hT
    obtain ⟨c0, c1, c2⟩ := hT.cl
    have zC := hT.cl.lt
    obtain ⟨b0, b1, b2, bf⟩ := hT.ob
    have zB := hT.ob.lt
    clear hT
    by_cases hz0 : 0 ≤ z
    · obtain ⟨q, rfl⟩ : ∃ q : Nat, z = (q : Int) := ⟨z.toNat, by omega⟩
      have hqn : q < c.d.n := by omega
      have hqi : (q : Int) < (c.d.n : Int) := by omega
      have hq0 : (0 : Int) ≤ (q : Int) := by omega
      have hjq : j < c.d.n ∧ q = c.d.n - 1 - j := by omega
      have HZ := Lib.hid hz
      have HJQ := Lib.hid hjq
      have wq : IntKind.i64.wrap ((q : Int) - 1) = (q : Int) - 1 := IntWalk.i64_in _ (by omega)
      have WQ := Lib.hid wq
      obtain ⟨a, ea, la, p0, p1⟩ := (CC.out wo HT.out.bl).1.1.2 q hqn
      rw [ea] at c0
      have HEA := Lib.hid ea
      have KP : Hid (∀ W, Below w.heap.size w W → W.cell? (a.add (q * 2)) = some (.int .i64 (c.d.G q).1) ∧ W.cell? ⟨(a.add (q * 2)).block, (a.add (q * 2)).off + 1, none⟩ = some (.int .i64 (c.d.G q).2)) := Lib.hid fun W h => by
        obtain ⟨a', ea', _, k0, k1⟩ := (CC.out W h).1.1.2 q hqn
        rw [ea] at ea'
        cases ea'
        exact ⟨k0, k1⟩
      have hg0 : trG c j = c.d.G q := by unfold trG; rw [← hjq.2]
      obtain ⟨⟨g1, g2⟩, hg⟩ : ∃ s, c.d.G q = s := ⟨_, rfl⟩
      rw [hg] at p0 p1 hg0 KP
      simp only at p0 p1
      have HG0 := Lib.hid hg0
      have hown := HT.out.o1
      clear hz hjq wq ea la hg0 hg hz0
      go_wp2_with fail
      refine wp_region_M [13] (fun w' => w'.cell? ⟨w.heap.size, 0, none⟩ = some (.slice (some a) c.d.n c.d.rc) ∧ w'.cell? ⟨w.heap.size + 1 + 1, 0, none⟩ = some (v) ∧ w'.cell? (a.add (q * 2)) = some (.int .i64 g1) ∧ w'.cell? ⟨(a.add (q * 2)).block, (a.add (q * 2)).off + 1, none⟩ = some (.int .i64 g2)) (by kernel_rfl) (by kernel_rfl) (by (try dsimp only); (repeat' apply And.intro); all_goals first | assumption | (go_simp; done)) (fun hT0 => ?_)
      refine M_take (v := ?_) 0 rfl (by kernel_rfl) (by assumption) (fun _ _ _ h => h) (Or.inl ⟨by rfl, ?_⟩) ?_
      rotate_left
      · (intro w hSw; (try dsimp only at hSw); go_simp; (try with_reducible rfl))
      (try simp only [Act.put, List.setIfInBounds_toArray, List.set_cons_zero, List.set_cons_succ])
      refine M_take (v := ?_) 1 rfl (by kernel_rfl) (by assumption) (fun _ _ _ h => h) (Or.inl ⟨by rfl, ?_⟩) ?_
      rotate_left
      · (intro w hSw; (try dsimp only at hSw); go_simp; (try with_reducible rfl))
      (try simp only [Act.put, List.setIfInBounds_toArray, List.set_cons_zero, List.set_cons_succ])
      refine M_take (v := ?_) 2 rfl (by kernel_rfl) (by assumption) (fun _ _ _ h => h) (Or.inl ⟨by rfl, ?_⟩) ?_
      rotate_left
      · (intro w hSw; (try dsimp only at hSw); go_simp; (try with_reducible rfl))
      (try simp only [Act.put, List.setIfInBounds_toArray, List.set_cons_zero, List.set_cons_succ])
      refine M_take (v := ?_) 3 rfl (by kernel_rfl) (by assumption) (fun _ _ _ h => h) (Or.inl ⟨by rfl, ?_⟩) ?_
      rotate_left
      · (intro w hSw; (try dsimp only at hSw); go_simp; (try with_reducible rfl))
      (try simp only [Act.put, List.setIfInBounds_toArray, List.set_cons_zero, List.set_cons_succ])
      refine M_take (v := ?_) 4 rfl (by kernel_rfl) (by assumption) (fun _ _ _ h => h) (Or.inl ⟨by rfl, ?_⟩) ?_
      rotate_left
      · (intro w hSw; (try dsimp only at hSw); go_simp; (try with_reducible rfl))
      (try simp only [Act.put, List.setIfInBounds_toArray, List.set_cons_zero, List.set_cons_succ])
      refine M_take (v := ?_) 5 rfl (by kernel_rfl) (by assumption) (fun _ _ _ h => h) (Or.inl ⟨by rfl, ?_⟩) ?_
      rotate_left
      · (intro w hSw; (try dsimp only at hSw); go_simp; (try with_reducible rfl))
      (try simp only [Act.put, List.setIfInBounds_toArray, List.set_cons_zero, List.set_cons_succ])
      refine M_take (v := ?_) 6 rfl (by kernel_rfl) (by assumption) (fun _ _ _ h => h) (Or.inl ⟨by rfl, ?_⟩) ?_
      rotate_left
      · (intro w hSw; (try dsimp only at hSw); go_simp; (try with_reducible rfl))
      (try simp only [Act.put, List.setIfInBounds_toArray, List.set_cons_zero, List.set_cons_succ])
      refine M_take (v := ?_) 7 rfl (by kernel_rfl) (by assumption) (fun _ _ _ h => h) (Or.inl ⟨by rfl, ?_⟩) ?_
      rotate_left
      · (intro w hSw; (try dsimp only at hSw); go_simp; (try with_reducible rfl))
      (try simp only [Act.put, List.setIfInBounds_toArray, List.set_cons_zero, List.set_cons_succ])
      refine M_take (v := ?_) 8 rfl (by kernel_rfl) (by assumption) (fun _ _ _ h => h) (Or.inl ⟨by rfl, ?_⟩) ?_
      rotate_left
      · (intro w hSw; (try dsimp only at hSw); go_simp; (try with_reducible rfl))
      (try simp only [Act.put, List.setIfInBounds_toArray, List.set_cons_zero, List.set_cons_succ])
      refine M_step 9 rfl (by kernel_rfl) (fun K hK => ?_)
      go_simp
      have D8 := Lib.hid (show Below wo.heap.size wo (wo.drew.alloc (.cells #[.int .i64 g1, .int .i64 g2] 31)) from nextB (Below.refl _ _).drew (box1 wo.drew (.cells #[.int .i64 g1, .int .i64 g2] 31)))
      have hT8 : (fun w' => w'.cell? ⟨w.heap.size, 0, none⟩ = some (.slice (some a) c.d.n c.d.rc) ∧ w'.cell? ⟨w.heap.size + 1 + 1, 0, none⟩ = some (v) ∧ w'.cell? (a.add (q * 2)) = some (.int .i64 g1) ∧ w'.cell? ⟨(a.add (q * 2)).block, (a.add (q * 2)).off + 1, none⟩ = some (.int .i64 g2)) (wo.drew.alloc (.cells #[.int .i64 g1, .int .i64 g2] 31)) := ⟨(D8.out.cell (World.block_lt_of_cell? _ _ c0)).trans c0, (D8.out.cell (World.block_lt_of_cell? _ _ b0)).trans b0, (D8.out.cell (World.block_lt_of_cell? _ _ p0)).trans p0, (D8.out.cell (World.block_lt_of_cell? _ _ p1)).trans p1⟩
      refine hK.out _ _ (fun _ => hT8) ?_
      clear hK K
      (try simp only [Act.put, List.setIfInBounds_toArray, List.set_cons_zero, List.set_cons_succ])
      refine M_step 10 rfl (by kernel_rfl) (fun K hK => ?_)
      refine step_append_own rfl (.tmp 22) (.tmp 29) 22 rfl (w.heap.size + 3) 31 i0 (.agg #[.int .i64 0, .int .i64 0]) 2 16 Try.underlying22 hi0 hz0 hz1 hz2 rfl (by decide) _ j _ (by simp [Act.eval]) (hown.drew.alloc _) ⟨wo.heap.size, 0, none⟩ 1 1 [.int .i64 g1, .int .i64 g2] (by simp [Act.eval]) rfl (new2b wo.drew _ _ _ _ rfl) (by simp [Value.oneCell']) (by unfold maxLen; omega) (by omega) (by simp only [World.size_alloc, World.size_drew]; omega) ?_
      intro v2 w5 hown2 hg2
      obtain ⟨g5, cap5, rfl⟩ := own_form hown2
      have ha := (HT.out.up D8.out).app1 hg2 (by rw [rowS_succ, HG0.out]; exact hown2)
      have HA := Lib.hid ha.2.2
      obtain ⟨d0, d1, d2, df⟩ := ha.1
      have zD := ha.1.lt
      have df0 := df 0
      have e0 := ha.2.1.2.c0
      rw [HEA.out] at e0
      obtain ⟨e1, e2⟩ := KP.out _ ha.2.1.1
      have hT5 : (fun w' => w'.cell? ⟨w.heap.size, 0, none⟩ = some (.slice (some a) c.d.n c.d.rc) ∧ w'.cell? ⟨w.heap.size + 1 + 1, 0, none⟩ = some (v) ∧ w'.cell? (a.add (q * 2)) = some (.int .i64 g1) ∧ w'.cell? ⟨(a.add (q * 2)).block, (a.add (q * 2)).off + 1, none⟩ = some (.int .i64 g2)) w5 := ⟨e0, d0, e1, e2⟩
      refine hK.out _ _ (fun _ => hT5) ?_
      clear hK K ha hown2 hg2
      (try simp only [Act.put, List.setIfInBounds_toArray, List.set_cons_zero, List.set_cons_succ])
      refine M_take (v := ?_) 11 rfl (by kernel_rfl) (by assumption) (fun _ _ _ h => h) (Or.inl ⟨by rfl, ?_⟩) ?_
      rotate_left
      · (intro w hSw; (try dsimp only at hSw); go_simp; (try with_reducible rfl))
      (try simp only [Act.put, List.setIfInBounds_toArray, List.set_cons_zero, List.set_cons_succ])
      refine M_take (v := ?_) 12 rfl (by kernel_rfl) (by assumption) (fun _ _ _ h => h) (Or.inl ⟨by rfl, ?_⟩) ?_
      rotate_left
      · (intro w hSw; (try dsimp only at hSw); go_simp; (try with_reducible rfl))
      (try simp only [Act.put, List.setIfInBounds_toArray, List.set_cons_zero, List.set_cons_succ])
      refine M_step 13 rfl (by kernel_rfl) (fun K hK => ?_)
      go_simp
      skip
      refine hK.out _ _ (fun e => by cases e) ?_
      clear hK K
      (try simp only [Act.put, List.setIfInBounds_toArray, List.set_cons_zero, List.set_cons_succ])
      refine M_done (by kernel_rfl) ?_ _
      clear hT0 hT8 hT5 D8 c0 c1 c2 zC b0 b1 b2 bf zB p0 p1 d0 d1 d2 df df0 zD e0 e1 e2 hown
      have wq := WQ.out
      go_wp2_with fail
      go_roundw
      case rel => exact ⟨j + 1, (q : Int) - 1, _, by have := HZ.out; omega, by have := HJQ.out; omega, rfl, HA.out⟩
      case measure => (simp [intOf] <;> omega)
    · obtain rfl : j = c.d.n := by omega
      have dz : decide (0 ≤ z) = false := decide_eq_false hz0
      have hz1' : z = -1 := by omega
      clear hz
      subst hz1'
      go_wp2_with fail
      clear c0 c1 c2 zC b0 b1 b2 bf zB
      go_loopw [6, 7] (fun i s wr => ∃ (j : Nat) (v2 : Value), j ≤ c.d.m ∧ i = .int .i64 (j : Int) ∧ TuI c w c.d.n j 0 v v2 (.slice none 0 0) wr) (fun i _ _ => c.d.m - (intOf i).toNat)
      case atStart => exact ⟨0, _, Nat.zero_le _, rfl, HT.out⟩
      case round =>
        obtain ⟨j, v2, hj, rfl, hT⟩ := hrel
        obtain ⟨wp, rfl⟩ : ∃ wp : World, wp = wr := ⟨_, rfl⟩
        have HT2 := Lib.hid hT
        obtain ⟨c0, c1, c2⟩ := hT.cl
        have zC := hT.cl.lt
        obtain ⟨b0, b1, b2, bf⟩ := hT.ob
        have zB := hT.ob.lt
        clear hT
        by_cases hlt : j < c.d.m
        · have hji : (j : Int) < (c.d.m : Int) := by omega
          have hj0 : (0 : Int) ≤ (j : Int) := by omega
          obtain ⟨a, ea, la, p0, p1, p2⟩ := (CC.out wp HT2.out.bl).1.2.2 j hlt
          rw [ea] at c1
          have hso := HD.out.stops j hlt
          have wj : IntKind.i64.wrap ((j : Int) + 1) = ((j + 1 : Nat) : Int) := by rw [show ((j : Int) + 1) = ((j + 1 : Nat) : Int) by omega]; exact IntWalk.i64_in _ (by omega)
          have hg0 : trS c j = ((c.d.n : Int) - 1 - (c.d.S j).1, (c.d.S j).2.1, (c.d.S j).2.2) := rfl
          unfold stopOk at hso
          obtain ⟨⟨s0, s1, s2⟩, hs⟩ : ∃ s, c.d.S j = s := ⟨_, rfl⟩
          rw [hs] at p0 p1 p2 hg0 hso
          simp only at p0 p1 p2 hg0 hso
          obtain ⟨sn, hsn⟩ : ∃ sn, sn = (c.d.n : Int) - 1 - s0 := ⟨_, rfl⟩
          have w1'' : IntKind.i64.wrap ((c.d.n : Int) - 1 - s0) = sn := by rw [hsn]; exact IntWalk.i64_in _ (by omega)
          rw [← hsn] at hg0
          have HG0 := Lib.hid hg0
          have hown := HT2.out.o2
          have WJ := Lib.hid wj
          clear ea la hs hg0 hso hsn wj
          have OB := Lib.hid (HT2.out.ob.up (box2 wp (.cells #[.int .i64 s0, .int .i64 s1, .int .i64 s2] 34) (.cells #[.int .i64 sn, .int .i64 s1, .int .i64 s2] 34)))
          go_wp2_with (at_builtin; refine wpList_append_own _ rfl _ _ 23 rfl (w.heap.size + 3) 34 i1 (.agg #[.int .i64 0, .int .i64 0, .int .i64 0]) 3 24 Try.underlying23 hi1 hy0 hy1 hy2 rfl (by decide) _ j _ rfl ((hown.alloc _).alloc _) ⟨wp.heap.size + 1, 0, none⟩ 1 1 [.int .i64 sn, .int .i64 s1, .int .i64 s2] rfl rfl (new3 _ _ _ _ _ _ (by simp only [World.size_alloc])) (by simp [Value.oneCell']) (by unfold maxLen; omega) (by omega) (by simp only [World.size_alloc]; omega) ?_; intro v5 w5 hown2 hg2 _; obtain ⟨g5, cap5, rfl⟩ := own_form hown2; have ha := (HT2.out.up (box2 wp _ _)).app2 hg2 (by rw [rowT_succ, HG0.out]; exact hown2); have HA := Lib.hid ha.2.2; obtain ⟨d0, d1, d2, df⟩ := ha.1; have zD := ha.1.lt; clear ha hown2 hg2 b0 b1 b2 bf zB c0 c1 c2 zC p0 p1 p2 hown; have df1 := df 1; clear df)
          clear d0 d1 d2 df1 zD
          have wj := WJ.out
          try go_wp2_with fail
          go_roundw
          case rel => exact ⟨j + 1, _, by omega, by first | (rw [WJ.out]) | rfl | go_num, HA.out⟩
          case measure => simp [intOf]; omega
        · obtain rfl : j = c.d.m := by omega
          have hji : ¬ ((c.d.m : Int) < (c.d.m : Int)) := by omega
          go_wp2_with fail
          clear c0 c1 c2 zC b0 b1 b2 bf zB
          go_loopw [8, 9] (fun i s wr => ∃ (j : Nat) (v3 : Value), j ≤ c.m ∧ i = .int .i64 (j : Int) ∧ TuI c w c.d.n c.d.m j v v2 v3 wr) (fun i _ _ => c.m - (intOf i).toNat)
          case atStart => exact ⟨0, _, Nat.zero_le _, rfl, HT2.out⟩
          case round =>
            obtain ⟨j, v3, hj, rfl, hT⟩ := hrel
            obtain ⟨wq, rfl⟩ : ∃ wq : World, wq = wr := ⟨_, rfl⟩
            have HT3 := Lib.hid hT
            obtain ⟨c0, c1, c2⟩ := hT.cl
            have zC := hT.cl.lt
            obtain ⟨b0, b1, b2, bf⟩ := hT.ob
            have zB := hT.ob.lt
            obtain ⟨r0, r1, r2, rf⟩ := hT.rs
            have zR := hT.rs.lt
            clear hT
            by_cases hlt : j < c.m
            · have hji : (j : Int) < (c.m : Int) := by omega
              have hj0 : (0 : Int) ≤ (j : Int) := by omega
              obtain ⟨a, ea, la, p0, p1, p2⟩ := (CC.out wq HT3.out.bl).2.2 j hlt
              rw [ea] at c2
              have hso := HK.out.2 j hlt
              have wj : IntKind.i64.wrap ((j : Int) + 1) = ((j + 1 : Nat) : Int) := by rw [show ((j : Int) + 1) = ((j + 1 : Nat) : Int) by omega]; exact IntWalk.i64_in _ (by omega)
              have hg0 : trF c j = ((c.d.n : Int) - (c.F j).1, 400 - (c.F j).2.2, 400 - (c.F j).2.1) := rfl
              unfold mkOk isS at hso
              obtain ⟨⟨s0, s1, s2⟩, hs⟩ : ∃ s, c.F j = s := ⟨_, rfl⟩
              rw [hs] at p0 p1 p2 hg0 hso
              simp only at p0 p1 p2 hg0 hso
              obtain ⟨sn, hsn⟩ : ∃ sn, sn = (c.d.n : Int) - s0 := ⟨_, rfl⟩
              obtain ⟨sa, hsa⟩ : ∃ sa, sa = 400 - s2 := ⟨_, rfl⟩
              obtain ⟨sb, hsb⟩ : ∃ sb, sb = 400 - s1 := ⟨_, rfl⟩
              have w1'' : IntKind.i64.wrap ((c.d.n : Int) - s0) = sn := by rw [hsn]; exact IntWalk.i64_in _ (by omega)
              have w2'' : IntKind.i64.wrap (400 - s2) = sa := by rw [hsa]; exact IntWalk.i64_in _ (by omega)
              have w3'' : IntKind.i64.wrap (400 - s1) = sb := by rw [hsb]; exact IntWalk.i64_in _ (by omega)
              rw [← hsn, ← hsa, ← hsb] at hg0
              have HG0 := Lib.hid hg0
              have hown := HT3.out.o3
              have WJ := Lib.hid wj
              clear ea la hs hg0 hso hsn hsa hsb wj r0 r1 r2 rf zR
              go_wp2_with (at_builtin; refine wpList_append_own _ rfl _ _ 26 rfl (w.heap.size + 3) 33 i2 (.agg #[.int .i64 0, .int .i64 0, .int .i64 0]) 3 24 Try.underlying26 hi2 hx0 hx1 hx2 rfl (by decide) _ j _ rfl ((hown.alloc _).alloc _) ⟨wq.heap.size + 1, 0, none⟩ 1 1 [.int .i64 sn, .int .i64 sa, .int .i64 sb] rfl rfl (new3 _ _ _ _ _ _ (by simp only [World.size_alloc])) (by simp [Value.oneCell']) (by unfold maxLen; omega) (by omega) (by simp only [World.size_alloc]; omega) ?_; intro v5 w5 hown2 hg2 _; obtain ⟨g5, cap5, rfl⟩ := own_form hown2; have ha := (HT3.out.up (box2 wq _ _)).app3 hg2 (by rw [rowT_succ, HG0.out]; exact hown2); have HA := Lib.hid ha.2.2; obtain ⟨d0, d1, d2, df⟩ := ha.1; have zD := ha.1.lt; clear ha hown2 hg2 b0 b1 b2 bf zB c0 c1 c2 zC p0 p1 p2 hown; have df1 := df 2; clear df)
              clear d0 d1 d2 df1 zD
              have wj := WJ.out
              try go_wp2_with fail
              go_roundw
              case rel => exact ⟨j + 1, _, by omega, by first | (rw [WJ.out]) | rfl | go_num, HA.out⟩
              case measure => simp [intOf]; omega
            · obtain rfl : j = c.m := by omega
              have hji : ¬ ((c.m : Int) < (c.m : Int)) := by omega
              have h1 := HT3.out.o1
              have h2 := HT3.out.o2
              have h3 := HT3.out.o3
              obtain ⟨A1, cap1, rfl⟩ := own_form0 h1
              obtain ⟨A2, cap2, rfl⟩ := own_form0 h2
              obtain ⟨A3, cap3, rfl⟩ := own_form0 h3
              have hrs := ((HT3.out.rs.s0 (.slice A1 c.d.n cap1)).s1 (.slice A2 c.d.m cap2)).s2 (.slice A3 c.m cap3)
              have hbl : Below w.heap.size w (((wq.setCell ⟨w.heap.size + 1, 0, none⟩ (.slice A1 c.d.n cap1)).setCell ⟨w.heap.size + 1, 1, none⟩ (.slice A2 c.d.m cap2)).setCell ⟨w.heap.size + 1, 2, none⟩ (.slice A3 c.m cap3)) := set1 (set1 (set1 HT3.out.bl (by omega) _ _) (by omega) _ _) (by omega) _ _
              have k1 : (((wq.setCell ⟨w.heap.size + 1, 0, none⟩ (.slice A1 c.d.n cap1)).setCell ⟨w.heap.size + 1, 1, none⟩ (.slice A2 c.d.m cap2)).setCell ⟨w.heap.size + 1, 2, none⟩ (.slice A3 c.m cap3)).ownsRow (w.heap.size + 3) 31 2 (.slice A1 c.d.n cap1) c.d.n (rowS (trG c) c.d.n) := own_set (own_set (own_set h1 (by omega)) (by omega)) (by omega)
              have k2 : (((wq.setCell ⟨w.heap.size + 1, 0, none⟩ (.slice A1 c.d.n cap1)).setCell ⟨w.heap.size + 1, 1, none⟩ (.slice A2 c.d.m cap2)).setCell ⟨w.heap.size + 1, 2, none⟩ (.slice A3 c.m cap3)).ownsRow (w.heap.size + 3) 34 3 (.slice A2 c.d.m cap2) c.d.m (rowT (trS c) c.d.m) := own_set (own_set (own_set h2 (by omega)) (by omega)) (by omega)
              have k3 : (((wq.setCell ⟨w.heap.size + 1, 0, none⟩ (.slice A1 c.d.n cap1)).setCell ⟨w.heap.size + 1, 1, none⟩ (.slice A2 c.d.m cap2)).setCell ⟨w.heap.size + 1, 2, none⟩ (.slice A3 c.m cap3)).ownsRow (w.heap.size + 3) 33 3 (.slice A3 c.m cap3) c.m (rowT (trF c) c.m) := own_set (own_set (own_set h3 (by omega)) (by omega)) (by omega)
              have HRS := Lib.hid hrs
              have HBL := Lib.hid hbl
              have HKK := Lib.hid (And.intro k1 (And.intro k2 k3))
              have rf0 := rf 0
              have rf1 := rf 1
              have rf2 := rf 2
              clear h1 h2 h3 hrs hbl k1 k2 k3 bf rf
              go_wp2_with fail
              obtain ⟨wf, hwf⟩ : ∃ wf : World, wf = (((wq.setCell ⟨w.heap.size + 1, 0, none⟩ (.slice A1 c.d.n cap1)).setCell ⟨w.heap.size + 1, 1, none⟩ (.slice A2 c.d.m cap2)).setCell ⟨w.heap.size + 1, 2, none⟩ (.slice A3 c.m cap3)) := ⟨_, rfl⟩
              have HR2 := HRS.out
              have HB2 := HBL.out
              have HK2 := HKK.out
              rw [← hwf] at HR2 HB2 HK2 ⊢
              obtain ⟨q0, q1, q2, _⟩ := HR2
              have hN1 : c.d.n ≤ 1000 := by omega
              have hN2 : c.d.m ≤ 1000 := by omega
              have hN3 : c.m ≤ 1000 := by omega
              exact bodyPost_ret (v := .agg #[.slice A1 c.d.n cap1, .slice A2 c.d.m cap2, .slice A3 c.m cap3]) (by simp [results, Try.results72, go_sem, q0, q1, q2]) rfl ⟨⟨⟨A1, c.d.n, cap1, trG c, A2, c.d.m, cap2, trS c⟩, A3, c.m, cap3, trF c⟩, rfl, ⟨⟨own_sps HK2.1 hn1 hN1, own_trs HK2.2.1 hN2⟩, own_trs HK2.2.2 hN3⟩, ⟨rfl, fun i _ => rfl, rfl, fun i _ => rfl, rfl, fun i _ => rfl⟩, HB2⟩
end Go.Proofs.Ytpikaohodieeaaa
