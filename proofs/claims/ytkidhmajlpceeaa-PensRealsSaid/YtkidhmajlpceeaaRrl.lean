/- The specification's Reals, Lowest, Highest, Real. -/
import Derived.Test.YtkidhmajlpceeaaRot
import Derived.Test.YtkidhmajlpceeaaRfg
namespace Go.Proofs.Ytkidhmajlpceeaa
open Go.RowKit
set_option linter.unusedSimpArgs false
set_option linter.unusedVariables false
/-- a row of spans and no error, or nothing and an error -/
def MPost (w : World) (n : Nat) (F : Nat → Int × Int) (E : Int) (e : Ending) (w' : World) : Prop :=
  (E = 0 → ∃ v, e = .returned (.tuple #[v, .int .i64 0]) ∧ RowM w 23 F n v w') ∧ (E ≠ 0 → e = .returned (.tuple #[.slice none 0 0, .int .i64 E]) ∧ Below w.heap.size w w')
theorem RowM.from_ {w w1 w2 : World} {t : TypeId} {F : Nat → Int × Int} {k : Nat} {v : Value} (hb : Below w.heap.size w w1) (h : RowM w1 t F k v w2) : RowM w t F k v w2 :=
  ⟨hb.trans (h.below.mono hb.size), own_mono h.own hb.size⟩
theorem rea_cases {p : Pn} {n : Nat} {Z : Nat → Int} {E : Int} (h : reaR p n Z E) : ∃ F : Int, chsR p n Z F ∧ (F ≠ 0 ∧ E = F ∨ F = 0 ∧ p.Ok ∧ LsOk Z n ∧ ((¬ Ful (Gs p Z n) n ∧ E = 31) ∨ Ful (Gs p Z n) n ∧ E = 0)) := by
  rcases h with ⟨h, rfl⟩ | ⟨h, ⟨hl, rfl⟩ | ⟨hl, hE⟩⟩
  · exact ⟨30, .inl ⟨h, rfl⟩, .inl ⟨by decide, rfl⟩⟩
  · exact ⟨1, .inr ⟨h, .inl ⟨hl, rfl⟩⟩, .inl ⟨by decide, rfl⟩⟩
  · exact ⟨0, .inr ⟨h, .inr ⟨hl, rfl⟩⟩, .inr ⟨rfl, h, hl, hE⟩⟩
set_option maxRecDepth 100000 in
set_option maxHeartbeats 4000000 in
theorem RReals_any (p : Pn) (A : Option Addr) (n c : Nat) (Z : Nat → Int) (E : Int) (w : World) (hin : IntsIn A n Z w.heap.size w) (hE : reaR p n Z E) :
    Calls Try.prog 36 #[p.v, .slice A n c] w fun e w' => MPost w n (Rls p Z n) E e w' := by
  have HIN := Lib.hid hin
  have hn := hin.1
  clear hin
  obtain ⟨F, hF, hc⟩ := rea_cases hE
  have KC : Hid (∀ W, Below w.heap.size w W → Calls Try.prog 79 #[p.v, .slice A n c] W fun e w' => e = .returned (.int .i64 F) ∧ Below W.heap.size W w') :=
    Lib.hid fun W hW => checkShown_any p A n c Z F W ((HIN.out.up hW (Nat.le_refl _)).more hW.size) hF
  clear hE hF
  rcases hc with ⟨hne, rfl⟩ | ⟨rfl, h, hl, hE⟩
  · have e0 : (E == 0) = false := by simpa using hne
    go_enter Try.func36, Try.ntmps36
    go_wp2_with fail
    refine (KC.out _ (box1 _ _)).mono ?_
    rintro e w1 ⟨rfl, hb⟩
    have C1 := Lib.hid (nextB (box1 w _) hb)
    clear hb KC
    go_wp2_with fail
    go_ret2
    exact ⟨fun e => absurd e hne, fun _ => ⟨rfl, C1.out⟩⟩
  · obtain ⟨r1, r2⟩ := rg_all h.b.1 h.r.1 Z n
    have HRG := Lib.hid r2
    have hn1 := hl.1
    have hn2 := hl.2.1
    have HL := Lib.hid hl
    have H := Lib.hid h
    have HWr : Hid (∀ x : Int, -1000000 ≤ x → x ≤ 1000000 → IntKind.i64.wrap x = x) := Lib.hid fun x h1 h2 => IntWalk.i64_in _ (by omega)
    obtain ⟨a, ha, _, _⟩ := HIN.out.2 0 (by omega)
    subst ha
    have hP0 := Lib.hid (pn_new w p.b p.lo p.hi p.r)
    rcases hE with ⟨hf, rfl⟩ | ⟨hf, rfl⟩
    · have KO : Hid (∀ W, Below w.heap.size w W → Calls Try.prog 80 #[p.v, .slice (some a) n c] W fun e w' => ROPost W n (RG p Z n) false e w') :=
        Lib.hid fun W hW => Roffsets_any p (some a) n c Z false W ((HIN.out.up hW (Nat.le_refl _)).more hW.size) H.out HL.out ⟨fun e => (by cases e), fun e => absurd (r1.1 e) hf⟩
      clear h hl hf r1 r2
      go_enter Try.func36, Try.ntmps36
      go_wp2_with fail
      refine (KC.out _ (box1 _ _)).mono ?_
      rintro e w1 ⟨rfl, hb⟩
      have C1 := Lib.hid (nextB (box1 w _) hb)
      obtain ⟨x0, x1, x2, x3⟩ := hP0.out.up hb (by simp)
      have zp := World.block_lt_of_cell? _ _ x0
      clear hb KC
      go_wp2_with fail
      refine (KO.out _ C1.out).mono ?_
      rintro e w2 ⟨-, hq⟩
      obtain ⟨rfl, hb⟩ := hq rfl
      have C2 := Lib.hid (nextB C1.out hb)
      clear hb hq KO x0 x1 x2 x3
      go_wp2_with fail
      go_ret2
      exact ⟨fun e => by simp at e, fun _ => ⟨rfl, C2.out⟩⟩
    · have KO : Hid (∀ W, Below w.heap.size w W → Calls Try.prog 80 #[p.v, .slice (some a) n c] W fun e w' => ROPost W n (RG p Z n) true e w') :=
        Lib.hid fun W hW => Roffsets_any p (some a) n c Z true W ((HIN.out.up hW (Nat.le_refl _)).more hW.size) H.out HL.out ⟨fun _ => r1.2 hf, fun _ => rfl⟩
      have HF := Lib.hid hf
      clear h hl hf r1 r2
      obtain ⟨i0, hi0, hz0, hz1, hz2⟩ := info_parts Try.infoSpan
      go_enter Try.func36, Try.ntmps36
      go_wp2_with fail
      refine (KC.out _ (box1 _ _)).mono ?_
      rintro e w1 ⟨rfl, hb⟩
      have C1 := Lib.hid (nextB (box1 w _) hb)
      obtain ⟨x0, x1, x2, x3⟩ := hP0.out.up hb (by simp)
      have zp := World.block_lt_of_cell? _ _ x0
      clear hb KC
      go_wp2_with fail
      refine (KO.out _ C1.out).mono ?_
      rintro e w2 ⟨hq, -⟩
      obtain ⟨g, cap, rfl, hg, hS, hb⟩ := hq rfl
      have C2 := Lib.hid (nextB C1.out hb)
      have HS := Lib.hid hS
      clear hb hq KO hS x0 x1 x2 x3 zp
      go_wp2_with fail
      go_loopw [9, 10] (fun v i wr => ∃ k : Nat, k ≤ n ∧ i = .int .i64 (k : Int) ∧ RowM w2 23 (Rls p Z n) k v wr) (fun _ i _ => n - (intOf i).toNat)
      case atStart => exact ⟨0, Nat.zero_le _, rfl, Below.refl _ _, World.ownsRow_nil _ _ _ _⟩
      case round =>
        obtain ⟨k, hk, rfl, hR⟩ := hrel
        obtain ⟨wo, rfl⟩ : ∃ wo : World, wo = wr := ⟨_, rfl⟩
        have HR := Lib.hid hR
        have C3 := Lib.hid (nextB C2.out hR.below)
        have hk0 : (0 : Int) ≤ (k : Int) := by omega
        have hsz := hR.below.size
        have hown := hR.own
        by_cases hlt : k < n
        · obtain ⟨a', e1, _, c1⟩ := (HIN.out.up C3.out (Nat.le_refl _)).2 k hlt
          cases e1
          have hS3 := HS.out.up hR.below
          have g0 := hS3.c0 k hlt
          have g1 := hS3.c1 k hlt
          have gl := hS3.lt
          have az := World.block_lt_of_cell? _ _ c1
          have eF : Rls p Z n k = ((RG p Z n k).1 + Z k, (RG p Z n k).2 + Z k) := by rw [HRG.out HF.out k hlt]; rfl
          have HEF := Lib.hid eF
          have bd := RG_bd H.out HL.out.2.2 (n - 1 - k) k (by omega)
          have l1 := HL.out.2.2 k hlt
          obtain ⟨d1, d2, d3, d4⟩ := bd
          clear eF hS3 hR
          generalize RG p Z n k = rg at *
          obtain ⟨rg0, rg1⟩ := rg
          have HZK := Lib.hid (show Z k = Z k from rfl)
          generalize hzk : Z k = zk at *
          simp only at d1 d2 d3 d4
          have hki : (k : Int) < (n : Int) := by omega
          have u1 : IntKind.i64.wrap (zk + rg0) = zk + rg0 := HWr.out _ (by omega) (by omega)
          have u2 : IntKind.i64.wrap (zk + rg1) = zk + rg1 := HWr.out _ (by omega) (by omega)
          clear hzk d1 d2 d3 d4 l1
          go_wp2_with fail
          refine wp_region_M [23, 24] (fun w' => w'.cell? ⟨g, k * 2, none⟩ = some (.int .i64 rg0) ∧ w'.cell? ⟨g, k * 2 + 1, none⟩ = some (.int .i64 rg1) ∧ w'.cell? (a.add k) = some (.int .i64 zk)) (by kernel_rfl) (by (try dsimp only); (repeat' apply And.intro); all_goals first | assumption | (go_simp; done)) (fun hT0 => ?_)
          refine M_take (v := ?_) 0 rfl (by kernel_rfl) (by assumption) (fun _ _ _ h => h) (Or.inl ⟨by rfl, ?_⟩) ?_
          rotate_left
          · (intro w hSw; (try dsimp only at hSw); go_simp; (try with_reducible rfl))
          (try simp only [Act.put, List.setIfInBounds_toArray, List.set_cons_zero, List.set_cons_succ])
          refine M_take (v := ?_) 1 rfl (by kernel_rfl) (by assumption) (fun _ _ _ h => h) (Or.inl ⟨by rfl, ?_⟩) ?_
          rotate_left
          · (intro w hSw; (try dsimp only at hSw); go_simp; (try with_reducible rfl))
          (try simp only [Act.put, List.setIfInBounds_toArray, List.set_cons_zero, List.set_cons_succ])
          refine M_take (v := ?_) 2 rfl (by kernel_rfl) (by assumption) (fun _ _ _ h => h) (Or.inl ⟨by rfl, ?_⟩) ?_
          rotate_left
          · (intro w hSw; (try dsimp only at hSw); go_simp; (try with_reducible rfl))
          (try simp only [Act.put, List.setIfInBounds_toArray, List.set_cons_zero, List.set_cons_succ])
          refine M_take (v := ?_) 3 rfl (by kernel_rfl) (by assumption) (fun _ _ _ h => h) (Or.inl ⟨by rfl, ?_⟩) ?_
          rotate_left
          · (intro w hSw; (try dsimp only at hSw); go_simp; (try with_reducible rfl))
          (try simp only [Act.put, List.setIfInBounds_toArray, List.set_cons_zero, List.set_cons_succ])
          refine M_take (v := ?_) 4 rfl (by kernel_rfl) (by assumption) (fun _ _ _ h => h) (Or.inl ⟨by rfl, ?_⟩) ?_
          rotate_left
          · (intro w hSw; (try dsimp only at hSw); go_simp; (try with_reducible rfl))
          (try simp only [Act.put, List.setIfInBounds_toArray, List.set_cons_zero, List.set_cons_succ])
          refine M_take (v := ?_) 5 rfl (by kernel_rfl) (by assumption) (fun _ _ _ h => h) (Or.inl ⟨by rfl, ?_⟩) ?_
          rotate_left
          · (intro w hSw; (try dsimp only at hSw); go_simp; (try with_reducible rfl))
          (try simp only [Act.put, List.setIfInBounds_toArray, List.set_cons_zero, List.set_cons_succ])
          refine M_take (v := ?_) 6 rfl (by kernel_rfl) (by assumption) (fun _ _ _ h => h) (Or.inl ⟨by rfl, ?_⟩) ?_
          rotate_left
          · (intro w hSw; (try dsimp only at hSw); go_simp; (try with_reducible rfl))
          (try simp only [Act.put, List.setIfInBounds_toArray, List.set_cons_zero, List.set_cons_succ])
          refine M_take (v := ?_) 7 rfl (by kernel_rfl) (by assumption) (fun _ _ _ h => h) (Or.inl ⟨by rfl, ?_⟩) ?_
          rotate_left
          · (intro w hSw; (try dsimp only at hSw); go_simp; (try with_reducible rfl))
          (try simp only [Act.put, List.setIfInBounds_toArray, List.set_cons_zero, List.set_cons_succ])
          refine M_take (v := ?_) 8 rfl (by kernel_rfl) (by assumption) (fun _ _ _ h => h) (Or.inl ⟨by rfl, ?_⟩) ?_
          rotate_left
          · (intro w hSw; (try dsimp only at hSw); go_simp; (try with_reducible rfl))
          (try simp only [Act.put, List.setIfInBounds_toArray, List.set_cons_zero, List.set_cons_succ])
          refine M_take (v := ?_) 9 rfl (by kernel_rfl) (by assumption) (fun _ _ _ h => h) (Or.inl ⟨by rfl, ?_⟩) ?_
          rotate_left
          · (intro w hSw; (try dsimp only at hSw); go_simp; (try with_reducible rfl))
          (try simp only [Act.put, List.setIfInBounds_toArray, List.set_cons_zero, List.set_cons_succ])
          refine M_take (v := ?_) 10 rfl (by kernel_rfl) (by assumption) (fun _ _ _ h => h) (Or.inl ⟨by rfl, ?_⟩) ?_
          rotate_left
          · (intro w hSw; (try dsimp only at hSw); go_simp; (try with_reducible rfl))
          (try simp only [Act.put, List.setIfInBounds_toArray, List.set_cons_zero, List.set_cons_succ])
          refine M_take (v := ?_) 11 rfl (by kernel_rfl) (by assumption) (fun _ _ _ h => h) (Or.inl ⟨by rfl, ?_⟩) ?_
          rotate_left
          · (intro w hSw; (try dsimp only at hSw); go_simp; (try with_reducible rfl))
          (try simp only [Act.put, List.setIfInBounds_toArray, List.set_cons_zero, List.set_cons_succ])
          refine M_take (v := ?_) 12 rfl (by kernel_rfl) (by assumption) (fun _ _ _ h => h) (Or.inl ⟨by rfl, ?_⟩) ?_
          rotate_left
          · (intro w hSw; (try dsimp only at hSw); go_simp; (try with_reducible rfl))
          (try simp only [Act.put, List.setIfInBounds_toArray, List.set_cons_zero, List.set_cons_succ])
          refine M_take (v := ?_) 13 rfl (by kernel_rfl) (by assumption) (fun _ _ _ h => h) (Or.inl ⟨by rfl, ?_⟩) ?_
          rotate_left
          · (intro w hSw; (try dsimp only at hSw); go_simp; (try with_reducible rfl))
          (try simp only [Act.put, List.setIfInBounds_toArray, List.set_cons_zero, List.set_cons_succ])
          refine M_take (v := ?_) 14 rfl (by kernel_rfl) (by assumption) (fun _ _ _ h => h) (Or.inl ⟨by rfl, ?_⟩) ?_
          rotate_left
          · (intro w hSw; (try dsimp only at hSw); go_simp; (try with_reducible rfl))
          (try simp only [Act.put, List.setIfInBounds_toArray, List.set_cons_zero, List.set_cons_succ])
          refine M_take (v := ?_) 15 rfl (by kernel_rfl) (by assumption) (fun _ _ _ h => h) (Or.inl ⟨by rfl, ?_⟩) ?_
          rotate_left
          · (intro w hSw; (try dsimp only at hSw); go_simp; (try with_reducible rfl))
          (try simp only [Act.put, List.setIfInBounds_toArray, List.set_cons_zero, List.set_cons_succ])
          refine M_take (v := ?_) 16 rfl (by kernel_rfl) (by assumption) (fun _ _ _ h => h) (Or.inl ⟨by rfl, ?_⟩) ?_
          rotate_left
          · (intro w hSw; (try dsimp only at hSw); go_simp; (try with_reducible rfl))
          (try simp only [Act.put, List.setIfInBounds_toArray, List.set_cons_zero, List.set_cons_succ])
          refine M_take (v := ?_) 17 rfl (by kernel_rfl) (by assumption) (fun _ _ _ h => h) (Or.inl ⟨by rfl, ?_⟩) ?_
          rotate_left
          · (intro w hSw; (try dsimp only at hSw); go_simp; (try with_reducible rfl))
          (try simp only [Act.put, List.setIfInBounds_toArray, List.set_cons_zero, List.set_cons_succ])
          refine M_take (v := ?_) 18 rfl (by kernel_rfl) (by assumption) (fun _ _ _ h => h) (Or.inl ⟨by rfl, ?_⟩) ?_
          rotate_left
          · (intro w hSw; (try dsimp only at hSw); go_simp; (try with_reducible rfl))
          (try simp only [Act.put, List.setIfInBounds_toArray, List.set_cons_zero, List.set_cons_succ])
          refine M_take (v := ?_) 19 rfl (by kernel_rfl) (by assumption) (fun _ _ _ h => h) (Or.inl ⟨by rfl, ?_⟩) ?_
          rotate_left
          · (intro w hSw; (try dsimp only at hSw); go_simp; (try with_reducible rfl))
          (try simp only [Act.put, List.setIfInBounds_toArray, List.set_cons_zero, List.set_cons_succ])
          refine M_take (v := ?_) 20 rfl (by kernel_rfl) (by assumption) (fun _ _ _ h => h) (Or.inl ⟨by rfl, ?_⟩) ?_
          rotate_left
          · (intro w hSw; (try dsimp only at hSw); go_simp; (try with_reducible rfl))
          (try simp only [Act.put, List.setIfInBounds_toArray, List.set_cons_zero, List.set_cons_succ])
          refine M_take (v := ?_) 21 rfl (by kernel_rfl) (by assumption) (fun _ _ _ h => h) (Or.inl ⟨by rfl, ?_⟩) ?_
          rotate_left
          · (intro w hSw; (try dsimp only at hSw); go_simp; (try with_reducible rfl))
          (try simp only [Act.put, List.setIfInBounds_toArray, List.set_cons_zero, List.set_cons_succ])
          refine M_step 22 rfl (by kernel_rfl) (fun K hK => ?_)
          go_simp
          have D8 := Lib.hid (show Below wo.heap.size wo (wo.drew.alloc (.cells #[.int .i64 (zk + rg0), .int .i64 (zk + rg1)] 23)) from nextB (Below.refl _ _).drew (box1 wo.drew (.cells #[.int .i64 (zk + rg0), .int .i64 (zk + rg1)] 23)))
          have hT8 : (fun w' => w'.cell? ⟨g, k * 2, none⟩ = some (.int .i64 rg0) ∧ w'.cell? ⟨g, k * 2 + 1, none⟩ = some (.int .i64 rg1) ∧ w'.cell? (a.add k) = some (.int .i64 zk)) (wo.drew.alloc (.cells #[.int .i64 (zk + rg0), .int .i64 (zk + rg1)] 23)) := ⟨cell_up D8.out gl g0, cell_up D8.out gl g1, (D8.out.cell az).trans c1⟩
          refine hK.out _ _ (fun _ => hT8) ?_
          clear hK K
          (try simp only [Act.put, List.setIfInBounds_toArray, List.set_cons_zero, List.set_cons_succ])
          refine M_step 23 rfl (by kernel_rfl) (fun K hK => ?_)
          refine step_append_own rfl (.tmp 31) (.tmp 53) 48 rfl w2.heap.size 23 i0 (.agg #[.int .i64 0, .int .i64 0]) 2 16 Try.underlying48 hi0 hz0 hz1 hz2 rfl (by decide) _ k _ (by simp [Act.eval]) (hown.drew.alloc _) ⟨wo.heap.size, 0, none⟩ 1 1 [.int .i64 (zk + rg0), .int .i64 (zk + rg1)] (by simp [Act.eval]) rfl (new2 wo.drew _ _ _) (by simp [Value.oneCell']) (by unfold maxLen; omega) (by omega) (by simp only [World.size_alloc, World.size_drew]; omega) ?_
          intro v2 w5 hown2 hg2
          refine hK.out _ _ (fun e => by cases e) ?_
          clear hK K
          (try simp only [Act.put, List.setIfInBounds_toArray, List.set_cons_zero, List.set_cons_succ])
          refine M_step 24 rfl (by kernel_rfl) (fun K hK => ?_)
          go_simp
          refine hK.out _ _ (fun e => by cases e) ?_
          clear hK K
          (try simp only [Act.put, List.setIfInBounds_toArray, List.set_cons_zero, List.set_cons_succ])
          refine M_done (by kernel_rfl) ?_ _
          have e2 : Rls p Z n k = (zk + rg0, zk + rg1) := by rw [HEF.out]; exact pr_eq (Int.add_comm _ _) (Int.add_comm _ _)
          have NN := Lib.hid (HR.out.app (nextB (Below.refl _ _).drew (box1 _ _)) hg2 (by rw [e2]; exact hown2))
          clear hg2 hown2 hown e2 hT8
          go_wp2_with fail
          go_roundw
          case rel => exact ⟨k + 1, by omega, by go_num, NN.out⟩
          case measure => simp [intOf]; omega
        · have hki : (n : Int) ≤ (k : Int) := by omega
          obtain rfl : k = n := by omega
          go_wp2_with fail
          go_ret2
          exact ⟨fun _ => ⟨_, rfl, HR.out.from_ C2.out⟩, fun e => absurd rfl e⟩
end Go.Proofs.Ytkidhmajlpceeaa
