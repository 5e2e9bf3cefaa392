import Derived.Test.YtmeljcbefnojfaaTrk
namespace Go.Proofs.Ytmeljcbefnojfaa
open Go.RowKit
attribute [local go_sem] Oper.semAt_some
set_option maxRecDepth 100000 in
set_option maxHeartbeats 8000000 in
theorem trace_some (p : Pap) (t : Pt) (G n : Nat) (H : Nat → List (Int × Int)) (Lc : Nat → List (Int × Int)) (bl : Nat → Bool) (w0 w : World) (h : p.Ok) (ht : t.Ok) (hn : (n : Int) = p.cols) (hC : ColI w0 G n Lc bl w) (hs : ColSome p t)
    (hH : ∀ c, c < n → HtsL p t c (H c)) (hlen : ∀ c, c < n → (Lc c).length ≤ 900) (hsrt : ∀ c, c < n → Srt (Lc c)) :
    Calls Try.prog 105 #[p.v, t.v, .slice (some ⟨G, 0, none⟩) n n] w fun e w' => e = .returned (.tuple #[]) ∧ ColI w0 G n (trcL p H bl Lc (cLo p t) (cHi p t)) bl w' := by
  have HC := Lib.hid hC
  have HH := Lib.hid hH
  have HC0 : Hid (0 ≤ cLo p t) := Lib.hid (by unfold cLo colLo; omega)
  have HC1 : Hid (cHi p t ≤ p.cols - 1) := Lib.hid (by unfold cHi colHi; omega)
  have HL := Lib.hid hlen
  have HS := Lib.hid hsrt
  have hGl := hC.lt
  clear hC hH hlen hsrt
  refine (callsIn_wide (n := 8)).1 ?_
  refine callsIn_of_wp_marks Try.func105 rfl trivial ?_ rfl
  simp only [Try.ntmps105, List.size_toArray, List.length_cons, List.length_nil, Nat.reduceAdd, Nat.reduceSub, Array.replicate_succ, Array.replicate_zero, List.push_toArray, List.append_toArray, List.nil_append, List.cons_append]
  gi_wp2
  refine ⟨trivial, (callsIn_wide.2 (columnsOf_yes p t _ h ht hs)).mono ?_⟩
  rintro e w1 ⟨rfl, hb1⟩
  have s1 := hb1.size
  simp only [World.size_alloc] at s1
  have C1 : Below w.heap.size w w1 := (box3 w _ _ _).trans (hb1.mono (by simp only [World.size_alloc]; omega))
  have P1 : HasPap p w.heap.size w1 := HasPap.up (by unfold HasPap; go_simp) hb1 (by simp only [World.size_alloc]; omega)
  have T1 : HasPt t (w.heap.size + 1) w1 := HasPt.up (by unfold HasPt; go_simp) hb1 (by simp only [World.size_alloc]; omega)
  have Q1 := low_cell (b := w.heap.size + 1 + 1) (o := 0) (v := .slice (some ⟨G, 0, none⟩) n n) hb1 (by simp only [World.size_alloc]; omega) (by go_simp)
  clear hb1
  have z0 : w.heap.size < w1.heap.size := by omega
  have z1 : w.heap.size + 1 < w1.heap.size := by omega
  have z2 : w.heap.size + 1 + 1 < w1.heap.size := by omega
  have HC1I : Hid (ColI w0 G n Lc bl w1) := Lib.hid (HC.out.up C1)
  have HP1 := Lib.hid P1
  have HT1 := Lib.hid T1
  clear P1 T1
  gi_wp2
  refine wpIn_loop (fun a' w' => ∃ (k : Int) (bx : Nat) (ds : List Deferred) (u9 u20 u21 u22 u23 u24 u25 u26 u27 u28 u29 u30 u31 u32 u33 u34 u35 u36 u37 u38 u39 u40 u41 u42 u43 u44 : Value), TrcI p t G n H Lc bl w0 w w1 k bx ds w' ∧ a' = { tmps := #[p.v, t.v, .slice (some ⟨G, 0, none⟩) n n, .pointer (some ⟨w.heap.size, 0, none⟩), .pointer (some ⟨w.heap.size + 1, 0, none⟩), .pointer (some ⟨w.heap.size + 1 + 1, 0, none⟩), .pointer (some ⟨w1.heap.size, 0, none⟩), .bool true, .pointer (some ⟨bx, 0, none⟩), u9, .tuple #[.agg #[.int .i64 (cLo p t), .int .i64 (cHi p t)], .bool true], p.v, t.v, .tuple #[.agg #[.int .i64 (cLo p t), .int .i64 (cHi p t)], .bool true], .agg #[.int .i64 (cLo p t), .int .i64 (cHi p t)], .bool true, .bool true, .bool false, .pointer (some ⟨w1.heap.size, 0, none⟩), .int .i64 (cLo p t), u20, u21, u22, u23, u24, u25, u26, u27, u28, u29, u30, u31, u32, u33, u34, u35, u36, u37, u38, u39, u40, u41, u42, u43, u44], defers := ds }) (fun a' w' => (cHi p t + 1 - at8 a' w').toNat) ?start ?round
  case start =>
    refine ⟨cLo p t, w1.heap.size + 1, [], _, _, _, _, _, _, _, _, _, _, _, _, _, _, _, _, _, _, _, _, _, _, _, _, _, _, ?_, rfl⟩
    exact TrcI.start hs.2 z2 C1 HC.out HP1.out HT1.out Q1
  case round =>
    rintro _ wr ⟨k, bx, ds, u9, u20, u21, u22, u23, u24, u25, u26, u27, u28, u29, u30, u31, u32, u33, u34, u35, u36, u37, u38, u39, u40, u41, u42, u43, u44, hI, rfl⟩
    have HI := Lib.hid hI
    have c0 := hI.cc
    have c1 := hI.r1
    have cf := hI.cf
    have hk1 := hI.kb.1
    have hk2 := hI.kb.2
    have cb := hI.bxb.2
    have q2 := hI.cols
    clear hI
    by_cases hlt : k ≤ cHi p t
    · have d1 : decide (k ≤ cHi p t) = true := by simpa using hlt
      obtain ⟨kn, hkn⟩ : ∃ kn : Nat, (kn : Int) = k := ⟨k.toNat, by have := HC0.out; omega⟩
      have hkl : kn < n := by have := HC1.out; omega
      obtain ⟨v, v1, v2, v3, v4, v5⟩ := HI.out.col.at hkl
      subst hkn
      have HWR : Hid (wrap64 ((kn : Int) + 1) = (kn : Int) + 1) := Lib.hid (w64 (by have := HC1.out; have := h.cols; omega))
      cases hb : bl kn with
      | true =>
        rw [hb] at v2
        clear v1 v3 v4 v5
        gi_wp2
        rw [HWR.out]
        refine ⟨⟨(kn : Int) + 1, wr.heap.size, ds, _, _, _, _, _, _, _, _, _, _, _, _, _, _, _, _, _, _, _, _, _, _, _, _, _, _, HI.out.pass hlt z2 hb (box1 _ _) ?_ ?_ ⟨Nat.le_refl _, by rw [World.size_alloc]; exact Nat.lt_succ_self _⟩, rfl⟩, ?_⟩
        · go_simp
        · go_simp
        · have hc9 : (wr.alloc (.cells #[.int .i64 ((kn : Int) + 1)] 3)).cell? ⟨wr.heap.size, 0, none⟩ = some (.int .i64 ((kn : Int) + 1)) := by go_simp
          rw [at8_mk hc9, at8_mk c0]
          exact meas_lt hlt
      | false =>
        rw [hb] at v2
        have hP := HI.out.pap
        have hT := HI.out.pt
        unfold HasPap at hP
        obtain ⟨p0, p1, p2, p3, p4, p5, p6, p7, p8, p9⟩ := hP
        obtain ⟨t0, t1, t2⟩ := hT
        gi_wp2
        refine ⟨trivial, (callsIn_wide.2 (heightsIn_any p t kn _)).mono ?_⟩
        rintro e w2 ⟨rfl, hb2, hP2, hT2, hC2, s2⟩
        have HN : Hid (PtB G (kn * 2) w2.heap.size w2) := Lib.hid ((HI.out.col.up hb2).ptB hkl)
        have HCK : Hid (0 ≤ (kn : Int) ∧ (kn : Int) ≤ p.cols - 1) := Lib.hid (by have := HC1.out; omega)
        have HB2 := Lib.hid hb2
        have hSB : ∀ b, SB w w1 bx ds b → b < w2.heap.size ∧ b ≠ G := fun b hb => by
          have := SB.lt HI.out hGl (by omega) hb
          have := hb2.size
          exact ⟨by omega, by omega⟩
        have HSB := Lib.hid hSB
        clear hSB
        gi_wp2
        refine rangeList rfl (by omega) (gf := 124) (lb := #[.pointer (some ⟨wr.heap.size, 0, none⟩), .pointer (some ⟨wr.heap.size + 1, 0, none⟩), .pointer (some ⟨wr.heap.size + 1 + 1, 0, none⟩)]) rfl trivial eg_it
          (nin_of p t kn (H kn) G (kn * 2) _ _ _ _ w2 h ht HCK.out (HH.out kn hkl) HN.out hP2 hT2 hC2 (by omega)) (Below.refl _ _) (fun _ => rfl)
          KpN.trans (fun W l o o' h1 h2 h3 _ => KpN.putObj HN.out.1 W l o o' h1 h2 h3)
          (TrcM p G n kn (H kn) (trcL p H bl Lc (cLo p t) (kn - 1)) bl w0 (SB w w1 bx ds) w2) (TrcM.own ?hGw ?hS) ?h0 (TAx p t G n w.heap.size w1.heap.size wr.heap.size bx kn u24 u25 u36 u37 u38 u39 u40 u41 u42 u43 u44) (fun x a' => TAx.own x a') ?assign ?body ?done
        case hGw => exact HN.out.1
        case hS => exact fun b hb => ⟨(HSB.out b hb).1, (HSB.out b hb).1⟩
        case h0 => exact HI.out.enter rfl (H kn) hb2
        case assign =>
          rintro l k x W K hx hM hK
          have hlW := hM.col.lt
          gi_wp2
          have hb := box1 W (.cells #[.int .i64 x.1, .int .i64 x.2] 23)
          refine hK _ _ (keepsFrom_below hb) (KpN.below hlW hb) (hM.up (fun b h => (HSB.out b h).1) hb) ⟨W.heap.size, by go_simp, by go_simp, ?_⟩
          rfl
        case body =>
          rintro l k x a' W hx hM ⟨Bx, hx0, hx1, rfl⟩
          have HM := Lib.hid hM
          have lowW : ∀ b o, SB w w1 bx ds b → W.cell? ⟨b, o, none⟩ = wr.cell? ⟨b, o, none⟩ := fun b o hb => World.cell?_of_block (a := ⟨b, o, none⟩) ((HM.out.fr b hb).trans (HB2.out.block b (SB.lt HI.out hGl (by omega) hb).1))
          have f1 : W.cell? ⟨w.heap.size + 1 + 1, 0, none⟩ = some (.slice (some ⟨G, 0, none⟩) n n) := (lowW _ _ (.inl (.inl (by omega)))).trans q2
          have f2 : W.cell? ⟨bx, 0, none⟩ = some (.int .i64 kn) := (lowW _ _ (.inl (.inr rfl))).trans c0
          have hPW : HasPap p w.heap.size W := by
            have hp := HI.out.pap
            unfold HasPap at hp ⊢
            simp only [lowW w.heap.size _ (.inl (.inl (by omega)))]
            exact hp
          obtain ⟨v', v1', _, v3', _, v5'⟩ := hM.col.at hkl
          clear hM
          unfold HasPap at hPW
          obtain ⟨e0, e1, e2, e3, e4, e5, e6, e7, e8, e9⟩ := hPW
          have hbd := (hts_bd h ht (HH.out kn hkl)).1 k x hx
          have hok := levH_okl h ht (HH.out kn hkl)
          have KL : Hid (∀ W', Below W.heap.size W W' → Calls Try.prog 89 #[p.v, .agg #[.int .i64 x.1, .int .i64 x.2]] W' fun e w' => e = .returned (.agg #[.int .i64 (lev p x.1), .int .i64 (lev p x.2)]) ∧ Below W'.heap.size W' w') := Lib.hid fun W' _ => levelsOf_any p x.1 x.2 W' h ⟨hbd.1, by omega⟩ ⟨by omega, hbd.2.2⟩
          have KA : Hid (∀ W', Below W.heap.size W W' → Calls Try.prog 99 #[.pointer (some ⟨G, kn * 2, none⟩), .agg #[.int .i64 (lev p x.1), .int .i64 (lev p x.2)]] W' fun e w' => e = .returned (.tuple #[]) ∧ KeepsFrom w2.heap.size W w' ∧ KpN G (kn * 2) W w' ∧ Hid ((TrcM p G n kn (H kn) (trcL p H bl Lc (cLo p t) (kn - 1)) bl w0 (SB w w1 bx ds) w2) (k + 1) w')) := Lib.hid fun W' hW' => by
            have e : (trcL p H bl Lc (cLo p t) (kn - 1)) kn = Lc kn := by unfold trcL; rw [if_neg (by omega)]
            have hokT : Okl ((levH p (H kn)).take k) := fun s hs => hok.1 s (List.mem_of_mem_take hs)
            have hmem : (lev p x.1, lev p x.2) ∈ levH p (H kn) := List.mem_map.2 ⟨x, List.mem_of_getElem? hx, rfl⟩
            refine trc_add w2.heap.size HM.out (fun b hb => HSB.out b hb) hkl hx ?_ ?_ (hok.1 _ hmem) hW'
            · have h1 := putAll_length ((trcL p H bl Lc (cLo p t) (kn - 1)) kn) ((levH p (H kn)).take k)
              have h2 := HL.out kn hkl
              have h3 : ((levH p (H kn)).take k).length ≤ 2 := Nat.le_trans (by rw [List.length_take]; exact Nat.min_le_right _ _) hok.2
              rw [e] at h1 ⊢
              omega
            · rw [e]
              exact putAll_srt (HS.out kn hkl) hokT
          clear hbd hok c0 c1 cf q2 v1 v2 v3 v4 v5 p0 p1 p2 p3 p4 p5 p6 p7 p8 p9 t0 t1 t2 hP2 hT2 hC2 v1' v3' v5' hb2 HB2 HSB HL HS HC1I HP1 HT1 hk2
          have hmix : Try.prog.follows .mixedOrders = true := by kernel_rfl
          have zf1 : w.heap.size + 1 + 1 < W.heap.size := World.block_lt_of_cell? _ _ f1
          have zf2 : bx < W.heap.size := World.block_lt_of_cell? _ _ f2
          gi_wp2
          clear HI HN HCK HC0 HC1 HH HC s2 s1 z0 z1 z2 hGl d1 hb hlt hk1 cb HM lowW HWR h ht hs hn C1 Q1 hx
          gi_region_with_o (first
            | ((try refine ⟨trivial, ?_⟩); gi_at_call 89; refine (CallsIn.inRound l (callsIn_wide.2 (KL.out _ (by first | exact (Below.refl _ _).drew | exact Below.refl _ _)))).mono ?_; rintro e wL ⟨rfl, hbL⟩; have f1L : wL.cell? ⟨w.heap.size + 1 + 1, 0, none⟩ = some (.slice (some ⟨G, 0, none⟩) n n) := cell_up hbL zf1 f1; have f2L : wL.cell? ⟨bx, 0, none⟩ = some (.int .i64 kn) := cell_up hbL zf2 f2)
            | ((try refine ⟨trivial, ?_⟩); gi_at_call 99; refine (CallsIn.inRound l (callsIn_wide.2 (KA.out _ (by first | exact Below.trans (Below.refl _ _).drew hbL | exact hbL)))).mono ?_; rintro e wA ⟨rfl, kA1, kA2, kA3⟩))
          all_goals exact ⟨kA1, kA2, kA3.out⟩
        case done =>
          rintro D W hD hM hK
          have lowW : ∀ b o, SB w w1 bx ds b → W.cell? ⟨b, o, none⟩ = wr.cell? ⟨b, o, none⟩ := fun b o hb => World.cell?_of_block (a := ⟨b, o, none⟩) ((hM.fr b hb).trans (HB2.out.block b (SB.lt HI.out hGl (by omega) hb).1))
          have f2 : W.cell? ⟨bx, 0, none⟩ = some (.int .i64 kn) := (lowW _ _ (.inl (.inr rfl))).trans c0
          have zf2 : bx < W.heap.size := World.block_lt_of_cell? _ _ f2
          have HM := Lib.hid hM
          clear hM lowW v1 v2 v3 v4 v5 p0 p1 p2 p3 p4 p5 p6 p7 p8 p9 t0 t1 t2 hP2 hT2 hC2
          gi_wp2
          rw [HWR.out]
          refine ⟨⟨(kn : Int) + 1, W.heap.size, _, _, _, _, _, _, _, _, _, _, _, _, _, _, _, _, _, _, _, _, _, _, _, _, _, _, _, HI.out.next hlt z2 hb HB2.out HM.out hD hK (box1 _ _) ?_ ?_ ⟨Nat.le_refl _, by rw [World.size_alloc]; exact Nat.lt_succ_self _⟩, rfl⟩, ?_⟩
          · go_simp
          · go_simp
          · have hc9 : (W.alloc (.cells #[.int .i64 ((kn : Int) + 1)] 3)).cell? ⟨W.heap.size, 0, none⟩ = some (.int .i64 ((kn : Int) + 1)) := by go_simp
            rw [at8_mk hc9, at8_mk c0]
            exact meas_lt hlt
    · have d1 : decide (k ≤ cHi p t) = false := by simpa using hlt
      gi_wp2
      refine leaves_marks (B := w1.heap.size + 1) (fun W => ColI w0 G n (trcL p H bl Lc (cLo p t) (cHi p t)) bl W) (fun W D hW hD hK => hW.mark (by omega) hK) (fun W hW => ?_) ds wr HI.out.marks ?_
      · refine ⟨.tuple #[], ?_, rfl, hW⟩
        simp [results, Try.results105, go_sem]
      · have := HI.out.col
        rwa [show k - 1 = cHi p t by omega] at this
end Go.Proofs.Ytmeljcbefnojfaa
