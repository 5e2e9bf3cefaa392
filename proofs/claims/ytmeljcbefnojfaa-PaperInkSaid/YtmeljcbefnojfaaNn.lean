import Derived.Test.YtmeljcbefnojfaaNit
import Derived.Test.YtmeljcbefnojfaaNz
import Derived.Test.YtmeljcbefnojfaaNr
import Derived.Test.YtmeljcbefnojfaaInk
namespace Go.Proofs.Ytmeljcbefnojfaa
open Go.RowKit
attribute [local go_sem] Oper.semAt_some
set_option maxRecDepth 100000 in
set_option maxHeartbeats 4000000 in
theorem nin_none (p : Pap) (t : Pt) (_c : Int) (bm o bp bt bc n : Nat) (w : World) (h : p.Ok) (ht : t.Ok) (hP : HasPap p bp w) (hT : HasPt t bt w) (hn : 2 ≤ n) (hh : hLo p t > p.height) :
    Yields Fence.wide n Try.prog 124 #[.pointer (some ⟨bp, 0, none⟩), .pointer (some ⟨bt, 0, none⟩), .pointer (some ⟨bc, 0, none⟩)] (fun s : Int × Int => #[.agg #[.int .i64 s.1, .int .i64 s.2]]) (KpN bm o) [] w := fun l J W hW hJ hY h0 => by
  have hP' : HasPap p bp W := hP.up hW hP.block
  obtain ⟨t0, t1, t2⟩ := hT
  have t0' := cell_up hW (World.block_lt_of_cell? _ _ t0) t0
  have t1' := cell_up hW (World.block_lt_of_cell? _ _ t1) t1
  have t2' := cell_up hW (World.block_lt_of_cell? _ _ t2) t2
  clear t0 t1 t2 hP hW hY
  obtain ⟨p0, p1, p2, p3, p4, p5, p6, p7, p8, p9⟩ := hP'
  have HJ := Lib.hid hJ
  have HJ0 := Lib.hid h0
  have HH := Lib.hid hh
  clear hJ h0 hh
  refine callsIn_of_wp Try.func124 rfl trivial ?_ rfl
  simp only [Try.ntmps124, List.size_toArray, List.length_cons, List.length_nil, Nat.reduceAdd, Nat.reduceSub, Array.replicate_succ, Array.replicate_zero, List.push_toArray, List.append_toArray, List.nil_append, List.cons_append]
  gi_wp2
  refine ⟨trivial, (fun _ => by omega), (callsIn_wide.2 (heightsOf_none p t _ h ht HH.out)).mono ?_⟩
  rintro e w1 ⟨rfl, hb1⟩
  have s1 := hb1.size
  gi_wp2
  refine bodyPost_ret (results_none rfl _ _ _) rfl ?_
  exact ⟨⟨_, rfl⟩, abides_below HJ.out HJ0.out (hb1.trans ((box1 w1 _).mono s1))⟩
end Go.Proofs.Ytmeljcbefnojfaa
namespace Go.Proofs.Ytmeljcbefnojfaa
open Go.RowKit
attribute [local go_sem] Oper.semAt_some
theorem nin_of (p : Pap) (t : Pt) (c : Int) (L : List (Int × Int)) (bm o bp bt bc n : Nat) (w : World) (h : p.Ok) (ht : t.Ok) (hc : 0 ≤ c ∧ c ≤ p.cols - 1) (hL : HtsL p t c L)
    (hm : PtB bm o w.heap.size w) (hP : HasPap p bp w) (hT : HasPt t bt w) (hC : w.cell? ⟨bc, 0, none⟩ = some (.int .i64 c)) (hn : 2 ≤ n) :
    Yields Fence.wide n Try.prog 124 #[.pointer (some ⟨bp, 0, none⟩), .pointer (some ⟨bt, 0, none⟩), .pointer (some ⟨bc, 0, none⟩)] (fun s : Int × Int => #[.agg #[.int .i64 s.1, .int .i64 s.2]]) (KpN bm o) L w := by
  rcases hL with ⟨hh, rfl⟩ | ⟨hh, K1, K2, K3, K4, hE, rfl⟩
  · exact nin_none p t c bm o bp bt bc n w h ht hP hT hn hh
  · by_cases hr : p.radius = 0
    · by_cases hB : K1 ≤ K2 - 1
      · by_cases hA : K3 ≤ K4 - 1
        · rw [if_pos hB, if_pos hA]; exact nin_zba p t c K1 K2 K3 K4 bm o bp bt bc n w h ht hc hr hm hP hT hC hn hh hE hB hA
        · rw [if_pos hB, if_neg hA]; exact nin_zb p t c K1 K2 K3 K4 bm o bp bt bc n w h ht hc hr hm hP hT hC hn hh hE hB hA
      · by_cases hA : K3 ≤ K4 - 1
        · rw [if_neg hB, if_pos hA]; exact nin_za p t c K1 K2 K3 K4 bm o bp bt bc n w h ht hc hr hm hP hT hC hn hh hE hB hA
        · rw [if_neg hB, if_neg hA]; exact nin_z p t c K1 K2 K3 K4 bm o bp bt bc n w h ht hc hr hm hP hT hC hn hh hE hB hA
    · by_cases hB : K1 ≤ K2 - 1
      · by_cases hA : K3 ≤ K4 - 1
        · rw [if_pos hB, if_pos hA]; exact nin_rba p t c K1 K2 K3 K4 bm o bp bt bc n w h ht hc hr hm hP hT hC hn hh hE hB hA
        · rw [if_pos hB, if_neg hA]; exact nin_rb p t c K1 K2 K3 K4 bm o bp bt bc n w h ht hc hr hm hP hT hC hn hh hE hB hA
      · by_cases hA : K3 ≤ K4 - 1
        · rw [if_neg hB, if_pos hA]; exact nin_ra p t c K1 K2 K3 K4 bm o bp bt bc n w h ht hc hr hm hP hT hC hn hh hE hB hA
        · rw [if_neg hB, if_neg hA]; exact nin_r p t c K1 K2 K3 K4 bm o bp bt bc n w h ht hc hr hm hP hT hC hn hh hE hB hA
end Go.Proofs.Ytmeljcbefnojfaa
