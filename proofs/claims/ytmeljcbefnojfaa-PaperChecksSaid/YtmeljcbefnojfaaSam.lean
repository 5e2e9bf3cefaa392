import Derived.Test.YtmeljcbefnojfaaMea
namespace Go.Proofs.Ytmeljcbefnojfaa
open Go.RowKit
set_option maxHeartbeats 1000000 in
theorem SameSpans_true (l : List (Int × Int)) (g g2 cap cap2 : Nat) (w : World) (hn : l.length ≤ 1000) (_hc : l.length ≤ cap) (_hc2 : l.length ≤ cap2)
    (h1 : ∀ i s, l[i]? = some s → w.cell? ⟨g, i * 2, none⟩ = some (.int .i64 s.1) ∧ w.cell? ⟨g, i * 2 + 1, none⟩ = some (.int .i64 s.2))
    (h2 : ∀ i s, l[i]? = some s → w.cell? ⟨g2, i * 2, none⟩ = some (.int .i64 s.1) ∧ w.cell? ⟨g2, i * 2 + 1, none⟩ = some (.int .i64 s.2)) :
    Calls Try.prog 52 #[.slice (some ⟨g, 0, none⟩) l.length cap, .slice (some ⟨g2, 0, none⟩) l.length cap2] w fun e w' => e = .returned (.bool true) ∧ ∃ q, w' = w.drewN q := by
  have H1 := Lib.hid h1
  have H2 := Lib.hid h2
  clear h1 h2
  generalize hnn : l.length = n at *
  have HN := Lib.hid hnn
  clear hnn
  go_enter Try.func52, Try.ntmps52
  go_wp2_with fail
  go_loopw [5] (fun i wr => ∃ k q : Nat, k ≤ n ∧ i = .int .i64 k ∧ wr = w.drewN q) (fun i _ => n - (intOf i).toNat)
  case atStart => exact ⟨0, 0, Nat.zero_le _, rfl, rfl⟩
  case round =>
    obtain ⟨k, q, hk, rfl, rfl⟩ := hrel
    by_cases hlt : k < n
    · have hs : l[k]? = some (l[k]'(by rw [HN.out]; exact hlt)) := List.getElem?_eq_getElem _
      generalize l[k]'(by rw [HN.out]; exact hlt) = s at hs
      obtain ⟨a0, a1⟩ := H1.out k s hs
      obtain ⟨b0, b1⟩ := H2.out k s hs
      have hki : (k : Int) < (n : Int) := by omega
      have hk0 : (0 : Int) ≤ (k : Int) := by omega
      clear hs
      go_wp2_with fail
      go_quiet (fail)
      go_wp2_with fail
      exact ⟨⟨k + 1, q + nq, by omega, by go_num, rfl⟩, by simp [intOf]; omega⟩
    · go_wp2_with fail
      go_ret
      exact ⟨rfl, q, rfl⟩
set_option maxHeartbeats 400000 in
theorem sample_any (w : World) :
    Calls Try.prog 68 #[] w fun e w' => e = .returned (Pap.v ⟨100, 1000, 1000, 9600, 10600, 4, 1000, 1000, 1000, 1000⟩) ∧ Below w.heap.size w w' := by
  go_enter Try.func68, Try.ntmps68
  go_wp2_with fail
  refine bodyPost_ret (v := Pap.v ⟨100, 1000, 1000, 9600, 10600, 4, 1000, 1000, 1000, 1000⟩) (by simp [results, Try.results68, go_sem]) rfl ⟨rfl, ?_⟩
  exact box2 _ _ _
end Go.Proofs.Ytmeljcbefnojfaa
