import Derived.Test.YtmeljcbefnojfaaLop
namespace Go.Proofs.Ytmeljcbefnojfaa
open Go.RowKit
/-- a box of one cell -/
def HasV (v : Value) (k : Nat) (w : World) : Prop := w.cell? ⟨k, 0, none⟩ = some v
theorem HasV.up {v : Value} {k : Nat} {W w1 : World} (h : HasV v k W) {B : Nat} (hb : Below B W w1) (hl : k < B) : HasV v k w1 := by
  unfold HasV at *
  rw [hb.cell (p := ⟨k, 0, none⟩) hl]
  exact h
theorem small_sh (A : Option Addr) (n c : Nat) (M : Nat → List (Int × Int)) (w : World) (h : Sheet A n M w) : Calls Try.prog 20 #[.agg #[.slice A n c]] w (AnyBool w) := by
  obtain ⟨X, h1, _⟩ := h
  exact small_any A n c X w h1
end Go.Proofs.Ytmeljcbefnojfaa
namespace Go.Proofs.Ytmeljcbefnojfaa
open Go.RowKit
theorem shq_same2 {n m k k' c c' : Nat} {L L' : Nat → List (Int × Int)} {E : Int} {A A' : Option Addr} {w : World} (h : ShQ n L E A k w) (h' : ShQ m L' E A' k' w) (e : E = 0 → n = m ∧ ∀ c, c < n → L c = L' c) :
    Calls Try.prog 55 #[.slice A k c, .slice A' k' c'] w fun e w' => e = .returned (.bool true) ∧ Below w.heap.size w w' := by
  refine SameSets_sh A A' k k' c c' L L' true w h.1 h'.1 ⟨fun _ => ?_, fun _ => rfl⟩
  by_cases h0 : E = 0
  · obtain ⟨rfl, e'⟩ := e h0
    obtain rfl := h.2.1 h0
    obtain rfl := h'.2.1 h0
    exact ⟨rfl, e'⟩
  · obtain rfl := h.2.2 h0
    obtain rfl := h'.2.2 h0
    exact ⟨rfl, fun c hc => absurd hc (by omega)⟩
set_option maxHeartbeats 1000000 in
theorem same_sh {A A' : Option Addr} {n k k' c c' : Nat} {L L' : Nat → List (Int × Int)} {w : World} (h : ShQ n L 0 A k w) (h' : Sheet A' k' L' w) (e : n = k' ∧ ∀ c, c < n → L c = L' c) :
    Calls Try.prog 67 #[.agg #[.slice A k c], .int .i64 0, .agg #[.slice A' k' c']] w fun e w' => e = .returned (.bool true) ∧ Below w.heap.size w w' := by
  have K : Hid (∀ W, Below w.heap.size w W → Calls Try.prog 55 #[.slice A k c, .slice A' k' c'] W fun e w' => e = .returned (.bool true) ∧ Below W.heap.size W w') := Lib.hid fun W hW =>
    SameSets_sh A A' k k' c c' L L' true W (h.1.up hW) (h'.up hW) ⟨fun _ => by obtain rfl := h.2.1 rfl; exact e, fun _ => rfl⟩
  clear h h' e
  go_enter Try.func67, Try.ntmps67
  go_wp2_with fail
  refine (K.out _ (by first | exact box2 _ _ _ | exact (box2 _ _ _).drew)).mono ?_
  rintro e w1 ⟨rfl, hb⟩
  have hB := Lib.hid ((box2 w _ _).trans (hb.mono (by simp only [World.size_alloc]; omega)))
  clear hb
  go_wp2_with fail
  go_ret
  exact ⟨rfl, hB.out⟩
/-- a sheet against an argument -/
theorem shq_arg {n k m c c' : Nat} {L M : Nat → List (Int × Int)} {A B : Option Addr} {w : World} (h : ShQ n L 0 A k w) (h' : Sheet B m M w) (G : Bool) (e : G = true ↔ n = m ∧ ∀ c, c < n → L c = M c) :
    Calls Try.prog 55 #[.slice A k c, .slice B m c'] w fun e w' => e = .returned (.bool G) ∧ Below w.heap.size w w' := by
  obtain rfl := h.2.1 rfl
  exact SameSets_sh A B k m c c' L M G w h.1 h' e
end Go.Proofs.Ytmeljcbefnojfaa
namespace Go.Proofs.Ytmeljcbefnojfaa
open Go.RowKit
/-- a new sheet, in memory from a block on, or nothing -/
def ShL (n : Nat) (L : Nat → List (Int × Int)) (E : Int) (A : Option Addr) (k B0 : Nat) (w : World) : Prop := E = 0 ∧ k = n ∧ ClsL A n L B0 w ∨ E ≠ 0 ∧ k = 0
theorem ShL.up {n k B0 : Nat} {L : Nat → List (Int × Int)} {E : Int} {A : Option Addr} {w w' : World} (h : ShL n L E A k B0 w) (hb : Below w.heap.size w w') : ShL n L E A k B0 w' := h.imp (fun h => ⟨h.1, h.2.1, h.2.2.up hb⟩) id
theorem ShL.set {n k B0 b : Nat} {L : Nat → List (Int × Int)} {E : Int} {A : Option Addr} {w : World} (h : ShL n L E A k B0 w) (hb : b < B0) (o : Nat) (u : Value) : ShL n L E A k B0 (w.setCell ⟨b, o, none⟩ u) := h.imp (fun h => ⟨h.1, h.2.1, h.2.2.set hb o u⟩) id
theorem ClsL.turn {A : Option Addr} {n B0 : Nat} {L L' : Nat → List (Int × Int)} {w : World} (h : ClsL A n L B0 w) (e : ∀ c, c < n → L c = L' c) : ClsL A n L' B0 w := by
  obtain ⟨X, h1, h2, h3⟩ := h
  exact ⟨X, h1, fun c hc => by rw [← e c hc]; exact h2 c hc, h3⟩
theorem ShL.shq {n k B0 : Nat} {L : Nat → List (Int × Int)} {E : Int} {A : Option Addr} {w : World} (h : ShL n L E A k B0 w) : ShQ n L E A k w := by
  rcases h with ⟨e, rfl, X, x1, x2, _⟩ | ⟨e, rfl⟩
  · exact ⟨⟨X, x1, x2⟩, fun _ => rfl, fun h => absurd e h⟩
  · exact ⟨Sheet.zero _ _ _, fun h => absurd h e, fun _ => rfl⟩
def ShM (n : Nat) (L : Nat → List (Int × Int)) (E : Int) (w : World) (e : Ending) (w' : World) : Prop :=
  ∃ A k c, e = .returned (.tuple #[.agg #[.slice A k c], .int .i64 E]) ∧ Below w.heap.size w w' ∧ Hid (ShL n L E A k w.heap.size w')
theorem inkP_shM {n : Nat} {Lc L : Nat → List (Int × Int)} {E : Int} {w w' : World} {e : Ending} (h : InkP n Lc E w e w') (hL : ∀ c, c < n → Lc c = L c) : ShM n L E w e w' := by
  obtain ⟨A, k, c, h1, h2, h3⟩ := h
  exact ⟨A, k, c, h1, h2, Lib.hid (h3.imp (fun h => ⟨h.1, h.2.1, h.2.2.turn hL⟩) id)⟩
theorem Either_shM (A B : Option Addr) (n m c d : Nat) (M N : Nat → List (Int × Int)) (E : Int) (w : World) (ha : Sheet A n M w) (hb : Sheet B m N w) (hE : eitE n m M N E) :
    Calls Try.prog 58 #[.agg #[.slice A n c], .agg #[.slice B m d]] w (ShM n (fun c => ec (M c) (N c)) E w) := by
  obtain ⟨x, hx, rx⟩ := ha
  obtain ⟨y, hy, ry⟩ := hb
  rcases hE with ⟨h, h0⟩ | ⟨h, h'⟩
  · exact (Either_err A B n m c d x y E w hx hy (alE_three rx ry h h0) (fun c => ec (M c) (N c))).mono fun e w' hq => inkP_shM hq fun _ _ => rfl
  · obtain ⟨g1, g2, rfl⟩ := alE_zero h
    obtain ⟨E1, hb2, hc⟩ := Either_ok A B n c d x y w hx hy ((good_iff rx).2 g1) ((good_iff ry).2 g2) _ rfl
    have hL := eitL_reads rx ry g1
    have e8 : (∀ c, c < n → ((fun k => eitL (x.S k) (y.S k) (x.L k) (y.L k)) c).length ≤ 8) ↔ ∀ c, c < n → (ec (M c) (N c)).length ≤ 8 := ⟨fun h c hc => by rw [← hL c hc]; exact h c hc, fun h c hc => by show (eitL _ _ _ _).length ≤ 8; rw [hL c hc]; exact h c hc⟩
    rw [e8] at hb2
    obtain rfl : E1 = E := by
      rcases hb2 with a | a <;> rcases h' with b | b
      · exact absurd a.2 b.2
      · rw [a.1, b.1]
      · rw [a.1, b.1]
      · exact absurd b.2 a.2
    exact hc.mono fun e w' hq => inkP_shM hq hL
/-- a sheet below a block -/
def SheetB (B0 : Nat) (A : Option Addr) (n : Nat) (M : Nat → List (Int × Int)) (w : World) : Prop := ∃ X : Cls, ClsIn A n X B0 w ∧ Reads X n M
theorem Sheet.below {A : Option Addr} {n : Nat} {M : Nat → List (Int × Int)} {w : World} (h : Sheet A n M w) : SheetB w.heap.size A n M w := h
theorem SheetB.up {B0 : Nat} {A : Option Addr} {n : Nat} {M : Nat → List (Int × Int)} {w w' : World} (h : SheetB B0 A n M w) (hb : Below B0 w w') (hs : B0 ≤ w'.heap.size) : Sheet A n M w' := by
  obtain ⟨X, h1, h2⟩ := h
  exact ⟨X, (h1.up hb (Nat.le_refl _)).more hs, h2⟩
theorem srt_good {n : Nat} {M : Nat → List (Int × Int)} (h : Good n M) {c : Nat} (hc : c < n) : Srt (M c) := (h.2.2 c hc).2.1
/-- what two sheets have in common, with a third one -/
theorem bth_three {n : Nat} {M N P : Nat → List (Int × Int)} (h1 : bthE n n M N 0) (h2 : bthE n n N P 0) (h3 : bthE n n (fun c => bc (M c) (N c)) P 0) :
    bthE n n M (fun c => bc (N c) (P c)) 0 ∧ ∀ c, c < n → bc (bc (M c) (N c)) (P c) = bc (M c) (bc (N c) (P c)) := by
  obtain ⟨g1, g2, _, a8, an⟩ := bthE_zero h1
  obtain ⟨_, g3, _, b8, bn⟩ := bthE_zero h2
  obtain ⟨_, _, _, c8, cn⟩ := bthE_zero h3
  have dn : ∀ c, c < n → ¬ Non (M c) (bc (N c) (P c)) := fun c hc => by
    have s1 := srt_good g1 hc
    have s2 := srt_good g2 hc
    have s3 := srt_good g3 hc
    intro hno
    rw [non_iff] at hno
    obtain ⟨k1, k2, k3⟩ := hno
    have sx := bc_srt (bc_srt s1 s2) s3
    by_cases e : bc (bc (M c) (N c)) (P c) = []
    · have : ∀ t, Inn (bc (bc (M c) (N c)) (P c)) t := fun t => .inl e
      obtain ⟨t, ht⟩ := has_out (M c)
      have h := this t
      rw [bc_inn (cn c hc), bc_inn (an c hc)] at h
      rcases h.1.1 with h | h
      · exact k1 h
      · exact ht h
    · obtain ⟨t, ht⟩ := srt_has sx e
      have h : Inn (bc (bc (M c) (N c)) (P c)) t := .inr ht
      rw [bc_inn (cn c hc), bc_inn (an c hc)] at h
      have h' : Inn (bc (N c) (P c)) t := (bc_inn (bn c hc) t).2 ⟨h.1.2, h.2⟩
      rcases h.1.1 with a | a
      · exact k1 a
      · rcases h' with b | b
        · exact k2 b
        · exact k3 t ⟨a, b⟩
  have ee : ∀ c, c < n → bc (bc (M c) (N c)) (P c) = bc (M c) (bc (N c) (P c)) := fun c hc => bc_assoc (srt_good g1 hc) (srt_good g2 hc) (srt_good g3 hc) (an c hc) (cn c hc) (bn c hc) (dn c hc)
  exact ⟨.inr ⟨.inr (.inr (.inr ⟨g1, g2.bc g3 b8, rfl, rfl⟩)), .inr ⟨fun c hc => by rw [← ee c hc]; exact c8 c hc, .inr ⟨rfl, dn⟩⟩⟩, ee⟩
theorem eit_three {n : Nat} {M N P : Nat → List (Int × Int)} {E : Int} (h1 : eitE n n M N 0) (h2 : eitE n n N P 0) (h3 : eitE n n (fun c => ec (M c) (N c)) P E) :
    eitE n n M (fun c => ec (N c) (P c)) E ∧ ∀ c, c < n → ec (ec (M c) (N c)) (P c) = ec (M c) (ec (N c) (P c)) := by
  obtain ⟨g1, g2, _, a8⟩ := eitE_zero h1
  obtain ⟨_, g3, _, b8⟩ := eitE_zero h2
  have ee : ∀ c, c < n → ec (ec (M c) (N c)) (P c) = ec (M c) (ec (N c) (P c)) := fun c hc => ec_assoc (srt_good g1 hc) (srt_good g2 hc) (srt_good g3 hc)
  refine ⟨?_, ee⟩
  have e8 : (∀ c, c < n → (ec (M c) (ec (N c) (P c))).length ≤ 8) ↔ ∀ c, c < n → (ec (ec (M c) (N c)) (P c)).length ≤ 8 := ⟨fun h c hc => by rw [ee c hc]; exact h c hc, fun h c hc => by rw [← ee c hc]; exact h c hc⟩
  have g12 := g1.ec g2 a8
  have g23 := g2.ec g3 b8
  rcases h3 with ⟨h, h0⟩ | ⟨_, h⟩
  · rcases h with h | h | h | h
    · exact absurd g12 h.1
    · exact absurd g3 h.2.1
    · exact absurd rfl h.2.2.1
    · exact absurd h.2.2.2 h0
  · refine .inr ⟨.inr (.inr (.inr ⟨g1, g23, rfl, rfl⟩)), ?_⟩
    show _ ∨ E = 0 ∧ ∀ c, c < n → (ec (M c) (ec (N c) (P c))).length ≤ 8
    rw [e8]
    exact h
end Go.Proofs.Ytmeljcbefnojfaa
