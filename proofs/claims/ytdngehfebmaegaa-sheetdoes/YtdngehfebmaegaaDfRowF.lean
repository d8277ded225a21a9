/-
  A draft in memory (things: file.File), and the walks of how entries are told apart, and found.
-/
import Derived.Test.YtdngehfebmaegaaDfLow
namespace Go.Proofs.Ytdngehfebmaegaa.Dft.F
open Go.RowKit Go.Proofs.Ytdngehfebmaegaa.Cel

/-- Entries as cells. -/
def enC : List (Int × (Bool × ByteArray)) → List Value
  | [] => []
  | e :: r => .int .i64 e.1 :: .bool e.2.1 :: .string e.2.2 :: enC r

theorem enC_length (l : List (Int × (Bool × ByteArray))) : (enC l).length = l.length * 3 := by
  induction l with
  | nil => rfl
  | cons c r ih => simp [enC, ih]; omega

theorem enC_append (a b : List (Int × (Bool × ByteArray))) : enC (a ++ b) = enC a ++ enC b := by
  induction a with
  | nil => rfl
  | cons c r ih => simp [enC, ih]

theorem enC_get (l : List (Int × (Bool × ByteArray))) : ∀ j, j < l.length → (enC l)[j * 3]? = some (.int .i64 l[j]!.1) ∧ (enC l)[j * 3 + 1]? = some (.bool l[j]!.2.1) ∧ (enC l)[j * 3 + 2]? = some (.string l[j]!.2.2) := by
  induction l with
  | nil => intro j hj; simp at hj
  | cons c r ih =>
    intro j hj
    cases j with
    | zero => exact ⟨rfl, rfl, rfl⟩
    | succ j =>
      have h := ih j (by simpa using hj)
      have e0 : (j + 1) * 3 = j * 3 + 3 := by omega
      rw [e0]
      have g : (c :: r)[j + 1]! = r[j]! := by simp
      rw [g]
      exact h

theorem enC_take (l : List (Int × (Bool × ByteArray))) : ∀ p, enC (l.take p) = (enC l).take (p * 3) := by
  induction l with
  | nil => intro p; simp [enC]
  | cons c r ih =>
    intro p
    cases p with
    | zero => simp [enC]
    | succ p =>
      rw [show (p + 1) * 3 = p * 3 + 1 + 1 + 1 by omega]
      simp [enC, ih p]

theorem enC_drop (l : List (Int × (Bool × ByteArray))) : ∀ p, enC (l.drop p) = (enC l).drop (p * 3) := by
  induction l with
  | nil => intro p; simp [enC]
  | cons c r ih =>
    intro p
    cases p with
    | zero => simp [enC]
    | succ p =>
      rw [show (p + 1) * 3 = p * 3 + 1 + 1 + 1 by omega]
      simp [enC, ih p]

theorem enC_set (l : List (Int × (Bool × ByteArray))) (x : (Bool × ByteArray)) : ∀ p, p < l.length → ((enC l).set (p * 3 + 1) (.bool x.1)).set (p * 3 + 2) (.string x.2) = enC (l.set p (l[p]!.1, x)) := by
  induction l with
  | nil => intro p hp; simp at hp
  | cons c r ih =>
    intro p hp
    cases p with
    | zero => rfl
    | succ p =>
      have h := ih p (by simpa using hp)
      have e0 : (p + 1) * 3 + 1 = p * 3 + 1 + 3 := by omega
      have e1 : (p + 1) * 3 + 2 = p * 3 + 2 + 3 := by omega
      have g : (c :: r)[p + 1]! = r[p]! := by simp
      rw [e0, e1, g]
      show _ :: _ :: _ :: ((enC r).set (p * 3 + 1) _).set (p * 3 + 2) _ = _ :: _ :: _ :: enC (r.set p (r[p]!.1, x))
      rw [h]

theorem enC_one (l : List (Int × (Bool × ByteArray))) : ∀ u ∈ enC l, u.oneCell' = true := by
  induction l with
  | nil => intro u hu; cases hu
  | cons c r ih =>
    intro u hu
    simp only [enC, List.mem_cons] at hu
    rcases hu with rfl | rfl | rfl | hu
    · simp [Value.oneCell']
    · simp [Value.oneCell']
    · simp [Value.oneCell']
    · exact ih u hu

theorem row_en {w : World} {B g n cap : Nat} {e : TypeId} {R : List (Int × (Bool × ByteArray))} (h : w.ownsRow B e 3 (.slice (some ⟨g, 0, none⟩) n cap) n (enC R)) (j : Nat) (hj : j < R.length) :
    w.cell? ⟨g, j * 3, none⟩ = some (.int .i64 R[j]!.1) ∧ w.cell? ⟨g, j * 3 + 1, none⟩ = some (.bool R[j]!.2.1) ∧ w.cell? ⟨g, j * 3 + 2, none⟩ = some (.string R[j]!.2.2) := by
  obtain ⟨e0, e1, e2⟩ := enC_get R j hj
  have k0 := h.cells (g := g) rfl _ _ e0
  have k1 := h.cells (g := g) rfl _ _ e1
  have k2 := h.cells (g := g) rfl _ _ e2
  rw [addP] at k0 k1 k2
  exact ⟨k0, k1, k2⟩

/-! ### The walks -/

set_option maxHeartbeats 1000000 in
set_option maxRecDepth 100000 in
theorem apart_any (a : Int) (xb : Bool) (xs : ByteArray) (i : Int) (w : World) :
    Calls Try.prog 66 #[.agg #[.int .i64 a, .bool xb, .string xs], .int .i64 i] w fun e w' => e = .returned (.int .i64 (cmpI a i)) ∧ Below w.heap.size w w' := by
  go_enter Try.func66, Try.ntmps66
  go_wp2_with fail
  refine (compare_any a i _).mono ?_
  rintro e w1 ⟨rfl, rfl⟩
  go_wp2
  go_ret
  exact ⟨rfl, (Below.refl _ _).alloc (Nat.le_refl _) _⟩

set_option maxHeartbeats 4000000 in
set_option maxRecDepth 100000 in
theorem search_any {R : List (Int × (Bool × ByteArray))} {v : Value} (i : Int) (w : World) (h : w.ownsRow 0 77 3 v R.length (enC R)) (hup : Rises R) (hs : R.length ≤ 1000000) :
    Calls Try.prog 65 #[v, .int .i64 i, .func (.func 66) #[] #[]] w fun e w' =>
      (∃ p, Stands (·.1) R i p ∧ e = .returned (.tuple #[.int .i64 (p : Nat), .bool (decide (p < R.length ∧ R[p]!.1 = i))])) ∧ Below w.heap.size w w' := by
  obtain ⟨va, vc, rfl⟩ := row_shape h
  obtain ⟨N, hN⟩ : ∃ N, N = R.length := ⟨_, rfl⟩
  have HR : Hid (w.ownsRow 0 77 3 (.slice va R.length vc) R.length (enC R)) := h
  have HU := Hid.mk hup
  have HN := Hid.mk hN
  rw [← hN] at hs ⊢
  clear h hup hN
  go_enter Try.func65, Try.ntmps65
  go_wp2
  go_loopw [9, 10] (fun s9 s10 wr => ∃ p q : Nat, s9 = .int .i64 p ∧ s10 = .int .i64 q ∧ p ≤ q ∧ q ≤ N ∧ Hid (Cut (·.1) R i p q) ∧ Hid (Below w.heap.size w wr)) (fun s9 s10 _ => (intOf s10).toNat - (intOf s9).toNat)
  case atStart => exact ⟨0, N, rfl, rfl, Nat.zero_le _, Nat.le_refl _, Hid.mk (by rw [HN.out]; exact Cut.whole _ _ _), Hid.mk (Below.refl _ _)⟩
  case round =>
    obtain ⟨lo, hi, rfl, rfl, hlh, hin, HC0, HB⟩ := hrel
    by_cases hlt : lo < hi
    · have h2 : wr.ownsRow 0 77 3 (.slice va R.length vc) R.length (enC R) := ownsRow_carry HR.out fun k hk => HB.out.block k (HR.out.lt k hk).2
      have hmR : (lo + hi) / 2 < R.length := by have := HN.out; omega
      obtain ⟨g, cap, e⟩ := row_full h2 (by omega)
      injection e with e1 _ e3
      subst e1 e3
      obtain ⟨x0, x1, x2⟩ := row_en h2 ((lo + hi) / 2) hmR
      obtain ⟨y0, hy0⟩ : ∃ y, y = R[(lo + hi) / 2]!.1 := ⟨_, rfl⟩
      obtain ⟨y1, hy1⟩ : ∃ y, y = R[(lo + hi) / 2]!.2.1 := ⟨_, rfl⟩
      obtain ⟨y2, hy2⟩ : ∃ y, y = R[(lo + hi) / 2]!.2.2 := ⟨_, rfl⟩
      rw [← hy0] at x0
      rw [← hy1] at x1
      rw [← hy2] at x2
      have HY := Hid.mk hy0
      clear h2 hmR hy0 hy1 hy2
      by_cases hc : y0 < i
      · have e1 : cmpI y0 i < 0 := by rw [cmpI_neg]; exact hc
        have HX : Hid (Cut (·.1) R i ((lo + hi) / 2 + 1) hi) := Hid.mk (HC0.out.above HU.out (by omega) (by rw [← HY.out]; exact hc))
        clear hc
        go_wp2_with (go_at_call 66; refine (apart_any y0 y1 y2 i _).mono ?_; rintro e w1 ⟨rfl, hb1⟩)
        go_roundw
        case rel => exact ⟨(lo + hi) / 2 + 1, hi, by go_num, rfl, by omega, hin, HX, Hid.mk (HB.out.trans (hb1.mono HB.out.size))⟩
        case measure => simp [intOf]; omega
      · have e1 : ¬ cmpI y0 i < 0 := by rw [cmpI_neg]; exact hc
        have HX : Hid (Cut (·.1) R i lo ((lo + hi) / 2)) := Hid.mk (HC0.out.below HU.out (by omega) (by omega) (by rw [← HY.out]; exact hc))
        clear hc
        go_wp2_with (go_at_call 66; refine (apart_any y0 y1 y2 i _).mono ?_; rintro e w1 ⟨rfl, hb1⟩)
        go_roundw
        case rel => exact ⟨lo, (lo + hi) / 2, rfl, by go_num, by omega, by omega, HX, Hid.mk (HB.out.trans (hb1.mono HB.out.size))⟩
        case measure => simp [intOf]; omega
    · obtain rfl : hi = lo := by omega
      have HS := Hid.mk HC0.out.stands
      by_cases hlt2 : hi < N
      · have h2 : wr.ownsRow 0 77 3 (.slice va R.length vc) R.length (enC R) := ownsRow_carry HR.out fun k hk => HB.out.block k (HR.out.lt k hk).2
        have hmR : hi < R.length := by have := HN.out; omega
        obtain ⟨g, cap, e⟩ := row_full h2 (by omega)
        injection e with e1 _ e3
        subst e1 e3
        obtain ⟨x0, x1, x2⟩ := row_en h2 hi hmR
        obtain ⟨y0, hy0⟩ : ∃ y, y = R[hi]!.1 := ⟨_, rfl⟩
        obtain ⟨y1, hy1⟩ : ∃ y, y = R[hi]!.2.1 := ⟨_, rfl⟩
        obtain ⟨y2, hy2⟩ : ∃ y, y = R[hi]!.2.2 := ⟨_, rfl⟩
        rw [← hy0] at x0
        rw [← hy1] at x1
        rw [← hy2] at x2
        have HY := Hid.mk hy0
        clear h2 hmR hy0 hy1 hy2
        by_cases hc : y0 = i
        · have e1 : cmpI y0 i = 0 := by rw [cmpI_zero]; exact hc
          have HC := Hid.mk hc
          clear hc
          go_wp2_with (go_at_call 66; refine (apart_any y0 y1 y2 i _).mono ?_; rintro e w1 ⟨rfl, hb1⟩)
          go_ret2
          exact ⟨⟨hi, HS.out, by rw [decide_eq_true ⟨hlt2, HY.out.symm.trans HC.out⟩]; rfl⟩, HB.out.trans (hb1.mono HB.out.size)⟩
        · have e1 : (cmpI y0 i == 0) = false := by rw [beq_eq_false_iff_ne, ne_eq, cmpI_zero]; exact hc
          have HC := Hid.mk hc
          clear hc
          go_wp2_with (go_at_call 66; refine (apart_any y0 y1 y2 i _).mono ?_; rintro e w1 ⟨rfl, hb1⟩)
          go_ret2
          exact ⟨⟨hi, HS.out, by rw [decide_eq_false (fun h => HC.out (HY.out.trans h.2))]; rfl⟩, HB.out.trans (hb1.mono HB.out.size)⟩
      · go_wp2
        go_ret2
        exact ⟨⟨hi, HS.out, by rw [decide_eq_false (fun h => hlt2 h.1)]; rfl⟩, HB.out⟩

end Go.Proofs.Ytdngehfebmaegaa.Dft.F
