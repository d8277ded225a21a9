/-
  Rows of instructions of the call's own; the law's own 'alive'.
-/
import Derived.Test.YtkpbampffndjoaaCCheck
namespace Go.Proofs.Ytkpbampffndjoaa
open Go.RowKit

/-- Instructions as cells. -/
def insC : List Ins → List Value
  | [] => []
  | x :: r => .int .i64 x.op :: .int .i64 x.a :: .int .i64 x.b :: .int .i64 x.c :: insC r

theorem insC_length (ps : List Ins) : (insC ps).length = ps.length * 4 := by
  induction ps with
  | nil => rfl
  | cons x r ih => simp [insC, ih]; omega

theorem insC_append (a b : List Ins) : insC (a ++ b) = insC a ++ insC b := by
  induction a with
  | nil => rfl
  | cons x r ih => simp [insC, ih]

theorem insC_one (ps : List Ins) : ∀ u ∈ insC ps, u.oneCell' = true := by
  induction ps with
  | nil => intro u hu; simp [insC] at hu
  | cons x r ih =>
    intro u hu
    simp [insC] at hu
    rcases hu with rfl | rfl | rfl | rfl | hu
    · rfl
    · rfl
    · rfl
    · rfl
    · exact ih u hu

theorem insC_get (ps : List Ins) : ∀ j, j < ps.length → (insC ps)[j * 4]? = some (.int .i64 ps[j]!.op) ∧ (insC ps)[j * 4 + 1]? = some (.int .i64 ps[j]!.a) ∧ (insC ps)[j * 4 + 2]? = some (.int .i64 ps[j]!.b) ∧ (insC ps)[j * 4 + 3]? = some (.int .i64 ps[j]!.c) := by
  induction ps with
  | nil => intro j hj; simp at hj
  | cons x r ih =>
    intro j hj
    cases j with
    | zero => exact ⟨rfl, rfl, rfl, rfl⟩
    | succ j =>
      have h := ih j (by simpa using hj)
      have e0 : (j + 1) * 4 = j * 4 + 4 := by omega
      rw [e0]
      have g : (x :: r)[j + 1]! = r[j]! := by simp
      rw [g]
      exact h

theorem insAt_of {w : World} {g : Nat} {cs : Array Value} {t : TypeId} {m : Nat × Nat} {ps : List Ins} (hg : w.heap[g]? = some (.cells cs t m)) (hc : ∀ (j : Nat) (u : Value), (insC ps)[j]? = some u → cs[j]? = some u) : InsAt w g 0 ps := by
  refine ⟨(Array.getElem?_eq_some_iff.1 hg).1, fun j hj => ?_, fun j hj => ?_, fun j hj => ?_, fun j hj => ?_⟩
  · rw [Nat.zero_add]; exact cell_in hg (hc _ _ (insC_get ps j hj).1)
  · rw [Nat.zero_add]; exact cell_in hg (hc _ _ (insC_get ps j hj).2.1)
  · rw [Nat.zero_add]; exact cell_in hg (hc _ _ (insC_get ps j hj).2.2.1)
  · rw [Nat.zero_add]; exact cell_in hg (hc _ _ (insC_get ps j hj).2.2.2)

/-- A slice that was built of instructions. -/
theorem isIns_built (w : World) (ps : List Ins) (n : Nat) (hn : ps.length = n) : IsIns (w.alloc (.cells (insC ps).toArray 31)) (some ⟨w.heap.size, 0, none⟩) n n ps :=
  ⟨hn, Nat.le_refl _, .inr ⟨_, _, rfl, insAt_of (heap_alloc_at _ _) fun j u hu => by simpa using hu⟩⟩

/-- A row of the call's own. -/
theorem isIns_row {w : World} {base n : Nat} {v : Value} {ps : List Ins} (h : w.ownsRow base 31 4 v n (insC ps)) : ∃ a cap, v = .slice a n cap ∧ IsIns w a n cap ps := by
  have hl : ps.length = n := by
    have := h.1
    rw [insC_length] at this
    omega
  rcases h.2 with ⟨rfl, h0⟩ | ⟨g, cap, cur, rfl, _, hg, r1, _, _, r4⟩
  · refine ⟨none, 0, by rw [h0], hl, by omega, .inl ⟨?_, fun _ => rfl⟩⟩
    exact List.length_eq_zero_iff.1 (by omega)
  · refine ⟨_, cap, rfl, hl, r1, .inr ⟨g, 0, rfl, insAt_of hg fun j u hu => ?_⟩⟩
    rw [← r4] at hu
    have := List.getElem?_take_of_lt (l := cur.toList) (List.getElem?_eq_some_iff.1 hu).1
    have hj : j < n * 4 := by
      have := (List.getElem?_eq_some_iff.1 hu).1
      simp at this
      omega
    rw [List.getElem?_take_of_lt hj] at hu
    simpa using hu

theorem chk_two : Chk [⟨4, 0, 0, 0⟩, ⟨5, 0, 0, 0⟩] 0 0 := .inr (.inr (.inr ⟨by decide, by decide, by decide, rfl, rfl⟩))
theorem chk_one : Chk [⟨4, 0, 0, 0⟩] 0 11 := .inr (.inl ⟨by decide, by decide, rfl, rfl⟩)

set_option maxHeartbeats 1600000 in
set_option maxRecDepth 100000 in
theorem alive_any (w : World) : Calls Try.prog 9 #[] w fun e w' => e = .returned (.bool true) ∧ Below w.heap.size w w' := by
  have i1 := isIns_built w [⟨4, 0, 0, 0⟩, ⟨5, 0, 0, 0⟩] 2 rfl
  have HI1 := Hid.mk i1
  clear i1
  go_enter Try.func9, Try.ntmps9
  go_wp2_with fail
  refine (check_any HI1.out).mono ?_
  rintro e w1 ⟨a1, b1, rfl, hc1, hb1⟩
  obtain ⟨rfl, rfl⟩ := hc1.one chk_two
  have hb1' : Below w.heap.size w w1 := ((Below.refl _ _).alloc (Nat.le_refl _) _).trans (hb1.mono (by simp))
  have HB1 := Hid.mk hb1'
  have i2 := isIns_built w1 [⟨4, 0, 0, 0⟩] 1 rfl
  have HI2 := Hid.mk i2
  clear i2 hc1 hb1 hb1'
  go_wp2_with fail
  refine (check_any HI2.out).mono ?_
  rintro e w2 ⟨a2, b2, rfl, hc2, hb2⟩
  obtain ⟨rfl, rfl⟩ := hc2.one chk_one
  have hb2' : Below w.heap.size w w2 := (HB1.out.alloc HB1.out.size _).trans (hb2.mono (by have := HB1.out.size; simp; omega))
  have HB2 := Hid.mk hb2'
  have i3 := isIns_built w2 [⟨4, 0, 0, 0⟩] 1 rfl
  have HI3 := Hid.mk i3
  clear i3 hc2 hb2 hb2'
  go_wp2_with fail
  refine (blocks_any HI3.out (by decide)).mono ?_
  rintro e w3 ⟨rfl, hb3⟩
  have hb3' : Below w.heap.size w w3 := (HB2.out.alloc HB2.out.size _).trans (hb3.mono (by have := HB2.out.size; simp; omega))
  have eb : bg [⟨4, 0, 0, 0⟩] 1 = 1 := by decide
  rw [eb]
  go_wp2
  go_ret
  exact ⟨rfl, hb3'⟩

end Go.Proofs.Ytkpbampffndjoaa
