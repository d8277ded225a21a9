/-
  The document's tome in memory: six files, and their versions; the walk of its Set.
-/
import Derived.Test.YtabjjjbopbjbeaaTFold
namespace Go.Proofs.Ytabjjjbopbjbeaa.Tom
open Go.RowKit Cel

/-- Its cells. -/
def refC (R : List ((Bool × ByteArray) × Int)) : List Value := (R.flatMap fun x => [.bool x.1.1, .string x.1.2]) ++ R.map fun x => .int .i64 x.2

theorem six_cases {R : List ((Bool × ByteArray) × Int)} (h : R.length = 6) : ∃ a b c d e f, R = [a, b, c, d, e, f] := by
  match R, h with
  | [a, b, c, d, e, f], _ => exact ⟨a, b, c, d, e, f, rfl⟩

theorem refC_get {R : List ((Bool × ByteArray) × Int)} (h : R.length = 6) (j : Nat) (hj : j < 6) : (refC R)[j * 2]? = some (.bool R[j]!.1.1) ∧ (refC R)[j * 2 + 1]? = some (.string R[j]!.1.2) ∧ (refC R)[12 + j]? = some (.int .i64 R[j]!.2) := by
  obtain ⟨a, b, c, d, e, f, rfl⟩ := six_cases h
  have hc : j = 0 ∨ j = 1 ∨ j = 2 ∨ j = 3 ∨ j = 4 ∨ j = 5 := by omega
  rcases hc with rfl | rfl | rfl | rfl | rfl | rfl <;> exact ⟨rfl, rfl, rfl⟩

theorem refC_set {R : List ((Bool × ByteArray) × Int)} (h : R.length = 6) (j : Nat) (hj : j < 6) (x : Bool × ByteArray) (v : Int) :
    (((refC R).set (j * 2) (.bool x.1)).set (j * 2 + 1) (.string x.2)).set (12 + j) (.int .i64 v) = refC (R.set j (x, v)) := by
  obtain ⟨a, b, c, d, e, f, rfl⟩ := six_cases h
  have hc : j = 0 ∨ j = 1 ∨ j = 2 ∨ j = 3 ∨ j = 4 ∨ j = 5 := by omega
  rcases hc with rfl | rfl | rfl | rfl | rfl | rfl <;> rfl

/-- The document's tome in block m. -/
structure RefAt (w : World) (m : Nat) (R : List ((Bool × ByteArray) × Int)) : Prop where
  at_ : w.heap[m]? = some (.cells (refC R).toArray 33 (0, 0))
  len : R.length = 6
  six : Six (filesOf R)

section
variable {w w' : World} {m : Nat} {R : List ((Bool × ByteArray) × Int)}

theorem RefAt.is (h : RefAt w m R) (j : Nat) (hj : j < 6) : w.cell? ⟨m, j * 2, none⟩ = some (.bool R[j]!.1.1) := cell_at h.at_ (by simpa using (refC_get h.len j hj).1)
theorem RefAt.text (h : RefAt w m R) (j : Nat) (hj : j < 6) : w.cell? ⟨m, j * 2 + 1, none⟩ = some (.string R[j]!.1.2) := cell_at h.at_ (by simpa using (refC_get h.len j hj).2.1)
theorem RefAt.ver (h : RefAt w m R) (j : Nat) (hj : j < 6) : w.cell? ⟨m, 12 + j, none⟩ = some (.int .i64 R[j]!.2) := cell_at h.at_ (by simpa using (refC_get h.len j hj).2.2)
theorem RefAt.fz (h : RefAt w m R) (i : Nat) : w.frozen? ⟨m, i, none⟩ = false := free_at h.at_
theorem RefAt.lt (h : RefAt w m R) : m < w.heap.size := (Array.getElem?_eq_some_iff.1 h.at_).1
theorem RefAt.keep (h : RefAt w m R) (hm : w'.heap[m]? = w.heap[m]?) : RefAt w' m R := ⟨hm.trans h.at_, h.len, h.six⟩
theorem RefAt.grown (h : RefAt w m R) (hb : Below w.heap.size w w') : RefAt w' m R := h.keep (hb.block m h.lt)

theorem RefAt.set1 (h : RefAt w m R) (j : Nat) (hj : j < 6) (x : Bool × ByteArray) (hx : CanF x) (v : Int) :
    RefAt (((w.setCell ⟨m, j * 2, none⟩ (.bool x.1)).setCell ⟨m, j * 2 + 1, none⟩ (.string x.2)).setCell ⟨m, 12 + j, none⟩ (.int .i64 v)) m (R.set j (x, v)) := by
  refine ⟨?_, by rw [List.length_set]; exact h.len, by rw [files_set]; exact h.six.set _ hx⟩
  rw [heap_set _ (heap_set _ (heap_set _ h.at_)), ← refC_set h.len j hj x v]
  simp

theorem RefAt.ne_tome (h : RefAt w m R) {t b g : Nat} {S : List ((Bool × ByteArray) × Int)} (hT : TomeAt w t b g S) : t ≠ m ∧ b ≠ m ∧ g ≠ m := by
  refine ⟨fun e => ?_, fun e => ?_, fun e => ?_⟩
  · have k := hT.at_
    rw [e, h.at_] at k
    injection k with k
    injection k with _ k
    exact absurd k (by decide)
  · have k := hT.row.at_
    rw [e, h.at_] at k
    injection k with k
    injection k with _ k
    exact absurd k (by decide)
  · have k := hT.row.row
    rw [e, h.at_] at k
    injection k with k
    injection k with _ k
    exact absurd k (by decide)

theorem RefAt.new (w : World) : RefAt (w.alloc (.cells (refC F.none6).toArray 33)) w.heap.size F.none6 := ⟨heap_new _ _, rfl, noF_six⟩

/-- The document's 'a file can't be', as it is asked. -/
theorem canB_no {x : Bool} {y : ByteArray} (h : canB (x, y) = false) : 32 < y.size ∨ x = false ∧ y.toList.isEmpty = false := by
  unfold canB at h
  cases x with
  | true => left; simp at h; exact h
  | false =>
    right
    refine ⟨rfl, ?_⟩
    simp at h
    cases e : y.toList.isEmpty with
    | false => rfl
    | true =>
      rw [Fil.toList_txt] at e
      have h1 : y.data.toList = [] := by simpa using e
      have h2 := list_len y
      rw [h1] at h2
      exact absurd (size_zero (by simpa using h2.symm)) h
theorem canB_yes {x : Bool} {y : ByteArray} (h : canB (x, y) = true) : y.size ≤ 32 ∧ (x = false → y.toList.isEmpty = true) := by
  have hc := (canB_iff (x, y)).1 h
  refine ⟨canF_le hc, fun hx => ?_⟩
  subst hx
  have h2 := canF_no hc rfl
  injection h2 with _ h2
  rw [h2, Fil.toList_txt]
  rfl

set_option maxHeartbeats 4000000 in
set_option maxRecDepth 100000 in
theorem refSet_any (h : RefAt w m R) (i : Int) (f : Bool × ByteArray) (v : Int) :
    Calls Try.prog 11 #[.pointer (some ⟨m, 0, none⟩), .int .i64 i, .agg #[.bool f.1, .string f.2], .int .i64 v] w fun e w' => e = .returned (.bool (okS i f)) ∧ RefAt w' m (setR R i f v) ∧ But [m] w w' := by
  obtain ⟨w0, hw0⟩ : ∃ w0, w0 = w.alloc (.cells #[.bool f.1, .string f.2] 29) := ⟨_, rfl⟩
  have hb0 := (Below.refl w.heap.size w).alloc (Nat.le_refl _) (.cells #[.bool f.1, .string f.2] 29)
  have hn0 := heap_new w (.cells #[.bool f.1, .string f.2] 29)
  rw [← hw0] at hb0 hn0
  have h0 := h.grown hb0
  have hmB : m ≠ w.heap.size := Nat.ne_of_lt h.lt
  have HB := Hid.mk (But.of_below (l := [m]) hb0)
  have HR := Hid.mk h0
  have HC := Hid.mk (canB_iff f)
  obtain ⟨B, hB⟩ : ∃ B, B = w.heap.size := ⟨_, rfl⟩
  rw [← hB] at hn0 hmB
  have x0 : w0.cell? ⟨B, 0, none⟩ = some (.bool f.1) := cell_at hn0 rfl
  have x1 : w0.cell? ⟨B, 1, none⟩ = some (.string f.2) := cell_at hn0 rfl
  obtain ⟨x, y⟩ := f
  clear h hb0 hn0 h0
  by_cases hi0 : i < 0
  · have HE : Hid (okS i (x, y) = false) := Hid.mk (by unfold okS; rw [decide_eq_false (by omega)]; rfl)
    have HS : Hid (setR R i (x, y) v = R) := Hid.mk (by unfold setR; rw [HE.out]; rfl)
    clear x0 x1 hmB
    go_enter Try.func11, Try.ntmps11
    go_wp2_with fail
    go_wp2
    go_ret
    exact ⟨by rw [HE.out]; rfl, by rw [HS.out, ← hw0]; exact HR.out, by rw [← hw0]; exact HB.out⟩
  by_cases hi5 : 5 < i
  · have HE : Hid (okS i (x, y) = false) := Hid.mk (by unfold okS; rw [decide_eq_false (by omega)]; rfl)
    have HS : Hid (setR R i (x, y) v = R) := Hid.mk (by unfold setR; rw [HE.out]; rfl)
    clear x0 x1 hmB
    go_enter Try.func11, Try.ntmps11
    go_wp2_with fail
    go_wp2
    go_ret
    exact ⟨by rw [HE.out]; rfl, by rw [HS.out, ← hw0]; exact HR.out, by rw [← hw0]; exact HB.out⟩
  obtain ⟨j, rfl⟩ : ∃ j : Nat, i = (j : Int) := ⟨i.toNat, by omega⟩
  have hj : j < 6 := by omega
  have hHE : okS (j : Int) (x, y) = canB (x, y) := by unfold okS; rw [decide_eq_true (by omega)]; rfl
  have HBw := Hid.mk hB
  have HW := Hid.mk hw0
  rw [hB, hw0] at x0 x1
  by_cases hc : canB (x, y) = true
  · obtain ⟨hy, he⟩ := canB_yes hc
    have HE : Hid (okS (j : Int) (x, y) = true) := Hid.mk (hHE.trans hc)
    have HS : Hid (setR R (j : Int) (x, y) v = R.set j ((x, y), v)) := Hid.mk (by unfold setR; rw [HE.out, Int.toNat_natCast]; rfl)
    have c0 := HR.out.is j hj
    have c1 := HR.out.text j hj
    have c2 := HR.out.ver j hj
    have f0 := HR.out.fz (j * 2)
    have f1 := HR.out.fz (j * 2 + 1)
    have f2 := HR.out.fz (12 + j)
    obtain ⟨X, hX⟩ : ∃ X, X = R[j]!.1.1 := ⟨_, rfl⟩
    obtain ⟨T, hT⟩ : ∃ T, T = R[j]!.1.2 := ⟨_, rfl⟩
    obtain ⟨V, hV⟩ : ∃ V, V = R[j]!.2 := ⟨_, rfl⟩
    rw [← hX] at c0
    rw [← hT] at c1
    rw [← hV] at c2
    have HCF := Hid.mk (HC.out.1 hc)
    have HM := Hid.mk hmB
    have hy2 : ¬ 32 < (y.size : Int) := by omega
    have hy3 : ¬ 32 < y.size := by omega
    have key : ∀ (Q : Prop), (x = true ∨ x = false ∧ y.toList.isEmpty = true → Q) → Q := fun Q k => k (by cases x; exact .inr ⟨rfl, he rfl⟩; exact .inl rfl)
    refine key _ (fun hx => ?_)
    clear hX hT hV hc hHE hmB hB hw0 HC he hy key
    rcases hx with rfl | ⟨rfl, hx⟩
    all_goals
      go_enter Try.func11, Try.ntmps11
      go_wp2_with fail
      rw [← HW.out, ← HBw.out]
      rw [← HW.out, ← HBw.out] at x0 x1
      have hmB := HM.out
      go_big_region
      all_goals
        go_wp2
        go_ret
        have hmm : m ∈ [m] := by simp
        refine ⟨by rw [HE.out]; rfl, ?_, ?_⟩
        · rw [HS.out]
          exact (HR.out.set1 j hj _ HCF.out v).keep rfl
        · exact (((HB.out.set (.inl hmm) _ _).set (.inl hmm) _ _).set (.inl hmm) _ _).drewN 1
  · have hcf : canB (x, y) = false := by simpa using hc
    have HE : Hid (okS (j : Int) (x, y) = false) := Hid.mk (hHE.trans hcf)
    have HS : Hid (setR R (j : Int) (x, y) v = R) := Hid.mk (by unfold setR; rw [HE.out]; rfl)
    by_cases hy : 32 < y.size
    · have hy2 : 32 < (y.size : Int) := by omega
      clear hc hcf hHE hmB hB hw0
      go_enter Try.func11, Try.ntmps11
      go_wp2
      go_ret
      exact ⟨by rw [HE.out]; rfl, by rw [HS.out, ← HW.out]; exact HR.out, by rw [← HW.out]; exact HB.out⟩
    · rcases canB_no hcf with h1 | ⟨rfl, h2⟩
      · exact absurd h1 hy
      · have hy2 : ¬ 32 < (y.size : Int) := by omega
        clear hc hcf hHE hmB hB hw0
        go_enter Try.func11, Try.ntmps11
        go_wp2
        go_ret
        exact ⟨by rw [HE.out]; rfl, by rw [HS.out, ← HW.out]; exact HR.out, by rw [← HW.out]; exact HB.out⟩

end

end Go.Proofs.Ytabjjjbopbjbeaa.Tom
