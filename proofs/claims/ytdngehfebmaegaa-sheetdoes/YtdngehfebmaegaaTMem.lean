/-
  A tome in memory, and the walks of New, Get, Set and row.
-/
import Derived.Test.YtdngehfebmaegaaTMath
import Derived.Test.YtdngehfebmaegaaFBase
import Derived.Test.YtdngehfebmaegaaRNewF
import Derived.Test.YtdngehfebmaegaaRWide
namespace Go.Proofs.Ytdngehfebmaegaa.Tom
open Go.RowKit Cel Cel.F
open Fil (good_yes good_no CanBe)

theorem canF_iff (f : Bool × ByteArray) : CanF f ↔ CanBe f.1 f.2 := by
  constructor
  · rintro (h | h)
    · exact .inl h
    · exact .inr (by rw [h]; exact ⟨rfl, rfl⟩)
  · rintro (h | ⟨h1, h2⟩)
    · exact .inl h
    · exact .inr (Prod.ext h1 h2)

/-- Whether a file can be. -/
def canB (f : Bool × ByteArray) : Bool := if f.1 then decide (f.2.size ≤ 32) else decide (f.2.size = 0)

theorem size_zero {s : ByteArray} (h : s.size = 0) : s = ⟨#[]⟩ := by
  apply ByteArray.ext
  exact Array.eq_empty_of_size_eq_zero h

theorem canB_iff (f : Bool × ByteArray) : canB f = true ↔ CanF f := by
  obtain ⟨is, s⟩ := f
  cases is with
  | true =>
    simp [canB, CanF]
  | false =>
    simp only [canB, CanF]
    constructor
    · intro h
      have h1 : s.size = 0 := by simpa using h
      exact .inr (by rw [size_zero h1])
    · rintro (⟨h, _⟩ | h)
      · cases h
      · injection h with _ h
        subst h
        rfl

/-- The tome in block t, its row in block b, its files in block g. -/
structure TomeAt (w : World) (t b g : Nat) (R : List ((Bool × ByteArray) × Int)) : Prop where
  at_ : w.heap[t]? = some (.cells #[.pointer (some ⟨b, 0, none⟩)] 88 (0, 0))
  row : RowAt w b g R
  len : R.length = 6
  six : Six (R.map (·.1))

section
variable {w w' : World} {t b g : Nat} {R : List ((Bool × ByteArray) × Int)}

theorem TomeAt.cell (h : TomeAt w t b g R) : w.cell? ⟨t, 0, none⟩ = some (.pointer (some ⟨b, 0, none⟩)) := cell_at h.at_ rfl
theorem TomeAt.lt (h : TomeAt w t b g R) : t < w.heap.size := (Array.getElem?_eq_some_iff.1 h.at_).1
theorem TomeAt.ne (h : TomeAt w t b g R) : t ≠ g := fun e => by
  have h1 := h.at_
  rw [e, h.row.row] at h1
  injection h1 with h1
  injection h1 with _ h1
  exact absurd h1 (by decide)
theorem TomeAt.keep (h : TomeAt w t b g R) (ht : w'.heap[t]? = w.heap[t]?) (hb : w'.heap[b]? = w.heap[b]?) (hg : w'.heap[g]? = w.heap[g]?) : TomeAt w' t b g R := ⟨ht.trans h.at_, h.row.keep hb hg, h.len, h.six⟩
theorem TomeAt.grown (h : TomeAt w t b g R) (hb : Below w.heap.size w w') : TomeAt w' t b g R := h.keep (hb.block t h.lt) (hb.block b h.row.lt) (hb.block g h.row.ltg)
theorem TomeAt.but {l : List Nat} (h : TomeAt w t b g R) (hb : But l w w') (ht : t ∉ l) (hbl : b ∉ l) (hg : g ∉ l) : TomeAt w' t b g R := h.keep (hb.block t h.lt ht) (hb.block b h.row.lt hbl) (hb.block g h.row.ltg hg)

/-- A tome's files. -/
def filesOf (R : List ((Bool × ByteArray) × Int)) : List (Bool × ByteArray) := R.map (·.1)

theorem files_get (R : List ((Bool × ByteArray) × Int)) (j : Nat) (h : j < R.length) : (filesOf R)[j]! = R[j]!.1 := by
  rw [getElem!_pos (filesOf R) j (by simpa [filesOf] using h), getElem!_pos R j h]
  simp [filesOf]
theorem files_set (R : List ((Bool × ByteArray) × Int)) (j : Nat) (x : (Bool × ByteArray) × Int) : filesOf (R.set j x) = (filesOf R).set j x.1 := by simp [filesOf, List.map_set]
theorem files_length (R : List ((Bool × ByteArray) × Int)) : (filesOf R).length = R.length := by simp [filesOf]
theorem files_none6 : filesOf none6 = noF := rfl

/-- Whether a file is set. -/
def okS (i : Int) (f : Bool × ByteArray) : Bool := decide (0 ≤ i ∧ i < 6) && canB f
/-- The files behind a Set. -/
def setR (R : List ((Bool × ByteArray) × Int)) (i : Int) (f : Bool × ByteArray) (v : Int) : List ((Bool × ByteArray) × Int) := if okS i f then R.set i.toNat (f, v) else R

theorem setR_length (R : List ((Bool × ByteArray) × Int)) (i : Int) (f : Bool × ByteArray) (v : Int) : (setR R i f v).length = R.length := by unfold setR; split <;> simp

set_option maxHeartbeats 400000 in
set_option maxRecDepth 100000 in
theorem row_yes (h : TomeAt w t b g R) : Calls Try.prog 45 #[.pointer (some ⟨t, 0, none⟩)] w fun e w' => e = .returned (.pointer (some ⟨b, 0, none⟩)) ∧ w' = w := by
  have c0 := h.cell
  clear h
  go_enter Try.func45, Try.ntmps45
  go_wp2
  go_ret
  exact ⟨rfl, rfl⟩

set_option maxHeartbeats 400000 in
set_option maxRecDepth 100000 in
theorem row_nil (w : World) : Calls Try.prog 45 #[.pointer none] w fun e w' => e = .returned (.pointer none) ∧ w' = w := by
  go_enter Try.func45, Try.ntmps45
  go_wp2
  go_ret
  exact ⟨rfl, rfl⟩

set_option maxHeartbeats 800000 in
set_option maxRecDepth 100000 in
theorem get_yes (h : TomeAt w t b g R) (j : Nat) (hj : j < 6) :
    Calls Try.prog 23 #[.pointer (some ⟨t, 0, none⟩), .int .i64 (j : Nat)] w fun e w' => e = .returned (.tuple #[.agg #[.bool R[j]!.1.1, .string R[j]!.1.2], .int .i64 R[j]!.2]) ∧ Below w.heap.size w w' := by
  have hb := (Below.refl w.heap.size w).alloc (Nat.le_refl _) (.cells #[.bool false, .string ⟨#[]⟩] 23)
  have C1 := Hid.mk (row_yes (h.grown hb))
  have C2 := Hid.mk (F.get_yes (h.grown hb).row j (by rw [h.len]; exact hj))
  obtain ⟨X, hX⟩ : ∃ X, X = R[j]!.1.1 := ⟨_, rfl⟩
  obtain ⟨Z, hZ⟩ : ∃ Z, Z = R[j]!.1.2 := ⟨_, rfl⟩
  obtain ⟨Y, hY⟩ : ∃ Y, Y = R[j]!.2 := ⟨_, rfl⟩
  rw [← hX, ← hY, ← hZ] at C2 ⊢
  have HB := Hid.mk hb
  clear h hX hY hZ hb
  go_enter Try.func23, Try.ntmps23
  go_wp2_with fail
  refine C1.out.mono ?_
  rintro e w1 ⟨rfl, hw1⟩
  rw [hw1]
  clear hw1 w1
  go_wp2_with fail
  refine C2.out.mono ?_
  rintro e w1 ⟨rfl, hb1⟩
  have hN : w1.heap[w.heap.size]? = some (.cells #[.bool false, .string ⟨#[]⟩] 23 (0, 0)) := (hb1.block w.heap.size (by simp)).trans (heap_new w _)
  have HB1 := Hid.mk (HB.out.trans (hb1.mono (by simp)))
  have d0 : w1.cell? ⟨w.heap.size, 0, none⟩ = some (.bool false) := cell_at hN rfl
  have d1 : w1.cell? ⟨w.heap.size, 1, none⟩ = some (.string ⟨#[]⟩) := cell_at hN rfl
  have f0 : w1.frozen? ⟨w.heap.size, 0, none⟩ = false := free_at hN
  have f1 : w1.frozen? ⟨w.heap.size, 1, none⟩ = false := free_at hN
  clear hN hb1
  go_wp2
  refine bodyPost_ret (v := .tuple #[.agg #[.bool X, .string Z], .int .i64 Y]) ?_ rfl ⟨rfl, ?_⟩
  · simp [results, Try.f23, go_sem, d0, d1]
  · exact (HB1.out.setCell (by simp) _).setCell (by simp) _

set_option maxHeartbeats 800000 in
set_option maxRecDepth 100000 in
theorem get_no (h : TomeAt w t b g R) (i : Int) (hi : ¬ (0 ≤ i ∧ i < 6)) :
    Calls Try.prog 23 #[.pointer (some ⟨t, 0, none⟩), .int .i64 i] w fun e w' => e = .returned (.tuple #[.agg #[.bool false, .string ⟨#[]⟩], .int .i64 0]) ∧ Below w.heap.size w w' := by
  have hb := (Below.refl w.heap.size w).alloc (Nat.le_refl _) (.cells #[.bool false, .string ⟨#[]⟩] 23)
  have C1 := Hid.mk (row_yes (h.grown hb))
  have C2 := Hid.mk (F.get_no (h.grown hb).row i (by rw [h.len]; exact hi))
  have HB := Hid.mk hb
  clear h hi hb
  go_enter Try.func23, Try.ntmps23
  go_wp2_with fail
  refine C1.out.mono ?_
  rintro e w1 ⟨rfl, hw1⟩
  rw [hw1]
  clear hw1 w1
  go_wp2_with fail
  refine C2.out.mono ?_
  rintro e w1 ⟨rfl, hb1⟩
  have hN : w1.heap[w.heap.size]? = some (.cells #[.bool false, .string ⟨#[]⟩] 23 (0, 0)) := (hb1.block w.heap.size (by simp)).trans (heap_new w _)
  have HB1 := Hid.mk (HB.out.trans (hb1.mono (by simp)))
  have d0 : w1.cell? ⟨w.heap.size, 0, none⟩ = some (.bool false) := cell_at hN rfl
  have d1 : w1.cell? ⟨w.heap.size, 1, none⟩ = some (.string ⟨#[]⟩) := cell_at hN rfl
  have f0 : w1.frozen? ⟨w.heap.size, 0, none⟩ = false := free_at hN
  have f1 : w1.frozen? ⟨w.heap.size, 1, none⟩ = false := free_at hN
  clear hN hb1
  go_wp2
  refine bodyPost_ret (v := .tuple #[.agg #[.bool false, .string ⟨#[]⟩], .int .i64 0]) ?_ rfl ⟨rfl, ?_⟩
  · simp [results, Try.f23, go_sem, d0, d1]
  · exact (HB1.out.setCell (by simp) _).setCell (by simp) _

set_option maxHeartbeats 800000 in
set_option maxRecDepth 100000 in
theorem get_nil (i : Int) (w : World) :
    Calls Try.prog 23 #[.pointer none, .int .i64 i] w fun e w' => e = .returned (.tuple #[.agg #[.bool false, .string ⟨#[]⟩], .int .i64 0]) ∧ Below w.heap.size w w' := by
  have hb := (Below.refl w.heap.size w).alloc (Nat.le_refl _) (.cells #[.bool false, .string ⟨#[]⟩] 23)
  have C1 := Hid.mk (row_nil (w.alloc (.cells #[.bool false, .string ⟨#[]⟩] 23)))
  have C2 := Hid.mk (F.get_nil i (w.alloc (.cells #[.bool false, .string ⟨#[]⟩] 23)))
  have HB := Hid.mk hb
  clear hb
  go_enter Try.func23, Try.ntmps23
  go_wp2_with fail
  refine C1.out.mono ?_
  rintro e w1 ⟨rfl, hw1⟩
  rw [hw1]
  clear hw1 w1
  go_wp2_with fail
  refine C2.out.mono ?_
  rintro e w1 ⟨rfl, hb1⟩
  have hN : w1.heap[w.heap.size]? = some (.cells #[.bool false, .string ⟨#[]⟩] 23 (0, 0)) := (hb1.block w.heap.size (by simp)).trans (heap_new w _)
  have HB1 := Hid.mk (HB.out.trans (hb1.mono (by simp)))
  have d0 : w1.cell? ⟨w.heap.size, 0, none⟩ = some (.bool false) := cell_at hN rfl
  have d1 : w1.cell? ⟨w.heap.size, 1, none⟩ = some (.string ⟨#[]⟩) := cell_at hN rfl
  have f0 : w1.frozen? ⟨w.heap.size, 0, none⟩ = false := free_at hN
  have f1 : w1.frozen? ⟨w.heap.size, 1, none⟩ = false := free_at hN
  clear hN hb1
  go_wp2
  refine bodyPost_ret (v := .tuple #[.agg #[.bool false, .string ⟨#[]⟩], .int .i64 0]) ?_ rfl ⟨rfl, ?_⟩
  · simp [results, Try.f23, go_sem, d0, d1]
  · exact (HB1.out.setCell (by simp) _).setCell (by simp) _

set_option maxHeartbeats 800000 in
set_option maxRecDepth 100000 in
theorem new_any (w : World) :
    Calls Try.prog 25 #[] w fun e w' => ∃ t b g, e = .returned (.pointer (some ⟨t, 0, none⟩)) ∧ TomeAt w' t b g none6 ∧ Below w.heap.size w w' ∧ w.heap.size ≤ t ∧ w.heap.size ≤ b ∧ w.heap.size ≤ g := by
  go_enter Try.func25, Try.ntmps25
  go_wp2_with fail
  refine (new_six w).mono ?_
  rintro e w1 ⟨rfl, hr, hb, hz⟩
  have hn := heap_new w1 (.cells #[.pointer (some ⟨w.heap.size + 2, 0, none⟩)] 88)
  have ht : TomeAt (w1.alloc (.cells #[.pointer (some ⟨w.heap.size + 2, 0, none⟩)] 88)) w1.heap.size (w.heap.size + 2) (w.heap.size + 1) none6 :=
    ⟨hn, hr.grown ((Below.refl _ w1).alloc (Nat.le_refl _) _), rfl, noF_six⟩
  have HT := Hid.mk ht
  have HB := Hid.mk (hb.alloc hb.size (.cells #[.pointer (some ⟨w.heap.size + 2, 0, none⟩)] 88))
  have HZ := Hid.mk hz
  clear hr hb hz hn ht
  go_wp2
  go_ret
  exact ⟨_, _, _, rfl, HT.out, HB.out, by rw [HZ.out]; omega, by omega, by omega⟩

set_option maxRecDepth 100000 in
theorem set_row (h : RowAt w b g R) (hl : R.length = 6) (i : Int) (f : Bool × ByteArray) (v : Int) :
    Calls Try.prog 49 #[.pointer (some ⟨b, 0, none⟩), .int .i64 i, .agg #[.bool f.1, .string f.2], .int .i64 v] w fun e w' => e = .returned (.bool (decide (0 ≤ i ∧ i < 6))) ∧ RowAt w' b g (if 0 ≤ i ∧ i < 6 then R.set i.toNat (f, v) else R) ∧ But [g] w w' := by
  by_cases k : 0 ≤ i ∧ i < 6
  · rw [if_pos k, decide_eq_true k]
    obtain ⟨j, rfl⟩ : ∃ j : Nat, i = (j : Int) := ⟨i.toNat, by omega⟩
    rw [Int.toNat_natCast]
    exact F.set_yes h j (by rw [hl]; omega) f v
  · rw [if_neg k, decide_eq_false k]
    refine (F.set_no h i (by rw [hl]; exact k) f.1 f.2 v).mono ?_
    rintro e w1 ⟨rfl, hb⟩
    exact ⟨rfl, h.grown hb, But.of_below hb⟩

theorem held_but {A : Nat} {z : World} {l : List Nat} {u0 u1 : Value} (hb : But l w z) (hA : A ∉ l) (h : w.cell? ⟨A, 0, none⟩ = some u0 ∧ w.cell? ⟨A, 1, none⟩ = some u1) : z.cell? ⟨A, 0, none⟩ = some u0 ∧ z.cell? ⟨A, 1, none⟩ = some u1 := by
  have e := hb.block A (World.block_lt_of_cell? w _ h.1) hA
  exact ⟨(World.cell?_of_block e).trans h.1, (World.cell?_of_block e).trans h.2⟩

set_option maxHeartbeats 1600000 in
set_option maxRecDepth 100000 in
theorem set_any (h : TomeAt w t b g R) (i : Int) (f : Bool × ByteArray) (v : Int) :
    Calls Try.prog 26 #[.pointer (some ⟨t, 0, none⟩), .int .i64 i, .agg #[.bool f.1, .string f.2], .int .i64 v] w fun e w' => e = .returned (.bool (okS i f)) ∧ TomeAt w' t b g (setR R i f v) ∧ But [g] w w' := by
  obtain ⟨w0, hw0⟩ : ∃ w0, w0 = w.alloc (.cells #[.bool f.1, .string f.2] 23) := ⟨_, rfl⟩
  have hb0 := (Below.refl w.heap.size w).alloc (Nat.le_refl _) (.cells #[.bool f.1, .string f.2] 23)
  have hn0 := heap_new w (.cells #[.bool f.1, .string f.2] 23)
  have hz0 : w0.heap.size = w.heap.size + 1 := by rw [hw0]; simp
  rw [← hw0] at hb0 hn0
  have x0 : w0.cell? ⟨w.heap.size, 0, none⟩ = some (.bool f.1) := cell_at hn0 rfl
  have x1 : w0.cell? ⟨w.heap.size, 1, none⟩ = some (.string f.2) := cell_at hn0 rfl
  have HZB : Hid (w.heap.size + 1 ≤ w0.heap.size) := Hid.mk (by rw [hz0]; exact Nat.le_refl _)
  have LAY : Hid (∀ z, Below (w.heap.size + 1) w0 z → z.cell? ⟨w.heap.size, 0, none⟩ = some (.bool f.1) ∧ z.cell? ⟨w.heap.size, 1, none⟩ = some (.string f.2)) := Hid.mk (fun z hz => ⟨(World.cell?_of_block (hz.block w.heap.size (by omega))).trans x0, (World.cell?_of_block (hz.block w.heap.size (by omega))).trans x1⟩)
  have HT := Hid.mk h
  have HB := Hid.mk hb0
  by_cases hc : CanF f
  · have hcb : canB f = true := (canB_iff f).2 hc
    have C1 := Hid.mk (fun z => good_yes ((canF_iff f).1 hc) z)
    have HE : okS i f = decide (0 ≤ i ∧ i < 6) := by unfold okS; rw [hcb, Bool.and_true]
    have HE2 := Hid.mk HE
    have HE3 : Hid ((if 0 ≤ i ∧ i < 6 then R.set i.toNat (f, v) else R) = setR R i f v) := Hid.mk (by
      unfold setR
      rw [HE]
      by_cases k : 0 ≤ i ∧ i < 6
      · rw [if_pos k, decide_eq_true k, if_pos rfl]
      · rw [if_neg k, decide_eq_false k]; rfl)
    have HL := Hid.mk h.len
    have HS : Hid (Six ((if 0 ≤ i ∧ i < 6 then R.set i.toNat (f, v) else R).map (·.1))) := Hid.mk (by
      split
      · have e := files_set R i.toNat (f, v)
        unfold filesOf at e
        rw [e]
        exact h.six.set _ hc
      · exact h.six)
    have HAG := Hid.mk (Nat.ne_of_gt h.row.ltg)
    clear hc hcb HE hb0 h hn0 hz0
    obtain ⟨x, y⟩ := f
    have CS := Hid.mk (fun (z : World) (hz : RowAt z b g R) => set_row hz HL.out i (x, y) v)
    obtain ⟨D, hD⟩ : ∃ D, D = decide (0 ≤ i ∧ i < 6) := ⟨_, rfl⟩
    obtain ⟨R2, hR2⟩ : ∃ R2, R2 = (if 0 ≤ i ∧ i < 6 then R.set i.toNat ((x, y), v) else R) := ⟨_, rfl⟩
    rw [← hD] at CS HE2
    rw [← hR2] at CS HE3 HS
    obtain ⟨A, hA⟩ : ∃ A, A = w.heap.size := ⟨_, rfl⟩
    rw [← hA] at HZB LAY x0 x1 HAG
    clear hD hR2
    go_enter Try.func26, Try.ntmps26
    go_wp2_with fail
    rw [← hw0, ← hA]
    have HA := Hid.mk hA
    clear hw0 hA
    have hS := And.intro x0 x1
    go_region_held3 (fun wx => wx.cell? ⟨A, 0, none⟩ = some (.bool x) ∧ wx.cell? ⟨A, 1, none⟩ = some (.string y))
      (first
        | exact hS
        | exact hS3
        | exact hS1
        | fail)
      (first
        | (have := m1; go_at_call 49; refine (CS.out _ hr1).mono ?_; rintro e z3 ⟨rfl, hr3, hb3⟩; have hS3 : z3.cell? ⟨A, 0, none⟩ = some (.bool x) ∧ z3.cell? ⟨A, 1, none⟩ = some (.string y) := held_but hb3 (by simpa using HAG.out) hS1)
        | (have := m1; go_at_call 45; refine (row_yes ht1).mono ?_; rintro e z2 ⟨rfl, rfl⟩)
        | (go_at_call 48; refine (C1.out _).mono ?_; rintro e z1 ⟨rfl, hz1⟩; have hb1 : Below (A + 1) w0 z1 := (by first | exact farther HZB.out (Below.refl _ w0) hz1 | exact farther HZB.out ((Below.refl _ w0).drew) hz1); have hS1 := LAY.out _ hb1; have ht1 := HT.out.grown (HB.out.trans (hb1.mono (by rw [HA.out]; omega))); have hr1 := ht1.row; have m1 := Hid.mk trivial))
    have HT2 : Hid (TomeAt z3 t b g R2) := Hid.mk ⟨(hb3.block t ht1.lt (by simpa using ht1.ne)).trans ht1.at_, hr3, by rw [HE3.out, setR_length]; exact HL.out, HS.out⟩
    have HB2 : Hid (But [g] w z3) := Hid.mk ((But.of_below (HB.out.trans (hb1.mono (by rw [HA.out]; omega)))).trans hb3)
    clear hS hS1 hS3 hz1 hb1 ht1 hr1 hr3 hb3 x0 x1
    go_wp2
    go_ret
    refine ⟨by rw [HE2.out]; rfl, ?_, HB2.out⟩
    rw [← HE3.out]
    exact HT2.out
  · have hcb : canB f = false := by
      cases e : canB f with
      | true => exact absurd ((canB_iff f).1 e) hc
      | false => rfl
    have C1 := Hid.mk (fun z => good_no (fun k => hc ((canF_iff f).2 k)) z)
    have HE : okS i f = false := by unfold okS; rw [hcb]; simp
    have HE3 := Hid.mk (show setR R i f v = R by unfold setR; rw [HE]; rfl)
    have HE2 := Hid.mk HE
    clear hc hcb HE hb0 h hn0 hz0
    obtain ⟨x, y⟩ := f
    obtain ⟨A, hA⟩ : ∃ A, A = w.heap.size := ⟨_, rfl⟩
    rw [← hA] at HZB LAY
    go_enter Try.func26, Try.ntmps26
    go_wp2_with fail
    rw [← hw0, ← hA]
    have HA := Hid.mk hA
    clear hw0 hA x0 x1
    have hne := Wider.some (A + 1) w0
    have k0 : ∀ g : Wider (A + 1) w0, g.z.cell? ⟨A, 0, none⟩ = some (.bool x) := fun g => (LAY.out _ g.h).1
    have k1 : ∀ g : Wider (A + 1) w0, g.z.cell? ⟨A, 1, none⟩ = some (.string y) := fun g => (LAY.out _ g.h).2
    refine wp_region_wider (B := A + 1) (w0 := w0) (by kernel_rfl) (by kernel_rfl) (Below.refl _ w0) ?_
    repeat (go_big_quiet_step ((go_at_call 48; refine (C1.out _).mono ?_; rintro e w6 ⟨rfl, hb6⟩; exact ⟨rfl, ⟨w6, by rename_i g; exact farther HZB.out g.h hb6⟩, rfl⟩)))
    refine wpQuiet_nil ?_
    rintro _ ⟨⟨z, hz⟩, rfl⟩
    have HZ := Hid.mk hz
    clear hz k0 k1 hne
    go_wp2
    go_ret
    refine ⟨by rw [HE2.out]; rfl, ?_, ?_⟩
    · rw [HE3.out]
      exact HT.out.grown (HB.out.trans (HZ.out.mono (by rw [HA.out]; omega)))
    · exact But.of_below (HB.out.trans (HZ.out.mono (by rw [HA.out]; omega)))

set_option maxHeartbeats 800000 in
set_option maxRecDepth 100000 in
theorem set_nil (i : Int) (f : Bool × ByteArray) (hc : CanF f) (v : Int) (w : World) :
    Calls Try.prog 26 #[.pointer none, .int .i64 i, .agg #[.bool f.1, .string f.2], .int .i64 v] w fun e w' => e = .returned (.bool false) ∧ Below w.heap.size w w' := by
  obtain ⟨w0, hw0⟩ : ∃ w0, w0 = w.alloc (.cells #[.bool f.1, .string f.2] 23) := ⟨_, rfl⟩
  have hb0 := (Below.refl w.heap.size w).alloc (Nat.le_refl _) (.cells #[.bool f.1, .string f.2] 23)
  have hn0 := heap_new w (.cells #[.bool f.1, .string f.2] 23)
  have hz0 : w0.heap.size = w.heap.size + 1 := by rw [hw0]; simp
  rw [← hw0] at hb0 hn0
  have x0 : w0.cell? ⟨w.heap.size, 0, none⟩ = some (.bool f.1) := cell_at hn0 rfl
  have x1 : w0.cell? ⟨w.heap.size, 1, none⟩ = some (.string f.2) := cell_at hn0 rfl
  have HZB : Hid (w.heap.size + 1 ≤ w0.heap.size) := Hid.mk (by rw [hz0]; exact Nat.le_refl _)
  have LAY : Hid (∀ z, Below (w.heap.size + 1) w0 z → z.cell? ⟨w.heap.size, 0, none⟩ = some (.bool f.1) ∧ z.cell? ⟨w.heap.size, 1, none⟩ = some (.string f.2)) := Hid.mk (fun z hz => ⟨(World.cell?_of_block (hz.block w.heap.size (by omega))).trans x0, (World.cell?_of_block (hz.block w.heap.size (by omega))).trans x1⟩)
  have HB := Hid.mk hb0
  have C1 := Hid.mk (fun z => good_yes ((canF_iff f).1 hc) z)
  clear hc hb0 hn0 hz0 x0 x1
  obtain ⟨x, y⟩ := f
  obtain ⟨A, hA⟩ : ∃ A, A = w.heap.size := ⟨_, rfl⟩
  rw [← hA] at HZB LAY
  go_enter Try.func26, Try.ntmps26
  go_wp2_with fail
  rw [← hw0, ← hA]
  have HA := Hid.mk hA
  clear hw0 hA
  have hne := Wider.some (A + 1) w0
  have k0 : ∀ g : Wider (A + 1) w0, g.z.cell? ⟨A, 0, none⟩ = some (.bool x) := fun g => (LAY.out _ g.h).1
  have k1 : ∀ g : Wider (A + 1) w0, g.z.cell? ⟨A, 1, none⟩ = some (.string y) := fun g => (LAY.out _ g.h).2
  refine wp_region_wider (B := A + 1) (w0 := w0) (by kernel_rfl) (by kernel_rfl) (Below.refl _ w0) ?_
  repeat (go_big_quiet_step ((first
    | (go_at_call 49; refine (F.set_nil i x y v _).mono ?_; rintro e w6 ⟨rfl, hb6⟩; exact ⟨rfl, ⟨w6, by rename_i g; exact farther HZB.out g.h hb6⟩, rfl⟩)
    | (go_at_call 45; refine (row_nil _).mono ?_; rintro e w6 ⟨rfl, hb6⟩; rw [hb6]; exact ⟨rfl, ⟨_, rfl⟩⟩)
    | (go_at_call 48; refine (C1.out _).mono ?_; rintro e w6 ⟨rfl, hb6⟩; exact ⟨rfl, ⟨w6, by rename_i g; exact farther HZB.out g.h hb6⟩, rfl⟩))))
  refine wpQuiet_nil ?_
  rintro _ ⟨⟨z, hz⟩, rfl⟩
  have HZ := Hid.mk hz
  clear hz k0 k1 hne
  go_wp2
  go_ret
  exact ⟨rfl, HB.out.trans (HZ.out.mono (by rw [HA.out]; omega))⟩

end

end Go.Proofs.Ytdngehfebmaegaa.Tom
