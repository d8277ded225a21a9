/-
  The walks of find, Has, Stamp and Len; of a nil set.
-/
import Derived.Test.YtafpfioonbdgnaaNValid
namespace Go.Proofs.Ytafpfioonbdgnaa.Rds
open Go.RowKit Go.Shelf Go.Proofs.Ytafpfioonbdgnaa.Cel Go.Proofs.Ytafpfioonbdgnaa.Rng
attribute [local go_sem] Oper.semAt_some

/-- The thing of that kind and index. -/
def hit (k i : Int) (e : En) : Prop := e.1 = k ∧ e.2.1 = i

theorem findE_none {E : List En} {k i : Int} (h : ∀ j, j < E.length → ¬ hit k i E[j]!) : findE E k i = none := by
  unfold findE
  rw [List.find?_eq_none]
  intro e he
  obtain ⟨j, hj, rfl⟩ := List.mem_iff_getElem.1 he
  have := h j hj
  rw [getElem!_pos E j hj] at this
  simpa [hit] using this

theorem findE_some {E : List En} {k i : Int} (j : Nat) (hj : j < E.length) (hh : hit k i E[j]!) (h : ∀ q, q < j → ¬ hit k i E[q]!) : findE E k i = some E[j]! := by
  unfold findE
  rw [List.find?_eq_some_iff_getElem]
  rw [getElem!_pos E j hj] at hh ⊢
  refine ⟨by simpa [hit] using hh, j, hj, rfl, fun q hq => ?_⟩
  have := h q hq
  rw [getElem!_pos E q (by omega)] at this
  have h2 : (decide (E[q].1 = k) && decide (E[q].2.1 = i)) = false := by
    cases hc : (decide (E[q].1 = k) && decide (E[q].2.1 = i)) with
    | false => rfl
    | true => exact absurd (by simpa [hit] using hc) this
  rw [h2]
  rfl

/-- What find answers. -/
def fndV : Option En → Array Value
  | some e => #[.agg #[.int .i64 e.1, .int .i64 e.2.1, .int .i64 e.2.2], .bool true]
  | none => #[.agg #[.int .i64 0, .int .i64 0, .int .i64 0], .bool false]

/-- What find's own cells hold between two rounds. -/
structure Lf (B : Nat) (k i : Int) (W : World) : Prop where
  k : W.heap[B]? = some (.cells #[.int .i64 k] 45 (0, 0))
  i : W.heap[B + 1]? = some (.cells #[.int .i64 i] 3 (0, 0))
  e : W.heap[B + 1 + 1]? = some (.cells #[.int .i64 0, .int .i64 0, .int .i64 0] 54 (0, 0))
  ok : W.heap[B + 1 + 1 + 1]? = some (.cells #[.bool false] 4 (0, 0))

theorem Lf.kept {B : Nat} {k i : Int} {A W : World} {row : Option Nat} (h : Lf B k i A) (hg : A.grownBy W row) (hr : ∀ r, row = some r → ∃ o : Obj, A.heap[r]? = some o ∧ o.isCells = false) : Lf B k i W :=
  ⟨block_kept h.k hg hr, block_kept h.i hg hr, block_kept h.e hg hr, block_kept h.ok hg hr⟩
theorem Lf.grown {B : Nat} {k i : Int} {A W : World} (h : Lf B k i A) (hb : Below A.heap.size A W) : Lf B k i W := h.kept (grown_of_below hb) (fun _ e => by cases e)

/-- What they hold when it was found. -/
structure Lg (B : Nat) (e : En) (W : World) : Prop where
  e : W.heap[B + 1 + 1]? = some (.cells #[.int .i64 e.1, .int .i64 e.2.1, .int .i64 e.2.2] 54 (0, 0))
  ok : W.heap[B + 1 + 1 + 1]? = some (.cells #[.bool true] 4 (0, 0))

theorem Lg.kept {B : Nat} {e : En} {A W : World} {row : Option Nat} (h : Lg B e A) (hg : A.grownBy W row) (hr : ∀ r, row = some r → ∃ o : Obj, A.heap[r]? = some o ∧ o.isCells = false) : Lg B e W :=
  ⟨block_kept h.e hg hr, block_kept h.ok hg hr⟩

/-- None of those that were handed is it. -/
def missAt (k i : Int) (E : List En) (pre : List (Ix E.length)) : Prop := ∀ x ∈ pre, ¬ hit k i E[x.1]!
/-- The last one that was handed is it, and none ahead of it. -/
def hitAt (k i : Int) (E : List En) (pre : List (Ix E.length)) (e : En) : Prop := ∃ x pr, pre = pr ++ [x] ∧ missAt k i E pr ∧ hit k i E[x.1]! ∧ e = E[x.1]!

set_option maxRecDepth 100000 in
set_option maxHeartbeats 4000000 in
theorem find_any {b : Nat} {v : Value} {st : Int} {E : List En} (k i : Int) (w : World) (h : SetAt w b v st E) (hE : E.length ≤ 1000000) :
    Calls Try.prog 23 #[.pointer (some ⟨b, 0, none⟩), .int .i64 k, .int .i64 i] w fun e w' => e = .returned (.tuple (fndV (findE E k i))) ∧ Below w.heap.size w w' := by
  refine (callsIn_wide (n := 5)).1 ?_
  refine callsIn_of_wp_marks Try.func23 rfl trivial ?_ rfl
  simp only [Try.ntmps23, List.size_toArray, List.length_cons, List.length_nil, Nat.reduceAdd, Nat.reduceSub, Array.replicate_succ, Array.replicate_zero, List.push_toArray, List.append_toArray, List.nil_append, List.cons_append]
  gi_wp2_with fail
  refine ⟨trivial, (all_in _ _ _).mono ?_⟩
  rintro e w1 ⟨rfl, hw1⟩
  obtain ⟨w0, hw0⟩ : ∃ w0, w0 = (((w.alloc (.cells #[.int .i64 k] 45)).alloc (.cells #[.int .i64 i] 3)).alloc (.cells #[.int .i64 0, .int .i64 0, .int .i64 0] 54)).alloc (.cells #[.bool false] 4) := ⟨_, rfl⟩
  have hz0 : w0.heap.size = w.heap.size + 4 := by rw [hw0]; simp
  have hb0 : Below w.heap.size w w0 := by rw [hw0]; exact ((((Below.refl _ w).alloc (Nat.le_refl _) _).alloc (by simp) _).alloc (by simp; omega) _).alloc (by simp; omega) _
  have L0 : Lf w.heap.size k i w0 := by
    rw [hw0]
    refine ⟨?_, ?_, ?_, ?_⟩
    · rw [Below.heap_alloc _ _ _ (by simp; omega), Below.heap_alloc _ _ _ (by simp; omega), Below.heap_alloc _ _ _ (by simp), heap_new]
    · rw [Below.heap_alloc _ _ _ (by simp; try omega), Below.heap_alloc _ _ _ (by simp)]
      have h := heap_new (w.alloc (.cells #[.int .i64 k] 45)) (.cells #[.int .i64 i] 3)
      rw [World.size_alloc] at h
      exact h
    · rw [Below.heap_alloc _ _ _ (by simp)]
      have h := heap_new ((w.alloc (.cells #[.int .i64 k] 45)).alloc (.cells #[.int .i64 i] 3)) (.cells #[.int .i64 0, .int .i64 0, .int .i64 0] 54)
      rw [World.size_alloc, World.size_alloc] at h
      exact h
    · have h := heap_new (((w.alloc (.cells #[.int .i64 k] 45)).alloc (.cells #[.int .i64 i] 3)).alloc (.cells #[.int .i64 0, .int .i64 0, .int .i64 0] 54)) (.cells #[.bool false] 4)
      rw [World.size_alloc, World.size_alloc, World.size_alloc] at h
      exact h
  have hb01 : Below w0.heap.size w0 w1 := by rw [hw1, hw0]; exact (Below.refl _ _).alloc (Nat.le_refl _) _
  have hS1 : SetAt w1 b v st E := (h.grown hb0).grown hb01
  have L1 := L0.grown hb01
  have hb1 : Below w.heap.size w w1 := hb0.trans (hb01.mono (by omega))
  have hc1 : w1.cell? ⟨w.heap.size + 4, 0, none⟩ = some (.pointer (some ⟨b, 0, none⟩)) := by rw [hw1, ← hw0, ← hz0]; exact cell_at (heap_new _ _) rfl
  have hz1 : w1.heap.size = w.heap.size + 5 := by rw [hw1, ← hw0]; simp; omega
  rw [← hw0, hz0]
  have HL1 := Hid.mk L1
  have HS1 := Hid.mk hS1
  have HB1 := Hid.mk hb1
  have HZ1 := Hid.mk hz1
  have HC1 := Hid.mk hc1
  clear hw1 hw0 hb0 L0 hb01 L1 hS1 hb1 hc1 hz1 h hz0 w0
  gi_wp2
  refine range_over2 (gf := 24) (lb := #[.pointer (some ⟨w.heap.size + 4, 0, none⟩)]) rfl (enters_of Try.func24 (by kernel_rfl) rfl)
    (all_gives 4 (by omega) _ b v st E w1 HC1.out HS1.out hE) (Below.refl _ _) (fun _ _ _ h k => h.trans k) (fun W l r r' hl hr => Kp.put W l _ (fun k hk => by have := HS1.out.own_lt k hk; omega)) (fun _ => rfl)
    (fun (pre : List (Ix E.length)) W => missAt k i E pre ∧ Lf w.heap.size k i W ∧ Below w.heap.size w W)
    (fun (pre : List (Ix E.length)) W => (∃ e, hitAt k i E pre e ∧ Lg w.heap.size e W) ∧ Below w.heap.size w W)
    (OwnFrom.and (fun _ _ _ _ h _ _ => h) (OwnFrom.and (Own.from (fun s X Y row hs hg hr => hs.kept hg hr) _) (ownFrom_below (Nat.le_refl _) (by have := HZ1.out; omega))))
    (OwnFrom.and (Own.from (fun s X Y row hs hg hr => by obtain ⟨e, h1, h2⟩ := hs; exact ⟨e, h1, h2.kept hg hr⟩) _) (ownFrom_below (Nat.le_refl _) (by have := HZ1.out; omega)))
    ⟨(fun x hx => by cases hx), HL1.out, HB1.out⟩ ?round ?done ?stop
  case round =>
    rintro l pre x W r hl hr ⟨hp, hL, hBW⟩ hgood
    have hlW : l < W.heap.size := (Array.getElem?_eq_some_iff.1 hr).1
    unfold encE
    obtain ⟨y0, hy0⟩ : ∃ y, y = E[x.1]!.1 := ⟨_, rfl⟩
    obtain ⟨y1, hy1⟩ : ∃ y, y = E[x.1]!.2.1 := ⟨_, rfl⟩
    obtain ⟨y2, hy2⟩ : ∃ y, y = E[x.1]!.2.2 := ⟨_, rfl⟩
    rw [← hy0, ← hy1, ← hy2]
    have HY : Hid (y0 = E[x.1]!.1 ∧ y1 = E[x.1]!.2.1 ∧ y2 = E[x.1]!.2.2) := Hid.mk ⟨hy0, hy1, hy2⟩
    have HP := Hid.mk hp
    have HL := Hid.mk hL
    have HBW := Hid.mk hBW
    have hr1 : (W.alloc (.cells #[.int .i64 y0, .int .i64 y1, .int .i64 y2] 54)).heap[l]? = some (.loop r) := (Below.heap_alloc _ _ _ hlW).trans hr
    have HR := Hid.mk hr1
    clear hy0 hy1 hy2 hgood hp hL hBW hr hr1
    gi_wp2
    refine ⟨others_below ((Below.refl _ _).alloc (Nat.le_refl _) _) _, Kp.of_below (B := W.heap.size) (fun k hk => by have := HS1.out.own_lt k hk; omega) ((Below.refl _ _).alloc (Nat.le_refl _) _), fun r' => ?_⟩
    obtain ⟨M, hM⟩ : ∃ M, M = W.heap.size := ⟨_, rfl⟩
    obtain ⟨Z, hZ⟩ : ∃ Z, Z = (W.alloc (.cells #[.int .i64 y0, .int .i64 y1, .int .i64 y2] 54)).putObj l (.loop r') := ⟨_, rfl⟩
    have hzZ : Z.heap.size = W.heap.size + 1 := by rw [hZ]; simp
    have hg1 : (W.alloc (.cells #[.int .i64 y0, .int .i64 y1, .int .i64 y2] 54)).grownBy Z (some l) := by rw [hZ]; exact grownBy_putObj' _ _ _
    have hrow : ∀ q, some l = some q → ∃ o : Obj, (W.alloc (.cells #[.int .i64 y0, .int .i64 y1, .int .i64 y2] 54)).heap[q]? = some o ∧ o.isCells = false := fun q e => by cases e; exact ⟨_, HR.out, rfl⟩
    have hLZ : Lf w.heap.size k i Z := (HL.out.grown ((Below.refl _ _).alloc (Nat.le_refl _) _)).kept hg1 hrow
    have heZ : Z.heap[M]? = some (.cells #[.int .i64 y0, .int .i64 y1, .int .i64 y2] 54 (0, 0)) := block_kept (by rw [hM]; exact heap_new _ _) hg1 hrow
    have hbZ : Below w.heap.size w Z := by
      have h1 := HBW.out.alloc HBW.out.size (.cells #[.int .i64 y0, .int .i64 y1, .int .i64 y2] 54)
      exact h1.grown hg1 (by have := HBW.out.size; simp; omega) (fun q e => by cases e; have := HZ1.out; omega)
    rw [← hZ, ← hM]
    have HLZ := Hid.mk hLZ
    have HBZ := Hid.mk hbZ
    have k0 : Z.cell? ⟨M, 0, none⟩ = some (.int .i64 y0) := cell_at heZ rfl
    have k1 : Z.cell? ⟨M, 1, none⟩ = some (.int .i64 y1) := cell_at heZ rfl
    have k2 : Z.cell? ⟨M, 2, none⟩ = some (.int .i64 y2) := cell_at heZ rfl
    have b0 : Z.cell? ⟨w.heap.size, 0, none⟩ = some (.int .i64 k) := cell_at hLZ.k rfl
    have b1 : Z.cell? ⟨w.heap.size + 1, 0, none⟩ = some (.int .i64 i) := cell_at hLZ.i rfl
    have r0 : Z.cell? ⟨w.heap.size + 1 + 1, 0, none⟩ = some (.int .i64 0) := cell_at hLZ.e rfl
    have r1 : Z.cell? ⟨w.heap.size + 1 + 1, 1, none⟩ = some (.int .i64 0) := cell_at hLZ.e rfl
    have r2 : Z.cell? ⟨w.heap.size + 1 + 1, 2, none⟩ = some (.int .i64 0) := cell_at hLZ.e rfl
    have r3 : Z.cell? ⟨w.heap.size + 1 + 1 + 1, 0, none⟩ = some (.bool false) := cell_at hLZ.ok rfl
    have f0 : Z.frozen? ⟨w.heap.size + 1 + 1, 0, none⟩ = false := free_at hLZ.e
    have f1 : Z.frozen? ⟨w.heap.size + 1 + 1, 1, none⟩ = false := free_at hLZ.e
    have f2 : Z.frozen? ⟨w.heap.size + 1 + 1, 2, none⟩ = false := free_at hLZ.e
    have f3 : Z.frozen? ⟨w.heap.size + 1 + 1 + 1, 0, none⟩ = false := free_at hLZ.ok
    have HN : Hid (M ≠ w.heap.size + 1 + 1 ∧ M ≠ w.heap.size + 1 + 1 + 1) := Hid.mk ⟨by have := HZ1.out; omega, by have := HZ1.out; omega⟩
    have hn1 : ¬ M = w.heap.size + 1 + 1 := HN.out.1
    have hn2 : ¬ M = w.heap.size + 1 + 1 + 1 := HN.out.2
    clear hZ hM hzZ hg1 hrow hLZ heZ hbZ HL HBW HR
    by_cases q0 : y0 = k
    · have e0 : (y0 == k) = true := by simp [q0]
      by_cases q1 : y1 = i
      · have e1 : (y1 == i) = true := by simp [q1]
        have HQ : Hid (y0 = k ∧ y1 = i) := Hid.mk ⟨q0, q1⟩
        clear q0 q1
        gi_wp2
        refine ⟨(((others_set _ _ _ _).trans (others_set _ _ _ _)).trans (others_set _ _ _ _)).trans (others_set _ _ _ _), rfl, ⟨(y0, y1, y2), ⟨x, pre, rfl, HP.out, ?_, ?_⟩, ⟨?_, ?_⟩⟩, ?_⟩
        · obtain ⟨p0, p1, p2⟩ := HY.out
          exact ⟨p0.symm.trans HQ.out.1, p1.symm.trans HQ.out.2⟩
        · obtain ⟨p0, p1, p2⟩ := HY.out
          rw [p0, p1, p2]
        · rw [Below.heap_setCell _ _ _ _ (by show w.heap.size + 1 + 1 ≠ w.heap.size + 1 + 1 + 1; omega), heap_set _ (heap_set _ (heap_set _ HLZ.out.e))]
          simp
        · have s0 : ∀ (X : World) (j : Nat) (u : Value), (X.setCell ⟨w.heap.size + 1 + 1, j, none⟩ u).heap[w.heap.size + 1 + 1 + 1]? = X.heap[w.heap.size + 1 + 1 + 1]? := fun X j u => Below.heap_setCell _ _ _ _ (by show w.heap.size + 1 + 1 + 1 ≠ w.heap.size + 1 + 1; omega)
          rw [heap_set _ ((s0 _ _ _).trans ((s0 _ _ _).trans ((s0 _ _ _).trans HLZ.out.ok)))]
          simp
        · exact (((HBZ.out.setCell (p := ⟨w.heap.size + 1 + 1, 0, none⟩) (by show _ ≤ w.heap.size + 1 + 1; omega) _).setCell (p := ⟨w.heap.size + 1 + 1, 1, none⟩) (by show _ ≤ w.heap.size + 1 + 1; omega) _).setCell (p := ⟨w.heap.size + 1 + 1, 2, none⟩) (by show _ ≤ w.heap.size + 1 + 1; omega) _).setCell (p := ⟨w.heap.size + 1 + 1 + 1, 0, none⟩) (by show _ ≤ w.heap.size + 1 + 1 + 1; omega) _
      · have e1 : (y1 == i) = false := by simp [q1]
        have HQ := Hid.mk q1
        clear q0 q1
        gi_wp2
        refine ⟨KeepsFrom.refl _ _, Kp.refl _ _, ?_, HLZ.out, HBZ.out⟩
        intro q hq
        rcases List.mem_append.1 hq with hq | hq
        · exact HP.out q hq
        · simp at hq
          subst hq
          exact fun hh => HQ.out (HY.out.2.1.trans hh.2)
    · have e0 : (y0 == k) = false := by simp [q0]
      have HQ := Hid.mk q0
      clear q0
      gi_wp2
      refine ⟨KeepsFrom.refl _ _, Kp.refl _ _, ?_, HLZ.out, HBZ.out⟩
      intro q hq
      rcases List.mem_append.1 hq with hq | hq
      · exact HP.out q hq
      · simp at hq
        subst hq
        exact fun hh => HQ.out (HY.out.1.trans hh.1)
  case done =>
    rintro D ys W hD hys ⟨hok, hL, hBW⟩ hK
    have hv : findE E k i = none := findE_none (all_of_range hys (p := fun j => ¬ hit k i E[j]!) hok)
    have HV := Hid.mk hv
    have r0 : W.cell? ⟨w.heap.size + 1 + 1, 0, none⟩ = some (.int .i64 0) := cell_at hL.e rfl
    have r1 : W.cell? ⟨w.heap.size + 1 + 1, 1, none⟩ = some (.int .i64 0) := cell_at hL.e rfl
    have r2 : W.cell? ⟨w.heap.size + 1 + 1, 2, none⟩ = some (.int .i64 0) := cell_at hL.e rfl
    have r3 : W.cell? ⟨w.heap.size + 1 + 1 + 1, 0, none⟩ = some (.bool false) := cell_at hL.ok rfl
    have f0 : W.frozen? ⟨w.heap.size + 1 + 1, 0, none⟩ = false := free_at hL.e
    have f1 : W.frozen? ⟨w.heap.size + 1 + 1, 1, none⟩ = false := free_at hL.e
    have f2 : W.frozen? ⟨w.heap.size + 1 + 1, 2, none⟩ = false := free_at hL.e
    have f3 : W.frozen? ⟨w.heap.size + 1 + 1 + 1, 0, none⟩ = false := free_at hL.ok
    have HL := Hid.mk hL
    have HBW := Hid.mk hBW
    have HK := Hid.mk hK
    clear hv hok hys hL hBW hK
    gi_wp2
    obtain ⟨X, hX⟩ : ∃ X, X = (((W.setCell ⟨w.heap.size + 1 + 1, 0, none⟩ (.int .i64 0)).setCell ⟨w.heap.size + 1 + 1, 1, none⟩ (.int .i64 0)).setCell ⟨w.heap.size + 1 + 1, 2, none⟩ (.int .i64 0)).setCell ⟨w.heap.size + 1 + 1 + 1, 0, none⟩ (.bool false) := ⟨_, rfl⟩
    have hko : KeepsOthers W X := by rw [hX]; exact (((KeepsOthers.setCell _ _ _).trans (KeepsOthers.setCell _ _ _)).trans (KeepsOthers.setCell _ _ _)).trans (KeepsOthers.setCell _ _ _)
    have hbX : Below w.heap.size w X := by
      rw [hX]
      exact (((HBW.out.setCell (p := ⟨w.heap.size + 1 + 1, 0, none⟩) (by show _ ≤ w.heap.size + 1 + 1; omega) _).setCell (p := ⟨w.heap.size + 1 + 1, 1, none⟩) (by show _ ≤ w.heap.size + 1 + 1; omega) _).setCell (p := ⟨w.heap.size + 1 + 1, 2, none⟩) (by show _ ≤ w.heap.size + 1 + 1; omega) _).setCell (p := ⟨w.heap.size + 1 + 1 + 1, 0, none⟩) (by show _ ≤ w.heap.size + 1 + 1 + 1; omega) _
    have x0 : X.heap[w.heap.size + 1 + 1]? = some (.cells #[.int .i64 0, .int .i64 0, .int .i64 0] 54 (0, 0)) := by
      rw [hX, Below.heap_setCell _ _ _ _ (by show w.heap.size + 1 + 1 ≠ w.heap.size + 1 + 1 + 1; omega), heap_set _ (heap_set _ (heap_set _ HL.out.e))]
      simp
    have x1 : X.heap[w.heap.size + 1 + 1 + 1]? = some (.cells #[.bool false] 4 (0, 0)) := by
      have s0 : ∀ (X : World) (j : Nat) (u : Value), (X.setCell ⟨w.heap.size + 1 + 1, j, none⟩ u).heap[w.heap.size + 1 + 1 + 1]? = X.heap[w.heap.size + 1 + 1 + 1]? := fun X j u => Below.heap_setCell _ _ _ _ (by show w.heap.size + 1 + 1 + 1 ≠ w.heap.size + 1 + 1; omega)
      rw [hX, heap_set _ ((s0 _ _ _).trans ((s0 _ _ _).trans ((s0 _ _ _).trans HL.out.ok)))]
      simp
    rw [← hX]
    clear hX
    have hK' := hko.same D _ HK.out rfl
    have hr : ∀ r, some D = some r → ∃ o : Obj, X.heap[r]? = some o ∧ o.isCells = false := fun r e => by cases e; exact ⟨_, hK', rfl⟩
    refine ⟨by simp, .inl ⟨_, _, rfl, run_takeDeferred hK', ?_⟩⟩
    have e0 := block_kept x0 (grownBy_putObj' X D (.deferred none)) hr
    have e1 := block_kept x1 (grownBy_putObj' X D (.deferred none)) hr
    have p0 := cell_at (i := 0) e0 rfl
    have p1 := cell_at (i := 1) e0 rfl
    have p2 := cell_at (i := 2) e0 rfl
    have p3 := cell_at (i := 0) e1 rfl
    refine ⟨.tuple (fndV none), ?_, by rw [HV.out], hbX.trans (belowK_b (w := w) (Nat.le_refl _) _ D _ _ (by have := HZ1.out; omega) hK' rfl rfl)⟩
    simp [results, Try.f23, go_sem, p0, p1, p2, p3, fndV]
  case stop =>
    rintro D pre W hD ⟨q, hk, hpre⟩ ⟨⟨e, ⟨x, pr, rfl, hmiss, hhit, he⟩, hL⟩, hBW⟩ hK
    obtain ⟨rfl, hx, hpr⟩ := map_val_snoc hpre
    have hv : findE E k i = some E[x.1]! := findE_some x.1 x.2 hhit (by rw [hx]; exact all_of_range hpr (p := fun j => ¬ hit k i E[j]!) hmiss)
    have HV := Hid.mk hv
    have HE := Hid.mk he
    have HL := Hid.mk hL
    have HBW := Hid.mk hBW
    have HK := Hid.mk hK
    clear hv hmiss hhit he hpre hx hpr hL hBW hK
    gi_wp2
    have hr : ∀ r, some D = some r → ∃ o : Obj, W.heap[r]? = some o ∧ o.isCells = false := fun r e => by cases e; exact ⟨_, HK.out, rfl⟩
    refine ⟨by simp, .inl ⟨_, _, rfl, run_takeDeferred HK.out, ?_⟩⟩
    have e0 := block_kept HL.out.e (grownBy_putObj' W D (.deferred none)) hr
    have e1 := block_kept HL.out.ok (grownBy_putObj' W D (.deferred none)) hr
    have p0 := cell_at (i := 0) e0 rfl
    have p1 := cell_at (i := 1) e0 rfl
    have p2 := cell_at (i := 2) e0 rfl
    have p3 := cell_at (i := 0) e1 rfl
    refine ⟨.tuple (fndV (some e)), ?_, by rw [HV.out, HE.out], HBW.out.trans (belowK_b (w := w) (Nat.le_refl _) _ D _ _ (by have := HZ1.out; omega) HK.out rfl rfl)⟩
    simp [results, Try.f23, go_sem, p0, p1, p2, p3, fndV]

end Go.Proofs.Ytafpfioonbdgnaa.Rds
