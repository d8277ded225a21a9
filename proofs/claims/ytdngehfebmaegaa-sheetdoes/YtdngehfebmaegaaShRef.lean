/-
  The document's sheet in memory, and the walks of its calls.
-/
import Derived.Test.YtdngehfebmaegaaShOps
namespace Go.Proofs.Ytdngehfebmaegaa.Sht
open Go.RowKit Go.Proofs.Ytdngehfebmaegaa.Cel Go.Proofs.Ytdngehfebmaegaa.Dft Go.Proofs.Ytdngehfebmaegaa.Dft.F
open Tom (CanF TomeAt)

/-- The document's sheet as cells: the tome's files, those over them, which were written. -/
def mdA (ba fa : Nat → Fl) (wr : Nat → Bool) : Array Value := #[
  .bool (ba 0).1, .string (ba 0).2, .bool (ba 1).1, .string (ba 1).2, .bool (ba 2).1, .string (ba 2).2, .bool (ba 3).1, .string (ba 3).2, .bool (ba 4).1, .string (ba 4).2, .bool (ba 5).1, .string (ba 5).2,
  .bool (fa 0).1, .string (fa 0).2, .bool (fa 1).1, .string (fa 1).2, .bool (fa 2).1, .string (fa 2).2, .bool (fa 3).1, .string (fa 3).2, .bool (fa 4).1, .string (fa 4).2, .bool (fa 5).1, .string (fa 5).2,
  .bool (wr 0), .bool (wr 1), .bool (wr 2), .bool (wr 3), .bool (wr 4), .bool (wr 5)]

theorem below6 {j : Nat} (h : j < 6) : j = 0 ∨ j = 1 ∨ j = 2 ∨ j = 3 ∨ j = 4 ∨ j = 5 := by omega

/-- One place another. -/
def upd {α : Type} (f : Nat → α) (j : Nat) (x : α) : Nat → α := fun k => if k = j then x else f k

section
variable (ba fa : Nat → Fl) (wr : Nat → Bool)

theorem mdA_base (j : Nat) (h : j < 6) : (mdA ba fa wr)[j * 2]? = some (.bool (ba j).1) ∧ (mdA ba fa wr)[j * 2 + 1]? = some (.string (ba j).2) := by
  rcases below6 h with rfl | rfl | rfl | rfl | rfl | rfl <;> exact ⟨rfl, rfl⟩
theorem mdA_file (j : Nat) (h : j < 6) : (mdA ba fa wr)[12 + j * 2]? = some (.bool (fa j).1) ∧ (mdA ba fa wr)[12 + j * 2 + 1]? = some (.string (fa j).2) := by
  rcases below6 h with rfl | rfl | rfl | rfl | rfl | rfl <;> exact ⟨rfl, rfl⟩
theorem mdA_wr (j : Nat) (h : j < 6) : (mdA ba fa wr)[24 + j]? = some (.bool (wr j)) := by
  rcases below6 h with rfl | rfl | rfl | rfl | rfl | rfl <;> rfl
theorem mdA_size : (mdA ba fa wr).size = 30 := rfl
theorem mdA_set (j : Nat) (h : j < 6) (x : Fl) : ((mdA ba fa wr).setIfInBounds (12 + j * 2) (.bool x.1)).setIfInBounds (12 + j * 2 + 1) (.string x.2) = mdA ba (upd fa j x) wr := by
  rcases below6 h with rfl | rfl | rfl | rfl | rfl | rfl <;> rfl
theorem mdA_setB (j : Nat) (h : j < 6) (x : Fl) : ((mdA ba fa wr).setIfInBounds (j * 2) (.bool x.1)).setIfInBounds (j * 2 + 1) (.string x.2) = mdA (upd ba j x) fa wr := by
  rcases below6 h with rfl | rfl | rfl | rfl | rfl | rfl <;> rfl
theorem mdA_setW (j : Nat) (h : j < 6) (x : Bool) : (mdA ba fa wr).setIfInBounds (24 + j) (.bool x) = mdA ba fa (upd wr j x) := by
  rcases below6 h with rfl | rfl | rfl | rfl | rfl | rfl <;> rfl

end

/-- The document's sheet in block m. -/
def MD (w : World) (m : Nat) (ba fa : Nat → Fl) (wr : Nat → Bool) : Prop := w.heap[m]? = some (.cells (mdA ba fa wr) 42 (0, 0))

section
variable {w w' : World} {m : Nat} {ba fa : Nat → Fl} {wr : Nat → Bool}

theorem MD.lt (h : MD w m ba fa wr) : m < w.heap.size := (Array.getElem?_eq_some_iff.1 (show w.heap[m]? = _ from h)).1
theorem MD.grown (h : MD w m ba fa wr) (hb : Below w.heap.size w w') : MD w' m ba fa wr := (hb.block m h.lt).trans h
theorem MD.files (h : MD w m ba fa wr) (j : Nat) (hj : j < 6) : w.cell? ⟨m, 12 + j * 2, none⟩ = some (.bool (fa j).1) ∧ w.cell? ⟨m, 12 + j * 2 + 1, none⟩ = some (.string (fa j).2) :=
  ⟨cell_at h (mdA_file ba fa wr j hj).1, cell_at h (mdA_file ba fa wr j hj).2⟩
theorem MD.was (h : MD w m ba fa wr) (j : Nat) (hj : j < 6) : w.cell? ⟨m, j * 2, none⟩ = some (.bool (ba j).1) ∧ w.cell? ⟨m, j * 2 + 1, none⟩ = some (.string (ba j).2) :=
  ⟨cell_at h (mdA_base ba fa wr j hj).1, cell_at h (mdA_base ba fa wr j hj).2⟩
theorem MD.wrote (h : MD w m ba fa wr) (j : Nat) (hj : j < 6) : w.cell? ⟨m, 24 + j, none⟩ = some (.bool (wr j)) := cell_at h (mdA_wr ba fa wr j hj)
theorem MD.fz (h : MD w m ba fa wr) (i : Nat) : w.frozen? ⟨m, i, none⟩ = false := free_at h
theorem MD.set (h : MD w m ba fa wr) (j : Nat) (hj : j < 6) (x : Fl) : MD ((w.setCell ⟨m, 12 + j * 2, none⟩ (.bool x.1)).setCell ⟨m, 12 + j * 2 + 1, none⟩ (.string x.2)) m ba (upd fa j x) wr := by
  unfold MD
  rw [heap_set _ (heap_set _ h), mdA_set ba fa wr j hj x]
theorem MD.setB (h : MD w m ba fa wr) (j : Nat) (hj : j < 6) (x : Fl) : MD ((w.setCell ⟨m, j * 2, none⟩ (.bool x.1)).setCell ⟨m, j * 2 + 1, none⟩ (.string x.2)) m (upd ba j x) fa wr := by
  unfold MD
  rw [heap_set _ (heap_set _ h), mdA_setB ba fa wr j hj x]
theorem MD.setW (h : MD w m ba fa wr) (j : Nat) (hj : j < 6) (x : Bool) : MD (w.setCell ⟨m, 24 + j, none⟩ (.bool x)) m ba fa (upd wr j x) := by
  unfold MD
  rw [heap_set _ h, mdA_setW ba fa wr j hj x]

set_option maxHeartbeats 400000 in
set_option maxRecDepth 100000 in
theorem isRef_any (i : Int) (w : World) : Calls Try.prog 14 #[.int .i64 i] w fun e w' => e = .returned (.bool (decide (Is i))) ∧ w' = w := by
  by_cases h0 : 0 ≤ i
  · by_cases h1 : i < 6
    · have e : decide (0 ≤ i ∧ i < 6) = true := decide_eq_true ⟨h0, h1⟩
      have h2 : i ≤ 5 := by omega
      rw [e]
      clear e
      go_enter Try.func14, Try.ntmps14
      go_wp2
      go_ret
      exact ⟨rfl, rfl⟩
    · have e : decide (0 ≤ i ∧ i < 6) = false := decide_eq_false (fun k => h1 k.2)
      have h2 : ¬ i ≤ 5 := by omega
      rw [e]
      clear e
      go_enter Try.func14, Try.ntmps14
      go_wp2
      go_ret
      exact ⟨rfl, rfl⟩
  · have e : decide (0 ≤ i ∧ i < 6) = false := decide_eq_false (fun k => h0 k.1)
    rw [e]
    clear e
    go_enter Try.func14, Try.ntmps14
    go_wp2
    go_ret
    exact ⟨rfl, rfl⟩

set_option maxRecDepth 100000 in
theorem eq_rf (f g : Fl) (w : World) : (Op.equalIn 10000 36 (.agg #[.bool f.1, .string f.2]) (.agg #[.bool g.1, .string g.2])).run Try.prog w = .ok (decide (f = g)) w := by
  obtain ⟨a, s⟩ := f
  obtain ⟨b, t⟩ := g
  by_cases ha : a = b
  · subst ha
    by_cases hs : s = t
    · subst hs
      rw [decide_eq_true rfl]
      simp [go_sem]
    · have hd : ¬ (a, s) = (a, t) := fun h => hs (congrArg Prod.snd h)
      have hl : ¬ s.toList = t.toList := fun h => by
        rw [Fil.toList_txt, Fil.toList_txt] at h
        exact hs (Tom.bytes_eq h)
      rw [decide_eq_false hd]
      simp [go_sem, hl]
  · have hd : ¬ (a, s) = (b, t) := fun h => ha (congrArg Prod.fst h)
    rw [decide_eq_false hd]
    simp [go_sem, ha]

theorem But.box {l : List Nat} (h : But l w w') {A : Nat} {o : Obj} (hA : w.heap[A]? = some o) (hn : A ∉ l) : w'.heap[A]? = some o := (h.block A (Array.getElem?_eq_some_iff.1 hA).1 hn).trans hA

set_option maxHeartbeats 1600000 in
set_option maxRecDepth 100000 in
theorem refPut_any (h : MD w m ba fa wr) (j : Nat) (hj : j < 6) (f : Fl) :
    Calls Try.prog 54 #[.pointer (some ⟨m, 0, none⟩), .int .i64 (j : Nat), .agg #[.bool f.1, .string f.2]] w fun e w' =>
      e = .returned (.tuple #[]) ∧ MD w' m ba (if fa j = f then fa else upd fa j f) (if fa j = f then wr else upd wr j true) ∧ But [m] w w' := by
  obtain ⟨w0, hw0⟩ : ∃ z, z = w.alloc (.cells #[.bool f.1, .string f.2] 36) := ⟨_, rfl⟩
  have hb0 := (Below.refl w.heap.size w).alloc (Nat.le_refl _) (.cells #[.bool f.1, .string f.2] 36)
  have hn0 := heap_new w (.cells #[.bool f.1, .string f.2] 36)
  rw [← hw0] at hb0 hn0
  have h0 := h.grown hb0
  have HM := Hid.mk h0
  have HB := Hid.mk hb0
  have d0 : w0.cell? ⟨w.heap.size, 0, none⟩ = some (.bool f.1) := cell_at hn0 rfl
  have d1 : w0.cell? ⟨w.heap.size, 1, none⟩ = some (.string f.2) := cell_at hn0 rfl
  obtain ⟨c0, c1⟩ := h0.files j hj
  have f0 := h0.fz (12 + j * 2)
  have f1 := h0.fz (12 + j * 2 + 1)
  have heq := eq_rf (fa j) f
  obtain ⟨⟨p, x⟩, hp⟩ : ∃ p, p = fa j := ⟨_, rfl⟩
  rw [← hp] at c0 c1 heq ⊢
  obtain ⟨q, y⟩ := f
  dsimp only at *
  have HJ := Hid.mk hj
  clear h h0 hb0 hn0 hp
  go_enter Try.func54, Try.ntmps54
  go_wp2_with fail
  rw [← hw0]
  obtain ⟨A, hA⟩ : ∃ A, A = w.heap.size := ⟨_, rfl⟩
  have HA := Hid.mk hA
  rw [← hA] at d0 d1 ⊢
  clear hw0 hA
  by_cases hpq : (p, x) = (q, y)
  · have HQ := Hid.mk hpq
    rw [decide_eq_true hpq] at heq
    clear hpq
    go_quiet (fail)
    go_wp2
    refine bodyPost_end (results_none rfl _ _ _) rfl ?_
    have hbz : Below w.heap.size w (w0.drewN nq) := ⟨HB.out.os, HB.out.tape, HB.out.output, by rw [heap_drewN]; exact HB.out.size, fun k hk => by rw [heap_drewN]; exact HB.out.block k hk⟩
    exact ⟨rfl, by unfold MD; rw [heap_drewN]; exact HM.out, But.of_below hbz⟩
  · have HQ := Hid.mk hpq
    rw [decide_eq_false hpq] at heq
    clear hpq
    have hbz : ∀ n, Below w.heap.size w (w0.drewN n) := fun n => ⟨HB.out.os, HB.out.tape, HB.out.output, by rw [heap_drewN]; exact HB.out.size, fun k hk => by rw [heap_drewN]; exact HB.out.block k hk⟩
    have HBZ := Hid.mk hbz
    clear hbz
    go_quiet (fail)
    have hm : MD (w0.drewN nq) m ba fa wr := by unfold MD; rw [heap_drewN]; exact HM.out
    have k0 : (w0.drewN nq).cell? ⟨A, 0, none⟩ = some (.bool q) := (World.cell?_of_block (by rw [heap_drewN])).trans d0
    have k1 : (w0.drewN nq).cell? ⟨A, 1, none⟩ = some (.string y) := (World.cell?_of_block (by rw [heap_drewN])).trans d1
    have HBZ1 := Hid.mk (HBZ.out nq)
    obtain ⟨z, hz⟩ : ∃ z, z = w0.drewN nq := ⟨_, rfl⟩
    rw [← hz] at hm k0 k1 HBZ1 ⊢
    obtain ⟨c2, c3⟩ := hm.files j HJ.out
    have f2 := hm.fz (12 + j * 2)
    have f3 := hm.fz (12 + j * 2 + 1)
    have HMZ := Hid.mk hm
    clear hz hm d0 d1 c0 c1 f0 f1 heq
    go_wp2_with fail
    go_big_region
    all_goals
      have h1 := HMZ.out.set j HJ.out (q, y)
      have HB1 : Hid (But [m] w ((z.setCell ⟨m, 12 + j * 2, none⟩ (.bool q)).setCell ⟨m, 12 + j * 2 + 1, none⟩ (.string y)).drew) := Hid.mk ((((But.of_below HBZ1.out).set (.inl (by simp)) (12 + j * 2) (.bool q)).set (.inl (by simp)) (12 + j * 2 + 1) (.string y)).trans (.of_below (Below.refl _ _).drew))
      have h2 : MD ((z.setCell ⟨m, 12 + j * 2, none⟩ (.bool q)).setCell ⟨m, 12 + j * 2 + 1, none⟩ (.string y)).drew m ba (upd fa j (q, y)) wr := h1
      obtain ⟨z2, hz2⟩ : ∃ z2, z2 = ((z.setCell ⟨m, 12 + j * 2, none⟩ (.bool q)).setCell ⟨m, 12 + j * 2 + 1, none⟩ (.string y)).drew := ⟨_, rfl⟩
      rw [← hz2] at h2 HB1 ⊢
      have HM2 := Hid.mk h2
      have c4 := h2.wrote j HJ.out
      have f4 := h2.fz (24 + j)
      clear h1 h2 hz2 c2 c3 f2 f3 k0 k1
      go_wp2
      refine bodyPost_end (results_none rfl _ _ _) rfl ?_
      exact ⟨rfl, HM2.out.setW j HJ.out true, HB1.out.set (.inl (by simp)) _ _⟩

set_option maxRecDepth 100000 in
theorem refPut_val {f : Fl} (h : CanF f) (k : Int) (x : UInt8) (z : World) : Calls Try.prog 55 #[.agg #[.bool f.1, .string f.2], .int .i64 k, .int .u8 x.toNat] z fun e z' => e = .returned (.agg #[.bool (putV f k x).1, .string (putV f k x).2]) ∧ Below z.heap.size z z' := by
  unfold putV
  split
  · rename_i hk
    obtain ⟨j, rfl⟩ : ∃ j : Nat, k = (j : Int) := ⟨k.toNat, by omega⟩
    rw [Int.toNat_natCast]
    exact Fil.refPut_yes f.1 (Tom.canF_le h) j (by omega) x z
  · rename_i hk
    exact Fil.refPut_out f.1 f.2 k (by omega) x z

set_option maxRecDepth 100000 in
theorem refCut_val {f : Fl} (h : CanF f) (n : Int) (z : World) : Calls Try.prog 56 #[.agg #[.bool f.1, .string f.2], .int .i64 n] z fun e z' => e = .returned (.agg #[.bool (cutV f n).1, .string (cutV f n).2]) ∧ Below z.heap.size z z' :=
  Fil.refCut_any ((Tom.canF_iff f).1 h) n z

set_option maxHeartbeats 1600000 in
set_option maxRecDepth 100000 in
theorem refWrite_any (h : MD w m ba fa wr) (hc : ∀ j, CanF (fa j)) (i : Int) (k : Int) (c : UInt8) :
    Calls Try.prog 31 #[.pointer (some ⟨m, 0, none⟩), .int .i64 i, .int .i64 k, .int .u8 c.toNat] w fun e w' =>
      e = .returned (.bool (decide (Is i))) ∧ MD w' m ba (if Is i ∧ fa i.toNat ≠ putV (fa i.toNat) k c then upd fa i.toNat (putV (fa i.toNat) k c) else fa) (if Is i ∧ fa i.toNat ≠ putV (fa i.toNat) k c then upd wr i.toNat true else wr) ∧ But [m] w w' := by
  by_cases hi : Is i
  · obtain ⟨j, rfl⟩ : ∃ j : Nat, i = (j : Int) := ⟨i.toNat, by omega⟩
    have hj : j < 6 := by omega
    have HI := Hid.mk (isRef_any (j : Int))
    rw [decide_eq_true hi] at HI ⊢
    simp only [Int.toNat_natCast]
    obtain ⟨c0, c1⟩ := h.files j hj
    have HC := Hid.mk (hc j)
    obtain ⟨⟨q, y⟩, hq⟩ : ∃ q, q = putV (fa j) k c := ⟨_, rfl⟩
    rw [← hq]
    have HQ := Hid.mk hq
    obtain ⟨⟨p, x⟩, hp⟩ : ∃ p, p = fa j := ⟨_, rfl⟩
    have HP := Hid.mk hp
    rw [← hp] at c0 c1 HC HQ
    have HV := Hid.mk (fun z => refPut_val HC.out k c z)
    rw [← HQ.out] at HV
    dsimp only at HV
    have HPUT := Hid.mk (fun (z : World) (hz : MD z m ba fa wr) => refPut_any hz j hj (q, y))
    rw [← hp] at HPUT
    have HFIN : Hid ((if (p, x) = (q, y) then fa else upd fa j (q, y)) = (if Is (j : Int) ∧ fa j ≠ (q, y) then upd fa j (q, y) else fa) ∧ (if (p, x) = (q, y) then wr else upd wr j true) = (if Is (j : Int) ∧ fa j ≠ (q, y) then upd wr j true else wr)) := Hid.mk (by
      rw [← hp]
      by_cases e : (p, x) = (q, y)
      · rw [if_pos e, if_pos e, if_neg (fun k => k.2 e), if_neg (fun k => k.2 e)]; exact ⟨rfl, rfl⟩
      · rw [if_neg e, if_neg e, if_pos ⟨hi, e⟩, if_pos ⟨hi, e⟩]; exact ⟨rfl, rfl⟩)
    rw [HFIN.out.1, HFIN.out.2] at HPUT
    obtain ⟨fa2, hfa2⟩ : ∃ z, z = (if Is (j : Int) ∧ fa j ≠ (q, y) then upd fa j (q, y) else fa) := ⟨_, rfl⟩
    obtain ⟨wr2, hwr2⟩ : ∃ z, z = (if Is (j : Int) ∧ fa j ≠ (q, y) then upd wr j true else wr) := ⟨_, rfl⟩
    rw [← hfa2, ← hwr2] at HPUT ⊢
    have HM := Hid.mk h
    dsimp only at HPUT
    clear h hc hi hq hp hfa2 hwr2 HFIN
    go_enter Try.func31, Try.ntmps31
    go_wp2_with fail
    refine (HI.out _).mono ?_
    rintro e w1 ⟨rfl, hw1⟩
    rw [hw1]
    clear hw1 w1
    go_wp2_with fail
    refine (HV.out _).mono ?_
    rintro e w1 ⟨rfl, hb1⟩
    have HM1 := Hid.mk (HM.out.grown hb1)
    have HB1 := Hid.mk (But.of_below (l := [m]) hb1)
    clear hb1 HV
    go_wp2_with fail
    refine (HPUT.out _ HM1.out).mono ?_
    rintro e w2 ⟨rfl, hm2, hb2⟩
    have HM2 := Hid.mk hm2
    have HB2 := Hid.mk (HB1.out.trans hb2)
    clear hm2 hb2
    go_wp2_with fail
    refine (HI.out _).mono ?_
    rintro e w3 ⟨rfl, hw3⟩
    rw [hw3]
    clear hw3 w3
    go_wp2
    go_ret
    exact ⟨rfl, HM2.out, HB2.out⟩
  · have HI := Hid.mk (isRef_any i)
    rw [decide_eq_false hi] at HI ⊢
    rw [if_neg (fun k => hi k.1), if_neg (fun k => hi k.1)]
    have HM := Hid.mk h
    clear h hc hi
    go_enter Try.func31, Try.ntmps31
    go_wp2_with fail
    refine (HI.out _).mono ?_
    rintro e w1 ⟨rfl, hw1⟩
    rw [hw1]
    clear hw1 w1
    go_wp2_with fail
    refine (HI.out _).mono ?_
    rintro e w3 ⟨rfl, hw3⟩
    rw [hw3]
    clear hw3 w3
    go_wp2
    go_ret
    exact ⟨rfl, HM.out, But.refl _ _⟩

set_option maxHeartbeats 1600000 in
set_option maxRecDepth 100000 in
theorem refCut_any (h : MD w m ba fa wr) (hc : ∀ j, CanF (fa j)) (i : Int) (n : Int) :
    Calls Try.prog 32 #[.pointer (some ⟨m, 0, none⟩), .int .i64 i, .int .i64 n] w fun e w' =>
      e = .returned (.bool (decide (Is i))) ∧ MD w' m ba (if Is i ∧ fa i.toNat ≠ cutV (fa i.toNat) n then upd fa i.toNat (cutV (fa i.toNat) n) else fa) (if Is i ∧ fa i.toNat ≠ cutV (fa i.toNat) n then upd wr i.toNat true else wr) ∧ But [m] w w' := by
  by_cases hi : Is i
  · obtain ⟨j, rfl⟩ : ∃ j : Nat, i = (j : Int) := ⟨i.toNat, by omega⟩
    have hj : j < 6 := by omega
    have HI := Hid.mk (isRef_any (j : Int))
    rw [decide_eq_true hi] at HI ⊢
    simp only [Int.toNat_natCast]
    obtain ⟨c0, c1⟩ := h.files j hj
    have HC := Hid.mk (hc j)
    obtain ⟨⟨q, y⟩, hq⟩ : ∃ q, q = cutV (fa j) n := ⟨_, rfl⟩
    rw [← hq]
    have HQ := Hid.mk hq
    obtain ⟨⟨p, x⟩, hp⟩ : ∃ p, p = fa j := ⟨_, rfl⟩
    have HP := Hid.mk hp
    rw [← hp] at c0 c1 HC HQ
    have HV := Hid.mk (fun z => refCut_val HC.out n z)
    rw [← HQ.out] at HV
    dsimp only at HV
    have HPUT := Hid.mk (fun (z : World) (hz : MD z m ba fa wr) => refPut_any hz j hj (q, y))
    rw [← hp] at HPUT
    have HFIN : Hid ((if (p, x) = (q, y) then fa else upd fa j (q, y)) = (if Is (j : Int) ∧ fa j ≠ (q, y) then upd fa j (q, y) else fa) ∧ (if (p, x) = (q, y) then wr else upd wr j true) = (if Is (j : Int) ∧ fa j ≠ (q, y) then upd wr j true else wr)) := Hid.mk (by
      rw [← hp]
      by_cases e : (p, x) = (q, y)
      · rw [if_pos e, if_pos e, if_neg (fun k => k.2 e), if_neg (fun k => k.2 e)]; exact ⟨rfl, rfl⟩
      · rw [if_neg e, if_neg e, if_pos ⟨hi, e⟩, if_pos ⟨hi, e⟩]; exact ⟨rfl, rfl⟩)
    rw [HFIN.out.1, HFIN.out.2] at HPUT
    obtain ⟨fa2, hfa2⟩ : ∃ z, z = (if Is (j : Int) ∧ fa j ≠ (q, y) then upd fa j (q, y) else fa) := ⟨_, rfl⟩
    obtain ⟨wr2, hwr2⟩ : ∃ z, z = (if Is (j : Int) ∧ fa j ≠ (q, y) then upd wr j true else wr) := ⟨_, rfl⟩
    rw [← hfa2, ← hwr2] at HPUT ⊢
    have HM := Hid.mk h
    dsimp only at HPUT
    clear h hc hi hq hp hfa2 hwr2 HFIN
    go_enter Try.func32, Try.ntmps32
    go_wp2_with fail
    refine (HI.out _).mono ?_
    rintro e w1 ⟨rfl, hw1⟩
    rw [hw1]
    clear hw1 w1
    go_wp2_with fail
    refine (HV.out _).mono ?_
    rintro e w1 ⟨rfl, hb1⟩
    have HM1 := Hid.mk (HM.out.grown hb1)
    have HB1 := Hid.mk (But.of_below (l := [m]) hb1)
    clear hb1 HV
    go_wp2_with fail
    refine (HPUT.out _ HM1.out).mono ?_
    rintro e w2 ⟨rfl, hm2, hb2⟩
    have HM2 := Hid.mk hm2
    have HB2 := Hid.mk (HB1.out.trans hb2)
    clear hm2 hb2
    go_wp2_with fail
    refine (HI.out _).mono ?_
    rintro e w3 ⟨rfl, hw3⟩
    rw [hw3]
    clear hw3 w3
    go_wp2
    go_ret
    exact ⟨rfl, HM2.out, HB2.out⟩
  · have HI := Hid.mk (isRef_any i)
    rw [decide_eq_false hi] at HI ⊢
    rw [if_neg (fun k => hi k.1), if_neg (fun k => hi k.1)]
    have HM := Hid.mk h
    clear h hc hi
    go_enter Try.func32, Try.ntmps32
    go_wp2_with fail
    refine (HI.out _).mono ?_
    rintro e w1 ⟨rfl, hw1⟩
    rw [hw1]
    clear hw1 w1
    go_wp2_with fail
    refine (HI.out _).mono ?_
    rintro e w3 ⟨rfl, hw3⟩
    rw [hw3]
    clear hw3 w3
    go_wp2
    go_ret
    exact ⟨rfl, HM.out, But.refl _ _⟩

set_option maxHeartbeats 1600000 in
set_option maxRecDepth 100000 in
theorem refCreate_any (h : MD w m ba fa wr) (i : Int)  :
    Calls Try.prog 33 #[.pointer (some ⟨m, 0, none⟩), .int .i64 i] w fun e w' =>
      e = .returned (.bool (decide (Is i))) ∧ MD w' m ba (if Is i ∧ fa i.toNat ≠ mkV (fa i.toNat) then upd fa i.toNat (mkV (fa i.toNat)) else fa) (if Is i ∧ fa i.toNat ≠ mkV (fa i.toNat) then upd wr i.toNat true else wr) ∧ But [m] w w' := by
  by_cases hi : Is i
  · obtain ⟨j, rfl⟩ : ∃ j : Nat, i = (j : Int) := ⟨i.toNat, by omega⟩
    have hj : j < 6 := by omega
    have HI := Hid.mk (isRef_any (j : Int))
    rw [decide_eq_true hi] at HI ⊢
    simp only [Int.toNat_natCast]
    obtain ⟨c0, c1⟩ := h.files j hj
    obtain ⟨⟨p, x⟩, hp⟩ : ∃ p, p = fa j := ⟨_, rfl⟩
    have HP := Hid.mk hp
    rw [← hp] at c0 c1
    have hq : mkV (fa j) = (true, x) := by rw [← hp]; rfl
    rw [hq]
    have HPUT := Hid.mk (fun (z : World) (hz : MD z m ba fa wr) => refPut_any hz j hj (true, x))
    rw [← hp] at HPUT
    have HFIN : Hid ((if (p, x) = (true, x) then fa else upd fa j (true, x)) = (if Is (j : Int) ∧ fa j ≠ (true, x) then upd fa j (true, x) else fa) ∧ (if (p, x) = (true, x) then wr else upd wr j true) = (if Is (j : Int) ∧ fa j ≠ (true, x) then upd wr j true else wr)) := Hid.mk (by
      rw [← hp]
      by_cases e : (p, x) = (true, x)
      · rw [if_pos e, if_pos e, if_neg (fun k => k.2 e), if_neg (fun k => k.2 e)]; exact ⟨rfl, rfl⟩
      · rw [if_neg e, if_neg e, if_pos ⟨hi, e⟩, if_pos ⟨hi, e⟩]; exact ⟨rfl, rfl⟩)
    rw [HFIN.out.1, HFIN.out.2] at HPUT
    obtain ⟨fa2, hfa2⟩ : ∃ z, z = (if Is (j : Int) ∧ fa j ≠ (true, x) then upd fa j (true, x) else fa) := ⟨_, rfl⟩
    obtain ⟨wr2, hwr2⟩ : ∃ z, z = (if Is (j : Int) ∧ fa j ≠ (true, x) then upd wr j true else wr) := ⟨_, rfl⟩
    rw [← hfa2, ← hwr2] at HPUT ⊢
    have HM := Hid.mk h
    dsimp only at HPUT
    clear h hi hq hp hfa2 hwr2 HFIN
    go_enter Try.func33, Try.ntmps33
    go_wp2_with fail
    refine (HI.out _).mono ?_
    rintro e w1 ⟨rfl, hw1⟩
    rw [hw1]
    clear hw1 w1
    have HM1 := HM
    have HB1 : Hid (But [m] w w) := Hid.mk (But.refl _ _)
    go_wp2_with fail
    refine (HPUT.out _ HM1.out).mono ?_
    rintro e w2 ⟨rfl, hm2, hb2⟩
    have HM2 := Hid.mk hm2
    have HB2 := Hid.mk (HB1.out.trans hb2)
    clear hm2 hb2
    go_wp2_with fail
    refine (HI.out _).mono ?_
    rintro e w3 ⟨rfl, hw3⟩
    rw [hw3]
    clear hw3 w3
    go_wp2
    go_ret
    exact ⟨rfl, HM2.out, HB2.out⟩
  · have HI := Hid.mk (isRef_any i)
    rw [decide_eq_false hi] at HI ⊢
    rw [if_neg (fun k => hi k.1), if_neg (fun k => hi k.1)]
    have HM := Hid.mk h
    clear h hi
    go_enter Try.func33, Try.ntmps33
    go_wp2_with fail
    refine (HI.out _).mono ?_
    rintro e w1 ⟨rfl, hw1⟩
    rw [hw1]
    clear hw1 w1
    go_wp2_with fail
    refine (HI.out _).mono ?_
    rintro e w3 ⟨rfl, hw3⟩
    rw [hw3]
    clear hw3 w3
    go_wp2
    go_ret
    exact ⟨rfl, HM.out, But.refl _ _⟩

set_option maxHeartbeats 1600000 in
set_option maxRecDepth 100000 in
theorem refRemove_any (h : MD w m ba fa wr) (i : Int)  :
    Calls Try.prog 34 #[.pointer (some ⟨m, 0, none⟩), .int .i64 i] w fun e w' =>
      e = .returned (.bool (decide (Is i))) ∧ MD w' m ba (if Is i ∧ fa i.toNat ≠ noFile then upd fa i.toNat (noFile) else fa) (if Is i ∧ fa i.toNat ≠ noFile then upd wr i.toNat true else wr) ∧ But [m] w w' := by
  by_cases hi : Is i
  · obtain ⟨j, rfl⟩ : ∃ j : Nat, i = (j : Int) := ⟨i.toNat, by omega⟩
    have hj : j < 6 := by omega
    have HI := Hid.mk (isRef_any (j : Int))
    rw [decide_eq_true hi] at HI ⊢
    simp only [Int.toNat_natCast]
    obtain ⟨c0, c1⟩ := h.files j hj
    obtain ⟨⟨p, x⟩, hp⟩ : ∃ p, p = fa j := ⟨_, rfl⟩
    have HP := Hid.mk hp
    rw [← hp] at c0 c1
    clear c0 c1
    have HPUT := Hid.mk (fun (z : World) (hz : MD z m ba fa wr) => refPut_any hz j hj noFile)
    rw [← hp] at HPUT
    have HFIN : Hid ((if (p, x) = noFile then fa else upd fa j noFile) = (if Is (j : Int) ∧ fa j ≠ noFile then upd fa j noFile else fa) ∧ (if (p, x) = noFile then wr else upd wr j true) = (if Is (j : Int) ∧ fa j ≠ noFile then upd wr j true else wr)) := Hid.mk (by
      rw [← hp]
      by_cases e : (p, x) = noFile
      · rw [if_pos e, if_pos e, if_neg (fun k => k.2 e), if_neg (fun k => k.2 e)]; exact ⟨rfl, rfl⟩
      · rw [if_neg e, if_neg e, if_pos ⟨hi, e⟩, if_pos ⟨hi, e⟩]; exact ⟨rfl, rfl⟩)
    rw [HFIN.out.1, HFIN.out.2] at HPUT
    obtain ⟨fa2, hfa2⟩ : ∃ z, z = (if Is (j : Int) ∧ fa j ≠ noFile then upd fa j noFile else fa) := ⟨_, rfl⟩
    obtain ⟨wr2, hwr2⟩ : ∃ z, z = (if Is (j : Int) ∧ fa j ≠ noFile then upd wr j true else wr) := ⟨_, rfl⟩
    rw [← hfa2, ← hwr2] at HPUT ⊢
    have HM := Hid.mk h
    dsimp only at HPUT
    clear h hi hp hfa2 hwr2 HFIN
    go_enter Try.func34, Try.ntmps34
    go_wp2_with fail
    refine (HI.out _).mono ?_
    rintro e w1 ⟨rfl, hw1⟩
    rw [hw1]
    clear hw1 w1
    have HM1 := HM
    have HB1 : Hid (But [m] w w) := Hid.mk (But.refl _ _)
    go_wp2_with fail
    refine (HPUT.out _ HM1.out).mono ?_
    rintro e w2 ⟨rfl, hm2, hb2⟩
    have HM2 := Hid.mk hm2
    have HB2 := Hid.mk (HB1.out.trans hb2)
    clear hm2 hb2
    go_wp2_with fail
    refine (HI.out _).mono ?_
    rintro e w3 ⟨rfl, hw3⟩
    rw [hw3]
    clear hw3 w3
    go_wp2
    go_ret
    exact ⟨rfl, HM2.out, HB2.out⟩
  · have HI := Hid.mk (isRef_any i)
    rw [decide_eq_false hi] at HI ⊢
    rw [if_neg (fun k => hi k.1), if_neg (fun k => hi k.1)]
    have HM := Hid.mk h
    clear h hi
    go_enter Try.func34, Try.ntmps34
    go_wp2_with fail
    refine (HI.out _).mono ?_
    rintro e w1 ⟨rfl, hw1⟩
    rw [hw1]
    clear hw1 w1
    go_wp2_with fail
    refine (HI.out _).mono ?_
    rintro e w3 ⟨rfl, hw3⟩
    rw [hw3]
    clear hw3 w3
    go_wp2
    go_ret
    exact ⟨rfl, HM.out, But.refl _ _⟩

end

end Go.Proofs.Ytdngehfebmaegaa.Sht
