/-
  The walk of Whole: how many bytes the records have with which bytes begin.
-/
import Derived.Test.YtcofiidibhmhgaaRefAll
namespace Go.Proofs.Ytcofiidibhmhgaa
open Go.RowKit Go.Shelf
attribute [local go_sem] Oper.semAt_some

/-- A block of one cell, just laid. -/
theorem laid_one (W : World) (v : Value) (t : TypeId) : (W.alloc (.cells #[v] t)).cell? ⟨W.heap.size, 0, none⟩ = some v ∧ (W.alloc (.cells #[v] t)).frozen? ⟨W.heap.size, 0, none⟩ = false := ⟨by simp, by simp⟩
/-- A cell, another block laid. -/
theorem cell_on {W : World} {a : Addr} {v : Value} (o : Obj) (h : W.cell? a = some v) : (W.alloc o).cell? a = some v := cell_kept h (World.grownBy_alloc W o none) (fun r e => by cases e)
theorem free_on {W : World} {a : Addr} {v : Value} (o : Obj) (h : W.cell? a = some v) (hf : W.frozen? a = false) : (W.alloc o).frozen? a = false := (frozen_kept h (World.grownBy_alloc W o none) (fun r e => by cases e)).trans hf

/-- The sum as the loop makes it. -/
def wsum (l : List ByteArray) : Int := l.foldl (fun s t => wrap64 (s + wrap64 (wrap64 (2 + (t.size : Int)) + 4))) 0

theorem wsum_snoc (l : List ByteArray) (t : ByteArray) : wsum (l ++ [t]) = wrap64 (wsum l + wrap64 (wrap64 (2 + (t.size : Int)) + 4)) := by simp [wsum]

theorem wsum_step (a t : Nat) (h : a + (t + 6) ≤ 1099511627776) : wrap64 ((a : Int) + wrap64 (wrap64 (2 + (t : Int)) + 4)) = ((a + (t + 6) : Nat) : Int) := by
  have e1 : wrap64 (2 + (t : Int)) = 2 + (t : Int) := by unfold wrap64; omega
  have e2 : wrap64 (2 + (t : Int) + 4) = 2 + (t : Int) + 4 := by unfold wrap64; omega
  rw [e1, e2]
  unfold wrap64
  omega

theorem wsum_from (l : List ByteArray) : ∀ a : Nat, a + wholeN l ≤ 1099511627776 → l.foldl (fun s t => wrap64 (s + wrap64 (wrap64 (2 + (t.size : Int)) + 4))) (a : Int) = ((a + wholeN l : Nat) : Int) := by
  induction l with
  | nil => intro a _; simp [wholeN]
  | cons t r ih =>
    intro a h
    simp only [wholeN] at h
    rw [List.foldl_cons, wsum_step a t.size (by omega), ih _ (by omega)]
    simp only [wholeN]
    congr 1
    omega

theorem wsum_eq (l : List ByteArray) (h : wholeN l ≤ 1099511627776) : wsum l = ((wholeN l : Nat) : Int) := by
  have := wsum_from l 0 (by omega)
  simpa [wsum] using this

set_option maxRecDepth 100000 in
set_option maxHeartbeats 2000000 in
theorem whole_any (w : World) (s : ByteArray) (L : List ByteArray) (hsz : s.size ≤ 50000) (hL : AllOf s.data.toList L) :
    Calls Try.prog 54 #[.string s] w fun e w' => e = .returned (.int .i64 (wholeN L : Nat)) ∧ Below w.heap.size w w' := by
  have hwl := hL.whole
  rw [size_list] at hwl
  have HW : Hid (wsum L = ((wholeN L : Nat) : Int)) := Hid.mk (wsum_eq L (by omega))
  have HL := Hid.mk hL
  clear hL hwl
  refine (callsIn_wide (n := 5)).1 ?_
  refine callsIn_of_wp_marks Try.func54 rfl trivial ?_ rfl
  simp only [Try.ntmps54, List.size_toArray, List.length_cons, List.length_nil, Nat.reduceAdd, Nat.reduceSub, Array.replicate_succ, Array.replicate_zero, List.push_toArray, List.append_toArray, List.nil_append, List.cons_append]
  gi_wp2_with fail
  refine ⟨trivial, (all_in _ s _).mono ?_⟩
  rintro e w' ⟨rfl, rfl⟩
  gi_wp2
  have hs := laid_one w (.int .i64 0) 3
  have hb := laid_one (w.alloc (.cells #[.int .i64 0] 3)) (.string s) 9
  rw [World.size_alloc] at hb
  have hB0 : Below w.heap.size w ((w.alloc (.cells #[.int .i64 0] 3)).alloc (.cells #[.string s] 9)) := ((Below.refl _ w).alloc (Nat.le_refl _) _).alloc (by simp) _
  refine wpIn_rangeFunc_ownF rfl (by omega) (gf := 64) (lb := #[.pointer (some ⟨w.heap.size + 1, 0, none⟩)]) rfl trivial (enters_of Try.func64 (by kernel_rfl) rfl)
    (all_stops 4 (by omega) (w.heap.size + 1) s (by omega) _ (by simp) hb.1) (fun _ _ => trivial) (fun _ _ _ _ _ _ _ _ => trivial) (Below.refl _ _) (fun _ => rfl)
    (fun pre W => (W.cell? ⟨w.heap.size, 0, none⟩ = some (.int .i64 (wsum pre)) ∧ W.frozen? ⟨w.heap.size, 0, none⟩ = false) ∧ Below w.heap.size w W)
    (fun _ _ _ => False)
    (OwnFrom.and (Own.from (fun s A B row hs hg hr => ⟨cell_kept hs.1 hg hr, (frozen_kept hs.1 hg hr).trans hs.2⟩) _) (ownFrom_below (Nat.le_refl _) (by simp; omega)))
    (fun _ _ _ _ _ hs _ _ => hs)
    ⟨⟨cell_on _ hs.1, free_on _ hs.1 hs.2⟩, hB0⟩
    (fun x => { tmps := #[.string s, undef, .int .i64 0, .pointer (some ⟨w.heap.size, 0, none⟩), .string x, .string s, .func (.func 64) #[] #[.pointer (some ⟨w.heap.size + 1, 0, none⟩)], .string x, undef, undef, undef, undef, undef, undef, undef], defers := [] }) ?assign ?body ?done ?stop
  case assign =>
    intro l x W K hK
    gi_wp2
    exact hK
  case body =>
    rintro l pre x W ⟨⟨hc, hf⟩, hB⟩ _
    gi_wp2
    exact ⟨KeepsOthers.setCell _ _ _, trivial, ⟨by rw [wsum_snoc]; exact World.cell?_setCell_same' _ _ _ (by rw [hc]; rfl), by rw [World.frozen?_setCell]; exact hf⟩, hB.setCell (p := ⟨w.heap.size, 0, none⟩) (Nat.le_refl _) _⟩
  case done =>
    rintro D ys W hD hys ⟨⟨hc, _⟩, hB⟩ hK
    have e := hys.one HL.out
    subst e
    rw [HW.out] at hc
    gi_wp2
    refine ⟨by simp, .inl ⟨_, _, rfl, run_takeDeferred hK, ?_⟩⟩
    exact ⟨_, results_tmp rfl _ _ _, rfl, hB.trans (belowK_b (w := w) (Nat.le_refl _) W D _ _ (by simp at hD; omega) hK rfl rfl)⟩
  case stop =>
    rintro D c pre W _ _ h _
    exact h.elim

end Go.Proofs.Ytcofiidibhmhgaa
