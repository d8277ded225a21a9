/-
  Sums of opens, tally by tally; acts of opens alone beside a block of sums.
-/
import Derived.Test.YtnjmnbclbjebbaaAcTwo
namespace Go.Proofs.Ytnjmnbclbjebbaa.Ac
open Go.RowKit Go.Deep Go.Proofs.Ytnjmnbclbjebbaa.Cel Go.Proofs.Ytnjmnbclbjebbaa.Dft

/-- What opens of a tally come to. -/
def sumT : List Pr → Nat → Int
  | [], _ => 0
  | o :: l, k => (if o.1 = (k : Int) then o.2 else 0) + sumT l k

/-- Tallies that are, and not too much. -/
def OkO (l : List Pr) : Prop := ∀ o ∈ l, (0 ≤ o.1 ∧ o.1 ≤ 3) ∧ -1099511627776 ≤ o.2 ∧ o.2 ≤ 1099511627776

theorem sumT_append (a b : List Pr) (k : Nat) : sumT (a ++ b) k = sumT a k + sumT b k := by
  induction a with
  | nil => simp [sumT]
  | cons o r ih => simp only [List.cons_append, sumT, ih]; omega
theorem sumT_snoc (l : List Pr) (o : Pr) (k : Nat) : sumT (l ++ [o]) k = if o.1 = (k : Int) then sumT l k + o.2 else sumT l k := by
  rw [sumT_append]
  simp only [sumT]
  split <;> omega
theorem sumT_cut (l : List Pr) (n k : Nat) : sumT (l.take n) k + sumT (l.drop n) k = sumT l k := by
  rw [← sumT_append, List.take_append_drop]
theorem sumT_rev (l : List Pr) (k : Nat) : sumT l.reverse k = sumT l k := by
  induction l with
  | nil => rfl
  | cons o r ih =>
    rw [List.reverse_cons, sumT_append, ih]
    simp only [sumT]
    omega
theorem neg_of {d : Int} (h : -1099511627776 ≤ d ∧ d ≤ 1099511627776) : negI d = -d := by
  unfold negI RowKit.wrap64
  omega
theorem sumT_neg (l : List Pr) (h : OkO l) (k : Nat) : sumT (l.map fun o => (o.1, negI o.2)) k = -sumT l k := by
  induction l with
  | nil => rfl
  | cons o r ih =>
    have ho := (h o (List.mem_cons_self ..)).2
    rw [List.map_cons]
    simp only [sumT]
    rw [ih (fun x hx => h x (List.mem_cons_of_mem _ hx)), neg_of ho]
    split <;> omega
theorem sumT_amends (l : List Pr) (h : OkO l) (k : Nat) : sumT (amendsL l) k = -sumT l k := by
  unfold amendsL
  rw [sumT_neg l.reverse (fun x hx => h x (List.mem_reverse.1 hx)), sumT_rev]
theorem sumT_le (l : List Pr) (h : OkO l) (k : Nat) : -(1099511627776 * (l.length : Int)) ≤ sumT l k ∧ sumT l k ≤ 1099511627776 * (l.length : Int) := by
  induction l with
  | nil => simp [sumT]
  | cons o r ih =>
    have ho := (h o (List.mem_cons_self ..)).2
    have hr := ih (fun x hx => h x (List.mem_cons_of_mem _ hx))
    simp only [sumT, List.length_cons]
    split <;> omega
theorem OkO.nil : OkO [] := fun _ h => by cases h
theorem OkO.snoc {l : List Pr} (h : OkO l) {o : Pr} (ho : (0 ≤ o.1 ∧ o.1 ≤ 3) ∧ -1099511627776 ≤ o.2 ∧ o.2 ≤ 1099511627776) : OkO (l ++ [o]) := fun x hx => by
  rcases List.mem_append.1 hx with hx | hx
  · exact h x hx
  · obtain rfl : x = o := by simpa using hx
    exact ho
theorem OkO.take {l : List Pr} (h : OkO l) (n : Nat) : OkO (l.take n) := fun x hx => h x (List.mem_of_mem_take hx)
theorem OkO.drop {l : List Pr} (h : OkO l) (n : Nat) : OkO (l.drop n) := fun x hx => h x (List.mem_of_mem_drop hx)
theorem OkO.amends {l : List Pr} (h : OkO l) : OkO (amendsL l) := fun x hx => by
  unfold amendsL at hx
  obtain ⟨o, ho, rfl⟩ := List.mem_map.1 hx
  have := h o (List.mem_reverse.1 ho)
  simp only
  rw [neg_of this.2]
  omega

/-- Opens alone. -/
def opsAS (l : List Pr) : AS := ⟨[], [], [], l⟩
theorem opsAS_le {l : List Pr} {N : Nat} (h : l.length ≤ N) : (opsAS l).Le N := ⟨Nat.zero_le _, Nat.zero_le _, Nat.zero_le _, h⟩
theorem ops_yes (l : List Pr) (t d : Int) (h : okT t = true) : (opsAS l).opened t d = opsAS (l ++ [(t, d)]) := by
  unfold AS.opened
  rw [if_pos h]
  rfl
theorem ops_no (l : List Pr) (t d : Int) (h : okT t = false) : (opsAS l).opened t d = opsAS l := by
  unfold AS.opened
  rw [if_neg (by simp [h])]
theorem ops_back (l : List Pr) (m : Nat → Int) : (opsAS l).back m = opsAS (l.take (m 3).toNat) := by
  unfold AS.back opsAS
  simp
theorem ops_mark (l : List Pr) : mA (opsAS l).mark = #[.int .i64 0, .int .i64 0, .int .i64 0, .int .i64 l.length] := rfl

set_option maxRecDepth 100000 in
theorem four_same (f : Nat → Int) (w : World) : (Op.equalIn 10000 33 (.agg (mA f)) (.agg (mA f))).run Try.prog w = .ok true w := by
  have := eq_fourD 9998 f f w
  rw [decide_eq_true ⟨rfl, rfl, rfl, rfl⟩] at this
  exact this

theorem mA_put (f g : Nat → Int) (k : Nat) (hk : k < 4) (x : Int) (h : ∀ j, j < 4 → g j = if j = k then x else f j) : (mA f).setIfInBounds k (.int .i64 x) = mA g := by
  have h0 := h 0 (by decide)
  have h1 := h 1 (by decide)
  have h2 := h 2 (by decide)
  have h3 := h 3 (by decide)
  rcases below4 hk with rfl | rfl | rfl | rfl <;> simp at h0 h1 h2 h3 <;> simp [mA, h0, h1, h2, h3]

structure LN (w : World) (b : Nat) (vs : Vs) (l : List Pr) (S : Nat) (f : Nat → Int) (X : World) : Prop where
  at_ : AcAt X b vs (opsAS l)
  sums : X.heap[S]? = some (.cells (mA f) 33 (0, 0))
  ft : ∀ k, Ft b vs k → w.heap.size ≤ k
  lo : w.heap.size ≤ S
  bel : Below w.heap.size w X

section
variable {w X Y : World} {b S : Nat} {vs vs' : Vs} {l l' : List Pr} {f g : Nat → Int}

theorem LN.grown (h : LN w b vs l S f X) (hb : Below X.heap.size X Y) : LN w b vs l S f Y :=
  ⟨h.at_.grown hb, heap_on hb h.sums, h.ft, h.lo, h.bel.trans (hb.mono h.bel.size)⟩
theorem LN.drew (h : LN w b vs l S f X) : LN w b vs l S f X.drew := h.grown (Below.refl _ X).drew
theorem LN.past (h : LN w b vs l S f X) (o : Obj) : LN w b vs l S f (X.alloc o) := h.grown ((Below.refl _ X).alloc (Nat.le_refl _) o)
theorem LN.wrote (h : LN w b vs l S f X) (hA : AcAt Y b vs' (opsAS l')) (hw : Wrote (Ft b vs) (Ft b vs') X Y) : LN w b vs' l' S f Y :=
  ⟨hA, other_kept h.at_ h.sums (by decide) (by decide) (by decide) (by decide) hw, hw.lo h.bel.size h.ft, h.lo, h.bel.trans (hw.below h.bel.size h.ft)⟩
theorem LN.put (h : LN w b vs l S f X) (k : Nat) (hk : k < 4) (x : Int) (hg : ∀ j, j < 4 → g j = if j = k then x else f j) : LN w b vs l S g (X.setCell ⟨S, k, none⟩ (.int .i64 x)) :=
  ⟨h.at_.carry fun q hq => Below.heap_setCell _ _ _ _ (fun e => h.at_.not_ft h.sums (by decide) (by decide) (by decide) (by decide) (by have e : q = S := e; rwa [e] at hq)),
    by rw [heap_set _ h.sums, mA_put f g k hk x hg], h.ft, h.lo, h.bel.setCell h.lo _⟩
theorem LN.cell (h : LN w b vs l S f X) (k : Nat) (hk : k < 4) : X.cell? ⟨S, k, none⟩ = some (.int .i64 (f k)) := cell_at h.sums (mA_at _ k hk)
theorem LN.fz (h : LN w b vs l S f X) (k : Nat) : X.frozen? ⟨S, k, none⟩ = false := free_at h.sums
end

end Go.Proofs.Ytnjmnbclbjebbaa.Ac
