/-
  A row of things in a box of the law's own; what lies between two steps of ReadsOrder.
-/
import Derived.Test.YtafpfioonbdgnaaNBox
namespace Go.Proofs.Ytafpfioonbdgnaa.Rds
open Go.RowKit Go.Shelf Go.Deep Go.Proofs.Ytafpfioonbdgnaa.Cel Go.Proofs.Ytafpfioonbdgnaa.Rng

/-- Things in a variable of the law's own, in block b. -/
structure WnAt (w : World) (b : Nat) (v : Value) (l : List Th) : Prop where
  at_ : w.heap[b]? = some (.cells #[v] 22 (0, 0))
  owns : w.ownsRow 0 36 2 v l.length (thC l)

section
variable {w w' : World} {b : Nat} {v : Value} {l : List Th}

theorem WnAt.lt (h : WnAt w b v l) : b < w.heap.size := (Array.getElem?_eq_some_iff.1 h.at_).1
theorem WnAt.own_lt (h : WnAt w b v l) : ∀ k, v.ownBlock = some k → k < w.heap.size := fun k hk => (h.owns.lt k hk).2
theorem WnAt.foot_lt (h : WnAt w b v l) : ∀ k, Foot b [v] k → k < w.heap.size := fun k hk => by
  rcases hk with e | ⟨x, hx, e⟩
  · rw [e]; exact h.lt
  · simp at hx; subst hx; exact h.own_lt k e
theorem WnAt.c0 (h : WnAt w b v l) : w.cell? ⟨b, 0, none⟩ = some v := cell_at h.at_ rfl
theorem WnAt.fz (h : WnAt w b v l) (i : Nat) : w.frozen? ⟨b, i, none⟩ = false := free_at h.at_
theorem WnAt.keep (h : WnAt w b v l) (hk : ∀ k, Foot b [v] k → w'.heap[k]? = w.heap[k]?) : WnAt w' b v l :=
  ⟨(hk b (.inl rfl)).trans h.at_, ownsRow_carry h.owns fun k e => hk k (.inr ⟨v, by simp, e⟩)⟩
theorem WnAt.grown (h : WnAt w b v l) (hb : Below w.heap.size w w') : WnAt w' b v l := h.keep fun k hk => hb.block k (h.foot_lt k hk)
theorem WnAt.drew (h : WnAt w b v l) : WnAt w.drew b v l := h.keep fun _ _ => rfl
theorem WnAt.alloc (h : WnAt w b v l) (o : Obj) : WnAt (w.alloc o) b v l := h.grown ((Below.refl _ _).alloc (Nat.le_refl _) _)
theorem WnAt.own_b (h : WnAt w b v l) : v.ownBlock ≠ some b := fun e => by
  obtain ⟨cs, hc⟩ := own_at h.owns e
  exact block_ne hc h.at_ (by decide) rfl
/-- One more. -/
theorem WnAt.more {w1 w2 : World} {g cap : Nat} (h : WnAt w b v l) (x : Th) (hown : w2.ownsRow 0 36 2 (.slice (some ⟨g, 0, none⟩) (l.length + 1) cap) (l.length + 1) (thC l ++ thC [x]))
    (hw1 : Below w.heap.size w w1) (hgrow : w1.grownBy w2 v.ownBlock) (hat : v.ownBlock = some g ∨ w.heap.size ≤ g) :
    WnAt (w2.setCell ⟨b, 0, none⟩ (.slice (some ⟨g, 0, none⟩) (l.length + 1) cap)) b (.slice (some ⟨g, 0, none⟩) (l.length + 1) cap) (l ++ [x]) ∧
      Wrote (Foot b [v]) (Foot b [.slice (some ⟨g, 0, none⟩) (l.length + 1) cap]) w (w2.setCell ⟨b, 0, none⟩ (.slice (some ⟨g, 0, none⟩) (l.length + 1) cap)) := by
  have hlt := h.lt
  have hsz := hw1.size
  have hb2 : w2.heap[b]? = some (.cells #[v] 22 (0, 0)) := by
    rw [hgrow.block b (by omega) (fun e => h.own_b e.symm), hw1.block b hlt]
    exact h.at_
  have hgb : g ≠ b := by
    rcases hat with e | e
    · exact fun e' => h.own_b (by rw [e, e'])
    · omega
  have hs2 := hgrow.size
  refine ⟨⟨?_, ?_⟩, ?_, ?_, ?_, ?_, fun k hk hf => ?_, fun k hk => ?_⟩
  · rw [heap_set _ hb2]
    simp
  · rw [List.length_append, thC_append]
    exact ownsRow_carry hown fun k hk => by
      simp [Value.ownBlock] at hk
      subst hk
      exact Below.heap_setCell _ _ _ _ hgb
  · exact hgrow.os.trans hw1.os
  · exact hgrow.tape.trans hw1.tape
  · exact hgrow.output.trans hw1.output
  · simp [World.setCell]; omega
  · rw [Below.heap_setCell _ _ _ _ (fun e => hf (.inl e)), hgrow.block k (by omega) (fun e => hf (.inr ⟨v, by simp, e.symm⟩))]
    exact hw1.block k hk
  · rcases hk with e | ⟨x, hx, e⟩
    · exact .inl (.inl e)
    · simp at hx
      subst hx
      simp [Value.ownBlock] at e
      subst e
      rcases hat with e | e
      · exact .inl (.inr ⟨v, by simp, e⟩)
      · exact .inr e
end

theorem WnAt.kept {w w' : World} {m : Nat} {u : Value} {l : List Th} {row : Option Nat} (h : WnAt w m u l) (hg : w.grownBy w' row) (hr : ∀ r, row = some r → ∃ o : Obj, w.heap[r]? = some o ∧ o.isCells = false) : WnAt w' m u l := h.keep fun k hk => by
  rcases hk with e | ⟨x, hx, e⟩
  · rw [e]; exact same_cells hg hr h.at_
  · simp at hx; subst hx
    obtain ⟨cs, hc⟩ := own_at h.owns e
    exact same_cells hg hr hc

/-- A block of another type is none of its. -/
theorem wn_free {w : World} {m X : Nat} {u : Value} {l : List Th} {cs : Array Value} {t : TypeId} {q : Nat × Nat} (h : WnAt w m u l) (hx : w.heap[X]? = some (.cells cs t q)) (h1 : t ≠ 22) (h2 : t ≠ 36) : ¬ Foot m [u] X := fun e => by
  rcases e with e | ⟨x, hx', e⟩
  · rw [e] at hx
    exact block_ne hx h.at_ h1 rfl
  · simp at hx'
    subst hx'
    obtain ⟨cs, hc⟩ := own_at h.owns e
    exact block_ne hx hc h2 rfl

/-- Its blocks are none of the set's. -/
theorem set_wn {w : World} {b m : Nat} {v u : Value} {l : List Th} {st : Int} {E : List En} (h : SetAt w b v st E) (k : WnAt w m u l) : ∀ q, Foot m [u] q → ¬ Foot b [v] q := fun q h1 => by
  rcases h1 with e | ⟨x, hx, e⟩
  · rw [e]; exact box_free h k.at_ (by decide) (by decide)
  · simp at hx; subst hx
    obtain ⟨cs, hc⟩ := own_at k.owns e
    exact box_free h hc (by decide) (by decide)

theorem wo_nil_foot {m q : Nat} (h : Foot m [.slice none 0 0] q) : q = m := by
  rcases h with e | ⟨x, hx, e⟩
  · exact e
  · simp at hx; subst hx; cases e

/-- With no changes no thing has a version. -/
theorem ofF_zero (k i : Int) : ofF (verF []) k i = 0 := by
  unfold ofF
  split
  · rfl
  · rfl

/-- Things that were read, and such that weren't. -/
theorem findE_th {E : List En} {k i : Int} : (findE E k i).isSome = true ↔ ∃ j, j < (thE E).length ∧ (thE E)[j]! = (k, i) := by
  constructor
  · intro h
    obtain ⟨e, he⟩ := Option.isSome_iff_exists.1 h
    have h1 := List.mem_of_find?_eq_some he
    have h2 := List.find?_some he
    simp only [Bool.and_eq_true, decide_eq_true_eq] at h2
    obtain ⟨j, hj, e2⟩ := List.mem_iff_getElem.1 h1
    refine ⟨j, by rw [thE_length]; exact hj, ?_⟩
    rw [thE_at E j hj, getElem!_pos E j hj, e2, h2.1, h2.2]
  · rintro ⟨j, hj, e⟩
    have hjE : j < E.length := by rw [thE_length] at hj; exact hj
    rw [thE_at E j hjE] at e
    cases hf : findE E k i with
    | some e => rfl
    | none =>
      have h1 := List.find?_eq_none.1 hf E[j] (List.getElem_mem hjE)
      rw [getElem!_pos E j hjE] at e
      simp at h1
      simp at e
      exact absurd e.2 (h1 e.1)

theorem findE_last {E : List En} {k i v : Int} (h : findE E k i = none) : findE (E ++ [(k, i, v)]) k i = some (k, i, v) := by
  unfold findE at h ⊢
  rw [List.find?_append, h]
  simp

/-- What lies between two steps. -/
structure LO (B : Nat) (w0 W : World) (C m b P : Nat) (k : Nat) (E : List En) (T : List Th) : Prop where
  ex : ∃ v u, SetAt W b v 0 E ∧ WnAt W P u T ∧ (∀ q, Foot b [v] q → C ≤ q) ∧ ∀ q, Foot P [u] q → C ≤ q
  wo : WoAt W m (.slice none 0 0) []
  mlo : C ≤ m
  r : W.heap[B]? = some (.cells #[.bool false] 4 (0, 0))
  below : Below B w0 W
  far : B < C
  zero : ∀ j, j < E.length → E[j]!.2.2 = 0
  elen : E.length ≤ k
  tlen : T.length ≤ k

section
variable {B C m b P k : Nat} {w0 W W' : World} {E : List En} {T : List Th}

theorem LO.size (h : LO B w0 W C m b P k E T) : C ≤ W.heap.size := by
  have := h.mlo
  have := h.wo.lt
  omega
theorem LO.sizeB (h : LO B w0 W C m b P k E T) : B ≤ W.heap.size := by have := h.size; have := h.far; omega

theorem LO.grown (h : LO B w0 W C m b P k E T) (hb : Below W.heap.size W W') : LO B w0 W' C m b P k E T := by
  obtain ⟨v, u, h1, h2, h3, h4⟩ := h.ex
  exact ⟨⟨v, u, h1.grown hb, h2.grown hb, h3, h4⟩, h.wo.grown hb, h.mlo, (hb.block _ (Array.getElem?_eq_some_iff.1 h.r).1).trans h.r, h.below.trans (hb.mono h.sizeB), h.far, h.zero, h.elen, h.tlen⟩

theorem LO.kept {row : Option Nat} {S : Nat} (h : LO B w0 W C m b P k E T) (hg : W.grownBy W' row) (hr : ∀ r, row = some r → S ≤ r ∧ ∃ o : Obj, W.heap[r]? = some o ∧ o.isCells = false) (hS : B ≤ S) : LO B w0 W' C m b P k E T := by
  obtain ⟨v, u, h1, h2, h3, h4⟩ := h.ex
  have hr2 : ∀ r, row = some r → ∃ o : Obj, W.heap[r]? = some o ∧ o.isCells = false := fun r e => (hr r e).2
  exact ⟨⟨v, u, h1.kept hg hr2, h2.kept hg hr2, h3, h4⟩, h.wo.kept hg hr2, h.mlo, block_kept h.r hg hr2, h.below.grown hg h.sizeB (fun q e => Nat.le_trans hS (hr q e).1), h.far, h.zero, h.elen, h.tlen⟩

theorem LO.next (h : LO B w0 W C m b P k E T) : LO B w0 W C m b P (k + 1) E T := ⟨h.ex, h.wo, h.mlo, h.r, h.below, h.far, h.zero, by have := h.elen; omega, by have := h.tlen; omega⟩

/-- A thing is read for the first time. -/
theorem LO.note {v v' : Value} {c i : Int} (h : LO B w0 W C m b P k E T) (hk : E.length < k) (hs : SetAt W b v 0 E) (hv : ∀ q, Foot b [v] q → C ≤ q) (hs2 : SetAt W' b v' 0 (E ++ [(c, i, 0)])) (hr : Wrote (Foot b [v]) (Foot b [v']) W W') : LO B w0 W' C m b P k (E ++ [(c, i, 0)]) T := by
  obtain ⟨_, u, _, h2, _, h4⟩ := h.ex
  have hz := h.size
  have hf := h.far
  refine ⟨⟨v', u, hs2, h2.keep fun q hq => hr.block q (h2.foot_lt q hq) (fun e => set_wn hs h2 q hq e), hr.lo hz hv, h4⟩,
    h.wo.keep fun q hq => hr.block q (h.wo.foot_lt q hq) (fun e => set_wo hs h.wo q hq e), h.mlo, (hr.block _ (Array.getElem?_eq_some_iff.1 h.r).1 (fun e => by have := hv _ e; omega)).trans h.r,
    h.below.trans (hr.below h.sizeB (fun q hq => by have := hv q hq; omega)), hf, fun j hj => ?_, by simp; omega, h.tlen⟩
  by_cases hjE : j < E.length
  · rw [getElem!_pos _ j hj, List.getElem_append_left hjE, ← getElem!_pos E j hjE]
    exact h.zero j hjE
  · have hje : j = E.length := by simp at hj; omega
    subst hje
    rw [getElem!_pos (E ++ [(c, i, (0 : Int))]) E.length hj]
    simp

/-- A thing more in the law's row. -/
theorem LO.want {u u' : Value} {y : Th} (h : LO B w0 W C m b P k E T) (hk : T.length < k) (hw : WnAt W P u T) (hu : ∀ q, Foot P [u] q → C ≤ q) (hw2 : WnAt W' P u' (T ++ [y])) (hr : Wrote (Foot P [u]) (Foot P [u']) W W') : LO B w0 W' C m b P k E (T ++ [y]) := by
  obtain ⟨v, _, h1, _, h3, _⟩ := h.ex
  have hz := h.size
  have hf := h.far
  refine ⟨⟨v, u', h1.keep fun q hq => hr.block q (h1.foot_lt q hq) (fun e => set_wn h1 hw q e hq), hw2, h3, hr.lo hz hu⟩,
    h.wo.keep fun q hq => hr.block q (h.wo.foot_lt q hq) (fun e => by rw [wo_nil_foot hq] at e; exact wn_free hw h.wo.at_ (by decide) (by decide) e), h.mlo, (hr.block _ (Array.getElem?_eq_some_iff.1 h.r).1 (fun e => by have := hu _ e; omega)).trans h.r,
    h.below.trans (hr.below h.sizeB (fun q hq => by have := hu q hq; omega)), hf, h.zero, h.elen, by simp; omega⟩

/-- A number in a box of the law's own is written. -/
theorem LO.number {X : Nat} {cs : Array Value} {q : Nat × Nat} (h : LO B w0 W C m b P k E T) (hx : W.heap[X]? = some (.cells cs 3 q)) (hB : B ≤ X) (j : Nat) (y : Value) : LO B w0 (W.setCell ⟨X, j, none⟩ y) C m b P k E T := by
  obtain ⟨v, u, h1, h2, h3, h4⟩ := h.ex
  have key : ∀ {p : Nat}, p ≠ X → (W.setCell ⟨X, j, none⟩ y).heap[p]? = W.heap[p]? := fun hp => Below.heap_setCell _ _ _ _ hp
  refine ⟨⟨v, u, h1.keep fun p hp => key (fun e => box_free h1 hx (by decide) (by decide) (e ▸ hp)), h2.keep fun p hp => key (fun e => wn_free h2 hx (by decide) (by decide) (e ▸ hp)), h3, h4⟩,
    h.wo.keep fun p hp => key (fun e => wo_free h.wo hx (by decide) (by decide) (e ▸ hp)), h.mlo, (key (block_ne h.r hx (by decide))).trans h.r, h.below.setCell (p := ⟨X, j, none⟩) hB y, h.far, h.zero, h.elen, h.tlen⟩

end

end Go.Proofs.Ytafpfioonbdgnaa.Rds
