/-
  The program's set and the document's side by side, over one world of changes, and the law's own boxes.
-/
import Derived.Test.YtafpfioonbdgnaaNBox
import Derived.Test.YtafpfioonbdgnaaNRefN
namespace Go.Proofs.Ytafpfioonbdgnaa.Rds
open Go.RowKit Go.Shelf Go.Deep Go.Proofs.Ytafpfioonbdgnaa.Cel Go.Proofs.Ytafpfioonbdgnaa.Rng

/-- By kind and index, or by thing: the same answer, the same things, the same stamp. -/
theorem note_same {l : List Th} {cl st : Int} {E : List En} {c i : Int} (hE : IsE E) (hk : isB c i = true) :
    noteB (ofF (verF l)) st E c i = noteB (vfN l) st E c i ∧ noteE (ofF (verF l)) st E c i = noteE (vfN l) st E c i ∧ noteT (ofF (verF l)) cl st E c i = noteT (vfN l) cl st E c i := by
  have e : ofF (verF l) c i = vfN l c i := ofF_is l c i hk
  have hv := validB_now (l := l) hE
  unfold noteB noteE noteT
  rw [e, hv]
  exact ⟨rfl, rfl, rfl⟩

theorem find_some {E : List En} (j : Nat) (hj : j < E.length) : (findE E E[j]!.1 E[j]!.2.1).isSome = true := by
  unfold findE
  rw [List.find?_isSome]
  refine ⟨E[j], List.getElem_mem hj, ?_⟩
  rw [getElem!_pos E j hj]
  simp

section
variable {w w' : World} {b m : Nat} {v vt vv : Value} {st s2 : Int} {E E2 : List En} {row : Option Nat}

theorem RefAt.kept (h : RefAt w b vt vv st E) (hg : w.grownBy w' row) (hr : ∀ r, row = some r → ∃ o : Obj, w.heap[r]? = some o ∧ o.isCells = false) : RefAt w' b vt vv st E := h.keep fun k hk => by
  rcases hk with e | ⟨x, hx, e⟩
  · rw [e]; exact same_cells hg hr h.at_
  · simp at hx
    rcases hx with rfl | rfl
    · obtain ⟨cs, hc⟩ := own_at h.th e
      exact same_cells hg hr hc
    · obtain ⟨cs, hc⟩ := own_at h.ve e
      exact same_cells hg hr hc

theorem ref_free {X : Nat} {cs : Array Value} {t : TypeId} {q : Nat × Nat} (h : RefAt w b vt vv st E) (hx : w.heap[X]? = some (.cells cs t q)) (h1 : t ≠ 34) (h2 : t ≠ 36) (h3 : t ≠ 3) : ¬ Foot b [vt, vv] X := fun e => by
  rcases e with e | ⟨x, hx', e⟩
  · rw [e] at hx
    exact block_ne hx h.at_ h1 rfl
  · simp at hx'
    rcases hx' with rfl | rfl
    · obtain ⟨cs, hc⟩ := own_at h.th e
      exact block_ne hx hc h2 rfl
    · obtain ⟨cs, hc⟩ := own_at h.ve e
      exact block_ne hx hc h3 rfl

theorem set_ref (h : SetAt w b v st E) (k : RefAt w m vt vv s2 E2) : ∀ q, Foot m [vt, vv] q → ¬ Foot b [v] q := fun q hq hb => by
  rcases hb with e | ⟨x, hx, e⟩
  · exact ref_free k (X := q) (by rw [e]; exact h.at_) (by decide) (by decide) (by decide) hq
  · simp at hx
    subst hx
    obtain ⟨cs, hc⟩ := own_at h.owns e
    exact ref_free k hc (by decide) (by decide) (by decide) hq

end

/-- What lies between two steps. -/
structure LN (B : Nat) (w0 W : World) (C mw b m P Q k : Nat) (A : List Th) (st : Int) (E : List En) (v u vt vv : Value) : Prop where
  s : SetAt W b v st E
  w : WoAt W mw u A
  r : RefAt W m vt vv st E
  fs : ∀ q, Foot b [v] q → C ≤ q
  fw : ∀ q, Foot mw [u] q → C ≤ q
  fr : ∀ q, Foot m [vt, vv] q → C ≤ q
  ap : ∀ q, Foot mw [u] q → ¬ Foot m [vt, vv] q
  res : W.heap[B]? = some (.cells #[.bool false] 4 (0, 0))
  ps : W.heap[P]? = some (.cells #[.pointer (some ⟨b, 0, none⟩)] 29 (0, 0))
  pm : W.heap[Q]? = some (.cells #[.pointer (some ⟨m, 0, none⟩)] 31 (0, 0))
  below : Below B w0 W
  far : B < C
  is : IsE E
  alen : A.length ≤ 40 + k
  elen : E.length ≤ k

section
variable {B C mw b m P Q k : Nat} {w0 W W' W1 W2 : World} {A : List Th} {st : Int} {E : List En} {v u vt vv : Value}

theorem LN.size (h : LN B w0 W C mw b m P Q k A st E v u vt vv) : C ≤ W.heap.size := by
  have := h.fs b (.inl rfl)
  have := h.s.lt
  omega
theorem LN.sizeB (h : LN B w0 W C mw b m P Q k A st E v u vt vv) : B ≤ W.heap.size := by have := h.size; have := h.far; omega

theorem LN.grown (h : LN B w0 W C mw b m P Q k A st E v u vt vv) (hb : Below W.heap.size W W') : LN B w0 W' C mw b m P Q k A st E v u vt vv :=
  ⟨h.s.grown hb, h.w.grown hb, h.r.grown hb, h.fs, h.fw, h.fr, h.ap, (hb.block _ (Array.getElem?_eq_some_iff.1 h.res).1).trans h.res, (hb.block _ (Array.getElem?_eq_some_iff.1 h.ps).1).trans h.ps,
    (hb.block _ (Array.getElem?_eq_some_iff.1 h.pm).1).trans h.pm, h.below.trans (hb.mono h.sizeB), h.far, h.is, h.alen, h.elen⟩

theorem LN.kept {row : Option Nat} {S : Nat} (h : LN B w0 W C mw b m P Q k A st E v u vt vv) (hg : W.grownBy W' row) (hr : ∀ r, row = some r → S ≤ r ∧ ∃ o : Obj, W.heap[r]? = some o ∧ o.isCells = false) (hS : B ≤ S) : LN B w0 W' C mw b m P Q k A st E v u vt vv := by
  have hr2 : ∀ r, row = some r → ∃ o : Obj, W.heap[r]? = some o ∧ o.isCells = false := fun r e => (hr r e).2
  exact ⟨h.s.kept hg hr2, h.w.kept hg hr2, h.r.kept hg hr2, h.fs, h.fw, h.fr, h.ap, block_kept h.res hg hr2, block_kept h.ps hg hr2, block_kept h.pm hg hr2, h.below.grown hg h.sizeB (fun q e => Nat.le_trans hS (hr q e).1), h.far, h.is, h.alen, h.elen⟩

/-- A change. -/
theorem LN.change {u' : Value} {x : Th} (h : LN B w0 W C mw b m P Q k A st E v u vt vv) (hw2 : WoAt W' mw u' (A ++ [x])) (hr : Wrote (Foot mw [u]) (Foot mw [u']) W W') : LN B w0 W' C mw b m P Q (k + 1) (A ++ [x]) st E v u' vt vv := by
  have hz := h.size
  have hf := h.far
  refine ⟨h.s.keep fun q hq => hr.block q (h.s.foot_lt q hq) (fun e => set_wo h.s h.w q e hq), hw2, h.r.keep fun q hq => hr.block q (h.r.foot_lt q hq) (fun e => h.ap q e hq), h.fs, hr.lo hz h.fw, h.fr, fun q hq e => ?_,
    (hr.block _ (Array.getElem?_eq_some_iff.1 h.res).1 (wo_free h.w h.res (by decide) (by decide))).trans h.res, (hr.block _ (Array.getElem?_eq_some_iff.1 h.ps).1 (wo_free h.w h.ps (by decide) (by decide))).trans h.ps, (hr.block _ (Array.getElem?_eq_some_iff.1 h.pm).1 (wo_free h.w h.pm (by decide) (by decide))).trans h.pm,
    h.below.trans (hr.below h.sizeB (fun q hq => by have := h.fw q hq; omega)), hf, h.is, ?_, by have := h.elen; omega⟩
  · rcases hr.own q hq with hq' | hq'
    · exact h.ap q hq' e
    · have := h.r.foot_lt q e
      omega
  · have := h.alen
    simp
    omega

/-- Behind the program's Note. -/
theorem LN.mid {v' : Value} (h : LN B w0 W C mw b m P Q k A st E v u vt vv) (hr : Wrote (Foot b [v]) (Foot b [v']) W W1) :
    WoAt W1 mw u A ∧ RefAt W1 m vt vv st E ∧ W1.heap[B]? = some (.cells #[.bool false] 4 (0, 0)) ∧ W1.heap[P]? = some (.cells #[.pointer (some ⟨b, 0, none⟩)] 29 (0, 0)) ∧ W1.heap[Q]? = some (.cells #[.pointer (some ⟨m, 0, none⟩)] 31 (0, 0)) :=
  ⟨h.w.keep fun q hq => hr.block q (h.w.foot_lt q hq) (fun e => set_wo h.s h.w q hq e), h.r.keep fun q hq => hr.block q (h.r.foot_lt q hq) (fun e => set_ref h.s h.r q hq e),
    (hr.block _ (Array.getElem?_eq_some_iff.1 h.res).1 (box_free h.s h.res (by decide) (by decide))).trans h.res, (hr.block _ (Array.getElem?_eq_some_iff.1 h.ps).1 (box_free h.s h.ps (by decide) (by decide))).trans h.ps, (hr.block _ (Array.getElem?_eq_some_iff.1 h.pm).1 (box_free h.s h.pm (by decide) (by decide))).trans h.pm⟩

/-- Behind both. -/
theorem LN.notes {v' vt' vv' : Value} {st2 : Int} {E2 : List En} (h : LN B w0 W C mw b m P Q k A st E v u vt vv) (hs : SetAt W1 b v' st2 E2) (hr1 : Wrote (Foot b [v]) (Foot b [v']) W W1)
    (hm : RefAt W2 m vt' vv' st2 E2) (hr2 : Wrote (Foot m [vt, vv]) (Foot m [vt', vv']) W1 W2) (hi : IsE E2) (hl : E2.length ≤ E.length + 1) : LN B w0 W2 C mw b m P Q (k + 1) A st2 E2 v' u vt' vv' := by
  obtain ⟨w1, r1, e1, e2, e3⟩ := h.mid hr1
  have hz := h.size
  have hz1 := hr1.size
  have hf := h.far
  refine ⟨hs.keep fun q hq => hr2.block q (hs.foot_lt q hq) (fun e => set_ref hs r1 q e hq), w1.keep fun q hq => hr2.block q (w1.foot_lt q hq) (fun e => h.ap q hq e), hm, hr1.lo hz h.fs, h.fw, hr2.lo (by omega) h.fr, fun q hq e => ?_,
    (hr2.block _ (Array.getElem?_eq_some_iff.1 e1).1 (ref_free r1 e1 (by decide) (by decide) (by decide))).trans e1, (hr2.block _ (Array.getElem?_eq_some_iff.1 e2).1 (ref_free r1 e2 (by decide) (by decide) (by decide))).trans e2, (hr2.block _ (Array.getElem?_eq_some_iff.1 e3).1 (ref_free r1 e3 (by decide) (by decide) (by decide))).trans e3,
    (h.below.trans (hr1.below h.sizeB (fun q hq => by have := h.fs q hq; omega))).trans (hr2.below (by omega) (fun q hq => by have := h.fr q hq; omega)), hf, hi, by have := h.alen; omega, by have := h.elen; omega⟩
  rcases hr2.own q e with hq' | hq'
  · exact h.ap q hq hq'
  · have := w1.foot_lt q hq
    omega

/-- Behind the loop: the number of entries, in a box of its own. -/
structure LA (B : Nat) (w0 W : World) (C mw b m P Q k : Nat) (A : List Th) (st : Int) (E : List En) (v u vt vv : Value) (N : Nat) (n : Int) : Prop where
  ln : LN B w0 W C mw b m P Q k A st E v u vt vv
  n : W.heap[N]? = some (.cells #[.int .i64 n] 3 (0, 0))
  top : ∀ q, Foot m [vt, vv] q → q < N
  lo : C ≤ N

theorem LA.grown {N : Nat} {n : Int} (h : LA B w0 W C mw b m P Q k A st E v u vt vv N n) (hb : Below W.heap.size W W') : LA B w0 W' C mw b m P Q k A st E v u vt vv N n :=
  ⟨h.ln.grown hb, (hb.block _ (Array.getElem?_eq_some_iff.1 h.n).1).trans h.n, h.top, h.lo⟩

theorem LA.kept {row : Option Nat} {S N : Nat} {n : Int} (h : LA B w0 W C mw b m P Q k A st E v u vt vv N n) (hg : W.grownBy W' row) (hr : ∀ r, row = some r → S ≤ r ∧ ∃ o : Obj, W.heap[r]? = some o ∧ o.isCells = false) (hS : B ≤ S) : LA B w0 W' C mw b m P Q k A st E v u vt vv N n :=
  ⟨h.ln.kept hg hr hS, block_kept h.n hg (fun r e => (hr r e).2), h.top, h.lo⟩

/-- The number is set. -/
theorem LA.number {N : Nat} {n : Int} (h : LA B w0 W C mw b m P Q k A st E v u vt vv N n) (y : Int) : LA B w0 (W.setCell ⟨N, 0, none⟩ (.int .i64 y)) C mw b m P Q k A st E v u vt vv N y := by
  have hf := h.ln.far
  have hlo := h.lo
  have key : ∀ {p : Nat}, p ≠ N → (W.setCell ⟨N, 0, none⟩ (.int .i64 y)).heap[p]? = W.heap[p]? := fun hp => Below.heap_setCell _ _ _ _ hp
  refine ⟨⟨h.ln.s.keep fun p hp => key (fun e => box_free h.ln.s h.n (by decide) (by decide) (e ▸ hp)), h.ln.w.keep fun p hp => key (fun e => wo_free h.ln.w h.n (by decide) (by decide) (e ▸ hp)), h.ln.r.keep fun p hp => key (fun e => by have := h.top p hp; omega),
    h.ln.fs, h.ln.fw, h.ln.fr, h.ln.ap, (key (block_ne h.ln.res h.n (by decide))).trans h.ln.res, (key (block_ne h.ln.ps h.n (by decide))).trans h.ln.ps, (key (block_ne h.ln.pm h.n (by decide))).trans h.ln.pm,
    h.ln.below.setCell (p := ⟨N, 0, none⟩) (by show B ≤ N; omega) _, hf, h.ln.is, h.ln.alen, h.ln.elen⟩, ?_, h.top, h.lo⟩
  rw [heap_set _ h.n]
  simp

end

end Go.Proofs.Ytafpfioonbdgnaa.Rds
