/-
  A draft of a law's own, beside the law's own boxes, from world to world; two drafts that share no block.
-/
import Derived.Test.YtocdnlnhjfigjaaDfAlive
namespace Go.Proofs.Ytocdnlnhjfigjaa.Dft
open Go.RowKit Go.Shelf Go.Proofs.Ytocdnlnhjfigjaa.Cel Go.Proofs.Ytocdnlnhjfigjaa.Rng Go.Proofs.Ytocdnlnhjfigjaa.Dft.I

theorem grown_of_below {w w' : World} (h : Below w.heap.size w w') : w.grownBy w' none := ⟨h.os, h.tape, h.output, h.size, fun k hk _ => h.block k hk⟩

theorem block_kept {A W : World} {row : Option Nat} {B : Nat} {cs : Array Value} {t : TypeId} {m : Nat × Nat} (h : A.heap[B]? = some (.cells cs t m)) (hg : A.grownBy W row) (hr : ∀ r, row = some r → ∃ o : Obj, A.heap[r]? = some o ∧ o.isCells = false) : W.heap[B]? = some (.cells cs t m) := by
  rw [hg.block B (Array.getElem?_eq_some_iff.1 h).1 (fun e => ?_)]
  · exact h
  · obtain ⟨o, ho, hw⟩ := hr B e.symm
    rw [h] at ho; cases ho; cases hw

theorem others_below {w w' : World} (h : Below w.heap.size w w') (B : Nat) : KeepsFrom B w w' := ⟨h.size, fun k _ _ hk _ => (h.block k (Array.getElem?_eq_some_iff.1 hk).1).trans hk⟩
theorem others_set (B : Nat) (w : World) (a : Addr) (x : Value) : KeepsFrom B w (w.setCell a x) := (KeepsOthers.setCell w a x).from B

/-- A box: where it lies, its cells, its type. -/
abbrev Bx := Nat × Array Value × TypeId

/-- The boxes lie there. -/
def Boxes (W : World) (l : List Bx) : Prop := ∀ x ∈ l, W.heap[x.1]? = some (.cells x.2.1 x.2.2 (0, 0)) ∧ x.2.2 ≠ 27 ∧ x.2.2 ≠ 51

section
variable {W W' : World} {l : List Bx}

theorem Boxes.nil (W : World) : Boxes W [] := fun _ h => by cases h
theorem Boxes.cons {x : Bx} (h : Boxes W l) (hx : W.heap[x.1]? = some (.cells x.2.1 x.2.2 (0, 0))) (h1 : x.2.2 ≠ 27) (h2 : x.2.2 ≠ 51) : Boxes W (x :: l) := fun y hy => by
  rcases List.mem_cons.1 hy with rfl | hy
  · exact ⟨hx, h1, h2⟩
  · exact h y hy
theorem Boxes.tail {x : Bx} (h : Boxes W (x :: l)) : Boxes W l := fun y hy => h y (List.mem_cons_of_mem _ hy)
theorem Boxes.grown (h : Boxes W l) (hb : Below W.heap.size W W') : Boxes W' l := fun x hx => ⟨(hb.block x.1 (Array.getElem?_eq_some_iff.1 (h x hx).1).1).trans (h x hx).1, (h x hx).2⟩
theorem Boxes.wrote {b : Nat} {v : Value} {R : List (Int × Int)} {F : Nat → Prop} (h : Boxes W l) (hd : DraftAt W b v R) (hw : Wrote (Foot b [v]) F W W') : Boxes W' l := fun x hx => by
  obtain ⟨h1, h2, h3⟩ := h x hx
  refine ⟨(hw.block x.1 (Array.getElem?_eq_some_iff.1 h1).1 (fun e => ?_)).trans h1, h2, h3⟩
  rcases e with e | ⟨y, hy, e⟩
  · rw [e, hd.at_] at h1
    injection h1 with h1
    injection h1 with _ h1
    exact h2 h1.symm
  · simp at hy
    subst hy
    obtain ⟨cs, hc⟩ := own_at hd.owns e
    rw [hc] at h1
    injection h1 with h1
    injection h1 with _ h1
    exact h3 h1.symm
theorem Boxes.kept {row : Option Nat} (h : Boxes W l) (hg : W.grownBy W' row) (hr : ∀ r, row = some r → ∃ o : Obj, W.heap[r]? = some o ∧ o.isCells = false) : Boxes W' l := fun x hx => ⟨block_kept (h x hx).1 hg hr, (h x hx).2⟩
theorem Boxes.set {x : Bx} {i : Nat} (h : Boxes W (x :: l)) (y : Value) (hne : ∀ z ∈ l, z.1 ≠ x.1) : Boxes (W.setCell ⟨x.1, i, none⟩ y) ((x.1, x.2.1.setIfInBounds i y, x.2.2) :: l) := fun z hz => by
  rcases List.mem_cons.1 hz with rfl | hz
  · obtain ⟨h1, h2⟩ := h x List.mem_cons_self
    exact ⟨heap_set y h1, h2⟩
  · obtain ⟨h1, h2⟩ := h z (List.mem_cons_of_mem _ hz)
    exact ⟨(Below.heap_setCell _ _ _ _ (hne z hz)).trans h1, h2⟩
end

theorem I.DraftAt.kept {W W' : World} {b : Nat} {v : Value} {R : List (Int × Int)} {row : Option Nat} (h : DraftAt W b v R) (hg : W.grownBy W' row) (hr : ∀ r, row = some r → ∃ o : Obj, W.heap[r]? = some o ∧ o.isCells = false) : DraftAt W' b v R := by
  refine ⟨block_kept h.at_ hg hr, ownsRow_carry h.owns fun k hk => ?_, h.up⟩
  obtain ⟨cs, hc⟩ := own_at h.owns hk
  exact (block_kept hc hg hr).trans hc.symm

theorem I.DraftAt.setBox {W : World} {b k i : Nat} {v x : Value} {R : List (Int × Int)} {cs : Array Value} {t : TypeId} {m : Nat × Nat} (h : DraftAt W b v R) (hk : W.heap[k]? = some (.cells cs t m)) (h1 : t ≠ 27) (h2 : t ≠ 51) : DraftAt (W.setCell ⟨k, i, none⟩ x) b v R :=
  h.keep fun q hq => Below.heap_setCell _ _ _ _ (fun e => by
    have e : q = k := e
    subst e
    rcases hq with e | ⟨y, hy, e⟩
    · subst e
      rw [h.at_] at hk
      injection hk with hk
      injection hk with _ hk _
      exact h1 hk.symm
    · simp at hy
      subst hy
      obtain ⟨cs', hc⟩ := own_at h.owns e
      rw [hc] at hk
      injection hk with hk
      injection hk with _ hk _
      exact h2 hk.symm)

/-- A draft of the law's own, its boxes, and all that came in. -/
structure St (B : Nat) (w W : World) (b : Nat) (v : Value) (R : List (Int × Int)) (bx : List Bx) : Prop where
  d : DraftAt W b v R
  lo : ∀ k, Foot b [v] k → B ≤ k
  bx : Boxes W bx
  below : Below B w W

section
variable {B b : Nat} {w W W' : World} {v : Value} {R R' : List (Int × Int)} {bx : List Bx}

theorem St.size (h : St B w W b v R bx) : B ≤ W.heap.size := by
  have := h.lo b (.inl rfl)
  have := h.d.lt
  omega
theorem St.grown (h : St B w W b v R bx) (hb : Below W.heap.size W W') : St B w W' b v R bx := ⟨h.d.grown hb, h.lo, h.bx.grown hb, h.below.trans (hb.mono h.size)⟩
theorem St.put {v' : Value} (h : St B w W b v R bx) (hd : DraftAt W' b v' R') (hw : Wrote (Foot b [v]) (Foot b [v']) W W') : St B w W' b v' R' bx :=
  ⟨hd, hw.lo h.size h.lo, h.bx.wrote h.d hw, h.below.trans (hw.below h.size h.lo)⟩
theorem St.kept {S : Nat} {row : Option Nat} (h : St B w W b v R bx) (hg : W.grownBy W' row) (hr : ∀ r, row = some r → S ≤ r ∧ ∃ o : Obj, W.heap[r]? = some o ∧ o.isCells = false) (hS : B ≤ S) : St B w W' b v R bx :=
  ⟨h.d.kept hg fun r e => (hr r e).2, h.lo, h.bx.kept hg fun r e => (hr r e).2, h.below.grown hg h.size fun k e => Nat.le_trans hS (hr k e).1⟩
theorem St.box {x : Bx} (h : St B w W b v R (x :: bx)) : W.heap[x.1]? = some (.cells x.2.1 x.2.2 (0, 0)) := (h.bx x List.mem_cons_self).1
theorem St.more {x : Bx} (h : St B w W b v R bx) (hx : W.heap[x.1]? = some (.cells x.2.1 x.2.2 (0, 0))) (h1 : x.2.2 ≠ 27) (h2 : x.2.2 ≠ 51) : St B w W b v R (x :: bx) := ⟨h.d, h.lo, h.bx.cons hx h1 h2, h.below⟩
theorem St.less {x : Bx} (h : St B w W b v R (x :: bx)) : St B w W b v R bx := ⟨h.d, h.lo, h.bx.tail, h.below⟩
theorem St.set {x : Bx} {i : Nat} (h : St B w W b v R (x :: bx)) (y : Value) (hne : ∀ z ∈ bx, z.1 ≠ x.1) (hB : B ≤ x.1) : St B w (W.setCell ⟨x.1, i, none⟩ y) b v R ((x.1, x.2.1.setIfInBounds i y, x.2.2) :: bx) := by
  obtain ⟨h1, h2, h3⟩ := h.bx x List.mem_cons_self
  exact ⟨h.d.setBox h1 h2 h3, h.lo, h.bx.set y hne, h.below.setCell hB _⟩

/-- Another draft beside it, that shares no block with it. -/
structure St2 (B : Nat) (w W : World) (b : Nat) (v : Value) (R : List (Int × Int)) (c : Nat) (u : Value) (Q : List (Int × Int)) (bx : List Bx) : Prop where
  s : St B w W b v R bx
  o : DraftAt W c u Q
  lo : ∀ k, Foot c [u] k → B ≤ k
  far : ∀ k, Foot b [v] k → ¬ Foot c [u] k

variable {c : Nat} {u : Value} {Q : List (Int × Int)}

theorem St2.swap (h : St2 B w W b v R c u Q bx) : St2 B w W c u Q b v R bx := ⟨⟨h.o, h.lo, h.s.bx, h.s.below⟩, h.s.d, h.s.lo, fun k e e' => h.far k e' e⟩
theorem St2.grown (h : St2 B w W b v R c u Q bx) (hb : Below W.heap.size W W') : St2 B w W' b v R c u Q bx := ⟨h.s.grown hb, h.o.grown hb, h.lo, h.far⟩
theorem St2.put {v' : Value} (h : St2 B w W b v R c u Q bx) (hd : DraftAt W' b v' R') (hw : Wrote (Foot b [v]) (Foot b [v']) W W') : St2 B w W' b v' R' c u Q bx :=
  ⟨h.s.put hd hw, h.o.keep fun k hk => hw.block k (h.o.foot_lt k hk) (fun e => h.far k e hk), h.lo, fun k e e' => by
    rcases hw.own k e with e | e
    · exact h.far k e e'
    · have := h.o.foot_lt k e'; omega⟩
theorem St2.kept {S : Nat} {row : Option Nat} (h : St2 B w W b v R c u Q bx) (hg : W.grownBy W' row) (hr : ∀ r, row = some r → S ≤ r ∧ ∃ o : Obj, W.heap[r]? = some o ∧ o.isCells = false) (hS : B ≤ S) : St2 B w W' b v R c u Q bx :=
  ⟨h.s.kept hg hr hS, h.o.kept hg fun r e => (hr r e).2, h.lo, h.far⟩
theorem St2.more {x : Bx} (h : St2 B w W b v R c u Q bx) (hx : W.heap[x.1]? = some (.cells x.2.1 x.2.2 (0, 0))) (h1 : x.2.2 ≠ 27) (h2 : x.2.2 ≠ 51) : St2 B w W b v R c u Q (x :: bx) := ⟨h.s.more hx h1 h2, h.o, h.lo, h.far⟩
theorem St2.set {x : Bx} {i : Nat} (h : St2 B w W b v R c u Q (x :: bx)) (y : Value) (hne : ∀ z ∈ bx, z.1 ≠ x.1) (hB : B ≤ x.1) : St2 B w (W.setCell ⟨x.1, i, none⟩ y) b v R c u Q ((x.1, x.2.1.setIfInBounds i y, x.2.2) :: bx) := by
  obtain ⟨h1, h2, h3⟩ := h.s.bx x List.mem_cons_self
  exact ⟨h.s.set y hne hB, h.o.setBox h1 h2 h3, h.lo, h.far⟩
/-- A new one beside it. -/
theorem St.beside (h : St B w W b v R bx) (hb : Below W.heap.size W W') (hd : DraftAt W' c u Q) (hf : ∀ k, Foot c [u] k → W.heap.size ≤ k) : St2 B w W' b v R c u Q bx :=
  ⟨h.grown hb, hd, fun k hk => by have := hf k hk; have := h.size; omega, fun k e e' => by have := h.d.foot_lt k e; have := hf k e'; omega⟩
end

theorem keeps_refl (B : Nat) (w : World) : KeepsFrom B w w := ⟨Nat.le_refl _, fun _ _ _ h _ => h⟩

theorem owns_kept {W W' : World} {Z e size n : Nat} {v : Value} {xs : List Value} {row : Option Nat} (h : W.ownsRow Z e size v n xs) (hg : W.grownBy W' row) (hr : ∀ r, row = some r → ∃ o : Obj, W.heap[r]? = some o ∧ o.isCells = false) : W'.ownsRow Z e size v n xs :=
  ownsRow_carry h fun k hk => by
    obtain ⟨cs, hc⟩ := own_at h hk
    exact (block_kept hc hg hr).trans hc.symm

/-- Beside a draft and the boxes: numbers, and how many of them were met. -/
structure P2 (B : Nat) (w W : World) (b : Nat) (v : Value) (R : List (Int × Int)) (bx : List Bx) (K : Nat) (u : Value) (NS : List Int) (n : Int) : Prop where
  s : St B w W b v R ((K + 1, #[.int .i64 n], 3) :: (K, #[u], 34) :: bx)
  row : W.ownsRow 0 3 1 u NS.length (nuC NS)
  lt : ∀ q, u.ownBlock = some q → q < K
  far : ∀ x ∈ bx, x.1 < K
  lo : B ≤ K

section
variable {B b K : Nat} {w W W' : World} {v u : Value} {R : List (Int × Int)} {bx : List Bx} {NS : List Int} {n : Int}

theorem P2.grown (h : P2 B w W b v R bx K u NS n) (hb : Below W.heap.size W W') : P2 B w W' b v R bx K u NS n :=
  ⟨h.s.grown hb, ownsRow_carry h.row fun k hk => hb.block k (h.row.lt k hk).2, h.lt, h.far, h.lo⟩
theorem P2.kept {S : Nat} {row : Option Nat} (h : P2 B w W b v R bx K u NS n) (hg : W.grownBy W' row) (hr : ∀ r, row = some r → S ≤ r ∧ ∃ o : Obj, W.heap[r]? = some o ∧ o.isCells = false) (hS : B ≤ S) : P2 B w W' b v R bx K u NS n :=
  ⟨h.s.kept hg hr hS, owns_kept h.row hg fun r e => (hr r e).2, h.lt, h.far, h.lo⟩
theorem P2.number (h : P2 B w W b v R bx K u NS n) (m : Int) : P2 B w (W.setCell ⟨K + 1, 0, none⟩ (.int .i64 m)) b v R bx K u NS m := by
  refine ⟨?_, ownsRow_carry h.row fun k hk => Below.heap_setCell _ _ _ _ (fun e => by have := h.lt k hk; have e : k = K + 1 := e; omega), h.lt, h.far, h.lo⟩
  exact h.s.set (.int .i64 m) (fun z hz => by
    rcases List.mem_cons.1 hz with rfl | hz
    · show K ≠ K + 1; omega
    · have := h.far z hz; show z.1 ≠ K + 1; omega) (by show B ≤ K + 1; have := h.lo; omega)
theorem P2.kc (h : P2 B w W b v R bx K u NS n) : W.heap[K + 1]? = some (.cells #[.int .i64 n] 3 (0, 0)) := h.s.box
theorem P2.uc (h : P2 B w W b v R bx K u NS n) : W.heap[K]? = some (.cells #[u] 34 (0, 0)) := h.s.less.box
theorem P2.bxs (h : P2 B w W b v R bx K u NS n) : Boxes W bx := h.s.less.less.bx
end

end Go.Proofs.Ytocdnlnhjfigjaa.Dft
