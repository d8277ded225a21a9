/-
  A log in memory, and what calls on it leave of the world.
-/
import Derived.Test.YtcofiidibhmhgaaDTwo
import Derived.Test.YtcofiidibhmhgaaWhole
namespace Go.Proofs.Ytcofiidibhmhgaa
open Go.RowKit

theorem ne_block {w : World} {i j : Nat} {cs cs' : Array Value} {t t' : TypeId} {m m' : Nat × Nat} (h : w.heap[i]? = some (.cells cs t m)) (h' : w.heap[j]? = some (.cells cs' t' m')) (ht : t ≠ t') : i ≠ j := by
  rintro rfl
  rw [h] at h'
  injection h' with h'
  injection h' with _ h'
  exact ht h'

theorem own_block {w : World} {e size n : Nat} {v : Value} {xs : List Value} (h : w.ownsRow 0 e size v n xs) (k : Nat) (hk : v.ownBlock = some k) : ∃ cur, w.heap[k]? = some (.cells cur e (0, 0)) := by
  rcases h.2 with ⟨rfl, _⟩ | ⟨g, cap, cur, rfl, _, hg, _⟩
  · simp [Value.ownBlock] at hk
  · simp [Value.ownBlock] at hk
    subst hk
    exact ⟨cur, hg⟩

/-- The log in block lb, on area o of the disk in block b; torn or not. -/
structure LogAt (w : World) (lb b : Nat) (o tn : Bool) : Prop where
  at_ : w.heap[lb]? = some (.cells #[.pointer (some ⟨b, 0, none⟩), .int .i64 (ar o), .bool tn] 76 (0, 0))

/-- What calls on a log left: its own block, its disk's, the row that this had, and new blocks alone are others. -/
structure WroteL (lb b : Nat) (v : Value) (w : World) (v' : Value) (w' : World) : Prop where
  os : w'.os = w.os
  tape : w'.tape = w.tape
  output : w'.output = w.output
  size : w.heap.size ≤ w'.heap.size
  block : ∀ k, k < w.heap.size → k ≠ lb → k ≠ b → v.ownBlock ≠ some k → w'.heap[k]? = w.heap[k]?
  own : ∀ k, v'.ownBlock = some k → v.ownBlock = some k ∨ w.heap.size ≤ k

section
variable {w w' : World} {lb b : Nat} {v v' : Value} {o tn : Bool} {dn ws dn' ws' : List Ch}

theorem Wrote.log (h : Wrote b v w v' w') (lb : Nat) : WroteL lb b v w v' w' := ⟨h.os, h.tape, h.output, h.size, fun k hk _ h1 h2 => h.block k hk h1 h2, h.own⟩

theorem LogAt.lt (h : LogAt w lb b o tn) : lb < w.heap.size := (Array.getElem?_eq_some_iff.1 h.at_).1
theorem LogAt.c0 (h : LogAt w lb b o tn) : w.cell? ⟨lb, 0, none⟩ = some (.pointer (some ⟨b, 0, none⟩)) := by simp [World.cell?, h.at_]
theorem LogAt.c1 (h : LogAt w lb b o tn) : w.cell? ⟨lb, 1, none⟩ = some (.int .i64 (ar o)) := by simp [World.cell?, h.at_]
theorem LogAt.c2 (h : LogAt w lb b o tn) : w.cell? ⟨lb, 2, none⟩ = some (.bool tn) := by simp [World.cell?, h.at_]
theorem LogAt.fz (h : LogAt w lb b o tn) (i : Nat) : w.frozen? ⟨lb, i, none⟩ = false := by simp [World.frozen?, h.at_]
theorem LogAt.carry (h : LogAt w lb b o tn) (hb : w'.heap[lb]? = w.heap[lb]?) : LogAt w' lb b o tn := ⟨hb.trans h.at_⟩
theorem LogAt.grown (h : LogAt w lb b o tn) (hb : Below w.heap.size w w') : LogAt w' lb b o tn := h.carry (hb.block lb h.lt)
theorem LogAt.drew (h : LogAt w lb b o tn) : LogAt w.drew lb b o tn := ⟨h.at_⟩
theorem Has.drew (h : Has w b v dn ws) : Has w.drew b v dn ws := h.carry rfl fun _ _ => rfl

/-- A block of another type is none of a disk's. -/
theorem Has.not (h : Has w b v dn ws) {k : Nat} {cs : Array Value} {t : TypeId} {m : Nat × Nat} (hk : w.heap[k]? = some (.cells cs t m)) (h1 : t ≠ 55) (h2 : t ≠ 59) : k ≠ b ∧ v.ownBlock ≠ some k := by
  refine ⟨ne_block hk h.dsk.at_ h1, fun e => ?_⟩
  obtain ⟨cur, hc⟩ := own_block h.dsk.owns k e
  exact ne_block hk hc h2 rfl

theorem LogAt.not (h : LogAt w lb b o tn) {k : Nat} {cs : Array Value} {t : TypeId} {m : Nat × Nat} (hk : w.heap[k]? = some (.cells cs t m)) (h1 : t ≠ 76) : k ≠ lb := ne_block hk h.at_ h1

/-- Another block, of another type, behind a disk's calls; behind a log's. -/
theorem Wrote.other (hw : Wrote b v w v' w') (h : Has w b v dn ws) {k : Nat} {cs : Array Value} {t : TypeId} {m : Nat × Nat} (hk : w.heap[k]? = some (.cells cs t m)) (h1 : t ≠ 55) (h2 : t ≠ 59) : w'.heap[k]? = w.heap[k]? :=
  hw.block k (Array.getElem?_eq_some_iff.1 hk).1 (h.not hk h1 h2).1 (h.not hk h1 h2).2
theorem WroteL.other {b0 : Nat} (hw : WroteL lb b v w v' w') (h : Has w b v dn ws) (hl : LogAt w lb b0 o tn) {k : Nat} {cs : Array Value} {t : TypeId} {m : Nat × Nat} (hk : w.heap[k]? = some (.cells cs t m)) (h1 : t ≠ 55) (h2 : t ≠ 59) (h3 : t ≠ 76) : w'.heap[k]? = w.heap[k]? :=
  hw.block k (Array.getElem?_eq_some_iff.1 hk).1 (hl.not hk h3) (h.not hk h1 h2).1 (h.not hk h1 h2).2

theorem LogAt.disk {b0 : Nat} (hl : LogAt w lb b0 o tn) (h : Has w b v dn ws) (hw : Wrote b v w v' w') : LogAt w' lb b0 o tn := hl.carry (hw.other h hl.at_ (by decide) (by decide))

theorem WroteL.below {B : Nat} (h : WroteL lb b v w v' w') (hB : B ≤ w.heap.size) (hl : B ≤ lb) (hb : B ≤ b) (hv : ∀ k, v.ownBlock = some k → B ≤ k) : Below B w w' :=
  ⟨h.os, h.tape, h.output, h.size, fun k hk => h.block k (by omega) (by omega) (by omega) (fun e => by have := hv k e; omega)⟩

theorem WroteL.own_from {B : Nat} (h : WroteL lb b v w v' w') (hB : B ≤ w.heap.size) (hv : ∀ k, v.ownBlock = some k → B ≤ k) : ∀ k, v'.ownBlock = some k → B ≤ k := fun k hk => by
  rcases h.own k hk with e | e
  · exact hv k e
  · omega

end

/-- A log, and its disk, of the law's own. -/
structure ML (B : Nat) (w0 w : World) (lb b : Nat) (v : Value) (o tn : Bool) (dn ws : List Ch) : Prop where
  d : Mine B w0 w b v dn ws
  l : LogAt w lb b o tn
  le : B ≤ lb

section
variable {B : Nat} {w0 w w' : World} {lb b : Nat} {v v' : Value} {o tn tn' : Bool} {dn ws dn' ws' : List Ch}

theorem ML.lo (h : ML B w0 w lb b v o tn dn ws) : B ≤ w.heap.size := h.d.lo
theorem ML.step (h : ML B w0 w lb b v o tn dn ws) (h1 : Has w' b v' dn' ws') (hw : Wrote b v w v' w') : ML B w0 w' lb b v' o tn dn' ws' :=
  ⟨h.d.step h1 hw, h.l.disk h.d.has hw, h.le⟩
theorem ML.stepL (h : ML B w0 w lb b v o tn dn ws) (h1 : Has w' b v' dn' ws') (h2 : LogAt w' lb b o tn') (hw : WroteL lb b v w v' w') : ML B w0 w' lb b v' o tn' dn' ws' :=
  ⟨⟨h1, h.d.le, hw.own_from h.lo h.d.own, h.d.below.trans (hw.below h.lo h.le h.d.le h.d.own)⟩, h2, h.le⟩
theorem ML.grow (h : ML B w0 w lb b v o tn dn ws) (hb : Below w.heap.size w w') : ML B w0 w' lb b v o tn dn ws := ⟨h.d.grow hb, h.l.grown hb, h.le⟩
/-- Opened anew. -/
theorem Mine.opened (h : Mine B w0 w b v dn ws) (hl : LogAt w' w.heap.size b o tn) (hb : Below w.heap.size w w') : ML B w0 w' w.heap.size b v o tn dn ws := ⟨h.grow hb, hl, h.lo⟩

end

end Go.Proofs.Ytcofiidibhmhgaa
