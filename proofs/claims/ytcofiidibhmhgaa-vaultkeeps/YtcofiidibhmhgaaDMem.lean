/-
  What a disk is in memory: a block of five cells, four texts and the slice of what waits, and the row that the slice owns; what a call leaves of the world.
-/
import Derived.Deep.AppendLies
import Derived.Test.YtcofiidibhmhgaaDMath
namespace Go.Proofs.Ytcofiidibhmhgaa
open Go.RowKit

/-- The disk in block b: what its areas have, what is safe, the slice of what waits. -/
structure Dsk (w : World) (b : Nat) (v : Value) (n0 n1 s0 s1 : ByteArray) (ws : List Ch) : Prop where
  at_ : w.heap[b]? = some (.cells #[.string n0, .string n1, .string s0, .string s1, v] 55 (0, 0))
  apart : v.ownBlock ≠ some b
  owns : w.ownsRow 0 59 3 v ws.length (chC ws)

/-- The disk in block b has these changes done, and these wait. -/
structure Has (w : World) (b : Nat) (v : Value) (dn ws : List Ch) : Prop where
  dsk : Dsk w b v (txt false (dn ++ ws)) (txt true (dn ++ ws)) (txt false dn) (txt true dn) ws
  fits : Fits (dn ++ ws)

/-- What calls on the object in block b left: its block, the row that it had, and new blocks alone are others. -/
structure Wrote (b : Nat) (v : Value) (w : World) (v' : Value) (w' : World) : Prop where
  os : w'.os = w.os
  tape : w'.tape = w.tape
  output : w'.output = w.output
  size : w.heap.size ≤ w'.heap.size
  block : ∀ k, k < w.heap.size → k ≠ b → v.ownBlock ≠ some k → w'.heap[k]? = w.heap[k]?
  own : ∀ k, v'.ownBlock = some k → v.ownBlock = some k ∨ w.heap.size ≤ k

theorem Wrote.refl (b : Nat) (v : Value) (w : World) : Wrote b v w v w :=
  ⟨rfl, rfl, rfl, Nat.le_refl _, fun _ _ _ _ => rfl, fun _ h => .inl h⟩

theorem Wrote.trans {b : Nat} {v0 v1 v2 : Value} {w0 w1 w2 : World} (h : Wrote b v0 w0 v1 w1) (k : Wrote b v1 w1 v2 w2) : Wrote b v0 w0 v2 w2 := by
  refine ⟨k.os.trans h.os, k.tape.trans h.tape, k.output.trans h.output, Nat.le_trans h.size k.size, fun i hi hb hv => ?_, fun i hi => ?_⟩
  · rw [k.block i (Nat.lt_of_lt_of_le hi h.size) hb (fun e => by
      rcases h.own i e with e' | e'
      · exact hv e'
      · omega)]
    exact h.block i hi hb hv
  · rcases k.own i hi with e | e
    · exact h.own i e
    · right; have := h.size; omega

/-- A new block ahead of the calls. -/
theorem Wrote.behind_alloc {b : Nat} {v v' : Value} {w w' : World} {o : Obj} (h : Wrote b v (w.alloc o) v' w') : Wrote b v w v' w' := by
  refine ⟨h.os, h.tape, h.output, by have := h.size; simp at this; omega, fun k hk hb hv => ?_, fun k hk => ?_⟩
  · rw [h.block k (by simp; omega) hb hv]
    exact Below.heap_alloc _ _ _ hk
  · rcases h.own k hk with e | e
    · exact .inl e
    · right; simp at e; omega

/-- New blocks behind the calls. -/
theorem Wrote.grown {b : Nat} {v v' : Value} {w w1 w' : World} (h : Wrote b v w v' w1) (hb : Below w1.heap.size w1 w') : Wrote b v w v' w' :=
  ⟨hb.os.trans h.os, hb.tape.trans h.tape, hb.output.trans h.output, Nat.le_trans h.size hb.size, fun k hk h1 h2 => (hb.block k (Nat.lt_of_lt_of_le hk h.size)).trans (h.block k hk h1 h2), h.own⟩

/-- New blocks alone. -/
theorem Wrote.of_below {b : Nat} {v : Value} {w w' : World} (hb : Below w.heap.size w w') : Wrote b v w v w' :=
  ⟨hb.os, hb.tape, hb.output, hb.size, fun k hk _ _ => hb.block k hk, fun _ h => .inl h⟩

theorem Wrote.set {b : Nat} {v v' : Value} {w w1 : World} (h : Wrote b v w v' w1) (i : Nat) (x : Value) : Wrote b v w v' (w1.setCell ⟨b, i, none⟩ x) := by
  refine ⟨h.os, h.tape, h.output, by have := h.size; simpa [World.setCell] using this, fun k hk h1 h2 => ?_, h.own⟩
  rw [Below.heap_setCell _ _ _ _ h1]
  exact h.block k hk h1 h2

theorem Wrote.turn {b : Nat} {v v' v2 : Value} {w w1 : World} (h : Wrote b v w v' w1) (hn : ∀ k, v2.ownBlock = some k → v.ownBlock = some k ∨ w.heap.size ≤ k) : Wrote b v w v2 w1 :=
  ⟨h.os, h.tape, h.output, h.size, h.block, hn⟩

theorem heap_set {w : World} {b i : Nat} {cs : Array Value} {t : TypeId} {m : Nat × Nat} (x : Value) (h : w.heap[b]? = some (.cells cs t m)) : (w.setCell ⟨b, i, none⟩ x).heap[b]? = some (.cells (cs.setIfInBounds i x) t m) := by
  simp [World.setCell, Array.getElem?_modify, h]

/-- Below a number that is no more than the object's own blocks nothing has turned. -/
theorem Wrote.below {b B : Nat} {v v' : Value} {w w' : World} (h : Wrote b v w v' w') (hB : B ≤ w.heap.size) (hb : B ≤ b) (hv : ∀ k, v.ownBlock = some k → B ≤ k) : Below B w w' :=
  ⟨h.os, h.tape, h.output, h.size, fun k hk => h.block k (by omega) (by omega) (fun e => by have := hv k e; omega)⟩

theorem Wrote.own_from {b B : Nat} {v v' : Value} {w w' : World} (h : Wrote b v w v' w') (hB : B ≤ w.heap.size) (hv : ∀ k, v.ownBlock = some k → B ≤ k) : ∀ k, v'.ownBlock = some k → B ≤ k := fun k hk => by
  rcases h.own k hk with e | e
  · exact hv k e
  · omega

/-- One cell of block b is another one, and there may be new blocks. -/
structure Set1 (b i : Nat) (x : Value) (w w' : World) : Prop where
  os : w'.os = w.os
  tape : w'.tape = w.tape
  output : w'.output = w.output
  size : w.heap.size ≤ w'.heap.size
  block : ∀ k, k < w.heap.size → k ≠ b → w'.heap[k]? = w.heap[k]?
  cell : ∀ cs t m, w.heap[b]? = some (.cells cs t m) → w'.heap[b]? = some (.cells (cs.setIfInBounds i x) t m)

theorem Set1.wrote {b i : Nat} {x v : Value} {w w' : World} (h : Set1 b i x w w') : Wrote b v w v w' :=
  ⟨h.os, h.tape, h.output, h.size, fun k hk hb _ => h.block k hk hb, fun _ h => .inl h⟩

theorem Set1.of {b i : Nat} {x : Value} {w : World} (o : Obj) (hlt : b < w.heap.size) : Set1 b i x w ((w.setCell ⟨b, i, none⟩ x).alloc o).drew := by
  refine ⟨rfl, rfl, rfl, by simp [World.setCell], fun k hk hb => ?_, fun cs t m h => ?_⟩
  · show ((w.setCell ⟨b, i, none⟩ x).alloc o).heap[k]? = _
    rw [Below.heap_alloc _ _ _ (by simpa [World.setCell] using hk), Below.heap_setCell _ _ _ _ hb]
  · show ((w.setCell ⟨b, i, none⟩ x).alloc o).heap[b]? = _
    rw [Below.heap_alloc _ _ _ (by simpa [World.setCell] using hlt), heap_set _ h]

/-- A row that is owned, in a world whose blocks, as far as it has them, are the same. -/
theorem ownsRow_carry {w w' : World} {e size : Nat} {v : Value} {n : Nat} {xs : List Value} (h : w.ownsRow 0 e size v n xs) (hv : ∀ k, v.ownBlock = some k → w'.heap[k]? = w.heap[k]?) : w'.ownsRow 0 e size v n xs := by
  refine ⟨h.1, ?_⟩
  rcases h.2 with e | ⟨g, cap, cur, e, h0, hg, r⟩
  · exact .inl e
  · exact .inr ⟨g, cap, cur, e, h0, by rw [hv g (by rw [e]; rfl)]; exact hg, r⟩

section
variable {w : World} {b : Nat} {v : Value} {n0 n1 s0 s1 : ByteArray} {ws dn : List Ch}

theorem Dsk.lt (h : Dsk w b v n0 n1 s0 s1 ws) : b < w.heap.size := (Array.getElem?_eq_some_iff.1 h.at_).1
theorem Dsk.own_lt (h : Dsk w b v n0 n1 s0 s1 ws) : ∀ k, v.ownBlock = some k → k < w.heap.size := fun k hk => (h.owns.lt k hk).2
theorem Dsk.c0 (h : Dsk w b v n0 n1 s0 s1 ws) : w.cell? ⟨b, 0, none⟩ = some (.string n0) := by simp [World.cell?, h.at_]
theorem Dsk.c1 (h : Dsk w b v n0 n1 s0 s1 ws) : w.cell? ⟨b, 1, none⟩ = some (.string n1) := by simp [World.cell?, h.at_]
theorem Dsk.c2 (h : Dsk w b v n0 n1 s0 s1 ws) : w.cell? ⟨b, 2, none⟩ = some (.string s0) := by simp [World.cell?, h.at_]
theorem Dsk.c3 (h : Dsk w b v n0 n1 s0 s1 ws) : w.cell? ⟨b, 3, none⟩ = some (.string s1) := by simp [World.cell?, h.at_]
theorem Dsk.c4 (h : Dsk w b v n0 n1 s0 s1 ws) : w.cell? ⟨b, 4, none⟩ = some v := by simp [World.cell?, h.at_]
theorem Dsk.fz (h : Dsk w b v n0 n1 s0 s1 ws) (i : Nat) : w.frozen? ⟨b, i, none⟩ = false := by simp [World.frozen?, h.at_]

theorem Dsk.carry {w' : World} (h : Dsk w b v n0 n1 s0 s1 ws) (hb : w'.heap[b]? = w.heap[b]?) (hv : ∀ k, v.ownBlock = some k → w'.heap[k]? = w.heap[k]?) : Dsk w' b v n0 n1 s0 s1 ws :=
  ⟨hb.trans h.at_, h.apart, ownsRow_carry h.owns hv⟩

theorem Has.lt (h : Has w b v dn ws) : b < w.heap.size := h.dsk.lt
theorem Has.own_lt (h : Has w b v dn ws) : ∀ k, v.ownBlock = some k → k < w.heap.size := h.dsk.own_lt
theorem Has.carry {w' : World} (h : Has w b v dn ws) (hb : w'.heap[b]? = w.heap[b]?) (hv : ∀ k, v.ownBlock = some k → w'.heap[k]? = w.heap[k]?) : Has w' b v dn ws :=
  ⟨h.dsk.carry hb hv, h.fits⟩

/-- A disk all of whose blocks lie below B. -/
theorem Has.below {w' : World} {B : Nat} (h : Has w b v dn ws) (hb : Below B w w') (h1 : b < B) (h2 : ∀ k, v.ownBlock = some k → k < B) : Has w' b v dn ws :=
  h.carry (hb.block b h1) fun k hk => hb.block k (h2 k hk)
theorem Has.grown {w' : World} (h : Has w b v dn ws) (hb : Below w.heap.size w w') : Has w' b v dn ws := h.below hb h.lt h.own_lt
theorem Has.alloc (h : Has w b v dn ws) (o : Obj) : Has (w.alloc o) b v dn ws := h.grown ((Below.refl _ _).alloc (Nat.le_refl _) _)

/-- Another object's calls. -/
theorem Has.beside {b2 : Nat} {v2 v2' : Value} {w' : World} (h : Has w b v dn ws) (k : Wrote b2 v2 w v2' w') (hb : b ≠ b2) (hb2 : v2.ownBlock ≠ some b)
    (hv : ∀ k, v.ownBlock = some k → k ≠ b2 ∧ v2.ownBlock ≠ some k) : Has w' b v dn ws :=
  h.carry (k.block b h.lt hb hb2) fun i hi => k.block i (h.own_lt i hi) (hv i hi).1 (hv i hi).2

end

theorem Has.new (w : World) : Has (w.alloc (.cells #[.string ⟨#[]⟩, .string ⟨#[]⟩, .string ⟨#[]⟩, .string ⟨#[]⟩, .slice none 0 0] 55)) w.heap.size (.slice none 0 0) [] [] :=
  ⟨⟨heap_alloc_new w _, by simp [Value.ownBlock], World.ownsRow_nil _ _ _ _⟩, Fits.nil⟩

end Go.Proofs.Ytcofiidibhmhgaa
