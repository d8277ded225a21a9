/-
  What a stylus is in memory: a block of one cell, the slice of what was written, and the row that the slice owns; what a write does to the world. No program in sight.
-/
import Derived.WalkKit
import Derived.WalkSpells
import Derived.WalkLawsBesides
import Derived.Deep.AppendLies
import Derived.Laws.IdiomStrings
import Derived.Test.YtdngehfebmaegaaYMath
namespace Go.Proofs.Ytdngehfebmaegaa.Sty
open Go.RowKit

/-- Bytes as cells. -/
def bcells (bs : List UInt8) : List Value := bs.map fun c => .int .u8 (c.toNat : Int)

theorem bcells_append (a b : List UInt8) : bcells (a ++ b) = bcells a ++ bcells b := by simp [bcells]
theorem bcells_length (a : List UInt8) : (bcells a).length = a.length := by simp [bcells]

/-- The stylus in block b holds v, and has written bs. -/
structure Pen (w : World) (b : Nat) (v : Value) (bs : List UInt8) : Prop where
  at_ : w.heap[b]? = some (.cells #[v] 65 (0, 0))
  apart : v.ownBlock ≠ some b
  owns : w.ownsRow 0 5 1 v bs.length (bcells bs)

/-- What writes with the stylus in block b left: its block, the row that it had, and new blocks alone are others. -/
structure Wrote (b : Nat) (v : Value) (w : World) (v' : Value) (w' : World) : Prop where
  os : w'.os = w.os
  tape : w'.tape = w.tape
  output : w'.output = w.output
  size : w.heap.size ≤ w'.heap.size
  block : ∀ k, k < w.heap.size → k ≠ b → v.ownBlock ≠ some k → w'.heap[k]? = w.heap[k]?
  own : ∀ k, v'.ownBlock = some k → v.ownBlock = some k ∨ w.heap.size ≤ k

theorem Wrote.refl (b : Nat) (v : Value) (w : World) : Wrote b v w v w :=
  ⟨rfl, rfl, rfl, Nat.le_refl _, fun _ _ _ _ => rfl, fun _ h => .inl h⟩

theorem Wrote.trans {b : Nat} {v0 v1 v2 : Value} {w0 w1 w2 : World} (h : Wrote b v0 w0 v1 w1) (k : Wrote b v1 w1 v2 w2) : Wrote b v0 w0 v2 w2 := by
  refine ⟨k.os.trans h.os, k.tape.trans h.tape, k.output.trans h.output, Nat.le_trans h.size k.size, fun i hi hb hv => ?_, fun i hi => ?_⟩
  · rw [k.block i (Nat.lt_of_lt_of_le hi h.size) hb (fun e => by
      rcases h.own i e with e' | e'
      · exact hv e'
      · omega)]
    exact h.block i hi hb hv
  · rcases k.own i hi with e | e
    · exact h.own i e
    · right; have := h.size; omega

/-- A new block ahead of the writes. -/
theorem Wrote.behind_alloc {b : Nat} {v v' : Value} {w w' : World} {o : Obj} (h : Wrote b v (w.alloc o) v' w') : Wrote b v w v' w' := by
  refine ⟨h.os, h.tape, h.output, by have := h.size; simp at this; omega, fun k hk hb hv => ?_, fun k hk => ?_⟩
  · rw [h.block k (by simp; omega) hb hv]
    exact Below.heap_alloc _ _ _ hk
  · rcases h.own k hk with e | e
    · exact .inl e
    · right; simp at e; omega

/-- Below a number that is no more than the stylus' own blocks nothing has turned. -/
theorem Wrote.below {b B : Nat} {v v' : Value} {w w' : World} (h : Wrote b v w v' w') (hB : B ≤ w.heap.size) (hb : B ≤ b) (hv : ∀ k, v.ownBlock = some k → B ≤ k) : Below B w w' :=
  ⟨h.os, h.tape, h.output, h.size, fun k hk => h.block k (by omega) (by omega) (fun e => by have := hv k e; omega)⟩

theorem Wrote.own_from {b B : Nat} {v v' : Value} {w w' : World} (h : Wrote b v w v' w') (hB : B ≤ w.heap.size) (hv : ∀ k, v.ownBlock = some k → B ≤ k) : ∀ k, v'.ownBlock = some k → B ≤ k := fun k hk => by
  rcases h.own k hk with e | e
  · exact hv k e
  · omega

section
variable {w : World} {b : Nat} {v : Value} {bs : List UInt8}

theorem Pen.lt (h : Pen w b v bs) : b < w.heap.size := (Array.getElem?_eq_some_iff.1 h.at_).1
theorem Pen.cell (h : Pen w b v bs) : w.cell? ⟨b, 0, none⟩ = some v := by
  simp [World.cell?, h.at_]
theorem Pen.frozen (h : Pen w b v bs) : w.frozen? ⟨b, 0, none⟩ = false := by
  simp [World.frozen?, h.at_]
theorem Pen.own_lt (h : Pen w b v bs) : ∀ k, v.ownBlock = some k → k < w.heap.size := fun k hk => (h.owns.lt k hk).2

/-- A stylus in a world whose blocks, as far as it has them, are the same. -/
theorem Pen.carry {w' : World} (h : Pen w b v bs) (hb : w'.heap[b]? = w.heap[b]?) (hv : ∀ k, v.ownBlock = some k → w'.heap[k]? = w.heap[k]?) : Pen w' b v bs := by
  refine ⟨hb.trans h.at_, h.apart, h.owns.1, ?_⟩
  rcases h.owns.2 with e | ⟨g, cap, cur, e, h0, hg, r⟩
  · exact .inl e
  · exact .inr ⟨g, cap, cur, e, h0, by rw [hv g (by rw [e]; rfl)]; exact hg, r⟩

theorem Pen.alloc (h : Pen w b v bs) (o : Obj) : Pen (w.alloc o) b v bs :=
  h.carry (Below.heap_alloc _ _ _ h.lt) fun k hk => Below.heap_alloc _ _ _ (h.own_lt k hk)

/-- Another stylus' writes. -/
theorem Pen.beside {b2 : Nat} {v2 v2' : Value} {w' : World} (h : Pen w b v bs) (k : Wrote b2 v2 w v2' w') (hb : b ≠ b2) (hb2 : v2.ownBlock ≠ some b)
    (hv : ∀ k, v.ownBlock = some k → k ≠ b2 ∧ v2.ownBlock ≠ some k) : Pen w' b v bs :=
  h.carry (k.block b h.lt hb hb2) fun i hi => k.block i (h.own_lt i hi) (hv i hi).1 (hv i hi).2

/-- A new one has written nothing. -/
theorem Pen.new (w : World) : Pen (w.alloc (.cells #[.slice none 0 0] 65)) w.heap.size (.slice none 0 0) [] :=
  ⟨heap_alloc_new w _, by simp [Value.ownBlock], World.ownsRow_nil _ _ _ _⟩

/-- What the one append leaves: cells that are those of 'add' behind what was written; then the store into the field. -/
theorem Pen.wrote {w1 : World} {o : Obj} {g n cap : Nat} {add : List UInt8} (h : Pen w b v bs)
    (hown : w1.ownsRow 0 5 1 (.slice (some ⟨g, 0, none⟩) n cap) n (bcells bs ++ bcells add)) (hn : n = (bs ++ add).length)
    (hgrow : (w.alloc o).grownBy w1 v.ownBlock) (hat : v.ownBlock = some g ∨ w.heap.size ≤ g) :
    Pen (w1.setCell ⟨b, 0, none⟩ (.slice (some ⟨g, 0, none⟩) n cap)) b (.slice (some ⟨g, 0, none⟩) n cap) (bs ++ add) ∧
      Wrote b v w (.slice (some ⟨g, 0, none⟩) n cap) (w1.setCell ⟨b, 0, none⟩ (.slice (some ⟨g, 0, none⟩) n cap)) := by
  subst hn
  have hlt := h.lt
  have hgb : g ≠ b := by
    rcases hat with e | e
    · intro e'; subst e'; exact h.apart e
    · omega
  have hb1 : w1.heap[b]? = some (.cells #[v] 65 (0, 0)) := by
    rw [hgrow.block b (by simp; omega) (fun e => h.apart e.symm), Below.heap_alloc _ _ _ hlt]
    exact h.at_
  refine ⟨⟨?_, ?_, ?_⟩, ?_⟩
  · simp [World.setCell, Array.getElem?_modify, hb1]
  · simp [Value.ownBlock, hgb]
  · refine ⟨by rw [bcells_length, Nat.mul_one], ?_⟩
    rcases hown.2 with ⟨e, _⟩ | ⟨g', cap', cur, e, h0, hg, r1, r2, r3, r4⟩
    · cases e
    · cases e
      refine .inr ⟨g, cap, cur, rfl, h0, ?_, r1, r2, r3, by rw [bcells_append]; exact r4⟩
      rw [Below.heap_setCell _ _ _ _ hgb]
      exact hg
  · refine ⟨hgrow.os, hgrow.tape, hgrow.output, ?_, fun k hk hkb hkv => ?_, fun k hk => ?_⟩
    · have := hgrow.size
      simp [World.setCell] at this ⊢
      omega
    · rw [Below.heap_setCell _ _ _ _ hkb, hgrow.block k (by simp; omega) (fun e => hkv e.symm), Below.heap_alloc _ _ _ hk]
    · simp [Value.ownBlock] at hk
      subst hk
      exact hat

theorem Pen.in_grown {w1 : World} {o : Obj} (h : Pen w b v bs) (hgrow : (w.alloc o).grownBy w1 v.ownBlock) : w1.cell? ⟨b, 0, none⟩ = some v ∧ w1.frozen? ⟨b, 0, none⟩ = false := by
  have hlt := h.lt
  have hb1 : w1.heap[b]? = some (.cells #[v] 65 (0, 0)) := by
    rw [hgrow.block b (by simp; omega) (fun e => h.apart e.symm), Below.heap_alloc _ _ _ hlt]
    exact h.at_
  exact ⟨by simp [World.cell?, hb1], by simp [World.frozen?, hb1]⟩

/-- All that was written, as a string. -/
theorem Pen.string {P : Program} (h : Pen w b v bs) (src dst : TypeId) (hs : P.underlying src = some (.slice 5)) (he : P.underlying 5 = some (.int .u8)) (hd : P.underlying dst = some .string) :
    (convert src dst v).run P w = .ok (.string ⟨bs.toArray⟩) w := by
  rcases h.owns.2 with ⟨e, h0⟩ | ⟨g, cap, cur, e, h0, hg, r1, r2, r3, r4⟩
  · have : bs = [] := List.length_eq_zero_iff.1 h0
    subst this
    subst e
    have h := run_convert_bytes_nil (P := P) w src 5 hs he 0 0 dst hd
    exact h
  · rw [e]
    refine run_convert_bytes_back (P := P) w src dst 5 ⟨g, 0, none⟩ cap bs hs he hd fun j hj => ?_
    have := h.owns.cells (g := g) (by rw [e]; rfl) j (.int .u8 (bs[j].toNat : Int)) (by simp [bcells, hj])
    exact this
end

end Go.Proofs.Ytdngehfebmaegaa.Sty
