/-
  What a wire is in memory: a block of nine cells, three for each way (a slice of bytes and two numbers), and the rows that the slices own; what a call leaves of the world.
-/
import Derived.Deep.AppendLies
import Derived.Test.YtjiljencdhbchaaXMath
namespace Go.Proofs.Ytjiljencdhbchaa
open Go.RowKit

theorem Hid.mk {p : Prop} (h : p) : Hid p := h

/-- Bytes as cells. -/
def bcells (bs : List UInt8) : List Value := bs.map fun c => .int .u8 (c.toNat : Int)

theorem bcells_append (a b : List UInt8) : bcells (a ++ b) = bcells a ++ bcells b := by simp [bcells]
theorem bcells_length (a : List UInt8) : (bcells a).length = a.length := by simp [bcells]

/-- The wire in block b: its slices, and its ways, whatever they are. -/
structure Raw (w : World) (b : Nat) (vs : Nat → Value) (f : Nat → Wy) : Prop where
  at_ : w.heap[b]? = some (.cells #[vs 0, .int .i64 (f 0).came, .int .i64 (f 0).gone, vs 1, .int .i64 (f 1).came, .int .i64 (f 1).gone, vs 2, .int .i64 (f 2).came, .int .i64 (f 2).gone] 48 (0, 0))
  apart : ∀ i, i < 3 → (vs i).ownBlock ≠ some b
  two : ∀ i j, i < 3 → j < 3 → i ≠ j → ∀ k, (vs i).ownBlock = some k → (vs j).ownBlock ≠ some k
  owns : ∀ i, i < 3 → w.ownsRow 0 5 1 (vs i) (f i).bs.length (bcells (f i).bs)

/-- The wire in block b: its slices, and its ways, which can be. -/
structure Wir (w : World) (b : Nat) (vs : Nat → Value) (f : Nat → Wy) : Prop extends Raw w b vs f where
  good : ∀ i, i < 3 → (f i).Good

/-- The blocks of a wire. -/
def Foot (b : Nat) (vs : Nat → Value) (k : Nat) : Prop := k = b ∨ ∃ i, i < 3 ∧ (vs i).ownBlock = some k

/-- What calls on the wire in block b left: its blocks, and new ones, alone are others. -/
structure Wrote (b : Nat) (vs : Nat → Value) (w : World) (vs' : Nat → Value) (w' : World) : Prop where
  os : w'.os = w.os
  tape : w'.tape = w.tape
  output : w'.output = w.output
  size : w.heap.size ≤ w'.heap.size
  block : ∀ k, k < w.heap.size → ¬ Foot b vs k → w'.heap[k]? = w.heap[k]?
  own : ∀ k, Foot b vs' k → Foot b vs k ∨ w.heap.size ≤ k

theorem Wrote.refl (b : Nat) (vs : Nat → Value) (w : World) : Wrote b vs w vs w :=
  ⟨rfl, rfl, rfl, Nat.le_refl _, fun _ _ _ => rfl, fun _ h => .inl h⟩

theorem Wrote.trans {b : Nat} {v0 v1 v2 : Nat → Value} {w0 w1 w2 : World} (h : Wrote b v0 w0 v1 w1) (k : Wrote b v1 w1 v2 w2) : Wrote b v0 w0 v2 w2 := by
  refine ⟨k.os.trans h.os, k.tape.trans h.tape, k.output.trans h.output, Nat.le_trans h.size k.size, fun i hi hf => ?_, fun i hi => ?_⟩
  · rw [k.block i (Nat.lt_of_lt_of_le hi h.size) (fun e => by
      rcases h.own i e with e' | e'
      · exact hf e'
      · omega)]
    exact h.block i hi hf
  · rcases k.own i hi with e | e
    · exact h.own i e
    · right; have := h.size; omega

/-- New blocks alone. -/
theorem Wrote.of_below {b : Nat} {vs : Nat → Value} {w w' : World} (hb : Below w.heap.size w w') : Wrote b vs w vs w' :=
  ⟨hb.os, hb.tape, hb.output, hb.size, fun k hk _ => hb.block k hk, fun _ h => .inl h⟩

theorem Wrote.set {b : Nat} {vs vs' : Nat → Value} {w w1 : World} (h : Wrote b vs w vs' w1) (i : Nat) (x : Value) : Wrote b vs w vs' (w1.setCell ⟨b, i, none⟩ x) := by
  refine ⟨h.os, h.tape, h.output, by have := h.size; simpa [World.setCell] using this, fun k hk hf => ?_, h.own⟩
  rw [Below.heap_setCell _ _ _ _ (fun e => hf (.inl e))]
  exact h.block k hk hf

theorem Wrote.drew {b : Nat} {vs vs' : Nat → Value} {w w1 : World} (h : Wrote b vs w vs' w1) : Wrote b vs w vs' w1.drew :=
  ⟨h.os, h.tape, h.output, h.size, h.block, h.own⟩

theorem Wrote.turn {b : Nat} {vs vs' v2 : Nat → Value} {w w1 : World} (h : Wrote b vs w vs' w1) (hn : ∀ i, i < 3 → ∀ k, (v2 i).ownBlock = some k → Foot b vs k ∨ w.heap.size ≤ k) : Wrote b vs w v2 w1 := by
  refine ⟨h.os, h.tape, h.output, h.size, h.block, fun k hk => ?_⟩
  rcases hk with e | ⟨i, hi, e⟩
  · exact .inl (.inl e)
  · exact hn i hi k e

theorem heap_set {w : World} {b i : Nat} {cs : Array Value} {t : TypeId} {m : Nat × Nat} (x : Value) (h : w.heap[b]? = some (.cells cs t m)) : (w.setCell ⟨b, i, none⟩ x).heap[b]? = some (.cells (cs.setIfInBounds i x) t m) := by
  simp [World.setCell, Array.getElem?_modify, h]

/-- Below a number that is no more than the wire's own blocks nothing has turned. -/
theorem Wrote.below {b B : Nat} {vs vs' : Nat → Value} {w w' : World} (h : Wrote b vs w vs' w') (hB : B ≤ w.heap.size) (hv : ∀ k, Foot b vs k → B ≤ k) : Below B w w' :=
  ⟨h.os, h.tape, h.output, h.size, fun k hk => h.block k (by omega) (fun e => by have := hv k e; omega)⟩

theorem Wrote.own_from {b B : Nat} {vs vs' : Nat → Value} {w w' : World} (h : Wrote b vs w vs' w') (hB : B ≤ w.heap.size) (hv : ∀ k, Foot b vs k → B ≤ k) : ∀ k, Foot b vs' k → B ≤ k := fun k hk => by
  rcases h.own k hk with e | e
  · exact hv k e
  · omega

/-- A row that is owned, in a world whose blocks, as far as it has them, are the same. -/
theorem ownsRow_carry {w w' : World} {e size : Nat} {v : Value} {n : Nat} {xs : List Value} (h : w.ownsRow 0 e size v n xs) (hv : ∀ k, v.ownBlock = some k → w'.heap[k]? = w.heap[k]?) : w'.ownsRow 0 e size v n xs := by
  refine ⟨h.1, ?_⟩
  rcases h.2 with e | ⟨g, cap, cur, e, h0, hg, r⟩
  · exact .inl e
  · exact .inr ⟨g, cap, cur, e, h0, by rw [hv g (by rw [e]; rfl)]; exact hg, r⟩

section
variable {w w' : World} {b : Nat} {vs : Nat → Value} {f : Nat → Wy}

theorem Raw.lt (h : Raw w b vs f) : b < w.heap.size := (Array.getElem?_eq_some_iff.1 h.at_).1
theorem Raw.own_lt (h : Raw w b vs f) {i : Nat} (hi : i < 3) : ∀ k, (vs i).ownBlock = some k → k < w.heap.size := fun k hk => ((h.owns i hi).lt k hk).2
theorem Wir.foot_lt (h : Wir w b vs f) : ∀ k, Foot b vs k → k < w.heap.size := fun k hk => by
  rcases hk with e | ⟨i, hi, e⟩
  · rw [e]; exact h.lt
  · exact h.own_lt hi k e

theorem below3 {p : Nat → Prop} (h0 : p 0) (h1 : p 1) (h2 : p 2) : ∀ i, i < 3 → p i := fun i hi => by
  match i, hi with
  | 0, _ => exact h0
  | 1, _ => exact h1
  | 2, _ => exact h2

theorem Raw.cv (h : Raw w b vs f) : ∀ i, i < 3 → w.cell? ⟨b, i * 3, none⟩ = some (vs i) :=
  below3 (by simp [World.cell?, h.at_]) (by simp [World.cell?, h.at_]) (by simp [World.cell?, h.at_])
theorem Raw.cc (h : Raw w b vs f) : ∀ i, i < 3 → w.cell? ⟨b, i * 3 + 1, none⟩ = some (.int .i64 (f i).came) :=
  below3 (by simp [World.cell?, h.at_]) (by simp [World.cell?, h.at_]) (by simp [World.cell?, h.at_])
theorem Raw.cg (h : Raw w b vs f) : ∀ i, i < 3 → w.cell? ⟨b, i * 3 + 2, none⟩ = some (.int .i64 (f i).gone) :=
  below3 (by simp [World.cell?, h.at_]) (by simp [World.cell?, h.at_]) (by simp [World.cell?, h.at_])
theorem Raw.fz (h : Raw w b vs f) (i : Nat) : w.frozen? ⟨b, i, none⟩ = false := by simp [World.frozen?, h.at_]

theorem Wir.carry (h : Wir w b vs f) (hb : w'.heap[b]? = w.heap[b]?) (hv : ∀ i, i < 3 → ∀ k, (vs i).ownBlock = some k → w'.heap[k]? = w.heap[k]?) : Wir w' b vs f :=
  ⟨⟨hb.trans h.at_, h.apart, h.two, fun i hi => ownsRow_carry (h.owns i hi) (hv i hi)⟩, h.good⟩

theorem Wir.keep (h : Wir w b vs f) (hk : ∀ k, Foot b vs k → w'.heap[k]? = w.heap[k]?) : Wir w' b vs f :=
  h.carry (hk b (.inl rfl)) fun i hi k e => hk k (.inr ⟨i, hi, e⟩)

theorem Wir.grown (h : Wir w b vs f) (hb : Below w.heap.size w w') : Wir w' b vs f := h.keep fun k hk => hb.block k (h.foot_lt k hk)
theorem Wir.drew (h : Wir w b vs f) : Wir w.drew b vs f := h.keep fun _ _ => rfl
theorem Wir.alloc (h : Wir w b vs f) (o : Obj) : Wir (w.alloc o) b vs f := h.grown ((Below.refl _ _).alloc (Nat.le_refl _) _)

/-- Another object's calls. -/
theorem Wir.beside {b2 : Nat} {v2 v2' : Nat → Value} (h : Wir w b vs f) (k : Wrote b2 v2 w v2' w') (ha : ∀ k, Foot b vs k → ¬ Foot b2 v2 k) : Wir w' b vs f :=
  h.keep fun i hi => k.block i (h.foot_lt i hi) (ha i hi)

/-- The two numbers of a way, laid anew. -/
theorem Raw.setG (h : Raw w b vs f) (i : Nat) (hi : i < 3) (n : Nat) : Raw (w.setCell ⟨b, i * 3 + 2, none⟩ (.int .i64 n)) b vs (upd f i ⟨(f i).bs, (f i).came, n⟩) := by
  refine ⟨?_, h.apart, h.two, fun j hj => ?_⟩
  · rw [heap_set _ h.at_]
    revert i
    exact below3 (by simp [upd]) (by simp [upd]) (by simp [upd])
  · have e : (upd f i ⟨(f i).bs, (f i).came, n⟩ j).bs = (f j).bs := by
      unfold upd; split
      · next h => rw [h]
      · rfl
    rw [e]
    exact ownsRow_carry (h.owns j hj) fun k hk => Below.heap_setCell _ _ _ _ (fun e => h.apart j hj (by rw [hk, e]))

theorem Raw.setC (h : Raw w b vs f) (i : Nat) (hi : i < 3) (n : Nat) : Raw (w.setCell ⟨b, i * 3 + 1, none⟩ (.int .i64 n)) b vs (upd f i ⟨(f i).bs, n, (f i).gone⟩) := by
  refine ⟨?_, h.apart, h.two, fun j hj => ?_⟩
  · rw [heap_set _ h.at_]
    revert i
    exact below3 (by simp [upd]) (by simp [upd]) (by simp [upd])
  · have e : (upd f i ⟨(f i).bs, n, (f i).gone⟩ j).bs = (f j).bs := by
      unfold upd; split
      · next h => rw [h]
      · rfl
    rw [e]
    exact ownsRow_carry (h.owns j hj) fun k hk => Below.heap_setCell _ _ _ _ (fun e => h.apart j hj (by rw [hk, e]))

/-- Another slice of a way, whose row is owned, laid into the block; all other rows are as they were. -/
theorem Raw.setV {w1 : World} (h : Raw w b vs f) (i : Nat) (hi : i < 3) (v : Value) (y : Wy) (hc : y.came = (f i).came) (hg : y.gone = (f i).gone)
    (hown : w1.ownsRow 0 5 1 v y.bs.length (bcells y.bs)) (hgrow : w.grownBy w1 (vs i).ownBlock) (hat : ∀ k, v.ownBlock = some k → (vs i).ownBlock = some k ∨ w.heap.size ≤ k) :
    Raw (w1.setCell ⟨b, i * 3, none⟩ v) b (upd vs i v) (upd f i y) ∧ Wrote b vs w (upd vs i v) (w1.setCell ⟨b, i * 3, none⟩ v) := by
  have hlt := h.lt
  have hne : ∀ k, v.ownBlock = some k → k ≠ b := fun k hk e => by
    subst e
    rcases hat k hk with e | e
    · exact h.apart i hi e
    · omega
  have hb1 : w1.heap[b]? = w.heap[b]? := hgrow.block b hlt (fun e => h.apart i hi e.symm)
  refine ⟨⟨?_, fun j hj => ?_, fun j l hj hl hjl k hk => ?_, fun j hj => ?_⟩, ?_⟩
  · rw [heap_set _ (hb1.trans h.at_)]
    clear hne hat hown hgrow
    revert i
    exact below3 (fun hc hg => by simp [upd, hc, hg]) (fun hc hg => by simp [upd, hc, hg]) (fun hc hg => by simp [upd, hc, hg])
  · unfold upd
    split
    · exact fun e => hne b e rfl
    · exact h.apart j hj
  · unfold upd at hk ⊢
    split at hk
    · next e =>
      rw [if_neg (by omega)]
      intro e2
      rcases hat k hk with e3 | e3
      · exact h.two i l hi hl (by omega) k e3 e2
      · have := h.own_lt hl k e2; omega
    · next e =>
      split
      · next e2 =>
        intro e3
        rcases hat k e3 with e4 | e4
        · exact h.two j i hj hi (by omega) k hk e4
        · have := h.own_lt hj k hk; omega
      · exact h.two j l hj hl hjl k hk
  · by_cases e : j = i
    · subst e
      rw [upd_same, upd_same]
      exact ownsRow_carry hown fun k hk => Below.heap_setCell _ _ _ _ (hne k hk)
    · rw [upd_other _ _ _ _ e, upd_other _ _ _ _ e]
      refine ownsRow_carry (h.owns j hj) fun k hk => ?_
      rw [Below.heap_setCell _ _ _ _ (fun e => h.apart j hj (by rw [hk, e])), hgrow.block k (h.own_lt hj k hk) (fun e2 => h.two j i hj hi e k hk e2.symm)]
  · refine ⟨hgrow.os, hgrow.tape, hgrow.output, by have := hgrow.size; simpa [World.setCell] using this, fun k hk hf => ?_, fun k hk => ?_⟩
    · rw [Below.heap_setCell _ _ _ _ (fun e => hf (.inl e)), hgrow.block k hk (fun e => hf (.inr ⟨i, hi, e.symm⟩))]
    · rcases hk with e | ⟨j, hj, e⟩
      · exact .inl (.inl e)
      · unfold upd at e
        split at e
        · rcases hat k e with e2 | e2
          · exact .inl (.inr ⟨i, hi, e2⟩)
          · exact .inr e2
        · exact .inl (.inr ⟨j, hj, e⟩)

theorem good_upd {y : Wy} (h : ∀ i, i < 3 → (f i).Good) (i : Nat) (hy : y.Good) : ∀ j, j < 3 → (upd f i y j).Good := fun j hj => by
  unfold upd
  split
  · exact hy
  · exact h j hj

theorem Raw.drew (h : Raw w b vs f) : Raw w.drew b vs f := ⟨h.at_, h.apart, h.two, fun i hi => ownsRow_carry (h.owns i hi) fun _ _ => rfl⟩

theorem Raw.cells (h : Raw w b vs f) (i : Nat) (hi : i < 3) {g n cap : Nat} (hv : vs i = .slice (some ⟨g, 0, none⟩) n cap) : ∀ j (hj : j < (f i).bs.length), w.cell? ⟨g, j, none⟩ = some (.int .u8 ((f i).bs[j].toNat : Int)) := fun j hj => by
  have := (h.owns i hi).cells (g := g) (by rw [hv]; rfl) j (.int .u8 ((f i).bs[j].toNat : Int)) (by simp [bcells, hj])
  have hadd : ∀ k, (⟨g, 0, none⟩ : Addr).add k = ⟨g, k, none⟩ := fun k => by unfold Addr.add; split <;> simp_all
  rw [hadd] at this
  exact this

end

def nils : Nat → Value := fun _ => .slice none 0 0
def nones : Nat → Wy := fun _ => Wy.none

theorem Wir.new (w : World) : Wir (w.alloc (.cells #[.slice none 0 0, .int .i64 0, .int .i64 0, .slice none 0 0, .int .i64 0, .int .i64 0, .slice none 0 0, .int .i64 0, .int .i64 0] 48)) w.heap.size nils nones :=
  ⟨⟨heap_alloc_new w _, fun _ _ => by simp [nils, Value.ownBlock], fun i j _ _ _ k hk => by simp [nils, Value.ownBlock] at hk, fun _ _ => World.ownsRow_nil _ _ _ _⟩, fun _ _ => Wy.none_good⟩

end Go.Proofs.Ytjiljencdhbchaa
