/-
  A list of numbers that came in; which places of a text were put, and what a file has of it. 
-/
import Derived.Test.YtajongclalcigaaFOne
import Derived.ChangeSlices
namespace Go.Proofs.Ytajongclalcigaa.Fil
open Go.ChangeShapes Go.WideShapes Go.ChangeAt Go.RowKit Go.Deep

set_option maxRecDepth 100000 in
theorem Try.cells3 : Try.prog.cellsOf 3 = 1 := by kernel_rfl

theorem plain_of_cell {w : World} {a : Addr} {v : Value} (h : w.cell? a = some v) : ∃ g off, a = ⟨g, off, none⟩ ∧ g < w.heap.size := by
  obtain ⟨g, off, sp⟩ := a
  have hlt := World.block_lt_of_cell? w ⟨g, off, sp⟩ h
  cases sp with
  | none => exact ⟨g, off, rfl, hlt⟩
  | some x =>
    simp only [World.cell?] at h
    split at h <;> simp at h

theorem add_plain (g off j : Nat) : (⟨g, off, none⟩ : Addr).add j = ⟨g, off + j, none⟩ := by unfold Addr.add; split <;> simp_all

/-- What is told of a list of numbers that came in. -/
def IsInts (w : World) (a : Option Addr) (len : Nat) (zs : List Int) : Prop :=
  zs.length = len ∧ (zs = [] ∨ ∃ g off, a = some ⟨g, off, none⟩ ∧ g < w.heap.size ∧ ∀ j (h : j < zs.length), w.cell? ⟨g, off + j, none⟩ = some (.int .i64 zs[j]))

theorem IsInts.at_ {w w' : World} {a : Option Addr} {len : Nat} {zs : List Int} (h : IsInts w a len zs) (hb : Below w.heap.size w w') (k : Nat) (hk : k < len) : ∃ g off, a = some ⟨g, off, none⟩ ∧ ∃ z, w'.cell? ⟨g, off + k, none⟩ = some (.int .i64 z) := by
  obtain ⟨hl, rfl | ⟨g, off, e, hlt, hc⟩⟩ := h
  · simp at hl
    omega
  · exact ⟨g, off, e, _, (hb.cell (p := ⟨g, off + k, none⟩) hlt).trans (hc k (by omega))⟩

set_option maxRecDepth 100000 in
theorem open_nums {H : Type} {enc : TypeId × Value → H} {w : World} {a : Option Addr} {len cap fuel : Nat} {x : DataW H × List MemPlace}
    (h : DataW.trod enc Try.prog w 0 (fun _ => true) true fuel 38 [.slice a len cap] = some x) : ∃ zs, IsInts w a len zs := by
  rcases Go.ChangeShapes.open_ints Try.underlying38 Try.underlying3 Try.cells3 h with ⟨hcs, _⟩ | ⟨a', len', cap', zs, hcs, _, hl, hm, hzl, _, hx, _⟩
  · simp at hcs
    obtain ⟨rfl, rfl, rfl⟩ := hcs
    exact ⟨[], rfl, .inl rfl⟩
  · simp at hcs
    obtain ⟨rfl, rfl, rfl⟩ := hcs
    have hlm : len ≤ zs.length := by rw [hzl]; simpa using hl
    by_cases h0 : len = 0
    · exact ⟨[], h0.symm, .inl rfl⟩
    obtain ⟨g', off', e, hg⟩ := plain_of_cell (hx 0 (by omega))
    obtain ⟨g, off, rfl⟩ : ∃ g off, a' = ⟨g, off, none⟩ := by
      obtain ⟨g, off, sp⟩ := a'
      have hs := congrArg Addr.spot e
      unfold Addr.add at hs
      cases sp with
      | none => exact ⟨g, off, rfl⟩
      | some y => simp at hs
    rw [add_plain] at e
    have hgg : g = g' := congrArg Addr.block e
    subst hgg
    refine ⟨zs.take len, by rw [List.length_take]; omega, .inr ⟨g, off, rfl, hg, fun j hj => ?_⟩⟩
    have hj' : j < len := by rw [List.length_take] at hj; omega
    have := hx j (by omega)
    rw [add_plain] at this
    rw [this]
    simp [List.getD, List.getElem?_eq_getElem (show j < zs.length by omega)]

/-- The places D of the text s were put, and the file (is, l) has them. -/
structure Done (s : List UInt8) (D : List Bool) (is : Bool) (l : List UInt8) : Prop where
  len : D.length = s.length
  le : l.length ≤ s.length
  is_ : is = decide (0 < l.length)
  ok : ∀ j (h : j < s.length), D[j]? = some true → l[j]? = some s[j]

theorem Done.none (s : List UInt8) : Done s (List.replicate s.length false) false [] :=
  ⟨by simp, Nat.zero_le _, rfl, fun j h k => by simp [h] at k⟩

/-- A byte of the text is put: what was there stays. -/
theorem put_keeps {s l : List UInt8} (i : Nat) (hi : i < s.length) (j : Nat) (hj : j < s.length) (h : l[j]? = some s[j]) : (put l i s[i])[j]? = some s[j] := by
  have hlt : j < l.length := by
    by_cases k : j < l.length
    · exact k
    · rw [List.getElem?_eq_none (by omega)] at h
      cases h
  rw [put_at, if_pos (by omega)]
  by_cases e : j = i
  · subst e
    rw [if_pos rfl]
  · rw [if_neg e]
    unfold atz
    rw [h]
    rfl

theorem put_has {s l : List UInt8} (i : Nat) (hi : i < s.length) : (put l i s[i])[i]? = some s[i] := by
  rw [put_at, if_pos (by omega), if_pos rfl]

theorem Done.put {s l : List UInt8} {D : List Bool} {is : Bool} (h : Done s D is l) (i : Nat) (hi : i < s.length) : Done s (D.set i true) true (put l i s[i]) := by
  have h1 := h.le
  refine ⟨by rw [List.length_set]; exact h.len, by rw [put_length]; omega, ?_, fun j hj hd => ?_⟩
  · rw [put_length]
    exact (decide_eq_true (by omega)).symm
  · by_cases e : j = i
    · subst e
      exact put_has j hj
    · rw [List.getElem?_set_ne (fun x => e x.symm)] at hd
      exact put_keeps i hi j hj (h.ok j hj hd)

theorem Done.can {s l : List UInt8} {D : List Bool} {is : Bool} (h : Done s D is l) (hs : s.length ≤ 32) : CanBe is (txt l) := by
  by_cases h0 : 0 < l.length
  · refine .inl ⟨by rw [h.is_]; exact decide_eq_true h0, by rw [txt_size]; exact Nat.le_trans h.le hs⟩
  · have e : l = [] := List.eq_nil_of_length_eq_zero (by omega)
    exact .inr ⟨by rw [h.is_]; exact decide_eq_false h0, by rw [e]; rfl⟩

/-- All places ahead of k have the text's bytes besides. -/
structure DoneTo (s : List UInt8) (D : List Bool) (is : Bool) (l : List UInt8) (k : Nat) : Prop extends Done s D is l where
  all : ∀ j (h : j < s.length), j < k → l[j]? = some s[j]

theorem Done.start {s l : List UInt8} {D : List Bool} {is : Bool} (h : Done s D is l) : DoneTo s D is l 0 := ⟨h, fun _ _ k => absurd k (by omega)⟩

theorem DoneTo.skip {s l : List UInt8} {D : List Bool} {is : Bool} {k : Nat} (h : DoneTo s D is l k) (hk : D[k]? = some true) : DoneTo s D is l (k + 1) := by
  refine ⟨h.toDone, fun j hj hjk => ?_⟩
  by_cases e : j = k
  · subst e
    exact h.ok j hj hk
  · exact h.all j hj (by omega)

theorem DoneTo.next {s l : List UInt8} {D : List Bool} {is : Bool} {k : Nat} (h : DoneTo s D is l k) (hk : k < s.length) : DoneTo s D true (Fil.put l k s[k]) (k + 1) := by
  have h1 := h.le
  refine ⟨⟨h.len, by rw [put_length]; omega, ?_, fun j hj hd => put_keeps k hk j hj (h.ok j hj hd)⟩, fun j hj hjk => ?_⟩
  · rw [put_length]
    exact (decide_eq_true (by omega)).symm
  · by_cases e : j = k
    · subst e
      exact put_has j hj
    · exact put_keeps k hk j hj (h.all j hj (by omega))

theorem DoneTo.end_ {s l : List UInt8} {D : List Bool} {is : Bool} {k : Nat} (h : DoneTo s D is l k) (hk : s.length ≤ k) : l = s ∧ is = decide (0 < s.length) := by
  have e : l = s := by
    apply List.ext_getElem?
    intro j
    by_cases hj : j < s.length
    · rw [h.all j hj (by omega), List.getElem?_eq_getElem hj]
    · have := h.le
      rw [List.getElem?_eq_none (by omega), List.getElem?_eq_none (by omega)]
  exact ⟨e, by rw [h.is_, e]⟩

/-- Truths as cells. -/
def boolC (D : List Bool) : List Value := D.map fun x => .bool x

theorem boolC_get (D : List Bool) (j : Nat) (h : j < D.length) : (boolC D)[j]? = some (.bool D[j]) := by simp [boolC, h]
theorem boolC_set (D : List Bool) (j : Nat) (x : Bool) : (boolC D).set j (.bool x) = boolC (D.set j x) := by simp [boolC, List.map_set]
theorem boolC_zeros (n : Nat) : boolC (List.replicate n false) = List.replicate n (.bool false) := by simp [boolC]

set_option maxRecDepth 100000 in
theorem Try.info4 : (Try.prog.info? 4).map (fun i => (i.zero, i.size, i.bytes)) = some (some (.bool false), 1, 1) := by kernel_rfl

set_option maxRecDepth 100000 in
theorem run_mkb (w : World) (n : Nat) (hn : n ≤ 32) :
    (Instr.makeSlice 39 (.int .i64 (n : Int)) (.int .i64 (n : Int))).run Try.prog w = .ok (.slice (some ⟨w.heap.size, 0, none⟩) n n) (w.alloc (.cells (boolC (List.replicate n false)).toArray 4)) := by
  obtain ⟨i0, hi, hz0, hz1, hz2⟩ := info_parts Try.info4
  have h := run_make (P := Try.prog) w 39 4 i0 _ Try.underlying39 hi hz0 .i64 .i64 n n (by omega) (Int.le_refl _) (by rw [hz2]; omega) (by omega)
  rw [hz1] at h
  simp only [Int.toNat_natCast, Nat.mul_one] at h
  rw [h, boolC_zeros]
  congr 4
  apply Array.ext'
  apply List.ext_getElem
  · simp [madeCells]
  · intro i h1 h2
    simp [madeCells, Value.cells, Nat.mod_one]

/-- What lies between two rounds: the file in block M, the places that were put in block G. -/
structure Lie (w wr : World) (M G : Nat) (D : List Bool) (is : Bool) (l : List UInt8) : Prop where
  file : wr.heap[M]? = some (.cells #[.bool is, .string (txt l)] 23 (0, 0))
  row : wr.heap[G]? = some (.cells (boolC D).toArray 4 (0, 0))
  bel : Below w.heap.size w wr
  ne : M ≠ G
  lm : w.heap.size ≤ M
  lg : w.heap.size ≤ G

section
variable {w wr w' : World} {M G : Nat} {D : List Bool} {is : Bool} {l : List UInt8}

theorem Lie.ltM (h : Lie w wr M G D is l) : M < wr.heap.size := (Array.getElem?_eq_some_iff.1 h.file).1
theorem Lie.ltG (h : Lie w wr M G D is l) : G < wr.heap.size := (Array.getElem?_eq_some_iff.1 h.row).1
theorem Lie.grow (h : Lie w wr M G D is l) (hb : Below wr.heap.size wr w') : Lie w w' M G D is l :=
  ⟨(hb.block M h.ltM).trans h.file, (hb.block G h.ltG).trans h.row, h.bel.trans (hb.mono h.bel.size), h.ne, h.lm, h.lg⟩
theorem Lie.setFile (h : Lie w wr M G D is l) (is' : Bool) (l' : List UInt8) : Lie w ((wr.setCell ⟨M, 0, none⟩ (.bool is')).setCell ⟨M, 1, none⟩ (.string (txt l'))) M G D is' l' := by
  refine ⟨?_, ?_, (h.bel.setCell h.lm _).setCell h.lm _, h.ne, h.lm, h.lg⟩
  · rw [heap_set _ (heap_set _ h.file)]
    rfl
  · rw [Below.heap_setCell _ ⟨M, 1, none⟩ _ _ h.ne.symm, Below.heap_setCell _ ⟨M, 0, none⟩ _ _ h.ne.symm]
    exact h.row
theorem Lie.setRow (h : Lie w wr M G D is l) (j : Nat) : Lie w (wr.setCell ⟨G, j, none⟩ (.bool true)) M G (D.set j true) is l := by
  refine ⟨?_, ?_, h.bel.setCell h.lg _, h.ne, h.lm, h.lg⟩
  · rw [Below.heap_setCell _ ⟨G, j, none⟩ _ _ h.ne]
    exact h.file
  · rw [heap_set _ h.row, ← boolC_set]
    simp
theorem Lie.drew (h : Lie w wr M G D is l) : Lie w wr.drew M G D is l := ⟨h.file, h.row, h.bel.drew, h.ne, h.lm, h.lg⟩

end

end Go.Proofs.Ytajongclalcigaa.Fil
