/-
  Lists of writes that came in; the document's Get.
-/
import Derived.Test.YtocdnlnhjfigjaaDfAllI
namespace Go.Proofs.Ytocdnlnhjfigjaa.Dft
open Go.ChangeShapes Go.WideShapes Go.ChangeAt Go.RowKit Go.Shelf Go.Deep Go.Proofs.Ytocdnlnhjfigjaa.Cel Go.Proofs.Ytocdnlnhjfigjaa.Dft.I

/-- Writes lie there. -/
structure PtsAt (w : World) (g off : Nat) (xs : List (Int × Int)) : Prop where
  lt : g < w.heap.size
  k : ∀ j (_ : j < xs.length), w.cell? ⟨g, off + j * 2, none⟩ = some (.int .i64 xs[j]!.1)
  i : ∀ j (_ : j < xs.length), w.cell? ⟨g, off + j * 2 + 1, none⟩ = some (.int .i64 xs[j]!.2)

theorem PtsAt.carry {w w' : World} {g off : Nat} {xs : List (Int × Int)} (h : PtsAt w g off xs) (hb : w'.heap[g]? = w.heap[g]?) (hs : w.heap.size ≤ w'.heap.size) : PtsAt w' g off xs :=
  ⟨Nat.lt_of_lt_of_le h.lt hs, fun j q => (World.cell?_of_block (w := w) hb).trans (h.k j q), fun j q => (World.cell?_of_block (w := w) hb).trans (h.i j q)⟩

/-- What is told of a list of writes that came in. -/
def IsPts (w : World) (a : Option Addr) (len cap : Nat) (xs : List (Int × Int)) : Prop :=
  xs.length = len ∧ len ≤ cap ∧ (xs = [] ∧ (a = none → cap = 0) ∨ ∃ g off, a = some ⟨g, off, none⟩ ∧ PtsAt w g off xs)

theorem IsPts.carry {w w' : World} {a : Option Addr} {len cap : Nat} {xs : List (Int × Int)} (h : IsPts w a len cap xs) (hb : Below w.heap.size w w') : IsPts w' a len cap xs := by
  obtain ⟨hl, hc, ⟨rfl, hn⟩ | ⟨g, off, rfl, hat⟩⟩ := h
  · exact ⟨hl, hc, .inl ⟨rfl, hn⟩⟩
  · exact ⟨hl, hc, .inr ⟨g, off, rfl, hat.carry (hb.block g hat.lt) hb.size⟩⟩

theorem IsPts.at_ {w : World} {a : Option Addr} {len cap : Nat} {xs : List (Int × Int)} (h : IsPts w a len cap xs) (hl : 0 < len) : ∃ g off, a = some ⟨g, off, none⟩ ∧ PtsAt w g off xs := by
  obtain ⟨hl2, _, ⟨rfl, _⟩ | ⟨g, off, e, hat⟩⟩ := h
  · simp at hl2; omega
  · exact ⟨g, off, e, hat⟩

theorem IsPts.none (w : World) : IsPts w none 0 0 [] := ⟨rfl, Nat.le_refl _, .inl ⟨rfl, fun _ => rfl⟩⟩

set_option maxRecDepth 100000 in
theorem Try.cells29 : Try.prog.cellsOf 29 = 2 := by kernel_rfl

set_option maxRecDepth 100000 in
theorem open_pt {H : Type} {enc : TypeId × Value → H} {w : World} {n : Nat} {cs : List Value} {x : DataW H × List MemPlace}
    (h : DataW.trod enc Try.prog w 0 (fun _ => true) true n 29 cs = some x) : ∃ c : Int × Int, cs = [.int .i64 c.1, .int .i64 c.2] := by
  obtain ⟨xs, m, _, _, hlen, hxs, hf⟩ := DataW.trod_struct Try.underlying29 h
  rw [Try.cells29] at hlen
  match cs, hlen, xs, hxs with
  | [v0, v1], _, [y0, y1], _ =>
    have g0 := hf 0 _ rfl
    have g1 := hf 1 _ rfl
    simp [Try.cells3] at g0 g1
    obtain ⟨q0, e0, _, _⟩ := DataW.trod_int Try.underlying3 g0
    obtain ⟨q1, e1, _, _⟩ := DataW.trod_int Try.underlying3 g1
    simp at e0 e1
    subst e0 e1
    exact ⟨⟨q0, q1⟩, rfl⟩

set_option maxRecDepth 100000 in
theorem open_pts {H : Type} {enc : TypeId × Value → H} {w : World} {a : Option Addr} {len cap fuel : Nat} {x : DataW H × List MemPlace}
    (h : DataW.trod enc Try.prog w 0 (fun _ => true) true fuel 22 [.slice a len cap] = some x) : ∃ cs, IsPts w a len cap cs := by
  rcases open_slice Try.underlying22 h with ⟨hcs, _⟩ | ⟨a', len', cap', m, n, D, Pl, hcs, _, hl, hm, hmm, _, hx⟩
  · simp at hcs
    obtain ⟨rfl, rfl, rfl⟩ := hcs
    exact ⟨[], rfl, Nat.le_refl _, .inl ⟨rfl, fun _ => rfl⟩⟩
  · simp at hcs
    obtain ⟨rfl, rfl, rfl⟩ := hcs
    rw [Try.cells29] at hx
    have hlc : len ≤ cap := by simpa using hl
    have hlm : len ≤ m := by rw [hmm]; simpa using hl
    have each : ∀ i, i < len → ∃ it : Int × Int, w.cell? (a'.add (i * 2)) = some (.int .i64 it.1) ∧ w.cell? (a'.add (i * 2 + 1)) = some (.int .i64 it.2) := by
      intro i hi
      obtain ⟨cs', h1, h2⟩ := hx i (by omega)
      obtain ⟨_, hlen, hcell⟩ := World.cells?_some h1
      obtain ⟨c, rfl⟩ := open_pt h2
      have c0 := hcell 0 (by decide)
      have c1 := hcell 1 (by decide)
      rw [Deep.add_add] at c0 c1
      exact ⟨c, by simpa using c0, by simpa using c1⟩
    by_cases h0 : len = 0
    · exact ⟨[], h0.symm, hlc, .inl ⟨rfl, fun e => by cases e⟩⟩
    obtain ⟨it0, k0, _⟩ := each 0 (by omega)
    obtain ⟨g', off', e, hg⟩ := plain_of_cell k0
    obtain ⟨g, off, rfl⟩ : ∃ g off, a' = ⟨g, off, none⟩ := by
      obtain ⟨g, off, sp⟩ := a'
      have hs := congrArg Addr.spot e
      unfold Addr.add at hs
      cases sp with
      | none => exact ⟨g, off, rfl⟩
      | some y => simp at hs
    rw [Cel.add_plain] at e
    have hgg : g = g' := congrArg Addr.block e
    subst hgg
    obtain ⟨f, hf⟩ := choose_lt (α := Int × Int) each
    have hget : ∀ j, j < len → ((List.range len).map f)[j]! = f j := fun j hj => by
      rw [getElem!_pos _ j (by simpa using hj)]
      simp
    refine ⟨(List.range len).map f, by simp, hlc, .inr ⟨g, off, rfl, hg, fun j hj => ?_, fun j hj => ?_⟩⟩
    all_goals
      have hj' : j < len := by simpa using hj
      have hfj := hf j hj'
      rw [Cel.add_plain, Cel.add_plain] at hfj
      rw [hget j hj']
    · exact hfj.1
    · exact hfj.2

theorem IsPts.take {w : World} {a : Option Addr} {len cap : Nat} {xs : List (Int × Int)} (h : IsPts w a len cap xs) (k : Nat) (hk : k ≤ len) : IsPts w a k cap (xs.take k) := by
  obtain ⟨hl, hc, ⟨rfl, hn⟩ | ⟨g, off, rfl, hat⟩⟩ := h
  · simp at hl
    obtain rfl : k = 0 := by omega
    exact ⟨rfl, Nat.zero_le _, .inl ⟨rfl, hn⟩⟩
  · have hkl : k ≤ xs.length := by omega
    have e : ∀ j, j < (xs.take k).length → (xs.take k)[j]! = xs[j]! := fun j hj => by
      rw [List.length_take] at hj
      rw [getElem!_pos _ j (by rw [List.length_take]; exact hj), getElem!_pos xs j (by omega)]
      simp
    refine ⟨by rw [List.length_take]; omega, by omega, .inr ⟨g, off, rfl, hat.lt, fun j hj => ?_, fun j hj => ?_⟩⟩
    · rw [e j hj]; exact hat.k j (by rw [List.length_take] at hj; omega)
    · rw [e j hj]; exact hat.i j (by rw [List.length_take] at hj; omega)

theorem last_nil (i : Int) : last ([] : List (Int × Int)) i = none := rfl

theorem last_take {l : List (Int × Int)} (i : Int) (j : Nat) (hj : j < l.length) : last (l.take (j + 1)) i = if i = l[j]!.1 then some l[j]!.2 else last (l.take j) i := by
  have e : l.take (j + 1) = l.take j ++ [l[j]!] := by
    rw [getElem!_pos l j hj, List.take_succ_eq_append_getElem hj]
  rw [e, last_snoc]

set_option maxHeartbeats 2000000 in
set_option maxRecDepth 100000 in
/-- The document's Get. -/
theorem refGet_any {w : World} {a : Option Addr} {len cap : Nat} {l : List (Int × Int)} (h : IsPts w a len cap l) (hs : len ≤ 1000000) (i : Int) :
    Calls Try.prog 9 #[.slice a len cap, .int .i64 i] w fun e w' => e = .returned (.tuple #[.int .i64 ((last l i).getD 0), .bool (last l i).isSome]) ∧ w' = w := by
  have HL := Hid.mk h.1
  have HI := Hid.mk h
  clear h
  go_enter Try.func9, Try.ntmps9
  go_wp2
  go_loopw [6] (fun idx wr => ∃ z : Int, idx = .int .i64 z ∧ -1 ≤ z ∧ z < (len : Int) ∧ wr = w ∧ Hid (last l i = last (l.take (z + 1).toNat) i)) (fun idx _ => (intOf idx + 1).toNat)
  case atStart => exact ⟨(len : Int) - 1, rfl, by omega, by omega, rfl, Hid.mk (by rw [show ((len : Int) - 1 + 1).toNat = l.length by have := HL.out; omega, List.take_length])⟩
  case round =>
    obtain ⟨z, rfl, hz1, hz2, rfl, HZ⟩ := hrel
    by_cases hz : 0 ≤ z
    · obtain ⟨j, rfl⟩ : ∃ j : Nat, z = (j : Int) := ⟨z.toNat, by omega⟩
      have hjl : j < l.length := by have := HL.out; omega
      obtain ⟨g, off, rfl, hat⟩ := HI.out.at_ (by omega)
      have c0 := hat.k j hjl
      have c1 := hat.i j hjl
      have HT := Hid.mk (last_take (l := l) i j hjl)
      obtain ⟨y0, hy0⟩ : ∃ y, y = l[j]!.1 := ⟨_, rfl⟩
      obtain ⟨y1, hy1⟩ : ∃ y, y = l[j]!.2 := ⟨_, rfl⟩
      rw [← hy0] at c0 HT
      rw [← hy1] at c1 HT
      have hjn : j < len := by omega
      clear hat hy0 hy1 hjl hz hz1 hz2
      by_cases he : y0 = i
      · have HE := Hid.mk he
        have he2 : (y0 == i) = true := by simpa using he
        clear he
        go_wp2
        go_ret2
        have e := HZ.out
        rw [show ((j : Int) + 1).toNat = j + 1 by omega, HT.out, if_pos HE.out.symm] at e
        exact ⟨by rw [e]; rfl, rfl⟩
      · have HE := Hid.mk he
        have he2 : (y0 == i) = false := by simpa using he
        clear he
        go_wp2
        go_roundw
        case rel =>
          have e := HZ.out
          rw [show ((j : Int) + 1).toNat = j + 1 by omega, HT.out, if_neg (fun h => HE.out h.symm)] at e
          exact ⟨(j : Int) - 1, by go_num, by omega, by omega, trivial, Hid.mk (by rw [e, show ((j : Int) - 1 + 1).toNat = j by omega])⟩
        case measure => simp [intOf]
    · obtain rfl : z = -1 := by omega
      clear hz1 hz2 hz
      go_wp2
      go_ret2
      have e := HZ.out
      rw [show ((-1 : Int) + 1).toNat = 0 by omega, List.take_zero, last_nil] at e
      exact ⟨by rw [e]; rfl, rfl⟩

end Go.Proofs.Ytocdnlnhjfigjaa.Dft
