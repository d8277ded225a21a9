/-
  Bytes of a record turned, in memory and as lists.
-/
import Derived.Test.YtedmpbmbeianfaaBase
import Derived.Laws.IdiomStrings
namespace Go.Proofs.Ytedmpbmbeianfaa
open Go.RowKit

/-- The bytes l lie in block g, and may be written. -/
structure BytesAt (w : World) (g : Nat) (l : List UInt8) : Prop where
  lt : g < w.heap.size
  cell : ∀ j (h : j < l.length), w.cell? ⟨g, j, none⟩ = some (.int .u8 (l[j].toNat : Int))
  free : ∀ j, j < l.length → w.frozen? ⟨g, j, none⟩ = false

theorem bytes_made (w : World) (r : ByteArray) :
    ∃ cp wx, (convert 9 40 (.string r)).run Try.prog w = .ok (.slice (some ⟨w.heap.size, 0, none⟩) r.size cp) wx ∧ r.size ≤ cp ∧ BytesAt wx w.heap.size r.data.toList ∧ Below w.heap.size w wx := by
  refine ⟨_, _, run_bytes_of_string (P := Try.prog) w 9 40 5 r Try.underlying9 Try.underlying40' Try.underlying5, ?_, ⟨?_, ?_, ?_⟩, ?_⟩
  · exact grownCap_ge _ _ _ _
  · rw [World.size_alloc]
    exact Nat.lt_succ_self _
  · intro j hj
    have hj2 : j < r.data.size := by simpa using hj
    have h := World.cell?_alloc_mark w.drew (bytesRow r (grownCap w r.size 0 5)) 5 ((bytesRow r (grownCap w r.size 0 5)).size, (bytesRow r (grownCap w r.size 0 5)).size + 1) j
    refine h.trans ?_
    rw [bytesRow_at r _ j hj2]
    simp
  · intro j hj
    have hj2 : j < r.data.size := by simpa using hj
    have h := World.frozen?_alloc_mark w.drew (bytesRow r (grownCap w r.size 0 5)) 5 (bytesRow r (grownCap w r.size 0 5)).size ((bytesRow r (grownCap w r.size 0 5)).size + 1) j
    refine h.trans ?_
    have hs : j < (bytesRow r (grownCap w r.size 0 5)).size := by
      unfold bytesRow
      rw [Array.size_append, Array.size_map]
      omega
    simp
    omega
  · exact (Below.refl w.heap.size w).drew.alloc (Nat.le_refl _) _

theorem BytesAt.back {w : World} {g : Nat} {l : List UInt8} (h : BytesAt w g l) (cap : Nat) : (convert 40 9 (.slice (some ⟨g, 0, none⟩) l.length cap)).run Try.prog w = .ok (.string ⟨l.toArray⟩) w :=
  conv_cells w g cap l h.cell

theorem BytesAt.head {w : World} {g : Nat} {l : List UInt8} (h : BytesAt w g l) (cap k : Nat) (hk : k ≤ l.length) : (convert 40 9 (.slice (some ⟨g, 0, none⟩) k cap)).run Try.prog w = .ok (.string ⟨(l.take k).toArray⟩) w := by
  have e : (l.take k).length = k := by rw [List.length_take]; omega
  have h2 := conv_cells w g cap (l.take k) (fun j hj => by
    have hj2 : j < l.length := by rw [List.length_take] at hj; omega
    rw [h.cell j hj2]
    simp)
  rw [e] at h2
  exact h2

theorem BytesAt.set {w : World} {g : Nat} {l : List UInt8} (h : BytesAt w g l) (i : Nat) (hi : i < l.length) (b : UInt8) : BytesAt (w.setCell ⟨g, i, none⟩ (.int .u8 (b.toNat : Int))) g (l.set i b) := by
  refine ⟨by simpa using h.lt, fun j hj => ?_, fun j hj => ?_⟩
  · have hj2 : j < l.length := by simpa using hj
    by_cases e : i = j
    · subst e
      rw [World.cell?_setCell_same (w := w) (h := h.cell i hi)]
      simp
    · rw [World.cell?_setCell_other (w := w) (h := by intro e2; injection e2; omega), h.cell j hj2]
      simp [e]
  · rw [World.frozen?_setCell]
    exact h.free j (by simpa using hj)

theorem lenB_take (l : List UInt8) (k : Nat) (hk : 2 ≤ k) : lenB (l.take k) = lenB l := by
  obtain ⟨j, rfl⟩ : ∃ j, k = j + 2 := ⟨k - 2, by omega⟩
  match l with
  | [] => rfl
  | [a] => rfl
  | a :: b :: r => rfl

theorem lenB_append (a r : List UInt8) (h : 2 ≤ a.length) : lenB (a ++ r) = lenB a := by
  match a, h with
  | x :: y :: a, _ => rfl

theorem lenB_rec {ld : List UInt8} (h : ld.length ≤ 1024) : lenB (recB ld) = ld.length := by
  rw [recB_yes h]
  exact lenB_body ld _ h

/-- A record with four bytes in a row turned, behind its length, begins with none. -/
theorem turned_none {ld a c : List UInt8} {b0 b1 b2 b3 : UInt8} {x : Nat} (h : ld.length ≤ 1024) (hr : recB ld = a ++ b0 :: b1 :: b2 :: b3 :: c) (ha : 2 ≤ a.length) (hx : 0 < x) (hx2 : x < 4294967296)
    (m : List UInt8) : ¬ Begins (a ++ turned [b0, b1, b2, b3] (le 4 x) ++ c) m := by
  intro hb
  have e1 : lenB (a ++ turned [b0, b1, b2, b3] (le 4 x) ++ c) = ld.length := by
    rw [List.append_assoc, lenB_append _ _ ha, ← lenB_rec h, hr, lenB_append _ _ ha]
  have e2 : m.length = ld.length := by rw [← hb.len, e1]
  have e3 : (a ++ turned [b0, b1, b2, b3] (le 4 x) ++ c).length = (recB ld).length := by
    rw [hr]
    simp [turned, le]
  have e4 : recB m = a ++ turned [b0, b1, b2, b3] (le 4 x) ++ c := by
    refine hb.2.eq_of_length ?_
    rw [e3, recB_length (by omega), recB_length (by omega), e2]
  have e5 : crc 4294967295 (recB m) = crc 4294967295 (recB ld) := by
    rw [recB_yes h, recB_yes (by omega), crc_sealed, crc_sealed]
  rw [e4, hr] at e5
  refine crc_burst a c [b0, b1, b2, b3] x 4294967295 rfl hx hx2 (e5.trans ?_)
  simp

/-- A record that is cut, behind its length, begins with none. -/
theorem cut_none {ld : List UInt8} {k : Nat} (h : ld.length ≤ 1024) (hk : 2 ≤ k) (hk2 : k ≤ ld.length + 2) (m : List UInt8) : ¬ Begins ((recB ld).take k) m := by
  intro hb
  have e1 := hb.len
  rw [lenB_take _ _ hk, lenB_rec h] at e1
  have e2 := hb.size
  rw [List.length_take] at e2
  omega

theorem opened_none {l ld : List UInt8} {n : Nat} (h : Opened l ld n) (hn : ∀ m, ¬ Begins l m) : n = 0 := by
  rcases h with ⟨h1, _⟩ | ⟨h1, _⟩
  · exact absurd h1 (hn _)
  · exact h1

end Go.Proofs.Ytedmpbmbeianfaa
