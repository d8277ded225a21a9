/-
  At, of all places; what came in as a file.
-/
import Derived.Test.YtdngehfebmaegaaFAlive
namespace Go.Proofs.Ytdngehfebmaegaa.Fil
open Go.ChangeShapes Go.WideShapes Go.ChangeAt Go.RowKit Go.Deep

/-- The byte at a place, as a number; -1: there is none. -/
def atI (s : ByteArray) (k : Int) : Int := if 0 ≤ k ∧ k < s.size then ((atz s.data.toList k.toNat).toNat : Int) else -1

theorem atI_yes (s : ByteArray) (k : Nat) (h : k < s.size) : atI s k = ((atz s.data.toList k).toNat : Int) := by
  unfold atI
  rw [if_pos ⟨by omega, by omega⟩, Int.toNat_natCast]
theorem atI_no (s : ByteArray) (k : Int) (h : k < 0 ∨ (s.size : Int) ≤ k) : atI s k = -1 := by
  unfold atI
  rw [if_neg (by omega)]
theorem atI_small (s : ByteArray) (k : Int) : -1 ≤ atI s k ∧ atI s k < 256 := by
  unfold atI
  split
  · have := (atz s.data.toList k.toNat).toNat_lt
    omega
  · omega



theorem put_size (s : ByteArray) (k : Nat) (b : UInt8) : (txt (put s.data.toList k b)).size = max s.size (k + 1) := by rw [txt_size, put_length, list_size]
theorem put_can (s : ByteArray) (k : Nat) (b : UInt8) (hs : s.size ≤ 32) (hk : k < 32) : CanBe true (txt (put s.data.toList k b)) := .inl ⟨rfl, by rw [put_size]; omega⟩

theorem atI_put (s : ByteArray) (k : Nat) (b : UInt8) (j : Int) : atI (txt (put s.data.toList k b)) j = if 0 ≤ j ∧ j < max s.size (k + 1) then (if j = k then (b.toNat : Int) else ((atz s.data.toList j.toNat).toNat : Int)) else -1 := by
  unfold atI
  rw [put_size]
  by_cases h : 0 ≤ j ∧ j < ((max s.size (k + 1) : Nat) : Int)
  · rw [if_pos h, if_pos (by omega)]
    obtain ⟨i, rfl⟩ : ∃ i : Nat, j = (i : Int) := ⟨j.toNat, by omega⟩
    rw [Int.toNat_natCast, txt_toList]
    have hi : i < (put s.data.toList k b).length := by rw [put_length, list_size]; omega
    rw [atz_get _ _ hi, put_get s.data.toList k b i (by rw [list_size]; omega)]
    by_cases e : i = k
    · rw [if_pos e, if_pos (by omega)]
    · rw [if_neg e, if_neg (by omega)]
  · rw [if_neg h, if_neg (by omega)]

/-- No other byte is another one; between there are bytes 0. -/
theorem put_other (s : ByteArray) (k : Nat) (b : UInt8) (j : Int) (hj : j ≠ k) :
    atI s j = atI (txt (put s.data.toList k b)) j ∨ atI s j = -1 ∧ atI (txt (put s.data.toList k b)) j = 0 ∧ (s.size : Int) ≤ j ∧ j < k := by
  rw [atI_put]
  by_cases h0 : j < 0
  · left
    rw [atI_no s j (.inl h0), if_neg (by omega)]
  · obtain ⟨i, rfl⟩ : ∃ i : Nat, j = (i : Int) := ⟨j.toNat, by omega⟩
    by_cases h1 : i < s.size
    · left
      rw [atI_yes s i h1, if_pos (by omega), if_neg hj, Int.toNat_natCast]
    · rw [atI_no s i (.inr (by omega))]
      by_cases h2 : i < k
      · right
        rw [if_pos (by omega), if_neg hj, Int.toNat_natCast, atz_out _ i (by rw [list_size]; omega)]
        exact ⟨rfl, rfl, by omega, by omega⟩
      · left
        rw [if_neg (by omega)]

theorem put_there (s : ByteArray) (k : Nat) (b : UInt8) : atI (txt (put s.data.toList k b)) k = b.toNat := by
  rw [atI_put, if_pos (by omega), if_pos rfl]

/-- What was left as it was, and is again. -/
theorem farther {B : Nat} {w0 z z' : World} (hB : B ≤ w0.heap.size) (h : Below B w0 z) (k : Below z.heap.size z z') : Below B w0 z' := h.trans (k.mono (Nat.le_trans hB h.size))

/-- A byte that came in. -/
theorem u8_of {a : Int} (h : (Lit.int .u8 a).wf = true) : ∃ b : UInt8, a = (b.toNat : Int) := by
  have hr : 0 ≤ a ∧ a < 256 := by
    simp [Lit.wf] at h
    have e1 : IntKind.u8.min = 0 := by decide
    have e2 : IntKind.u8.max = 255 := by decide
    omega
  refine ⟨UInt8.ofNat a.toNat, ?_⟩
  simp
  omega

set_option maxRecDepth 100000 in
theorem Try.cells4 : Try.prog.cellsOf 4 = 1 := by kernel_rfl
set_option maxRecDepth 100000 in
theorem Try.cells9 : Try.prog.cellsOf 9 = 1 := by kernel_rfl
set_option maxRecDepth 100000 in
theorem Try.cells23 : Try.prog.cellsOf 23 = 2 := by kernel_rfl

set_option maxRecDepth 100000 in
/-- A file's cells, opened. -/
theorem open_fl {H : Type} {enc : TypeId × Value → H} {w : World} {n : Nat} {cs : List Value} {x : DataW H × List MemPlace}
    (h : DataW.trod enc Try.prog w 0 (fun _ => true) true n 23 cs = some x) : ∃ (is : Bool) (s : ByteArray), cs = [.bool is, .string s] ∧ s.size ≤ maxLen := by
  obtain ⟨xs, m, _, _, hlen, hxs, hf⟩ := DataW.trod_struct Try.underlying23 h
  rw [Try.cells23] at hlen
  match cs, hlen, xs, hxs with
  | [v0, v1], _, [y0, y1], _ =>
    have g0 := hf 0 _ rfl
    have g1 := hf 1 _ rfl
    simp [Try.cells4, Try.cells9] at g0 g1
    obtain ⟨q0, e0, _⟩ := DataW.trod_bool Try.underlying4 g0
    obtain ⟨q1, e1, _, z1⟩ := DataW.trod_string Try.underlying9 g1
    simp at e0 e1
    subst e0 e1
    exact ⟨q0, q1, rfl, z1⟩

end Go.Proofs.Ytdngehfebmaegaa.Fil
