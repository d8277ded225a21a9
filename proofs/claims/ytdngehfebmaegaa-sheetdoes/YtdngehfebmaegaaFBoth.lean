/-
  What the program and the document answer: the same.
-/
import Derived.Test.YtdngehfebmaegaaFRefCut
namespace Go.Proofs.Ytdngehfebmaegaa.Fil
open Go.RowKit Go.Deep

set_option maxRecDepth 100000 in
theorem refCut_any {is : Bool} {s : ByteArray} (h : CanBe is s) (n : Int) (w : World) : Calls Try.prog 56 #[.agg #[.bool is, .string s], .int .i64 n] w fun e w' => e = .returned (.agg #[.bool is, .string (cutS is s n)]) ∧ Below w.heap.size w w' := by
  by_cases hk : is = true ∧ 0 ≤ n ∧ n ≤ 32
  · obtain ⟨rfl, h0, h1⟩ := hk
    obtain ⟨j, rfl⟩ : ∃ j : Nat, n = (j : Int) := ⟨n.toNat, by omega⟩
    have e : cutS true s j = txt (pad s.data.toList j) := by
      unfold cutS
      rw [if_pos ⟨rfl, h0, h1⟩, Int.toNat_natCast]
    rw [e]
    exact refCut_yes h.le j (by omega) w
  · have e : cutS is s n = s := by
      unfold cutS
      rw [if_neg hk]
    rw [e]
    refine refCut_out is s n ?_ w
    cases is
    · exact .inl rfl
    · have : ¬ (0 ≤ n ∧ n ≤ 32) := fun k => hk ⟨rfl, k⟩
      right
      omega

set_option maxRecDepth 100000 in
/-- Put, of all places: the program's and the document's. -/
theorem put_both {is : Bool} {s : ByteArray} (h : CanBe is s) (k : Int) (b : UInt8) : ∃ (pi : Bool) (ps : ByteArray), CanBe pi ps ∧
    (∀ z, Calls Try.prog 40 #[.agg #[.bool is, .string s], .int .i64 k, .int .u8 b.toNat] z fun e z' => e = .returned (.agg #[.bool pi, .string ps]) ∧ Below z.heap.size z z') ∧
    ∀ z, Calls Try.prog 55 #[.agg #[.bool is, .string s], .int .i64 k, .int .u8 b.toNat] z fun e z' => e = .returned (.agg #[.bool pi, .string ps]) ∧ Below z.heap.size z z' := by
  by_cases hk : 0 ≤ k ∧ k < 32
  · obtain ⟨j, rfl⟩ : ∃ j : Nat, k = (j : Int) := ⟨k.toNat, by omega⟩
    exact ⟨true, _, put_can s j b h.le (by omega), fun z => put_yes h j (by omega) b z, fun z => refPut_yes is h.le j (by omega) b z⟩
  · exact ⟨is, s, h, fun z => put_out h k (by omega) b z, fun z => refPut_out is s k (by omega) b z⟩

end Go.Proofs.Ytdngehfebmaegaa.Fil
