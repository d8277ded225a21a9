/-
  Cut, of all sizes.
-/
import Derived.Test.YtdngehfebmaegaaFAt
namespace Go.Proofs.Ytdngehfebmaegaa.Fil
open Go.RowKit Go.Deep

/-- The bytes that Cut leaves. -/
def cutS (is : Bool) (s : ByteArray) (n : Int) : ByteArray := if is = true ∧ 0 ≤ n ∧ n ≤ 32 then txt (pad s.data.toList n.toNat) else s

theorem cutS_can {is : Bool} {s : ByteArray} (h : CanBe is s) (n : Int) : CanBe is (cutS is s n) := by
  unfold cutS
  split
  · next k =>
    rw [k.1]
    exact .inl ⟨rfl, by rw [txt_size, pad_length]; omega⟩
  · exact h

set_option maxRecDepth 100000 in
theorem cut_any {is : Bool} {s : ByteArray} (h : CanBe is s) (n : Int) (w : World) : Calls Try.prog 41 #[.agg #[.bool is, .string s], .int .i64 n] w fun e w' => e = .returned (.agg #[.bool is, .string (cutS is s n)]) ∧ Below w.heap.size w w' := by
  by_cases hk : is = true ∧ 0 ≤ n ∧ n ≤ 32
  · obtain ⟨rfl, h0, h1⟩ := hk
    obtain ⟨j, rfl⟩ : ∃ j : Nat, n = (j : Int) := ⟨n.toNat, by omega⟩
    have e : cutS true s j = txt (pad s.data.toList j) := by
      unfold cutS
      rw [if_pos ⟨rfl, h0, h1⟩, Int.toNat_natCast]
    rw [e]
    exact cut_yes h.le j (by omega) w
  · have e : cutS is s n = s := by
      unfold cutS
      rw [if_neg hk]
    rw [e]
    refine cut_out h n ?_ w
    cases is
    · exact .inl rfl
    · have : ¬ (0 ≤ n ∧ n ≤ 32) := fun k => hk ⟨rfl, k⟩
      right
      omega

theorem cutS_twice (is : Bool) (s : ByteArray) (a b : Int) (h0 : 0 ≤ b) (h1 : b ≤ a) (h2 : a ≤ 32) : cutS is (cutS is s a) b = cutS is s b := by
  cases is
  · simp [cutS]
  · unfold cutS
    rw [if_pos ⟨rfl, h0, by omega⟩, if_pos ⟨rfl, by omega, h2⟩, if_pos ⟨rfl, h0, by omega⟩, txt_toList, pad_pad _ _ _ (by omega)]

theorem cutS_own (is : Bool) (s : ByteArray) : cutS is s s.size = s := by
  unfold cutS
  split
  · rw [Int.toNat_natCast, ← list_size, pad_same, txt_list]
  · rfl

end Go.Proofs.Ytdngehfebmaegaa.Fil
