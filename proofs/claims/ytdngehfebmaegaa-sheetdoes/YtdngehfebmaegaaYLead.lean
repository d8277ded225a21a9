/-
  The walk of 'leading': the number with which bytes begin, and how many of them it has.
-/
import Derived.Test.YtdngehfebmaegaaYRefs
import Derived.Test.YtdngehfebmaegaaYCanon
namespace Go.Proofs.Ytdngehfebmaegaa.Sty
open Go.RowKit

theorem andNot_128 : ∀ c : Fin 256, bits BinOp.andNot IntKind.u8 ((c.val : Nat) : Int) 128 = ((c.val % 128 : Nat) : Int) := by decide +kernel

theorem pow7 (k : Nat) : (2 : Nat) ^ (7 * k) = 128 ^ k := by rw [Nat.pow_mul]

/-- A byte's seven bits laid behind those that were read. -/
theorem or_step (q b k : Nat) (hb : b < 256) (hq : q < 128 ^ k) (hk : b % 128 * 128 ^ k + 128 ^ k ≤ 18446744073709551616) :
    bits BinOp.or IntKind.u64 (q : Int) (IntKind.u64.wrap (IntKind.u64.wrap (bits BinOp.andNot IntKind.u8 (b : Int) 128) * 2 ^ (7 * k))) = ((q + b % 128 * 128 ^ k : Nat) : Int) := by
  have h := andNot_128 ⟨b, hb⟩
  have h1 : bits BinOp.andNot IntKind.u8 (b : Int) 128 = ((b % 128 : Nat) : Int) := h
  have h2 : IntKind.u64.wrap ((b % 128 : Nat) : Int) = ((b % 128 : Nat) : Int) := by rw [IntKind.wrap_u64]; omega
  have h3 : ((b % 128 : Nat) : Int) * 2 ^ (7 * k) = ((b % 128 * 128 ^ k : Nat) : Int) := by
    rw [← pow7]
    push_cast
    rfl
  have hpos : 0 < 128 ^ k := Nat.pow_pos (by decide)
  have h4 : IntKind.u64.wrap ((b % 128 * 128 ^ k : Nat) : Int) = ((b % 128 * 128 ^ k : Nat) : Int) := by rw [IntKind.wrap_u64]; omega
  rw [h1, h2, h3, h4, bits_or_u64_nat _ _ (by omega) (by omega)]
  have h5 := Nat.shiftLeft_add_eq_or_of_lt (i := 7 * k) (b := q) (by rw [pow7]; exact hq) (b % 128)
  rw [Nat.shiftLeft_eq, pow7] at h5
  rw [Nat.or_comm, ← h5, Nat.add_comm]

/-- Whatever comes of it is a number of 64 bits. -/
theorem or_any (q b k : Nat) (hq : q < 18446744073709551616) :
    ∃ q' : Nat, q' < 18446744073709551616 ∧ bits BinOp.or IntKind.u64 (q : Int) (IntKind.u64.wrap (IntKind.u64.wrap (bits BinOp.andNot IntKind.u8 (b : Int) 128) * 2 ^ (7 * k))) = (q' : Int) := by
  obtain ⟨x, hx⟩ : ∃ x : Int, x = IntKind.u64.wrap (bits BinOp.andNot IntKind.u8 (b : Int) 128) * 2 ^ (7 * k) := ⟨_, rfl⟩
  rw [← hx]
  have h1 : ∃ y : Nat, IntKind.u64.wrap x = (y : Int) ∧ y < 18446744073709551616 := ⟨(x % 18446744073709551616).toNat, by rw [IntKind.wrap_u64]; omega, by omega⟩
  obtain ⟨y, hy, hy1⟩ := h1
  rw [hy, bits_or_u64_nat _ _ hq hy1]
  exact ⟨q ||| y, Nat.or_lt_two_pow (n := 64) (by omega) (by omega), rfl⟩

theorem byte_at (s : ByteArray) (k : Nat) (h : k < s.size) : s[k].toNat = (s.data.toList.getD k 0).toNat := by
  simp [List.getD, h, ByteArray.getElem_eq_getElem_data]

theorem two_ways {x : Nat} (h : ((x : Int) == 0) = true ∨ (1 : Int) < (x : Int)) (h0 : ¬ x = 0) : 1 < x := by
  rcases h with h | h
  · have := beq_iff_eq.1 h
    omega
  · omega

/-- A round whose byte has its highest bit set. -/
theorem lead_next {s : ByteArray} {k q : Nat} (hl1 : k < 10) (hl2 : k < s.size) (hq : q < 18446744073709551616) (hqd : k < 10 → q = dec (s.data.toList.take k)) (hhigh : ∀ j, j < k → 128 ≤ (s.data.toList.getD j 0).toNat) (hb : (128 : Int) ≤ (s[k].toNat : Int)) :
    ∃ k1 q1 : Nat, k1 ≤ 10 ∧ k1 ≤ s.size ∧ Value.int .i64 ((k : Int) + 1) = .int .i64 (k1 : Int) ∧
      Value.int .u64 (bits BinOp.or IntKind.u64 (q : Int) (IntKind.u64.wrap (IntKind.u64.wrap (bits BinOp.andNot IntKind.u8 (s[k].toNat : Int) 128) * 2 ^ (7 * k)))) = .int .u64 (q1 : Int) ∧
      q1 < 18446744073709551616 ∧ (k1 < 10 → q1 = dec (s.data.toList.take k1)) ∧ ∀ j, j < k1 → 128 ≤ (s.data.toList.getD j 0).toNat := by
  have hbs := byte_at s k hl2
  have hb8 := s[k].toNat_lt
  have hhigh1 : ∀ j, j < k + 1 → 128 ≤ (s.data.toList.getD j 0).toNat := fun j hj => by
    rcases Nat.lt_or_ge j k with h | h
    · exact hhigh j h
    · have : j = k := by omega
      subst this
      omega
  rcases Nat.lt_or_ge k 9 with h9 | h9
  · have hdl : k < s.data.toList.length := by simpa using hl2
    have hd := dec_take_succ s.data.toList k hdl
    have hdq := dec_lt (s.data.toList.take k)
    have hlen : (s.data.toList.take k).length = k := by rw [List.length_take]; omega
    rw [hlen, ← hqd hl1] at hdq
    have hp : (128 : Nat) ^ k ≤ 128 ^ 8 := Nat.pow_le_pow_right (by decide) (by omega)
    have h8 : (128 : Nat) ^ 8 = 72057594037927936 := by decide
    have hm : s[k].toNat % 128 * 128 ^ k ≤ 127 * 128 ^ k := Nat.mul_le_mul_right _ (by omega)
    have hs := or_step q s[k].toNat k hb8 hdq (by omega)
    refine ⟨k + 1, q + s[k].toNat % 128 * 128 ^ k, by omega, by omega, by rw [Int.natCast_add]; rfl, by rw [hs], by omega, fun _ => ?_, hhigh1⟩
    rw [hd, ← hqd hl1, ← hbs]
  · obtain ⟨q', hq', hs⟩ := or_any q s[k].toNat k hq
    exact ⟨k + 1, q', by omega, by omega, by rw [Int.natCast_add]; rfl, by rw [hs], hq', fun h => by omega, hhigh1⟩

/-- The last byte of a number. -/
theorem lead_end {s : ByteArray} {k q : Nat} (hl1 : k < 10) (hl2 : k < s.size) (hqd : k < 10 → q = dec (s.data.toList.take k)) (hhigh : ∀ j, j < k → 128 ≤ (s.data.toList.getD j 0).toNat) (hb : (s[k].toNat : Int) < 128)
    (hidle : k = 0 ∨ s[k].toNat ≠ 0) (hmost : k = 9 → s[k].toNat ≤ 1) :
    Ending.returned (.tuple #[.int .u64 (bits BinOp.or IntKind.u64 (q : Int) (IntKind.u64.wrap (IntKind.u64.wrap (bits BinOp.andNot IntKind.u8 (s[k].toNat : Int) 128) * 2 ^ (7 * k)))), .int .i64 ((k : Int) + 1)]) =
      .returned (.tuple #[.int .u64 ((dec (s.data.toList.take (k + 1)) : Nat) : Int), .int .i64 ((k + 1 : Nat) : Int)]) ∧ Lead s.data.toList (dec (s.data.toList.take (k + 1))) (k + 1) := by
  have hbs := byte_at s k hl2
  have hdl : k < s.data.toList.length := by simpa using hl2
  have hd := dec_take_succ s.data.toList k hdl
  have hdq := dec_lt (s.data.toList.take k)
  have hlen : (s.data.toList.take k).length = k := by rw [List.length_take]; omega
  rw [hlen, ← hqd hl1] at hdq
  have hroom : s[k].toNat % 128 * 128 ^ k + 128 ^ k ≤ 18446744073709551616 := by
    rcases Nat.lt_or_ge k 9 with h9 | h9
    · have hp : (128 : Nat) ^ k ≤ 128 ^ 8 := Nat.pow_le_pow_right (by decide) (by omega)
      have h8 : (128 : Nat) ^ 8 = 72057594037927936 := by decide
      have hm : s[k].toNat % 128 * 128 ^ k ≤ 127 * 128 ^ k := Nat.mul_le_mul_right _ (by omega)
      omega
    · have h9' : k = 9 := by omega
      have hm := hmost h9'
      have hm2 : s[k].toNat % 128 * 128 ^ k ≤ 1 * 128 ^ k := Nat.mul_le_mul_right _ (by omega)
      have hp : (128 : Nat) ^ k = 128 ^ 9 := by rw [h9']
      have h8 : (128 : Nat) ^ 9 = 9223372036854775808 := by decide
      omega
  have hs := or_step q s[k].toNat k (by omega) hdq hroom
  refine ⟨?_, lead_yes hdl hl1 (by omega) hhigh (by rw [← hbs]; exact hidle) (fun h => by rw [← hbs]; exact hmost h)⟩
  rw [hs, hd, ← hqd hl1, ← hbs, Int.natCast_add k 1]
  rfl

theorem lead_end0 {s : ByteArray} {k : Nat} (hl2 : k < s.size) (hhigh : ∀ j, j < k → 128 ≤ (s.data.toList.getD j 0).toNat) (hb : (s[k].toNat : Int) < 128)
    (h : (0 < k ∧ s[k].toNat = 0) ∨ (k = 9 ∧ 1 < s[k].toNat)) : Lead s.data.toList 0 0 := by
  have hbs := byte_at s k hl2
  exact lead_no (by simpa using hl2) (by omega) hhigh (by rw [← hbs]; exact h)



end Go.Proofs.Ytdngehfebmaegaa.Sty
