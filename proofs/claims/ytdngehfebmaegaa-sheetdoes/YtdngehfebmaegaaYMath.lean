/-
  Plain facts on the bytes of a number: seven bits a byte, the lowest first, the highest bit of a byte set where more follow. No Go in sight.
-/
namespace Go.Proofs.Ytdngehfebmaegaa.Sty
/-- The bytes of a number, as many at most as the first argument says and one more. -/
def wideF : Nat → Nat → List UInt8
  | 0, n => [UInt8.ofNat n]
  | k + 1, n => if n < 128 then [UInt8.ofNat n] else UInt8.ofNat (128 + n % 128) :: wideF k (n / 128)

/-- The bytes of a number. -/
def wide (n : Nat) : List UInt8 := wideF n n

theorem wideF_small (k : Nat) {n : Nat} (h : n < 128) : wideF k n = [UInt8.ofNat n] := by
  cases k with
  | zero => rfl
  | succ k => rw [wideF, if_pos h]

theorem wideF_same (n : Nat) : ∀ k, n ≤ k → wideF k n = wide n := by
  induction n using Nat.strongRecOn with
  | ind n ih =>
    intro k hk
    by_cases h : n < 128
    · rw [wide, wideF_small k h, wideF_small n h]
    · obtain ⟨j, rfl⟩ : ∃ j, k = j + 1 := ⟨k - 1, by omega⟩
      obtain ⟨m, rfl⟩ : ∃ m, n = m + 1 := ⟨n - 1, by omega⟩
      rw [wide, wideF, wideF, if_neg h, if_neg h, ih ((m + 1) / 128) (by omega) j (by omega), ih ((m + 1) / 128) (by omega) m (by omega)]

theorem wide_small {n : Nat} (h : n < 128) : wide n = [UInt8.ofNat n] := wideF_small n h
theorem wide_great {n : Nat} (h : ¬ n < 128) : wide n = UInt8.ofNat (128 + n % 128) :: wide (n / 128) := by
  obtain ⟨m, rfl⟩ : ∃ m, n = m + 1 := ⟨n - 1, by omega⟩
  rw [wide, wideF, if_neg h, wideF_same ((m + 1) / 128) m (by omega)]

/-- The number that bytes stand for. -/
def dec : List UInt8 → Nat
  | [] => 0
  | c :: r => c.toNat % 128 + 128 * dec r

theorem dec_wide (n : Nat) : dec (wide n) = n := by
  induction n using Nat.strongRecOn with
  | ind n ih =>
    by_cases h : n < 128
    · rw [wide_small h]
      have e : (UInt8.ofNat n).toNat = n % 256 := by simp [UInt8.toNat_ofNat']
      simp only [dec, e]
      omega
    · rw [wide_great h]
      have e : (UInt8.ofNat (128 + n % 128)).toNat = (128 + n % 128) % 256 := by simp [UInt8.toNat_ofNat']
      simp only [dec, e]
      rw [ih (n / 128) (by omega)]
      omega

theorem wide_inj {a b : Nat} (h : wide a = wide b) : a = b := by
  rw [← dec_wide a, ← dec_wide b, h]

theorem wide_pos (n : Nat) : 1 ≤ (wide n).length := by
  by_cases h : n < 128
  · rw [wide_small h]; simp
  · rw [wide_great h]; simp

theorem wide_mono {a b : Nat} (h : a ≤ b) : (wide a).length ≤ (wide b).length := by
  induction a using Nat.strongRecOn generalizing b with
  | ind a ih =>
    by_cases ha : a < 128
    · rw [wide_small ha]
      exact wide_pos b
    · rw [wide_great ha, wide_great (n := b) (by omega)]
      have := ih (a / 128) (by omega) (b := b / 128) (by omega)
      simp only [List.length_cons]
      omega

theorem wide_len_pow (k n : Nat) (h : n < 128 ^ (k + 1)) : (wide n).length ≤ k + 1 := by
  induction k generalizing n with
  | zero => rw [wide_small (by simpa using h)]; simp
  | succ k ih =>
    by_cases hn : n < 128
    · rw [wide_small hn]; simp
    · rw [wide_great hn]
      have hd : n / 128 < 128 ^ (k + 1) := by
        rw [Nat.div_lt_iff_lt_mul (by omega)]
        rw [Nat.pow_succ] at h
        exact h
      have := ih (n / 128) hd
      simp only [List.length_cons]
      omega

theorem wide_len {n : Nat} (h : n < 18446744073709551616) : (wide n).length ≤ 10 :=
  wide_len_pow 9 n (Nat.lt_of_lt_of_le h (by decide))

/-- The bytes of a number with a sign: which number without one it stands for. -/
def foldN (x : Int) : Nat := if x < 0 then 2 * (-(x + 1)).toNat + 1 else 2 * x.toNat

end Go.Proofs.Ytdngehfebmaegaa.Sty
