/-
  The walks of the sums: the program's and the document's are the same number, for every text.
-/
import Derived.Test.YtcofiidibhmhgaaRows
import Derived.Test.YtcofiidibhmhgaaCrc
import Derived.WalkKit
import Derived.WalkSpells
import Derived.WalkLawsBesides
import Derived.Laws.BitsAll
import Derived.Laws.IdiomStrings
namespace Go.Proofs.Ytcofiidibhmhgaa
open Go.RowKit

set_option maxHeartbeats 400000 in
theorem revBytes_any (w : World) (x : Int) (hx : x = 2017195650) :
    Calls Try.prog 73 #[.int .u32 x] w fun e w' => e = .returned (.int .u32 2197175160) ∧ w' = w := by
  subst hx
  go_enter Try.func73, Try.ntmps73
  go_wp2
  go_ret
  refine ⟨?_, rfl⟩
  exact congrArg (fun z => Ending.returned (Value.int IntKind.u32 z)) (by decide)

set_option maxHeartbeats 400000 in
theorem rev_any (w : World) :
    Calls Try.prog 72 #[.int .u32 517762881] w fun e w' => e = .returned (.int .u32 2197175160) ∧ w' = w := by
  go_enter Try.func72, Try.ntmps72
  go_wp2_with fail
  refine (revBytes_any _ _ (by decide)).mono ?_
  rintro e w1 ⟨rfl, rfl⟩
  go_wp2
  go_ret
  exact ⟨rfl, rfl⟩

theorem Hid.mk {p : Prop} (h : p) : Hid p := h

theorem steps_succ (n c : Nat) : steps (n + 1) c = step (steps n c) := by
  rw [steps_add n 1]
  rfl

theorem xor_byte {c b : Nat} (hc : c < 4294967296) (hb : b < 256) : bits BinOp.xor IntKind.u32 (c : Int) ((b : Int) % 4294967296) = ((c ^^^ b : Nat) : Int) := by
  have e : ((b : Int) % 4294967296) = (b : Int) := by omega
  rw [e, u32_xor_nat _ _ hc (by omega)]

theorem bit_step {x : Nat} (hx : x < 4294967296) :
    bits BinOp.xor IntKind.u32 ((x : Int) / 2) (bits BinOp.and IntKind.u32 2197175160 (-bits BinOp.and IntKind.u32 (x : Int) 1 % 4294967296)) = ((step x : Nat) : Int) := by
  have h1 : bits BinOp.and IntKind.u32 (x : Int) 1 = ((x % 2 : Nat) : Int) := by
    have h := u32_and_nat x 1 hx (by decide)
    rw [nat_mask1] at h
    exact h
  have h2 : ((x : Int) / 2) = ((x / 2 : Nat) : Int) := by omega
  rw [h1, h2]
  unfold step
  rcases Nat.mod_two_eq_zero_or_one x with h | h
  · have e : bits BinOp.and IntKind.u32 2197175160 (-((0 : Nat) : Int) % 4294967296) = ((0 : Nat) : Int) := by decide
    rw [h, e, u32_xor_nat _ _ (by omega) (by decide), Nat.xor_zero, if_neg (by decide)]
  · have e : bits BinOp.and IntKind.u32 2197175160 (-((1 : Nat) : Int) % 4294967296) = ((2197175160 : Nat) : Int) := by decide
    rw [h, e, u32_xor_nat _ _ (by omega) (by decide), if_pos rfl]

theorem all_bits {c : Nat} (hc : c < 4294967296) : bits BinOp.xor IntKind.u32 IntKind.u32.max (c : Int) = ((4294967295 - c : Nat) : Int) := by
  rw [all_ones hc]
  exact u32_xor_nat 4294967295 c (by decide) hc

theorem ref_turn {p : Nat} (hp : p / 2 < 4294967296) : Value.int IntKind.u32 (bits BinOp.xor IntKind.u32 ((p : Int) / 2) 2197175160) = .int .u32 ((p / 2 ^^^ 2197175160 : Nat) : Int) := by
  have e : ((p : Int) / 2) = ((p / 2 : Nat) : Int) := by omega
  rw [e]
  exact congrArg (Value.int IntKind.u32) (u32_xor_nat (p / 2) 2197175160 hp (by decide))

theorem par_same {p q : Nat} (h : p % 2 = 1 ↔ q % 2 = 1) : (!(((p : Int) % 2 == 1) == ((q : Int) % 2 == 1))) = false := by
  by_cases hp : p % 2 = 1
  · have h1 : ((p : Int) % 2) = 1 := by omega
    have h2 : ((q : Int) % 2) = 1 := by omega
    rw [h1, h2]
    rfl
  · have h1 : ((p : Int) % 2) = 0 := by omega
    have h2 : ((q : Int) % 2) = 0 := by omega
    rw [h1, h2]
    rfl

theorem par_other {p q : Nat} (h : ¬ (p % 2 = 1 ↔ q % 2 = 1)) : (!(((p : Int) % 2 == 1) == ((q : Int) % 2 == 1))) = true := by
  by_cases hp : p % 2 = 1
  · have h1 : ((p : Int) % 2) = 1 := by omega
    have h2 : ((q : Int) % 2) = 0 := by omega
    rw [h1, h2]
    rfl
  · have h1 : ((p : Int) % 2) = 0 := by omega
    have h2 : ((q : Int) % 2) = 1 := by omega
    rw [h1, h2]
    rfl

theorem crc_take_succ (s : ByteArray) (k : Nat) (h : k < s.size) (c : Nat) : crc c (s.data.toList.take (k + 1)) = steps 8 (crc c (s.data.toList.take k) ^^^ s[k].toNat) := by
  have hl : k < s.data.toList.length := by simpa using h
  rw [List.take_succ_eq_append_getElem hl, crc_append]
  have e : s.data.toList[k] = s[k] := by simp [ByteArray.getElem_eq_getElem_data]
  rw [e]
  rfl

set_option maxHeartbeats 400000 in
theorem sum_any (w : World) (s : ByteArray) (hsz : s.size ≤ 1099511627776) :
    Calls Try.prog 70 #[.string s] w fun e w' => e = .returned (.int .u32 (sumN s.data.toList : Nat)) ∧ w' = w := by
  go_enter Try.func70, Try.ntmps70
  go_wp2_with fail
  refine (rev_any _).mono ?_
  rintro e w1 ⟨rfl, rfl⟩
  go_wp2_with fail
  go_loop [4, 5, 9, 18] (fun c _ i _ => ∃ k : Nat, k ≤ s.size ∧ i = .int .i64 k ∧ c = .int .u32 (crc 4294967295 (s.data.toList.take k) : Nat)) (fun _ _ i _ => s.size - (intOf i).toNat)
  case atStart => exact ⟨0, Nat.zero_le _, rfl, rfl⟩
  case round =>
    obtain ⟨k, hk, rfl, rfl⟩ := hrel
    by_cases hlt : k < s.size
    · have hc := crc_lt (s.data.toList.take k) (c := 4294967295) (by decide)
      have hb := byte_lt s[k]
      have hstep := crc_take_succ s k hlt 4294967295
      obtain ⟨c, hc1⟩ : ∃ c, c = crc 4294967295 (s.data.toList.take k) := ⟨_, rfl⟩
      obtain ⟨b, hb1⟩ : ∃ b : Nat, b = s[k].toNat := ⟨_, rfl⟩
      rw [← hc1, ← hb1] at hstep
      rw [← hc1] at hc ⊢
      rw [← hb1] at hb
      have HS := Hid.mk hstep
      have HB := Hid.mk hb1
      clear hc1 hstep hb1
      go_wp2_with fail
      rw [← HB.out]
      go_loop [4, 18] (fun x i => ∃ j : Nat, j ≤ 8 ∧ i = .int .i64 j ∧ x = .int .u32 (steps j (c ^^^ b) : Nat)) (fun _ i => 8 - (intOf i).toNat)
      case atStart => exact ⟨0, by omega, rfl, by rw [xor_byte hc hb]; rfl⟩
      case round =>
        obtain ⟨j, hj, rfl, rfl⟩ := hrel
        have hx := steps_lt j (Nat.xor_lt_two_pow (n := 32) hc (show b < 2 ^ 32 by omega))
        have hnext := steps_succ j (c ^^^ b)
        obtain ⟨x, hxx⟩ : ∃ x, x = steps j (c ^^^ b) := ⟨_, rfl⟩
        rw [← hxx] at hx hnext ⊢
        by_cases hlt2 : j < 8
        · have HN := Hid.mk hnext
          clear hxx hnext
          go_wp2
          go_round
          case rel => exact ⟨j + 1, by omega, by go_num, by rw [bit_step hx, HN.out]⟩
          case measure => simp [intOf]; omega
        · have hj8 : j = 8 := by omega
          subst hj8
          have HX := Hid.mk hxx
          clear hxx hnext
          go_wp2
          go_round
          case rel => exact ⟨k + 1, by omega, by go_num, by rw [HX.out, HS.out]⟩
          case measure => simp [intOf]; omega
    · have hkl : k = s.size := by omega
      subst hkl
      have hc := crc_lt (s.data.toList.take s.size) (c := 4294967295) (by decide)
      rw [List.take_of_length_le (by simp)] at hc ⊢
      obtain ⟨c, hc1⟩ : ∃ c, c = crc 4294967295 s.data.toList := ⟨_, rfl⟩
      have HS : Hid (sumN s.data.toList = 4294967295 - c) := Hid.mk (by rw [hc1]; rfl)
      rw [← hc1] at hc ⊢
      clear hc1
      go_wp2
      go_ret
      refine ⟨?_, rfl⟩
      rw [HS.out]
      exact congrArg (fun z => Ending.returned (Value.int IntKind.u32 z)) (all_bits hc)

/-- A round of the document's sum. -/
theorem ref_step (x y : Nat) : (if x % 2 = 1 ↔ y % 2 = 1 then x / 2 else x / 2 ^^^ 2197175160) ^^^ y / 2 = step (x ^^^ y) := by
  unfold step
  rw [xor_half, xor_odd]
  by_cases h : x % 2 = 1 ↔ y % 2 = 1
  · rw [if_pos h, if_neg (by omega)]
  · rw [if_neg h, if_pos (by omega), Nat.xor_assoc, Nat.xor_comm 2197175160, ← Nat.xor_assoc]

set_option maxHeartbeats 400000 in
theorem refSum_any (w : World) (s : ByteArray) (hsz : s.size ≤ 1099511627776) :
    Calls Try.prog 36 #[.string s] w fun e w' => e = .returned (.int .u32 (sumN s.data.toList : Nat)) ∧ w' = w := by
  go_enter Try.func36, Try.ntmps36
  go_wp2_with fail
  go_loop [3, 4, 5, 6, 7] (fun c i _ _ _ => ∃ k : Nat, k ≤ s.size ∧ i = .int .i64 k ∧ c = .int .u32 (crc 4294967295 (s.data.toList.take k) : Nat)) (fun _ i _ _ _ => s.size - (intOf i).toNat)
  case atStart => exact ⟨0, Nat.zero_le _, rfl, rfl⟩
  case round =>
    obtain ⟨k, hk, rfl, rfl⟩ := hrel
    by_cases hlt : k < s.size
    · have hc := crc_lt (s.data.toList.take k) (c := 4294967295) (by decide)
      have hb := byte_lt s[k]
      have hstep := crc_take_succ s k hlt 4294967295
      obtain ⟨c, hc1⟩ : ∃ c, c = crc 4294967295 (s.data.toList.take k) := ⟨_, rfl⟩
      obtain ⟨b, hb1⟩ : ∃ b : Nat, b = s[k].toNat := ⟨_, rfl⟩
      rw [← hc1, ← hb1] at hstep
      rw [← hc1] at hc ⊢
      rw [← hb1] at hb
      have HS := Hid.mk hstep
      have HB := Hid.mk hb1
      clear hc1 hstep hb1
      go_wp2_with fail
      rw [← HB.out]
      go_loop [3, 5, 6, 7] (fun x y i _ => ∃ j p q : Nat, j ≤ 8 ∧ i = .int .i64 j ∧ x = .int .u32 p ∧ y = .int .u8 q ∧ p < 4294967296 ∧ q < 256 ∧ q < 2 ^ (8 - j) ∧ p ^^^ q = steps j (c ^^^ b)) (fun _ _ i _ => 8 - (intOf i).toNat)
      case atStart => exact ⟨0, c, b, by omega, rfl, rfl, rfl, hc, hb, hb, rfl⟩
      case round =>
        obtain ⟨j, p, q, hj, rfl, rfl, rfl, hp, hq3, hq, hpq⟩ := hrel
        have HP := Hid.mk hpq
        clear hpq
        by_cases hlt2 : j < 8
        · have hq2 : q / 2 < 2 ^ (8 - (j + 1)) := by
            have e : 8 - j = (8 - (j + 1)) + 1 := by omega
            rw [e, Nat.pow_succ] at hq
            omega
          have hnext := ref_step p q
          rw [HP.out, ← steps_succ] at hnext
          have HQ := Hid.mk hq2
          clear hq hq2
          have hq4 : q / 2 < 256 := by omega
          by_cases hpar : p % 2 = 1 ↔ q % 2 = 1
          · rw [if_pos hpar] at hnext
            have ht := par_same hpar
            have HN := Hid.mk hnext
            clear hnext hpar
            go_wp2
            go_round
            case rel => exact ⟨j + 1, p / 2, q / 2, by omega, by go_num, by go_num, by go_num, by omega, hq4, HQ.out, HN.out⟩
            case measure => simp [intOf]; omega
          · rw [if_neg hpar] at hnext
            have ht := par_other hpar
            have HN := Hid.mk hnext
            clear hnext hpar
            go_wp2
            go_round
            case rel => exact ⟨j + 1, _, q / 2, by omega, by go_num, ref_turn (by omega), by go_num, Nat.xor_lt_two_pow (n := 32) (by omega) (by decide), hq4, HQ.out, HN.out⟩
            case measure => simp [intOf]; omega
        · have hj8 : j = 8 := by omega
          subst hj8
          have hq0 : q = 0 := by omega
          subst hq0
          have hpe := HP.out
          rw [Nat.xor_zero] at hpe
          have HE := Hid.mk hpe
          clear hpe hq
          go_wp2
          go_round
          case rel => exact ⟨k + 1, by omega, by go_num, by rw [HE.out, HS.out]⟩
          case measure => simp [intOf]; omega
    · have hkl : k = s.size := by omega
      subst hkl
      have hc := crc_lt (s.data.toList.take s.size) (c := 4294967295) (by decide)
      rw [List.take_of_length_le (by simp)] at hc ⊢
      obtain ⟨c, hc1⟩ : ∃ c, c = crc 4294967295 s.data.toList := ⟨_, rfl⟩
      have HS : Hid (sumN s.data.toList = 4294967295 - c) := Hid.mk (by rw [hc1]; rfl)
      rw [← hc1] at hc ⊢
      clear hc1
      go_wp2
      go_ret
      refine ⟨?_, rfl⟩
      rw [HS.out]
      exact congrArg (fun z => Ending.returned (Value.int IntKind.u32 z)) (by omega)

end Go.Proofs.Ytcofiidibhmhgaa
