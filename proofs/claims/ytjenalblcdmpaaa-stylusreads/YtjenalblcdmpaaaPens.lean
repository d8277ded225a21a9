/-
  The walks of fold, (*Stylus).Nat and (*Stylus).Int of one number, and (*Stylus).Bytes.
-/
import Derived.Test.YtjenalblcdmpaaaNumber
namespace Go.Proofs.Ytjenalblcdmpaaa
open Go.RowKit

/-- What Nat writes of one number. -/
def natB (x : Int) : List UInt8 := if x < 0 then [] else wide x.toNat
/-- What Int writes of one number. -/
def intB (x : Int) : List UInt8 := wide (foldN x)

theorem i64_not_any (x : Int) (h0 : -9223372036854775808 ≤ x) (h1 : x ≤ 9223372036854775807) : bits .xor .i64 (-1) x = -1 - x := by
  show IntKind.i64.wrap ((BitVec.ofInt 64 (-1) ^^^ BitVec.ofInt 64 x).toNat : Int) = _
  have e1 : BitVec.ofInt 64 (-1) = BitVec.allOnes 64 := by decide
  rw [e1, BitVec.allOnes_xor, BitVec.toNat_not, BitVec.toNat_ofInt]
  simp [IntKind.wrap, IntKind.bits, IntKind.signed]
  omega

theorem or_one (a : Nat) (h : a < 9223372036854775808) : bits BinOp.or IntKind.u64 (((a : Nat) : Int) * 2) 1 = ((2 * a + 1 : Nat) : Int) := by
  have e : ((a : Nat) : Int) * 2 = ((2 * a : Nat) : Int) := by omega
  have h2 := bits_or_u64_nat (2 * a) 1 (by omega) (by omega)
  have h3 : 2 * a ||| 1 = 2 * a + 1 := by
    have h4 := Nat.shiftLeft_add_eq_or_of_lt (i := 1) (b := 1) (by decide) a
    rw [Nat.shiftLeft_eq] at h4
    have h5 : a * 2 ^ 1 = 2 * a := by omega
    rw [h5] at h4
    exact h4.symm
  rw [e]
  rw [h3] at h2
  exact h2

theorem fold_neg (x : Int) (h0 : -9223372036854775808 ≤ x) (hx : x < 0) :
    bits BinOp.or IntKind.u64 (IntKind.u64.wrap (IntKind.u64.wrap (bits BinOp.xor IntKind.i64 (-1) x) * 2)) 1 = ((foldN x : Nat) : Int) := by
  rw [i64_not_any x h0 (by omega)]
  have e1 : IntKind.u64.wrap (-1 - x) = (((-(x + 1)).toNat : Nat) : Int) := by
    rw [IntKind.wrap_u64]; omega
  have e2 : IntKind.u64.wrap ((((-(x + 1)).toNat : Nat) : Int) * 2) = (((-(x + 1)).toNat : Nat) : Int) * 2 := by
    rw [IntKind.wrap_u64]; omega
  rw [e1, e2, or_one _ (by omega)]
  unfold foldN
  rw [if_pos hx]

set_option maxHeartbeats 400000 in
set_option maxRecDepth 100000 in
theorem fold_any (x : Int) (w : World) (h0 : -9223372036854775808 ≤ x) (h1 : x ≤ 9223372036854775807) :
    Calls Try.prog 35 #[.int .i64 x] w fun e w' => e = .returned (.int .u64 (foldN x : Nat)) ∧ w' = w := by
  by_cases hx : x < 0
  · go_enter Try.func35, Try.ntmps35
    go_wp2
    go_ret
    rw [fold_neg x h0 hx]
    exact ⟨rfl, rfl⟩
  · have hf : ((foldN x : Nat) : Int) = x * 2 := by
      unfold foldN; rw [if_neg hx]; omega
    rw [hf]
    clear hf
    go_enter Try.func35, Try.ntmps35
    go_wp2
    go_ret
    exact ⟨rfl, rfl⟩

theorem foldN_lt {x : Int} (h0 : -9223372036854775808 ≤ x) (h1 : x ≤ 9223372036854775807) : foldN x < 18446744073709551616 := by
  unfold foldN
  split <;> omega

set_option maxHeartbeats 400000 in
set_option maxRecDepth 100000 in
theorem nat_any (w : World) (b g : Nat) (v : Value) (bs : List UInt8) (x : Int) (h1 : x ≤ 9223372036854775807) (hp : Pen w b v bs) (hl : bs.length ≤ 1099511627776)
    (hg : w.cell? ⟨g, 0, none⟩ = some (.int .i64 x)) :
    Calls Try.prog 26 #[.pointer (some ⟨b, 0, none⟩), .slice (some ⟨g, 0, none⟩) 1 1] w fun e w' =>
      e = .returned (.tuple #[]) ∧ ∃ v', Pen w' b v' (bs ++ natB x) ∧ Wrote b v w v' w' := by
  go_enter Try.func26, Try.ntmps26
  go_wp2
  go_loopw [8] (fun i wr => (i = .int .i64 0 ∧ wr = w) ∨ (i = .int .i64 1 ∧ ∃ v', Pen wr b v' (bs ++ natB x) ∧ Wrote b v w v' wr)) (fun i _ => 1 - (intOf i).toNat)
  case atStart => exact .inl ⟨rfl, rfl⟩
  case round =>
    rcases hrel with ⟨rfl, rfl⟩ | ⟨rfl, v', hp', hw'⟩
    · by_cases hx : x < 0
      · have e : natB x = [] := by unfold natB; rw [if_pos hx]
        have HE := Hid.mk e
        clear e
        go_wp2
        go_roundw
        case rel => exact .inr ⟨rfl, v, by rw [HE.out, List.append_nil]; exact hp, Wrote.refl _ _ _⟩
        case measure => simp [intOf]
      · have HE := Hid.mk (show natB x = wide x.toNat by unfold natB; rw [if_neg hx])
        go_wp2_with fail
        refine (number_int _ b v bs x (by omega) (by omega) hp hl).mono ?_
        rintro e w' ⟨rfl, v', hp', hw'⟩
        go_wp2
        go_roundw
        case rel => exact .inr ⟨rfl, v', by rw [HE.out]; exact hp', hw'⟩
        case measure => simp [intOf]
    · go_wp2
      go_end0
      exact ⟨rfl, v', hp', hw'⟩

set_option maxHeartbeats 400000 in
set_option maxRecDepth 100000 in
theorem int_any (w : World) (b g : Nat) (v : Value) (bs : List UInt8) (x : Int) (h0 : -9223372036854775808 ≤ x) (h1 : x ≤ 9223372036854775807) (hp : Pen w b v bs) (hl : bs.length ≤ 1099511627776)
    (hg : w.cell? ⟨g, 0, none⟩ = some (.int .i64 x)) :
    Calls Try.prog 23 #[.pointer (some ⟨b, 0, none⟩), .slice (some ⟨g, 0, none⟩) 1 1] w fun e w' =>
      e = .returned (.tuple #[]) ∧ ∃ v', Pen w' b v' (bs ++ intB x) ∧ Wrote b v w v' w' := by
  go_enter Try.func23, Try.ntmps23
  go_wp2
  go_loopw [8] (fun i wr => (i = .int .i64 0 ∧ wr = w) ∨ (i = .int .i64 1 ∧ ∃ v', Pen wr b v' (bs ++ intB x) ∧ Wrote b v w v' wr)) (fun i _ => 1 - (intOf i).toNat)
  case atStart => exact .inl ⟨rfl, rfl⟩
  case round =>
    rcases hrel with ⟨rfl, rfl⟩ | ⟨rfl, v', hp', hw'⟩
    · go_wp2_with fail
      refine (fold_any x _ h0 h1).mono ?_
      rintro e w1 ⟨rfl, rfl⟩
      go_wp2_with fail
      refine (number_any _ b v bs (foldN x) (foldN_lt h0 h1) hp hl).mono ?_
      rintro e w' ⟨rfl, v', hp', hw'⟩
      go_wp2
      go_roundw
      case rel => exact .inr ⟨rfl, v', hp', hw'⟩
      case measure => simp [intOf]
    · go_wp2
      go_end0
      exact ⟨rfl, v', hp', hw'⟩

set_option maxHeartbeats 400000 in
set_option maxRecDepth 100000 in
theorem bytes_any (w : World) (b : Nat) (v : Value) (bs : List UInt8) (hp : Pen w b v bs) :
    Calls Try.prog 24 #[.pointer (some ⟨b, 0, none⟩)] w fun e w' => e = .returned (.string ⟨bs.toArray⟩) ∧ w' = w := by
  have hc := hp.cell
  have hk := hp.string (P := Try.prog) 43 9 Try.underlying43 Try.underlying5 Try.underlying9
  go_enter Try.func24, Try.ntmps24
  go_wp2
  go_ret
  exact ⟨rfl, rfl⟩

end Go.Proofs.Ytjenalblcdmpaaa
