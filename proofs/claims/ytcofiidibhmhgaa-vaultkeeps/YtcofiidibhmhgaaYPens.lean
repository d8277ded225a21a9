/-
  The walks of fold, (*Stylus).Nat and (*Stylus).Int of one number, and (*Stylus).Bytes.
-/
import Derived.Test.YtcofiidibhmhgaaYNumber
namespace Go.Proofs.Ytcofiidibhmhgaa.Sty
open Go.RowKit

/-- What Nat writes of one number. -/
def natB (x : Int) : List UInt8 := if x < 0 then [] else wide x.toNat
/-- What Int writes of one number. -/
def intB (x : Int) : List UInt8 := wide (foldN x)

set_option maxHeartbeats 400000 in
set_option maxRecDepth 100000 in
theorem nat_any (w : World) (b g : Nat) (v : Value) (bs : List UInt8) (x : Int) (h1 : x ≤ 9223372036854775807) (hp : Pen w b v bs) (hl : bs.length ≤ 1099511627776)
    (hg : w.cell? ⟨g, 0, none⟩ = some (.int .i64 x)) :
    Calls Try.prog 48 #[.pointer (some ⟨b, 0, none⟩), .slice (some ⟨g, 0, none⟩) 1 1] w fun e w' =>
      e = .returned (.tuple #[]) ∧ ∃ v', Pen w' b v' (bs ++ natB x) ∧ Wrote b v w v' w' := by
  go_enter Try.func48, Try.ntmps48
  go_wp2
  go_loopw [8] (fun i wr => (i = .int .i64 0 ∧ wr = w) ∨ (i = .int .i64 1 ∧ ∃ v', Pen wr b v' (bs ++ natB x) ∧ Wrote b v w v' wr)) (fun i _ => 1 - (intOf i).toNat)
  case atStart => exact .inl ⟨rfl, rfl⟩
  case round =>
    rcases hrel with ⟨rfl, rfl⟩ | ⟨rfl, v', hp', hw'⟩
    · by_cases hx : x < 0
      · have e : natB x = [] := by unfold natB; rw [if_pos hx]
        have HE := Hid.mk e
        clear e
        go_wp2
        go_roundw
        case rel => exact .inr ⟨rfl, v, by rw [HE.out, List.append_nil]; exact hp, Wrote.refl _ _ _⟩
        case measure => simp [intOf]
      · have HE := Hid.mk (show natB x = wide x.toNat by unfold natB; rw [if_neg hx])
        go_wp2_with fail
        refine (number_int _ b v bs x (by omega) (by omega) hp hl).mono ?_
        rintro e w' ⟨rfl, v', hp', hw'⟩
        go_wp2
        go_roundw
        case rel => exact .inr ⟨rfl, v', by rw [HE.out]; exact hp', hw'⟩
        case measure => simp [intOf]
    · go_wp2
      go_end0
      exact ⟨rfl, v', hp', hw'⟩

set_option maxHeartbeats 400000 in
set_option maxRecDepth 100000 in
theorem nat_two (w : World) (b g : Nat) (v : Value) (bs : List UInt8) (n : Nat) (h1 : n ≤ 9223372036854775807) (hp : Pen w b v bs) (hl : bs.length ≤ 1000)
    (hg0 : w.cell? ⟨g, 0, none⟩ = some (.int .i64 0)) (hg1 : w.cell? ⟨g, 1, none⟩ = some (.int .i64 n)) (hgl : g < w.heap.size) (hgb : g ≠ b) (hgv : v.ownBlock ≠ some g) :
    Calls Try.prog 48 #[.pointer (some ⟨b, 0, none⟩), .slice (some ⟨g, 0, none⟩) 2 2] w fun e w' =>
      e = .returned (.tuple #[]) ∧ ∃ v', Pen w' b v' (bs ++ wide 0 ++ wide n) ∧ Wrote b v w v' w' := by
  have hl0 : (bs ++ wide 0).length ≤ 1001 := by
    rw [List.length_append, wide_small (by decide)]
    simp
    omega
  go_enter Try.func48, Try.ntmps48
  go_wp2
  go_loopw [8] (fun i wr => (i = .int .i64 0 ∧ wr = w) ∨ (i = .int .i64 1 ∧ ∃ v', Pen wr b v' (bs ++ wide 0) ∧ Wrote b v w v' wr) ∨ (i = .int .i64 2 ∧ ∃ v', Pen wr b v' (bs ++ wide 0 ++ wide n) ∧ Wrote b v w v' wr)) (fun i _ => 2 - (intOf i).toNat)
  case atStart => exact .inl ⟨rfl, rfl⟩
  case round =>
    rcases hrel with ⟨rfl, rfl⟩ | ⟨rfl, v', hp', hw'⟩ | ⟨rfl, v', hp', hw'⟩
    · go_wp2_with fail
      refine (number_any _ b v bs 0 (by omega) hp (by omega)).mono ?_
      rintro e w' ⟨rfl, v', hp', hw'⟩
      go_wp2
      go_roundw
      case rel => exact .inr (.inl ⟨rfl, v', hp', hw'⟩)
      case measure => simp [intOf]
    · have c1 := (World.cell?_of_block (w := w) (a := ⟨g, 1, none⟩) (hw'.block g hgl hgb hgv)).trans hg1
      have HP := Hid.mk hp'
      have HW := Hid.mk hw'
      clear hp' hw'
      go_wp2_with fail
      refine (number_any _ b v' _ n (by omega) HP.out (by omega)).mono ?_
      rintro e w2 ⟨rfl, v2, hp2, hw2⟩
      go_wp2
      go_roundw
      case rel => exact .inr (.inr ⟨rfl, v2, hp2, HW.out.trans hw2⟩)
      case measure => simp [intOf]
    · go_wp2
      go_end0
      exact ⟨rfl, v', hp', hw'⟩

set_option maxHeartbeats 400000 in
set_option maxRecDepth 100000 in
theorem bytes_any (w : World) (b : Nat) (v : Value) (bs : List UInt8) (hp : Pen w b v bs) :
    Calls Try.prog 50 #[.pointer (some ⟨b, 0, none⟩)] w fun e w' => e = .returned (.string ⟨bs.toArray⟩) ∧ w' = w := by
  have hc := hp.cell
  have hk := hp.string (P := Try.prog) 70 9 Try.underlying70 Try.underlying5 Try.underlying9
  go_enter Try.func50, Try.ntmps50
  go_wp2
  go_ret
  exact ⟨rfl, rfl⟩

end Go.Proofs.Ytcofiidibhmhgaa.Sty
