/-
  The walks of fold, (*Stylus).Nat and (*Stylus).Int of one number, and (*Stylus).Bytes.
-/
import Derived.Test.YtdngehfebmaegaaYNumber
namespace Go.Proofs.Ytdngehfebmaegaa.Sty
open Go.RowKit

/-- What Nat writes of one number. -/
def natB (x : Int) : List UInt8 := if x < 0 then [] else wide x.toNat
/-- What Int writes of one number. -/
def intB (x : Int) : List UInt8 := wide (foldN x)

set_option maxHeartbeats 400000 in
set_option maxRecDepth 100000 in
theorem nat_any (w : World) (b g : Nat) (v : Value) (bs : List UInt8) (x : Int) (h1 : x ≤ 9223372036854775807) (hp : Pen w b v bs) (hl : bs.length ≤ 1099511627776)
    (hg : w.cell? ⟨g, 0, none⟩ = some (.int .i64 x)) :
    Calls Try.prog 28 #[.pointer (some ⟨b, 0, none⟩), .slice (some ⟨g, 0, none⟩) 1 1] w fun e w' =>
      e = .returned (.tuple #[]) ∧ ∃ v', Pen w' b v' (bs ++ natB x) ∧ Wrote b v w v' w' := by
  go_enter Try.func28, Try.ntmps28
  go_wp2
  go_loopw [8] (fun i wr => (i = .int .i64 0 ∧ wr = w) ∨ (i = .int .i64 1 ∧ ∃ v', Pen wr b v' (bs ++ natB x) ∧ Wrote b v w v' wr)) (fun i _ => 1 - (intOf i).toNat)
  case atStart => exact .inl ⟨rfl, rfl⟩
  case round =>
    rcases hrel with ⟨rfl, rfl⟩ | ⟨rfl, v', hp', hw'⟩
    · by_cases hx : x < 0
      · have e : natB x = [] := by unfold natB; rw [if_pos hx]
        have HE := Hid.mk e
        clear e
        go_wp2
        go_roundw
        case rel => exact .inr ⟨rfl, v, by rw [HE.out, List.append_nil]; exact hp, Wrote.refl _ _ _⟩
        case measure => simp [intOf]
      · have HE := Hid.mk (show natB x = wide x.toNat by unfold natB; rw [if_neg hx])
        go_wp2_with fail
        refine (number_int _ b v bs x (by omega) (by omega) hp hl).mono ?_
        rintro e w' ⟨rfl, v', hp', hw'⟩
        go_wp2
        go_roundw
        case rel => exact .inr ⟨rfl, v', by rw [HE.out]; exact hp', hw'⟩
        case measure => simp [intOf]
    · go_wp2
      go_end0
      exact ⟨rfl, v', hp', hw'⟩

set_option maxHeartbeats 400000 in
set_option maxRecDepth 100000 in
theorem bytes_any (w : World) (b : Nat) (v : Value) (bs : List UInt8) (hp : Pen w b v bs) :
    Calls Try.prog 30 #[.pointer (some ⟨b, 0, none⟩)] w fun e w' => e = .returned (.string ⟨bs.toArray⟩) ∧ w' = w := by
  have hc := hp.cell
  have hk := hp.string (P := Try.prog) 63 9 Try.underlying63 Try.underlying5 Try.underlying9
  go_enter Try.func30, Try.ntmps30
  go_wp2
  go_ret
  exact ⟨rfl, rfl⟩

end Go.Proofs.Ytdngehfebmaegaa.Sty
