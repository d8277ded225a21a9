/-
  Items as they lie in memory; the walk of the law's own 'great'.
-/
import Derived.Test.YtjenalblcdmpaaaRefs
namespace Go.Proofs.Ytjenalblcdmpaaa
open Go.RowKit

structure It where
  kind : Int
  n : Int
  s : ByteArray

/-- The items its lie in memory from g, off on. -/
structure ItemsAt (w : World) (g off : Nat) (its : List It) : Prop where
  lt : g < w.heap.size
  kind : ∀ j (h : j < its.length), w.cell? ⟨g, off + j * 3, none⟩ = some (.int .i64 its[j].kind)
  n : ∀ j (h : j < its.length), w.cell? ⟨g, off + j * 3 + 1, none⟩ = some (.int .i64 its[j].n)
  s : ∀ j (h : j < its.length), w.cell? ⟨g, off + j * 3 + 1 + 1, none⟩ = some (.string its[j].s)
  lo : ∀ j (h : j < its.length), -9223372036854775808 ≤ its[j].n
  hi : ∀ j (h : j < its.length), its[j].n ≤ 9223372036854775807

theorem ItemsAt.carry {w w' : World} {g off : Nat} {its : List It} (h : ItemsAt w g off its) (hb : w'.heap[g]? = w.heap[g]?) (hs : w.heap.size ≤ w'.heap.size) : ItemsAt w' g off its :=
  ⟨Nat.lt_of_lt_of_le h.lt hs, fun j k => (World.cell?_of_block (w := w) hb).trans (h.kind j k), fun j k => (World.cell?_of_block (w := w) hb).trans (h.n j k),
    fun j k => (World.cell?_of_block (w := w) hb).trans (h.s j k), h.lo, h.hi⟩

def sumS : List It → Nat
  | [] => 0
  | i :: r => i.s.size + sumS r

theorem sumS_append (a b : List It) : sumS (a ++ b) = sumS a + sumS b := by
  induction a with
  | nil => simp [sumS]
  | cons s r ih => simp [sumS, ih]; omega

theorem sumS_take_succ (l : List It) (k : Nat) (h : k < l.length) : sumS (l.take (k + 1)) = sumS (l.take k) + l[k].s.size := by
  rw [List.take_succ_eq_append_getElem h, sumS_append]
  simp [sumS]

theorem sumS_take_le (l : List It) (k : Nat) : sumS (l.take k) ≤ sumS l := by
  have h := congrArg sumS (List.take_append_drop k l)
  rw [sumS_append] at h
  omega

/-- Whether it is more than is played. -/
def greatB (its : List It) : Bool := decide (50 < its.length) || decide (2048 < sumS its)

theorem greatB_of {its : List It} (h : 2048 < sumS its) : greatB its = true := by
  unfold greatB
  simp [h]

set_option maxHeartbeats 400000 in
set_option maxRecDepth 100000 in
theorem great_any (w : World) (g off len cap : Nat) (its : List It) (hlen : its.length = len) (hat : ItemsAt w g off its) :
    Calls Try.prog 10 #[.slice (some ⟨g, off, none⟩) len cap] w fun e w' => e = .returned (.bool (greatB its)) ∧ Below w.heap.size w w' := by
  by_cases h50 : 50 < len
  · have e : greatB its = true := by unfold greatB; rw [hlen]; simp [h50]
    rw [e]
    clear e
    go_enter Try.func10, Try.ntmps10
    go_wp2
    go_ret
    exact ⟨rfl, Below.refl _ _⟩
  have HL := Hid.mk hlen
  clear hlen
  go_enter Try.func10, Try.ntmps10
  go_wp2
  go_loopw [3, 5, 11] (fun n _x i wr => ∃ k : Nat, k ≤ len ∧ i = .int .i64 k ∧ n = .int .i64 (sumS (its.take k) : Nat) ∧ sumS (its.take k) ≤ 2048 ∧ Below w.heap.size w wr) (fun _ _ i _ => len - (intOf i).toNat)
  case atStart => exact ⟨0, Nat.zero_le _, rfl, rfl, by simp [sumS], Below.refl _ _⟩
  case round =>
    obtain ⟨k, hk, rfl, rfl, hsum, hb⟩ := hrel
    by_cases hlt : k < len
    · have hkt : k < its.length := by rw [HL.out]; exact hlt
      have hatr : ItemsAt wr g off its := hat.carry (hb.block g hat.lt) hb.size
      have hstep := sumS_take_succ its k hkt
      have hle := sumS_take_le its (k + 1)
      obtain ⟨it, hit⟩ : ∃ it, it = its[k] := ⟨_, rfl⟩
      have c0 := hatr.kind k hkt
      have c1 := hatr.n k hkt
      have c2 := hatr.s k hkt
      rw [← hit] at hstep c0 c1 c2
      obtain ⟨q0, q1, s⟩ := it
      dsimp only at hstep c0 c1 c2
      have HS := Hid.mk hstep
      clear hstep hit hatr
      go_wp2_with fail
      · go_ret
        have hgr : greatB its = true := greatB_of (by rw [HS.out] at hle; omega)
        rw [hgr]
        exact ⟨rfl, hb.alloc hb.size _⟩
      · go_ret
        have hgr : greatB its = true := greatB_of (by rw [HS.out] at hle; omega)
        rw [hgr]
        exact ⟨rfl, hb.alloc hb.size _⟩
      · go_roundw
        case rel => exact ⟨k + 1, by omega, by go_num, by rw [HS.out]; go_num, by rw [HS.out]; omega, hb.alloc hb.size _⟩
        case measure => simp [intOf]; omega
    · go_wp2
      go_ret
      have hkl : k = len := by omega
      rw [hkl, List.take_of_length_le (by rw [HL.out]; exact Nat.le_refl _)] at hsum
      have hgr : greatB its = false := by
        unfold greatB
        rw [HL.out]
        simp
        omega
      rw [hgr]
      exact ⟨rfl, hb⟩

set_option maxHeartbeats 400000 in
set_option maxRecDepth 100000 in
theorem great_none (w : World) (a : Option Addr) (cap : Nat) :
    Calls Try.prog 10 #[.slice a 0 cap] w fun e w' => e = .returned (.bool false) ∧ w' = w := by
  go_enter Try.func10, Try.ntmps10
  go_wp2
  go_loop [11] (fun i => i = .int .i64 0) (fun _ => 0)
  case atStart => rfl
  case round =>
    subst hrel
    go_wp2
    go_ret
    exact ⟨rfl, rfl⟩

end Go.Proofs.Ytjenalblcdmpaaa
