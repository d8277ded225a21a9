/-
  The iterator All: for every loop body, the loads of the records with which bytes begin, in order; or some first ones, the body having said 'no more'.
-/
import Derived.RangeFuncNested
import Derived.RangeFuncBound
import Derived.RangeFuncCalls
import Derived.RangeFuncLeaves
import Derived.Shelf.Abstract
import Derived.Shelf.RegionOpen
import Derived.OwnWalkIn
import Derived.TacticsInMore
import Derived.LoopNIn
import Derived.LoopIn
import Derived.Test.YtcofiidibhmhgaaLed
namespace Go.Proofs.Ytcofiidibhmhgaa
open Go.RowKit Go.Shelf
attribute [local go_sem] Oper.semAt_some

def strOf : Value → Nat
  | .string b => b.size
  | _ => 0

theorem grown_of_below {w w' : World} (h : Below w.heap.size w w') : w.grownBy w' none :=
  ⟨h.os, h.tape, h.output, h.size, fun k hk _ => h.block k hk⟩

set_option maxRecDepth 100000 in
set_option maxHeartbeats 1000000 in
theorem all_in (n : Nat) (s : ByteArray) (w : World) :
    CallsIn Fence.wide n Try.prog 55 #[.string s] w fun e w' => e = .returned (.func (.func 64) #[] #[.pointer (some ⟨w.heap.size, 0, none⟩)]) ∧ w' = w.alloc (.cells #[.string s] 9) := by
  refine callsIn_of_wp Try.func55 rfl trivial ?_ rfl
  simp only [Try.ntmps55, List.size_toArray, List.length_cons, List.length_nil, Nat.reduceAdd, Nat.reduceSub, Array.replicate_succ, Array.replicate_zero, List.push_toArray, List.append_toArray, List.nil_append, List.cons_append]
  gi_wp2
  go_ret
  exact ⟨rfl, rfl⟩

set_option maxRecDepth 100000 in
set_option maxHeartbeats 2000000 in
theorem all_stops (n : Nat) (hn : 1 ≤ n) (Bs : Nat) (s : ByteArray) (hsz : s.size ≤ 1099511627776) (w : World) (hBs : Bs < w.heap.size) (hc : w.cell? ⟨Bs, 0, none⟩ = some (.string s)) :
    SeqStopsK Fence.wide n Try.prog 64 #[.pointer (some ⟨Bs, 0, none⟩)] (fun x : ByteArray => #[Value.string x]) (fun _ _ => True) (fun ys => AllOf s.data.toList ys) (fun pre => ∃ r, AllOf s.data.toList (pre ++ r)) s.size w := fun l J Jx W hW hJ _ hY h0 => by
  have hc' := (hW.cell (p := ⟨Bs, 0, none⟩) hBs).trans hc
  refine callsIn_of_wp Try.func64 rfl trivial ?_ rfl
  simp only [Try.ntmps64, List.size_toArray, List.length_cons, List.length_nil, Nat.reduceAdd, Nat.reduceSub, Array.replicate_succ, Array.replicate_zero, List.push_toArray, List.append_toArray, List.nil_append, List.cons_append]
  gi_wp2
  gi_loopw [3, 4, 5] (fun rest _ _ wr => ∃ (pre : List ByteArray) (r : ByteArray), rest = .string r ∧ Led s.data.toList pre r.data.toList ∧ J pre wr) (fun rest _ _ _ => strOf rest)
  case atStart => exact ⟨[], s, rfl, rfl, h0⟩
  case round =>
    obtain ⟨pre, r, rfl, hled, hJs⟩ := hrel
    have hls := hled.size
    rw [size_list, size_list] at hls
    have HL := Hid.mk hled
    clear hled
    gi_wp2_with fail
    refine ⟨trivial, (callsIn_wide.2 (open_any _ r (by omega))).mono ?_⟩
    rintro e w1 ⟨ld, m, rfl, ho, hb1⟩
    have hJ1 : J pre w1 := hJ pre wr w1 none hJs (grown_of_below hb1) (fun r e => by cases e)
    clear hb1 hJs
    by_cases hm : m = 0
    · subst hm
      have hnone : AllOf r.data.toList [] := by
        rcases ho with ⟨_, h⟩ | ⟨_, _, h⟩
        · omega
        · exact h
      have HA : Hid (AllOf s.data.toList pre) := Hid.mk (by have h := HL.out.all hnone; rw [List.append_nil] at h; exact h)
      clear ho hnone
      gi_wp2
      refine ⟨fun _ h => (by cases h), ?_⟩
      gi_wp2
      refine bodyPost_ret (results_none rfl _ _ _) rfl ?_
      exact ⟨⟨_, rfl⟩, .inl ⟨pre, HA.out, hJ1⟩⟩
    · have hbg : Begins r.data.toList ld.data.toList ∧ m = ld.data.toList.length + 6 := by
        rcases ho with h | ⟨h, _⟩
        · exact h
        · exact absurd h hm
      have hrs := hbg.1.size
      rw [size_list, size_list] at hrs
      have hm2 : m = ld.size + 6 := by rw [hbg.2, size_list]
      have HLN := Hid.mk (HL.out.snoc hbg.1)
      have hmb : ((m : Int) == 0) = false := by simp; omega
      have hmr : (m : Int) ≤ (r.size : Int) := by omega
      obtain ⟨fn, tmps, assign, body, hy, hR⟩ := hY pre ld w1 hJ1 (by omega)
      clear ho hbg
      gi_wp2
      refine hR.mono ?_
      rintro e W3 (⟨rfl, hJ3, _⟩ | ⟨rfl, hJx3⟩)
      · gi_wp2
        go_roundw
        case rel => exact ⟨pre ++ [ld], r.extract (ld.size + 6) r.size, rfl, by rw [extract_list, List.take_of_length_le (by rw [size_list]; exact Nat.le_refl _)]; exact HLN.out, hJ3⟩
        case measure =>
          show (r.extract (ld.size + 6) r.size).size < r.size
          rw [← size_list, extract_list, List.length_drop, List.length_take, size_list]
          omega
      · gi_wp2
        refine bodyPost_ret (results_none rfl _ _ _) rfl ?_
        exact ⟨⟨_, rfl⟩, .inr ⟨pre ++ [ld], HLN.out.some, hJx3⟩⟩

end Go.Proofs.Ytcofiidibhmhgaa
