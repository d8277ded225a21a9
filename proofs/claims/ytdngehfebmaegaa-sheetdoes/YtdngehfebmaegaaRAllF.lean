/-
  The iterator All (things: files): for every loop body that leaves the row as it is, all things by their numbers; or some first ones, the body having said 'no more'.
-/
import Derived.RangeFuncNested
import Derived.RangeFuncBound
import Derived.RangeFuncCalls
import Derived.RangeFuncLeaves
import Derived.Shelf.Abstract
import Derived.Shelf.RegionOpen
import Derived.OwnWalkIn
import Derived.TacticsInMore
import Derived.LoopNIn
import Derived.LoopIn
import Derived.Test.YtdngehfebmaegaaRRowF
namespace Go.Proofs.Ytdngehfebmaegaa.Cel.F
open Go.RowKit Go.Shelf
attribute [local go_sem] Oper.semAt_some

/-- The number of a thing that there is. -/
abbrev Ix (N : Nat) := { j : Nat // j < N }

/-- Three blocks are as they were. -/
structure Stay (x b g : Nat) (w w' : World) : Prop where
  x : w'.heap[x]? = w.heap[x]?
  b : w'.heap[b]? = w.heap[b]?
  g : w'.heap[g]? = w.heap[g]?

theorem Stay.trans {x b g : Nat} {w0 w1 w2 : World} (h : Stay x b g w0 w1) (k : Stay x b g w1 w2) : Stay x b g w0 w2 := ⟨k.x.trans h.x, k.b.trans h.b, k.g.trans h.g⟩
theorem Stay.put {x b g l : Nat} (W : World) (o : Obj) (hx : x < l) (hb : b < l) (hg : g < l) : Stay x b g W (W.putObj l o) := by
  have h : ∀ k, k < l → (W.putObj l o).heap[k]? = W.heap[k]? := fun k hk => by
    simp only [World.putObj]
    exact Array.getElem?_setIfInBounds_ne (by omega)
  exact ⟨h x hx, h b hb, h g hg⟩

set_option maxHeartbeats 1000000 in
set_option maxRecDepth 100000 in
theorem all_in (n : Nat) (p : Option Addr) (w : World) :
    CallsIn Fence.wide n Try.prog 51 #[.pointer p] w fun e w' => e = .returned (.func (.func 62) #[] #[.pointer (some ⟨w.heap.size, 0, none⟩)]) ∧ w' = w.alloc (.cells #[.pointer p] 84) := by
  refine callsIn_of_wp Try.func51 rfl trivial ?_ rfl
  simp only [Try.ntmps51, List.size_toArray, List.length_cons, List.length_nil, Nat.reduceAdd, Nat.reduceSub, Array.replicate_succ, Array.replicate_zero, List.push_toArray, List.append_toArray, List.nil_append, List.cons_append]
  gi_wp2
  go_ret
  exact ⟨rfl, rfl⟩

set_option maxHeartbeats 2000000 in
set_option maxRecDepth 100000 in
theorem all_stops (n : Nat) (hn : 1 ≤ n) (Bx b g N : Nat) (f : Nat → (Bool × ByteArray)) (R : List ((Bool × ByteArray) × Int)) (w : World) (hBx : Bx < w.heap.size) (hc : w.cell? ⟨Bx, 0, none⟩ = some (.pointer (some ⟨b, 0, none⟩))) (hR : RowAt w b g R) (hN : R.length = N) (hf : ∀ j, j < N → R[j]!.1 = f j) :
    SeqStopsK Fence.wide n Try.prog 62 #[.pointer (some ⟨Bx, 0, none⟩)] (fun x : Ix N => #[.int .i64 (x.1 : Int), .agg #[.bool (f x.1).1, .string (f x.1).2]]) (Stay Bx b g) (fun ys => ys.map (·.1) = List.range N) (fun pre => ∃ k, k ≤ N ∧ pre.map (·.1) = List.range k) N w := fun l J Jx W hW hJ _ hY h0 => by
  have hR0 := hR.grown hW
  have hc0 := (hW.cell (p := ⟨Bx, 0, none⟩) hBx).trans hc
  have hs := hR.short
  rw [hN] at hs
  have hlen := len_yes hR0
  rw [hN] at hlen
  have HR := Hid.mk hR0
  have HN := Hid.mk hN
  clear hR hR0 hc hN
  refine callsIn_of_wp Try.func62 rfl trivial ?_ rfl
  simp only [Try.ntmps62, List.size_toArray, List.length_cons, List.length_nil, Nat.reduceAdd, Nat.reduceSub, Array.replicate_succ, Array.replicate_zero, List.push_toArray, List.append_toArray, List.nil_append, List.cons_append]
  gi_wp2_with fail
  refine ⟨trivial, (callsIn_wide.2 hlen).mono ?_⟩
  rintro e w1 ⟨rfl, hw⟩
  rw [hw]
  clear hw w1 hlen
  gi_wp2
  gi_loopw [3, 6] (fun _ idx wr => ∃ (k : Nat) (pre : List (Ix N)), k ≤ N ∧ idx = .int .i64 k ∧ Stay Bx b g W wr ∧ J pre wr ∧ pre.map (·.1) = List.range k) (fun _ idx _ => N - (intOf idx).toNat)
  case atStart => exact ⟨0, [], Nat.zero_le _, rfl, ⟨rfl, rfl, rfl⟩, h0, rfl⟩
  case round =>
    obtain ⟨k, pre, hk, rfl, hst, hJs, hpre⟩ := hrel
    have cx : wr.cell? ⟨Bx, 0, none⟩ = some (.pointer (some ⟨b, 0, none⟩)) := (World.cell?_of_block (w := W) hst.x).trans hc0
    have hr := HR.out.keep hst.b hst.g
    have hpl : pre.length = k := by have := congrArg List.length hpre; simpa using this
    by_cases hlt : k < N
    · have c0 := hr.sl
      have c1 := hr.is k (by rw [HN.out]; exact hlt)
      have c2 := hr.val k (by rw [HN.out]; exact hlt)
      rw [HN.out] at c0
      rw [hf k hlt] at c1 c2
      have HP : Hid ((pre ++ [(⟨k, hlt⟩ : Ix N)]).map (·.1) = List.range (k + 1)) := Hid.mk (by rw [List.map_append, hpre, List.range_succ]; rfl)
      obtain ⟨fn, tmps, assign, body, hy, hRd⟩ := hY pre ⟨k, hlt⟩ wr hJs (by omega)
      dsimp only at hy
      have HS := Hid.mk hst
      clear hr hst hpre hpl hf
      gi_wp2
      refine hRd.mono ?_
      rintro e W3 (⟨rfl, hJ3, hk3⟩ | ⟨rfl, hJx3⟩)
      · gi_wp2
        go_roundw
        case rel => exact ⟨k + 1, _, by omega, by go_num, HS.out.trans hk3, hJ3, HP.out⟩
        case measure => simp [intOf]; omega
      · gi_wp2
        refine bodyPost_ret (results_none rfl _ _ _) rfl ?_
        exact ⟨⟨_, rfl⟩, .inr ⟨_, ⟨k + 1, by omega, HP.out⟩, hJx3⟩⟩
    · have hkR : k = N := by omega
      have HP : Hid (pre.map (·.1) = List.range N) := Hid.mk (by rw [hpre, hkR])
      have hle : (N : Int) ≤ (k : Int) := by omega
      clear hkR hr hst hpre hpl hf
      gi_wp2
      refine bodyPost_end (results_none rfl _ _ _) rfl ?_
      exact ⟨⟨_, rfl⟩, .inl ⟨_, HP.out, hJs⟩⟩

set_option maxHeartbeats 2000000 in
set_option maxRecDepth 100000 in
theorem all_nil (n : Nat) (hn : 1 ≤ n) (Bx : Nat) (w : World) (hBx : Bx < w.heap.size) (hc : w.cell? ⟨Bx, 0, none⟩ = some (.pointer none)) :
    SeqStopsK Fence.wide n Try.prog 62 #[.pointer (some ⟨Bx, 0, none⟩)] (fun x : Ix 0 => #[.int .i64 (x.1 : Int), .agg #[.bool false, .string ⟨#[]⟩]]) (fun _ _ => True) (fun ys => ys = []) (fun _ => False) 0 w := fun l J Jx W hW hJ _ hY h0 => by
  have hc0 := (hW.cell (p := ⟨Bx, 0, none⟩) hBx).trans hc
  clear hc hY
  refine callsIn_of_wp Try.func62 rfl trivial ?_ rfl
  simp only [Try.ntmps62, List.size_toArray, List.length_cons, List.length_nil, Nat.reduceAdd, Nat.reduceSub, Array.replicate_succ, Array.replicate_zero, List.push_toArray, List.append_toArray, List.nil_append, List.cons_append]
  gi_wp2_with fail
  refine ⟨trivial, (callsIn_wide.2 (len_nil _)).mono ?_⟩
  rintro e w1 ⟨rfl, hw⟩
  rw [hw]
  clear hw w1
  gi_wp2
  gi_loopw [3, 6] (fun _ idx wr => idx = .int .i64 0 ∧ wr = W) (fun _ _ _ => 0)
  case atStart => exact ⟨rfl, rfl⟩
  case round =>
    obtain ⟨rfl, hw⟩ := hrel
    rw [hw]
    gi_wp2
    refine bodyPost_end (results_none rfl _ _ _) rfl ?_
    exact ⟨⟨_, rfl⟩, .inl ⟨[], rfl, h0⟩⟩

end Go.Proofs.Ytdngehfebmaegaa.Cel.F
