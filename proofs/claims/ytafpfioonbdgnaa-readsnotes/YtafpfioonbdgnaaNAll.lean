/-
  The iterator All of what was read: for every loop body that leaves the row as it is, all entries in order; or some first ones, the body having said 'no more'.
-/
import Derived.Test.YtafpfioonbdgnaaNMem
import Derived.Test.YtafpfioonbdgnaaNRange
namespace Go.Proofs.Ytafpfioonbdgnaa.Rds
open Go.RowKit Go.Shelf Go.Proofs.Ytafpfioonbdgnaa.Cel Go.Proofs.Ytafpfioonbdgnaa.Rng
attribute [local go_sem] Oper.semAt_some

/-- The place of an entry that there is. -/
abbrev Ix (N : Nat) := { j : Nat // j < N }

/-- The row is as it was. -/
def Kp (v : Value) (w w' : World) : Prop := ∀ k, v.ownBlock = some k → w'.heap[k]? = w.heap[k]?

theorem Kp.refl (v : Value) (w : World) : Kp v w w := fun _ _ => rfl
theorem Kp.trans {v : Value} {a b c : World} (h : Kp v a b) (k : Kp v b c) : Kp v a c := fun i hi => (k i hi).trans (h i hi)
theorem Kp.of_below {v : Value} {w w' : World} {B : Nat} (hv : ∀ k, v.ownBlock = some k → k < B) (h : Below B w w') : Kp v w w' := fun k hk => h.block k (hv k hk)
theorem Kp.put {v : Value} (W : World) (l : Nat) (o : Obj) (hv : ∀ k, v.ownBlock = some k → k < l) : Kp v W (W.putObj l o) := fun k hk => by
  have := hv k hk
  simp only [World.putObj]
  exact Array.getElem?_setIfInBounds_ne (by omega)

/-- What a round is handed. -/
def encE (E : List En) (j : Nat) : Array Value := #[.agg #[.int .i64 E[j]!.1, .int .i64 E[j]!.2.1, .int .i64 E[j]!.2.2]]

set_option maxHeartbeats 1000000 in
set_option maxRecDepth 100000 in
theorem all_in (n : Nat) (p : Option Addr) (w : World) :
    CallsIn Fence.wide n Try.prog 17 #[.pointer p] w fun e w' => e = .returned (.func (.func 24) #[] #[.pointer (some ⟨w.heap.size, 0, none⟩)]) ∧ w' = w.alloc (.cells #[.pointer p] 29) := by
  refine callsIn_of_wp Try.func17 rfl trivial ?_ rfl
  simp only [Try.ntmps17, List.size_toArray, List.length_cons, List.length_nil, Nat.reduceAdd, Nat.reduceSub, Array.replicate_succ, Array.replicate_zero, List.push_toArray, List.append_toArray, List.nil_append, List.cons_append]
  gi_wp2
  go_ret
  exact ⟨rfl, rfl⟩

set_option maxHeartbeats 4000000 in
set_option maxRecDepth 100000 in
theorem all_gives (n : Nat) (hn : 1 ≤ n) (Bx b : Nat) (v : Value) (st : Int) (E : List En) (w : World) (hc : w.cell? ⟨Bx, 0, none⟩ = some (.pointer (some ⟨b, 0, none⟩))) (hS : SetAt w b v st E) (hE : E.length ≤ 1000000) :
    Gives2 n Try.prog 24 #[.pointer (some ⟨Bx, 0, none⟩)] (fun x : Ix E.length => encE E x.1) (Kp v) (fun pre x => x.1 = pre.length) (fun ys => ys.map (·.1) = List.range E.length) (fun pre => ∃ k, k ≤ E.length ∧ pre.map (·.1) = List.range k) w := fun l J Jx W hW hJ _ hY h0 => by
  have hBx : Bx < w.heap.size := World.block_lt_of_cell? w ⟨Bx, 0, none⟩ hc
  have hS0 := hS.grown hW
  have hc0 := (hW.cell (p := ⟨Bx, 0, none⟩) hBx).trans hc
  have c1 := hS0.c1
  obtain ⟨va, vc, rfl⟩ := row_shape hS0.owns
  obtain ⟨N, hN⟩ : ∃ N, N = E.length := ⟨_, rfl⟩
  have HS := Hid.mk hS0
  have HN := Hid.mk hN
  rw [← hN] at c1 hE
  clear hS hS0 hc hN
  refine callsIn_of_wp Try.func24 rfl trivial ?_ rfl
  simp only [Try.ntmps24, List.size_toArray, List.length_cons, List.length_nil, Nat.reduceAdd, Nat.reduceSub, Array.replicate_succ, Array.replicate_zero, List.push_toArray, List.append_toArray, List.nil_append, List.cons_append]
  gi_wp2
  gi_loopw [4, 12] (fun _ idx wr => ∃ (k : Nat) (pre : List (Ix E.length)), k ≤ N ∧ idx = .int .i64 k ∧ Kp (.slice va E.length vc) W wr ∧ J pre wr ∧ pre.map (·.1) = List.range k) (fun _ idx _ => N - (intOf idx).toNat)
  case atStart => exact ⟨0, [], Nat.zero_le _, rfl, Kp.refl _ _, h0, rfl⟩
  case round =>
    obtain ⟨k, pre, hk, rfl, hst, hJs, hpre⟩ := hrel
    have hr := HS.out.owns
    have hr2 := ownsRow_carry hr hst
    have hpl : pre.length = k := by have := congrArg List.length hpre; simpa using this
    by_cases hlt : k < N
    · have hkE : k < E.length := by have := HN.out; omega
      obtain ⟨g, cap, e⟩ := row_full hr2 (by omega)
      injection e with e1 _ e3
      subst e1 e3
      obtain ⟨x0, x1, x2⟩ := row_en hr2 k hkE
      have HP : Hid ((pre ++ [(⟨k, hkE⟩ : Ix E.length)]).map (·.1) = List.range (k + 1)) := Hid.mk (by rw [List.map_append, hpre, List.range_succ]; rfl)
      have hgl := (hr2.lt g rfl).2
      have hgW := (hr.lt g rfl).2
      have f1 : ∀ o : Obj, Kp (.slice (some ⟨g, 0, none⟩) E.length vc) wr (wr.alloc o) := fun o => Kp.of_below (B := wr.heap.size) (fun k hk => (hr2.lt k hk).2) ((Below.refl _ _).alloc (Nat.le_refl _) _)
      have hJ2 := hJ.alloc (.cells #[.int .i64 E[k]!.1, .int .i64 E[k]!.2.1, .int .i64 E[k]!.2.2] 54) hJs
      obtain ⟨fn, tmps, assign, body, hy, hRd⟩ := hY pre ⟨k, hkE⟩ _ hJ2 hpl.symm
      unfold encE at hy
      dsimp only at hy
      have HS2 : Hid (Kp (.slice (some ⟨g, 0, none⟩) E.length vc) W (wr.alloc (.cells #[.int .i64 E[k]!.1, .int .i64 E[k]!.2.1, .int .i64 E[k]!.2.2] 54))) := Hid.mk (hst.trans (f1 _))
      obtain ⟨y0, hy0⟩ : ∃ y, y = E[k]!.1 := ⟨_, rfl⟩
      obtain ⟨y1, hy1⟩ : ∃ y, y = E[k]!.2.1 := ⟨_, rfl⟩
      obtain ⟨y2, hy2⟩ : ∃ y, y = E[k]!.2.2 := ⟨_, rfl⟩
      rw [← hy0, ← hy1, ← hy2] at hy HS2 hRd
      rw [← hy0] at x0
      rw [← hy1] at x1
      rw [← hy2] at x2
      clear hr hr2 hst hpre hpl f1 hJs hJ2 hy0 hy1 hy2 hgl hgW
      gi_wp2
      refine hRd.mono ?_
      rintro e W3 (⟨rfl, hJ3, hk3, _⟩ | ⟨rfl, hJx3⟩)
      · gi_wp2
        go_roundw
        case rel => exact ⟨k + 1, _, by omega, by go_num, HS2.out.trans hk3, hJ3, HP.out⟩
        case measure => simp [intOf]; omega
      · gi_wp2
        refine bodyPost_ret (results_none rfl _ _ _) rfl ?_
        exact ⟨⟨_, rfl⟩, .inr ⟨_, ⟨k + 1, by have := HN.out; omega, HP.out⟩, hJx3⟩⟩
    · have HP : Hid (pre.map (·.1) = List.range E.length) := Hid.mk (by rw [hpre, show k = E.length by have := HN.out; omega])
      have hle : (N : Int) ≤ (k : Int) := by omega
      clear hr hr2 hst hpre hpl
      gi_wp2
      refine bodyPost_end (results_none rfl _ _ _) rfl ?_
      exact ⟨⟨_, rfl⟩, .inl ⟨_, HP.out, hJs⟩⟩

set_option maxHeartbeats 1000000 in
set_option maxRecDepth 100000 in
/-- Of a nil set nothing. -/
theorem nil_gives (n : Nat) (Bx : Nat) (w : World) (hc : w.cell? ⟨Bx, 0, none⟩ = some (.pointer none)) :
    Gives2 n Try.prog 24 #[.pointer (some ⟨Bx, 0, none⟩)] (fun _ : Unit => #[.agg #[.int .i64 0, .int .i64 0, .int .i64 0]]) (fun _ _ => True) (fun _ _ => False) (fun ys => ys = []) (fun _ => False) w := fun l J Jx W hW hJ _ hY h0 => by
  have hBx : Bx < w.heap.size := World.block_lt_of_cell? w ⟨Bx, 0, none⟩ hc
  have hc0 := (hW.cell (p := ⟨Bx, 0, none⟩) hBx).trans hc
  clear hc hY
  refine callsIn_of_wp Try.func24 rfl trivial ?_ rfl
  simp only [Try.ntmps24, List.size_toArray, List.length_cons, List.length_nil, Nat.reduceAdd, Nat.reduceSub, Array.replicate_succ, Array.replicate_zero, List.push_toArray, List.append_toArray, List.nil_append, List.cons_append]
  gi_wp2
  refine bodyPost_ret (results_none rfl _ _ _) rfl ?_
  exact ⟨⟨_, rfl⟩, .inl ⟨[], rfl, h0⟩⟩

end Go.Proofs.Ytafpfioonbdgnaa.Rds
