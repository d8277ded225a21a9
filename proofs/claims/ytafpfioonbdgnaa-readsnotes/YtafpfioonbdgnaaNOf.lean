/-
  Versions by value, and the walk of Of.
-/
import Derived.Test.YtafpfioonbdgnaaRWide
import Derived.Test.YtafpfioonbdgnaaNMath
import Derived.Deep.WholeRow
namespace Go.Proofs.Ytafpfioonbdgnaa.Rds
open Go.RowKit Go.Proofs.Ytafpfioonbdgnaa.Cel

/-- All versions, and the time, as cells. -/
def nowA (f : Nat → Int) (c : Int) : Array Value :=
  #[.int .i64 (f 0), .int .i64 (f 1), .int .i64 (f 2), .int .i64 (f 3), .int .i64 (f 4), .int .i64 (f 5), .int .i64 (f 6), .int .i64 (f 7), .int .i64 (f 8), .int .i64 (f 9), .int .i64 (f 10), .int .i64 (f 11), .int .i64 (f 12), .int .i64 (f 13), .int .i64 (f 14), .int .i64 (f 15), .int .i64 (f 16), .int .i64 (f 17), .int .i64 (f 18), .int .i64 (f 19), .int .i64 (f 20), .int .i64 (f 21), .int .i64 (f 22), .int .i64 (f 23), .int .i64 c]

theorem nowA_eq (f : Nat → Int) (c : Int) : nowA f c = ((List.range 24).map fun j => Value.int .i64 (f j)).toArray.push (.int .i64 c) := rfl
theorem nowA_size (f : Nat → Int) (c : Int) : (nowA f c).size = 25 := rfl
theorem nowA_at (f : Nat → Int) (c : Int) (j : Nat) (hj : j < 24) : (nowA f c)[j]? = some (.int .i64 (f j)) := by
  have hs : ((List.range 24).map fun j => Value.int .i64 (f j)).toArray.size = 24 := rfl
  rw [nowA_eq, Array.getElem?_push, if_neg (by omega)]
  simp [hj]
theorem nowA_clock (f : Nat → Int) (c : Int) : (nowA f c)[24]? = some (.int .i64 c) := rfl

/-- Its cells, one by one. -/
theorem now_cells {f : Nat → Int} {c : Int} {B : Nat} {W : World} (h : W.heap[B]? = some (.cells (nowA f c) 43 (0, 0))) :
    W.cell? ⟨B, 0, none⟩ = some (.int .i64 (f 0)) ∧
    W.cell? ⟨B, 1, none⟩ = some (.int .i64 (f 1)) ∧
    W.cell? ⟨B, 2, none⟩ = some (.int .i64 (f 2)) ∧
    W.cell? ⟨B, 3, none⟩ = some (.int .i64 (f 3)) ∧
    W.cell? ⟨B, 4, none⟩ = some (.int .i64 (f 4)) ∧
    W.cell? ⟨B, 5, none⟩ = some (.int .i64 (f 5)) ∧
    W.cell? ⟨B, 6, none⟩ = some (.int .i64 (f 6)) ∧
    W.cell? ⟨B, 7, none⟩ = some (.int .i64 (f 7)) ∧
    W.cell? ⟨B, 8, none⟩ = some (.int .i64 (f 8)) ∧
    W.cell? ⟨B, 9, none⟩ = some (.int .i64 (f 9)) ∧
    W.cell? ⟨B, 10, none⟩ = some (.int .i64 (f 10)) ∧
    W.cell? ⟨B, 11, none⟩ = some (.int .i64 (f 11)) ∧
    W.cell? ⟨B, 12, none⟩ = some (.int .i64 (f 12)) ∧
    W.cell? ⟨B, 13, none⟩ = some (.int .i64 (f 13)) ∧
    W.cell? ⟨B, 14, none⟩ = some (.int .i64 (f 14)) ∧
    W.cell? ⟨B, 15, none⟩ = some (.int .i64 (f 15)) ∧
    W.cell? ⟨B, 16, none⟩ = some (.int .i64 (f 16)) ∧
    W.cell? ⟨B, 17, none⟩ = some (.int .i64 (f 17)) ∧
    W.cell? ⟨B, 18, none⟩ = some (.int .i64 (f 18)) ∧
    W.cell? ⟨B, 19, none⟩ = some (.int .i64 (f 19)) ∧
    W.cell? ⟨B, 20, none⟩ = some (.int .i64 (f 20)) ∧
    W.cell? ⟨B, 21, none⟩ = some (.int .i64 (f 21)) ∧
    W.cell? ⟨B, 22, none⟩ = some (.int .i64 (f 22)) ∧
    W.cell? ⟨B, 23, none⟩ = some (.int .i64 (f 23)) ∧
    W.cell? ⟨B, 24, none⟩ = some (.int .i64 c) :=
  ⟨cell_at h rfl, cell_at h rfl, cell_at h rfl, cell_at h rfl, cell_at h rfl, cell_at h rfl, cell_at h rfl, cell_at h rfl, cell_at h rfl, cell_at h rfl, cell_at h rfl, cell_at h rfl, cell_at h rfl, cell_at h rfl, cell_at h rfl, cell_at h rfl, cell_at h rfl, cell_at h rfl, cell_at h rfl, cell_at h rfl, cell_at h rfl, cell_at h rfl, cell_at h rfl, cell_at h rfl, cell_at h rfl⟩

set_option maxHeartbeats 800000 in
set_option maxRecDepth 100000 in
theorem of_yes (f : Nat → Int) (c : Int) (k i : Nat) (hk : k < 3) (hi : i < 8) (w : World) :
    Calls Try.prog 19 #[.agg (nowA f c), .int .i64 (k : Int), .int .i64 (i : Int)] w fun e w' => e = .returned (.int .i64 (f (k * 8 + i))) ∧ Below w.heap.size w w' := by
  have k0 : ¬ (k : Int) < 0 := by omega
  have k1 : ¬ (2 : Int) < (k : Int) := by omega
  have i0 : ¬ (i : Int) < 0 := by omega
  have i1 : ¬ (8 : Int) ≤ (i : Int) := by omega
  have k2 : (k : Int) < 3 := by omega
  have i2 : (i : Int) < 8 := by omega
  have c0 : (w.alloc (.cells (nowA f c) 43)).cell? ⟨w.heap.size, k * 8 + i, none⟩ = some (.int .i64 (f (k * 8 + i))) := cell_at (heap_new w _) (nowA_at f c _ (by omega))
  have HB := Hid.mk ((Below.refl w.heap.size w).alloc (Nat.le_refl _) (.cells (nowA f c) 43))
  go_enter Try.func19, Try.ntmps19
  go_wp2
  go_ret
  exact ⟨rfl, HB.out⟩

set_option maxHeartbeats 1600000 in
set_option maxRecDepth 100000 in
theorem of_no (f : Nat → Int) (c : Int) (k i : Int) (h : ¬ (0 ≤ k ∧ k ≤ 2 ∧ 0 ≤ i ∧ i ≤ 7)) (w : World) :
    Calls Try.prog 19 #[.agg (nowA f c), .int .i64 k, .int .i64 i] w fun e w' => e = .returned (.int .i64 0) ∧ Below w.heap.size w w' := by
  have HB := Hid.mk ((Below.refl w.heap.size w).alloc (Nat.le_refl _) (.cells (nowA f c) 43))
  by_cases h0 : k < 0
  · clear h
    go_enter Try.func19, Try.ntmps19
    go_wp2
    go_ret
    exact ⟨rfl, HB.out⟩
  by_cases h1 : 2 < k
  · clear h
    go_enter Try.func19, Try.ntmps19
    go_wp2
    go_ret
    exact ⟨rfl, HB.out⟩
  by_cases h2 : i < 0
  · clear h
    go_enter Try.func19, Try.ntmps19
    go_wp2
    go_ret
    exact ⟨rfl, HB.out⟩
  have h3 : (8 : Int) ≤ i := by omega
  clear h
  go_enter Try.func19, Try.ntmps19
  go_wp2
  go_ret
  exact ⟨rfl, HB.out⟩

set_option maxRecDepth 100000 in
theorem of_any (f : Nat → Int) (c : Int) (k i : Int) (w : World) :
    Calls Try.prog 19 #[.agg (nowA f c), .int .i64 k, .int .i64 i] w fun e w' => e = .returned (.int .i64 (ofF f k i)) ∧ Below w.heap.size w w' := by
  by_cases h : 0 ≤ k ∧ k ≤ 2 ∧ 0 ≤ i ∧ i ≤ 7
  · obtain ⟨k', rfl⟩ : ∃ k' : Nat, k = (k' : Int) := ⟨k.toNat, by omega⟩
    obtain ⟨i', rfl⟩ : ∃ i' : Nat, i = (i' : Int) := ⟨i.toNat, by omega⟩
    unfold ofF
    rw [if_pos h]
    exact of_yes f c k' i' (by omega) (by omega) w
  · unfold ofF
    rw [if_neg h]
    exact of_no f c k i h w

set_option maxRecDepth 100000 in
theorem run_load_now {f : Nat → Int} {c : Int} {B : Nat} {w : World} (h : w.heap[B]? = some (.cells (nowA f c) 43 (0, 0))) : (loadVar 43 ⟨B, 0, none⟩).run Try.prog w = .ok (.agg (nowA f c)) w :=
  run_loadVar_row w B 43 43 (nowA f c) (0, 0) _ h Try.underlying43 rfl (by rw [nowA_size]; kernel_rfl)

set_option maxRecDepth 100000 in
/-- All versions out of a block, in every world of a class. -/
theorem quiet_load_now {f : Nat → Int} {c : Int} {B : Nat} {o : Oper} {a : Act} {C : World → Prop} {K : Act → Prop} (x : Operand) (ho : o.op = .load 43 x)
    (hx : a.eval x = .pointer (some ⟨B, 0, none⟩)) (hC : ∀ w, C w → w.heap[B]? = some (.cells (nowA f c) 43 (0, 0))) (h : K (a.put o.dst (.agg (nowA f c)))) : o.quiet Try.prog a C K := by
  refine ⟨.agg (nowA f c), fun w hCw => ?_, h⟩
  unfold Oper.quietAt execOp
  simp only [ho, hx, Instr.loadAt, Instr.sureAddr, Sem.run_bind, Sem.run_pure, Result.andThen_ok, run_load_now (hC w hCw)]
  exact ⟨rfl, rfl⟩

theorem nowA_ext {g h : Nat → Int} {c : Int} (H : ∀ q, q < 24 → g q = h q) : nowA g c = nowA h c := by
  unfold nowA
  rw [H 0 (by decide), H 1 (by decide), H 2 (by decide), H 3 (by decide), H 4 (by decide), H 5 (by decide), H 6 (by decide), H 7 (by decide), H 8 (by decide), H 9 (by decide), H 10 (by decide), H 11 (by decide), H 12 (by decide), H 13 (by decide), H 14 (by decide), H 15 (by decide), H 16 (by decide), H 17 (by decide), H 18 (by decide), H 19 (by decide), H 20 (by decide), H 21 (by decide), H 22 (by decide), H 23 (by decide)]

theorem nowA_set (g : Nat → Int) (c : Int) (j : Nat) (hj : j < 24) (x : Int) : (nowA g c).setIfInBounds j (.int .i64 x) = nowA (fun q => if q = j then x else g q) c := by
  apply Array.ext_getElem?
  intro q
  rw [Array.getElem?_setIfInBounds, nowA_size]
  by_cases hq : q < 24
  · rw [nowA_at _ _ q hq, nowA_at _ _ q hq]
    by_cases e : q = j
    · subst e
      rw [if_pos rfl, if_pos (by omega), if_pos rfl]
    · rw [if_neg (fun h => e h.symm), if_neg e]
  · by_cases h24 : q = 24
    · subst h24
      rw [if_neg (by omega)]
      rfl
    · rw [if_neg (by omega), Array.getElem?_eq_none (by rw [nowA_size]; omega), Array.getElem?_eq_none (by rw [nowA_size]; omega)]

theorem nowA_one (f : Nat → Int) (c : Int) : (nowA f c).all (·.oneCell') = true := by simp [nowA, Value.oneCell']

end Go.Proofs.Ytafpfioonbdgnaa.Rds
