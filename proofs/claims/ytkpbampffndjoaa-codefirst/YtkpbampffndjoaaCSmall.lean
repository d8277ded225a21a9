/-
  The walks of below, stands and the block's lets.
-/
import Derived.Test.YtkpbampffndjoaaCMem
namespace Go.Proofs.Ytkpbampffndjoaa
open Go.RowKit

set_option maxHeartbeats 400000 in
set_option maxRecDepth 100000 in
theorem below_any (n m : Int) (w : World) :
    Calls Try.prog 22 #[.int .i64 n, .int .i64 m] w fun e w' => e = .returned (.bool (lowB n m)) ∧ w' = w := by
  by_cases h0 : 0 ≤ n
  · go_enter Try.func22, Try.ntmps22
    go_wp2
    go_ret
    exact ⟨by simp [lowB, h0], rfl⟩
  · go_enter Try.func22, Try.ntmps22
    go_wp2
    go_ret
    exact ⟨by simp [lowB]; omega, rfl⟩

set_option maxHeartbeats 1600000 in
set_option maxRecDepth 100000 in
theorem stands_any (op : Int) (ins : Bool) (w : World) :
    Calls Try.prog 17 #[.int .i64 op, .bool ins] w fun e w' => e = .returned (.bool (standsB op ins)) ∧ w' = w := by
  go_enter Try.func17, Try.ntmps17
  go_wp2
  all_goals
    go_ret
    exact ⟨by simp_all [standsB], rfl⟩

/-- What was seen of a block, in memory. -/
structure Blk (w : World) (b : Nat) (e : Nat) (s : Bool) : Prop where
  at_ : w.heap[b]? = some (.cells #[.int .i64 (e : Nat), .bool s] 40 (0, 0))

theorem Blk.c0 {w : World} {b e : Nat} {s : Bool} (h : Blk w b e s) : w.cell? ⟨b, 0, none⟩ = some (.int .i64 (e : Nat)) := by simp [World.cell?, h.at_]
theorem Blk.c1 {w : World} {b e : Nat} {s : Bool} (h : Blk w b e s) : w.cell? ⟨b, 1, none⟩ = some (.bool s) := by simp [World.cell?, h.at_]
theorem Blk.fz {w : World} {b e : Nat} {s : Bool} (h : Blk w b e s) (i : Nat) : w.frozen? ⟨b, i, none⟩ = false := by simp [World.frozen?, h.at_]
theorem Blk.lt {w : World} {b e : Nat} {s : Bool} (h : Blk w b e s) : b < w.heap.size := (Array.getElem?_eq_some_iff.1 h.at_).1
theorem Blk.keep {w w' : World} {b e : Nat} {s : Bool} (h : Blk w b e s) (hb : w'.heap[b]? = w.heap[b]?) : Blk w' b e s := ⟨hb.trans h.at_⟩
theorem Blk.grown {w w' : World} {b e : Nat} {s : Bool} (h : Blk w b e s) (hb : Below w.heap.size w w') : Blk w' b e s := h.keep (hb.block b h.lt)

theorem heap_set {w : World} {b i : Nat} {cs : Array Value} {t : TypeId} {m : Nat × Nat} (x : Value) (h : w.heap[b]? = some (.cells cs t m)) : (w.setCell ⟨b, i, none⟩ x).heap[b]? = some (.cells (cs.setIfInBounds i x) t m) := by
  simp [World.setCell, Array.getElem?_modify, h]

theorem Blk.set0 {w : World} {b e : Nat} {s : Bool} (h : Blk w b e s) (n : Nat) : Blk (w.setCell ⟨b, 0, none⟩ (.int .i64 (n : Nat))) b n s := ⟨by rw [heap_set _ h.at_]; simp⟩
theorem Blk.set1 {w : World} {b e : Nat} {s : Bool} (h : Blk w b e s) (n : Bool) : Blk (w.setCell ⟨b, 1, none⟩ (.bool n)) b e n := ⟨by rw [heap_set _ h.at_]; simp⟩

/-- One block alone is another. -/
structure Only (b : Nat) (w w' : World) : Prop where
  os : w'.os = w.os
  tape : w'.tape = w.tape
  output : w'.output = w.output
  size : w'.heap.size = w.heap.size
  block : ∀ k, k ≠ b → w'.heap[k]? = w.heap[k]?

theorem Only.refl (b : Nat) (w : World) : Only b w w := ⟨rfl, rfl, rfl, rfl, fun _ _ => rfl⟩
theorem Only.set {b : Nat} {w w' : World} (h : Only b w w') (i : Nat) (x : Value) : Only b w (w'.setCell ⟨b, i, none⟩ x) := by
  refine ⟨h.os, h.tape, h.output, by have := h.size; simpa [World.setCell] using this, fun k hk => ?_⟩
  rw [Below.heap_setCell _ _ _ _ hk]
  exact h.block k hk
theorem Only.below {b B : Nat} {w w' : World} (h : Only b w w') (hb : B ≤ b) : Below B w w' :=
  ⟨h.os, h.tape, h.output, by rw [h.size]; exact Nat.le_refl _, fun k hk => h.block k (by omega)⟩

set_option maxHeartbeats 1600000 in
set_option maxRecDepth 100000 in
theorem lets_any {w : World} {b e : Nat} {s : Bool} (h : Blk w b e s) (he : e ≤ 1000) (op : Int) :
    Calls Try.prog 18 #[.pointer (some ⟨b, 0, none⟩), .int .i64 op] w fun r w' => r = .returned (.bool (letsB e s op)) ∧ Blk w' b (nextE e op) (nextS s op) ∧ Only b w w' := by
  have c0 := h.c0
  have c1 := h.c1
  have f0 := h.fz 0
  have f1 := h.fz 1
  have R := Hid.mk h
  clear h
  by_cases h4 : op = 4
  · subst h4
    go_enter Try.func18, Try.ntmps18
    go_wp2
    go_ret
    exact ⟨rfl, (R.out.set0 0).set1 false, ((Only.refl _ _).set _ _).set _ _⟩
  by_cases h14 : op = 14
  · subst h14
    go_enter Try.func18, Try.ntmps18
    go_wp2
    go_ret
    exact ⟨rfl, R.out, Only.refl _ _⟩
  by_cases h19 : op = 19
  · subst h19
    go_enter Try.func18, Try.ntmps18
    go_wp2
    go_ret
    exact ⟨rfl, R.out, Only.refl _ _⟩
  by_cases h20 : op = 20
  · subst h20
    cases s with
    | false =>
      go_enter Try.func18, Try.ntmps18
      go_wp2
      go_ret
      exact ⟨by simp [letsB]; omega, R.out.set0 (e + 1), (Only.refl _ _).set _ _⟩
    | true =>
      go_enter Try.func18, Try.ntmps18
      go_wp2
      go_ret
      exact ⟨by simp [letsB], R.out.set0 (e + 1), (Only.refl _ _).set _ _⟩
  by_cases h21 : op = 21
  · subst h21
    cases s with
    | false =>
      go_enter Try.func18, Try.ntmps18
      go_wp2
      go_ret
      exact ⟨rfl, R.out.set1 true, (Only.refl _ _).set _ _⟩
    | true =>
      go_enter Try.func18, Try.ntmps18
      go_wp2
      go_ret
      exact ⟨rfl, R.out, Only.refl _ _⟩
  go_enter Try.func18, Try.ntmps18
  go_wp2
  go_ret
  have e1 : letsB e s op = true := by unfold letsB; rw [if_neg (by omega), if_neg h20, if_neg h21]
  have e2 : nextE e op = e := by unfold nextE; rw [if_neg h4, if_neg h20]
  have e3 : nextS s op = s := by unfold nextS; rw [if_neg h4, if_neg h21]
  rw [e1, e2, e3]
  exact ⟨rfl, R.out, Only.refl _ _⟩

end Go.Proofs.Ytkpbampffndjoaa
