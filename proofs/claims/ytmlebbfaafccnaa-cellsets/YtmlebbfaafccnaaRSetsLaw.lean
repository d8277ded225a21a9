/-
  CellSets: for every number of things, every first thing, every list of sets and every number that is asked for, the law returns true: in every row of sets all things, and their versions, are the document's. No condition.
-/
import Derived.Deep.RegionLaw
import Derived.Test.YtmlebbfaafccnaaRNewI
import Derived.Test.YtmlebbfaafccnaaRNewestI
import Derived.Test.YtmlebbfaafccnaaRAllI
import Derived.Test.YtmlebbfaafccnaaRRound
import Derived.Test.YtmlebbfaafccnaaRAlive
import Derived.Test.YtmlebbfaafccnaaRRef
namespace Go.Proofs.Ytmlebbfaafccnaa.cellSets
open Go.ChangeShapes Go.WideShapes Go.ChangeAt Go.RowKit Go.Deep Go.Shelf Go.Proofs.Ytmlebbfaafccnaa.Cel Go.Proofs.Ytmlebbfaafccnaa.Cel.I
attribute [local go_sem] Oper.semAt_some

/-- What Get answers of a row. -/
def gr (R : List (Int × Int)) (i : Int) : Int × Int := if 0 ≤ i ∧ i < (R.length : Int) then R[i.toNat]! else (0, 0)

section
variable {w : World} {b g : Nat} {R : List (Int × Int)}
set_option maxRecDepth 100000 in
theorem get_any (h : RowAt w b g R) (i : Int) :
    Calls Try.prog 10 #[.pointer (some ⟨b, 0, none⟩), .int .i64 i] w fun e w' => e = .returned (.tuple #[.int .i64 (gr R i).1, .int .i64 (gr R i).2]) ∧ ∃ n, w' = w.drewN n := by
  by_cases hi : 0 ≤ i ∧ i < (R.length : Int)
  · obtain ⟨j, rfl⟩ : ∃ j : Nat, i = (j : Int) := ⟨i.toNat, by omega⟩
    unfold gr
    rw [if_pos hi]
    exact get_yes h j (by omega)
  · unfold gr
    rw [if_neg hi]
    exact (get_no h i hi).mono fun e w' k => ⟨k.1, 0, k.2⟩
set_option maxRecDepth 100000 in
theorem version_any (h : RowAt w b g R) (i : Int) :
    Calls Try.prog 12 #[.pointer (some ⟨b, 0, none⟩), .int .i64 i] w fun e w' => e = .returned (.int .i64 (gr R i).2) ∧ w' = w := by
  by_cases hi : 0 ≤ i ∧ i < (R.length : Int)
  · obtain ⟨j, rfl⟩ : ∃ j : Nat, i = (j : Int) := ⟨i.toNat, by omega⟩
    unfold gr
    rw [if_pos hi]
    exact version_yes h j (by omega)
  · unfold gr
    rw [if_neg hi]
    exact version_no h i hi
end

/-- The row, and what the document's has done. -/
structure Same (R : List (Int × Int)) (first : Int) (l : List St) (N : Nat) : Prop where
  len : R.length = N
  each : ∀ j, j < N → R[j]! = lookS first l (j : Int)

theorem Same.gv {R : List (Int × Int)} {first : Int} {l : List St} {N : Nat} (h : Same R first l N) (i : Int) : gv first N l i = gr R i := by
  unfold Cel.gv gr
  rw [h.len]
  split
  · rename_i hi
    have e : ((i.toNat : Nat) : Int) = i := by omega
    have := h.each i.toNat (by omega)
    rw [e] at this
    exact this.symm
  · rfl

theorem Same.new (N : Nat) (first : Int) : Same (List.replicate N (first, 0)) first [] N :=
  ⟨by simp, fun j hj => by rw [getElem!_pos _ j (by simpa using hj)]; simp [lookS]⟩

theorem Same.set {R : List (Int × Int)} {first : Int} {l : List St} {N : Nat} (h : Same R first l N) (j : Nat) (x v : Int) : Same (R.set j (x, v)) first (l ++ [⟨(j : Int), x, v⟩]) N := by
  refine ⟨by rw [List.length_set]; exact h.len, fun k hk => ?_⟩
  have hl := h.len
  rw [lookS_one, getElem!_pos _ k (by rw [List.length_set]; omega)]
  by_cases e : j = k
  · subst e
    simp
  · rw [List.getElem_set_ne e, if_neg (by dsimp only; omega), ← h.each k hk, getElem!_pos _ k (by omega)]

set_option maxRecDepth 100000 in
theorem Try.info30 : (Try.prog.info? 30).map (fun i => (i.zero, i.size, i.bytes)) = some (some (.agg #[.int .i64 0, .int .i64 0, .int .i64 0]), 3, 24) := by kernel_rfl

theorem cell_past {w : World} {a : Addr} {o : Obj} {v : Value} (h : w.cell? a = some v) : (w.alloc o).cell? a = some v :=
  (World.cell?_alloc_some w a o (by rw [h]; rfl)).trans h
theorem cell_past1 {w : World} {a : Addr} {o : Obj} {v : Value} (h : w.cell? a = some v) : (w.alloc o).drew.cell? a = some v := by
  simp only [World.cell?_drew]
  exact cell_past h

/-- What lies between two steps: the row, the document's row, the law's own boxes. -/
structure Cs (B ga m N : Nat) (first : Int) (v : Value) (l : List St) (R : List (Int × Int)) (w W : World) : Prop where
  row : RowAt W (ga + 1) ga R
  ref : RefAt W B m N first v l
  r : W.heap[B]? = some (.cells #[.bool false] 4 (0, 0))
  pa : W.heap[m + 1]? = some (.cells #[.pointer (some ⟨ga + 1, 0, none⟩)] 24 (0, 0))
  pb : W.heap[m + 1 + 1]? = some (.cells #[.pointer (some ⟨m, 0, none⟩)] 26 (0, 0))
  bel : Below B w W

section
variable {B ga m N : Nat} {first : Int} {v : Value} {l : List St} {R : List (Int × Int)} {w W W' : World}

/-- The document's own row is of its own type. -/
theorem own_ne {g q : Nat} {cs : Array Value} {t : TypeId} {mm : Nat × Nat} (h : RefAt W B m N first v l) (hv : v.ownBlock = some g) (hq : W.heap[q]? = some (.cells cs t mm)) (ht : t ≠ 30) : g ≠ q := by
  intro e
  subst e
  rcases h.owns.2 with ⟨e, _⟩ | ⟨g', cap, cur, e, h0, hg, r⟩
  · rw [e] at hv
    simp [Value.ownBlock] at hv
  · rw [e] at hv
    simp [Value.ownBlock] at hv
    subst hv
    rw [hg] at hq
    injection hq with hq
    injection hq with _ h2 _
    exact ht h2.symm

theorem Cs.grown (h : Cs B ga m N first v l R w W) (hb : Below W.heap.size W W') : Cs B ga m N first v l R w W' := by
  have key : ∀ {q : Nat} {o : Obj}, W.heap[q]? = some o → W'.heap[q]? = some o := fun hq => (hb.block _ (Array.getElem?_eq_some_iff.1 hq).1).trans hq
  have hB : B ≤ W.heap.size := Nat.le_of_lt (Array.getElem?_eq_some_iff.1 h.r).1
  exact ⟨h.row.grown hb, h.ref.carry (hb.block _ h.ref.lt) (fun k hk => hb.block k (h.ref.own_lt k hk).2), key h.r, key h.pa, key h.pb, h.bel.trans (hb.mono hB)⟩

theorem Cs.drewN (h : Cs B ga m N first v l R w W) (n : Nat) : Cs B ga m N first v l R w (W.drewN n) :=
  ⟨h.row.drewN n, h.ref.drewN n, by rw [heap_drewN]; exact h.r, by rw [heap_drewN]; exact h.pa, by rw [heap_drewN]; exact h.pb, ⟨h.bel.os, h.bel.tape, h.bel.output, h.bel.size, h.bel.block⟩⟩

theorem Cs.set {R' : List (Int × Int)} (h : Cs B ga m N first v l R w W) (hr : RowAt W' (ga + 1) ga R') (ho : Only ga W W') (hg : B ≤ ga) : Cs B ga m N first v l R' w W' := by
  have key : ∀ {q : Nat} {cs : Array Value} {t : TypeId} {mm : Nat × Nat}, W.heap[q]? = some (.cells cs t mm) → t ≠ 56 → W'.heap[q]? = some (.cells cs t mm) := fun {q cs t mm} hq ht => (ho.block q (fun e => by
    subst e
    rw [h.row.row] at hq
    injection hq with hq
    injection hq with _ h2 _
    exact ht h2.symm)).trans hq
  refine ⟨hr, ⟨key h.ref.at_ (by decide), h.ref.apart, ownsRow_carryB h.ref.owns fun k hk => ho.block k (own_ne h.ref hk h.row.row (by decide))⟩, key h.r (by decide), key h.pa (by decide), key h.pb (by decide), h.bel.trans (ho.below hg)⟩

/-- What the append and the store into the field leave. -/
theorem Cs.wrote {w1 : World} {S g n cap : Nat} {c : St} (h : Cs B ga m N first v l R w W) (hown : w1.ownsRow B 30 3 (.slice (some ⟨g, 0, none⟩) n cap) n (stC l ++ stC [c])) (hn : n = (l ++ [c]).length)
    (hgrow : W'.grownBy w1 v.ownBlock) (hW : Below W.heap.size W W') (hat : v.ownBlock = some g ∨ g = S) (hS : W.heap.size ≤ S) (hm : B ≤ m) :
    Cs B ga m N first (.slice (some ⟨g, 0, none⟩) n cap) (l ++ [c]) R w (w1.setCell ⟨m, 2, none⟩ (.slice (some ⟨g, 0, none⟩) n cap)) := by
  subst hn
  have hlt := h.ref.lt
  have hB : B ≤ W.heap.size := Nat.le_of_lt (Array.getElem?_eq_some_iff.1 h.r).1
  have hgb : g ≠ m := by
    rcases hat with e | e
    · intro e'; subst e'; exact h.ref.apart e
    · omega
  have key0 : ∀ {q : Nat} {cs : Array Value} {t : TypeId} {mm : Nat × Nat}, W.heap[q]? = some (.cells cs t mm) → t ≠ 30 → w1.heap[q]? = some (.cells cs t mm) := fun {q cs t mm} hq ht => by
    have hql := (Array.getElem?_eq_some_iff.1 hq).1
    rw [hgrow.block q (by have := hW.size; omega) (fun e => own_ne h.ref e.symm hq ht rfl), hW.block q hql]
    exact hq
  have ne : ∀ {q : Nat} {cs : Array Value} {t : TypeId} {mm : Nat × Nat}, W.heap[q]? = some (.cells cs t mm) → t ≠ 28 → q ≠ m := fun {q cs t mm} hq ht e => by
    subst e
    rw [h.ref.at_] at hq
    injection hq with hq
    injection hq with _ h2 _
    exact ht h2.symm
  have key : ∀ {q : Nat} {cs : Array Value} {t : TypeId} {mm : Nat × Nat}, W.heap[q]? = some (.cells cs t mm) → t ≠ 30 → t ≠ 28 → (w1.setCell ⟨m, 2, none⟩ (.slice (some ⟨g, 0, none⟩) (l ++ [c]).length cap)).heap[q]? = some (.cells cs t mm) := fun hq ht ht2 => by
    rw [Below.heap_setCell _ _ _ _ (ne hq ht2)]
    exact key0 hq ht
  refine ⟨⟨key h.row.at_ (by decide) (by decide), key h.row.row (by decide) (by decide), h.row.short⟩, ⟨?_, by simp [Value.ownBlock, hgb], ?_⟩, key h.r (by decide) (by decide), key h.pa (by decide) (by decide), key h.pb (by decide) (by decide), ?_⟩
  · rw [heap_set _ (key0 h.ref.at_ (by decide))]
    simp
  · rw [stC_append]
    exact ownsRow_carryB hown fun k hk => by
      simp [Value.ownBlock] at hk
      subst hk
      exact Below.heap_setCell _ _ _ _ hgb
  · exact (((h.bel.trans (hW.mono hB)).grown hgrow (by have := hW.size; omega) (fun k hk => (h.ref.own_lt k hk).1))).setCell (p := ⟨m, 2, none⟩) hm _

end


/-- What lies between two rounds of the range: how far it is, and the newest so far. -/
structure Lw (B ga m N : Nat) (first : Int) (v : Value) (l : List St) (R : List (Int × Int)) (w : World) (K1 k : Nat) (W : World) : Prop where
  cs : Cs B ga m N first v l R w W
  kc : W.heap[K1]? = some (.cells #[.int .i64 (k : Int)] 3 (0, 0))
  nw : W.heap[K1 + 1]? = some (.cells #[.int .i64 (newest (R.take k))] 3 (0, 0))
  far : m + 1 + 1 < K1

section
variable {B ga m N : Nat} {first : Int} {v : Value} {l : List St} {R : List (Int × Int)} {w W W' : World} {K1 k : Nat}

theorem Cs.kept {S : Nat} {row : Option Nat} (h : Cs B ga m N first v l R w W) (hg : W.grownBy W' row) (hr : ∀ r, row = some r → S ≤ r ∧ ∃ o : Obj, W.heap[r]? = some o ∧ o.isCells = false) (hS : B ≤ S) : Cs B ga m N first v l R w W' := by
  have hr2 : ∀ r, row = some r → ∃ o : Obj, W.heap[r]? = some o ∧ o.isCells = false := fun r e => (hr r e).2
  have key : ∀ {q : Nat} {cs : Array Value} {t : TypeId} {mm : Nat × Nat}, W.heap[q]? = some (.cells cs t mm) → W'.heap[q]? = some (.cells cs t mm) := fun hq => (grownBy_keeps_cells hg hr2 hq rfl).trans hq
  have hB : B ≤ W.heap.size := Nat.le_of_lt (Array.getElem?_eq_some_iff.1 h.r).1
  refine ⟨⟨key h.row.at_, key h.row.row, h.row.short⟩, ⟨key h.ref.at_, h.ref.apart, ?_⟩, key h.r, key h.pa, key h.pb, h.bel.grown hg hB (fun k hk => Nat.le_trans hS (hr k hk).1)⟩
  refine ownsRow_carryB h.ref.owns fun k hk => ?_
  rcases h.ref.owns.2 with ⟨e, _⟩ | ⟨g', cap, cur, e, h0, hgg, r⟩
  · rw [e] at hk; simp [Value.ownBlock] at hk
  · rw [e] at hk
    simp [Value.ownBlock] at hk
    subst hk
    exact (key hgg).trans hgg.symm

theorem Lw.kept {S : Nat} {row : Option Nat} (h : Lw B ga m N first v l R w K1 k W) (hg : W.grownBy W' row) (hr : ∀ r, row = some r → S ≤ r ∧ ∃ o : Obj, W.heap[r]? = some o ∧ o.isCells = false) (hS : B ≤ S) : Lw B ga m N first v l R w K1 k W' :=
  ⟨h.cs.kept hg hr hS, (grownBy_keeps_cells hg (fun r e => (hr r e).2) h.kc rfl).trans h.kc, (grownBy_keeps_cells hg (fun r e => (hr r e).2) h.nw rfl).trans h.nw, h.far⟩

theorem Lw.drewN (h : Lw B ga m N first v l R w K1 k W) (n : Nat) : Lw B ga m N first v l R w K1 k (W.drewN n) :=
  ⟨h.cs.drewN n, by rw [heap_drewN]; exact h.kc, by rw [heap_drewN]; exact h.nw, h.far⟩

/-- A round more. -/
theorem Lw.bump (h : Lw B ga m N first v l R w K1 k W) {C : Int} (hC : C = newest (R.take (k + 1))) (hB : B ≤ m) (hg : ga + 1 ≤ m) : Lw B ga m N first v l R w K1 (k + 1) ((W.setCell ⟨K1 + 1, 0, none⟩ (.int .i64 C)).setCell ⟨K1, 0, none⟩ (.int .i64 ((k : Int) + 1))) := by
  have hf := h.far
  have key : ∀ {q : Nat}, q ≠ K1 → q ≠ K1 + 1 → ((W.setCell ⟨K1 + 1, 0, none⟩ (.int .i64 C)).setCell ⟨K1, 0, none⟩ (.int .i64 ((k : Int) + 1))).heap[q]? = W.heap[q]? := fun h1 h2 => (Below.heap_setCell _ _ _ _ h1).trans (Below.heap_setCell _ _ _ _ h2)
  have t1 : W.heap[K1]? = some (.cells #[.int .i64 (k : Int)] 3 (0, 0)) := h.kc
  refine ⟨⟨h.cs.row.keep (key (by omega) (by omega)) (key (by omega) (by omega)), h.cs.ref.carry (key (by omega) (by omega)) (fun q hq => key (own_ne h.cs.ref hq h.kc (by decide)) (own_ne h.cs.ref hq h.nw (by decide))), (key (by omega) (by omega)).trans h.cs.r, (key (by omega) (by omega)).trans h.cs.pa, (key (by omega) (by omega)).trans h.cs.pb, (h.cs.bel.setCell (p := ⟨K1 + 1, 0, none⟩) (by show B ≤ K1 + 1; omega) _).setCell (p := ⟨K1, 0, none⟩) (by show B ≤ K1; omega) _⟩, ?_, ?_, hf⟩
  · rw [heap_set _ (show (W.setCell ⟨K1 + 1, 0, none⟩ (.int .i64 C)).heap[K1]? = some (.cells #[.int .i64 (k : Int)] 3 (0, 0)) from (Below.heap_setCell _ _ _ _ (show K1 ≠ K1 + 1 by omega)).trans h.kc)]
    simp
  · rw [Below.heap_setCell _ _ _ _ (show K1 + 1 ≠ K1 by omega), heap_set _ h.nw, ← hC]
    simp

end

theorem others_drewN (W : World) (n : Nat) : KeepsOthers W (W.drewN n) := ⟨Nat.le_refl _, fun _ _ h _ => h⟩

set_option maxRecDepth 100000 in
set_option maxHeartbeats 4000000 in
theorem walk (n first : Int) (a : Option Addr) (len cap : Nat) (cs : List St) (other : Int) (w : World) (_hn : (Lit.int .i64 n).wf = true) (_hf : (Lit.int .i64 first).wf = true) (hcs : IsSts w a len cap cs) (_ho : (Lit.int .i64 other).wf = true) :
    Calls Try.prog 3 #[.int .i64 n, .int .i64 first, .slice a len cap, .int .i64 other] w fun e w' => e = .returned (.bool true) ∧ Below w.heap.size w w' := by
  obtain ⟨B, hB⟩ : ∃ B, B = w.heap.size := ⟨_, rfl⟩
  rw [← hB]
  refine (callsIn_wide (n := 6)).1 ?_
  refine callsIn_of_wp_marks Try.func3 rfl trivial ?_ rfl
  simp only [Try.ntmps3, List.size_toArray, List.length_cons, List.length_nil, Nat.reduceAdd, Nat.reduceSub, Array.replicate_succ, Array.replicate_zero, List.push_toArray, List.append_toArray, List.nil_append, List.cons_append]
  gi_wp2_with fail
  refine ⟨trivial, (callsIn_wide.2 (alive_any _)).mono ?_⟩
  rintro e w1 ⟨rfl, hb1⟩
  have hbw : Below B w (w.alloc (.cells #[.bool false] 4)) := by rw [hB]; exact (Below.refl _ w).alloc (Nat.le_refl _) _
  have hz0 : (w.alloc (.cells #[.bool false] 4)).heap.size = B + 1 := by rw [hB]; simp
  have hbw1 : Below B w w1 := hbw.trans (hb1.mono (by omega))
  have hz1 : B + 1 ≤ w1.heap.size := by have := hb1.size; omega
  have kr1 : w1.heap[B]? = some (.cells #[.bool false] 4 (0, 0)) := by
    rw [hb1.block B (by omega), hB]
    exact heap_new _ _
  rw [← hB]
  have HBe := Hid.mk hB
  clear hb1 hbw hz0 hB
  have cr1 : w1.cell? ⟨B, 0, none⟩ = some (.bool false) := cell_at kr1 rfl
  have fr1 : w1.frozen? ⟨B, 0, none⟩ = false := free_at kr1
  by_cases hn : 64 < n
  · gi_wp2
    have hc5 := World.cell?_setCell_same' w1 ⟨B, 0, none⟩ (.bool true) (by rw [cr1]; rfl)
    refine ⟨.bool true, ?_, rfl, hbw1.setCell (p := ⟨B, 0, none⟩) (Nat.le_refl _) _⟩
    simp [results, Try.f3, go_sem, hc5]
  by_cases hl : 100 < len
  · have hl1 : (100 : Int) < (len : Int) := by omega
    gi_wp2
    have hc5 := World.cell?_setCell_same' w1 ⟨B, 0, none⟩ (.bool true) (by rw [cr1]; rfl)
    refine ⟨.bool true, ?_, rfl, hbw1.setCell (p := ⟨B, 0, none⟩) (Nat.le_refl _) _⟩
    simp [results, Try.f3, go_sem, hc5]
  have hl1 : ¬ (100 : Int) < (len : Int) := by omega
  clear cr1 fr1
  have hMx : (if n < 0 then 0 else n) = ((made n : Nat) : Int) := by
    unfold made
    split <;> omega
  have HMN : Hid (made n ≤ 64) := Hid.mk (by unfold made; omega)
  obtain ⟨N, hN⟩ : ∃ N, N = made n := ⟨_, rfl⟩
  rw [← hN] at hMx HMN
  have HN := Hid.mk hN
  clear hN
  gi_wp2_with fail
  refine ⟨trivial, (callsIn_wide.2 (new_any n first w1)).mono ?_⟩
  rintro e w2 ⟨rfl, hr2, hb2, hz2⟩
  have HR2 := Hid.mk hr2
  have HB2 := Hid.mk hb2
  have HZ2 := Hid.mk hz2
  clear hr2 hb2 hz2
  gi_wp2
  obtain ⟨w4, hw4⟩ : ∃ w4, w4 = ((w2.alloc (.cells #[.int .i64 N, .int .i64 first, .slice none 0 0] 28)).alloc (.cells #[.pointer (some ⟨w1.heap.size + 1, 0, none⟩)] 24)).alloc (.cells #[.pointer (some ⟨w2.heap.size, 0, none⟩)] 26) := ⟨_, rfl⟩
  rw [← hw4]
  obtain ⟨ga, hga⟩ : ∃ ga, ga = w1.heap.size := ⟨_, rfl⟩
  obtain ⟨m, hm⟩ : ∃ m, m = w2.heap.size := ⟨_, rfl⟩
  have hz2 := HZ2.out
  have hz4 : w4.heap.size = m + 3 := by rw [hw4, hm]; simp
  have hb4 : Below w2.heap.size w2 w4 := by rw [hw4]; exact (((Below.refl _ _).alloc (Nat.le_refl _) _).alloc (by simp) _).alloc (by simp; omega) _
  have hbw4 : Below B w w4 := (hbw1.trans (HB2.out.mono (by omega))).trans (hb4.mono (by omega))
  have HC4 : Hid (Cs B ga m N first (.slice none 0 0) [] (List.replicate N (first, 0)) w w4) := by
    refine Hid.mk ⟨?_, ⟨?_, by simp [Value.ownBlock], World.ownsRow_nil _ _ _ _⟩, ?_, ?_, ?_, hbw4⟩
    · rw [hga, HN.out]
      exact HR2.out.grown hb4
    · rw [hw4, hm, Below.heap_alloc _ _ _ (by simp; omega), Below.heap_alloc _ _ _ (by simp), heap_new]
    · rw [hb4.block B (by omega), HB2.out.block B (by omega)]
      exact kr1
    · have h := heap_new (w2.alloc (.cells #[.int .i64 N, .int .i64 first, .slice none 0 0] 28)) (.cells #[.pointer (some ⟨w1.heap.size + 1, 0, none⟩)] 24)
      rw [World.size_alloc, ← hm, ← hga] at h
      rw [hw4, Below.heap_alloc _ _ _ (by simp; omega), ← hga]
      exact h
    · have h := heap_new ((w2.alloc (.cells #[.int .i64 N, .int .i64 first, .slice none 0 0] 28)).alloc (.cells #[.pointer (some ⟨w1.heap.size + 1, 0, none⟩)] 24)) (.cells #[.pointer (some ⟨w2.heap.size, 0, none⟩)] 26)
      rw [World.size_alloc, World.size_alloc, ← hw4, ← hm] at h
      exact h
  rw [← hga, ← hm]
  have HO : Hid (B + 1 ≤ ga ∧ m = ga + 2) := Hid.mk ⟨by omega, by omega⟩
  clear hw4 hga hm hz2 hz4 hb4 hbw4 HR2 HB2 HZ2 kr1 hbw1 hz1 w2
  gi_loopw [12, 13, 44] (fun _ _ idx wr => ∃ (k : Nat) (R : List (Int × Int)) (v : Value) (l : List St), k ≤ len ∧ idx = .int .i64 k ∧ Cs B ga m N first v l R w wr ∧ Same R first l N ∧ l.length ≤ k) (fun _ _ idx _ => len - (intOf idx).toNat)
  case atStart => exact ⟨0, _, _, _, Nat.zero_le _, rfl, HC4.out, Same.new _ _, Nat.le_refl _⟩
  case round =>
    obtain ⟨k, R, v, l, hk, rfl, hC, hS, hlk⟩ := hrel
    clear HC4
    have ho := HO.out
    by_cases hlt : k < len
    · obtain ⟨gg, off, rfl, hat⟩ := (hcs.carry (HBe.out ▸ hC.bel)).at_ (by omega)
      have hkl : k < cs.length := by rw [hcs.1]; exact hlt
      have c0 := hat.i k hkl
      have c1 := hat.value k hkl
      have c2 := hat.version k hkl
      obtain ⟨x, hx⟩ : ∃ x, x = cs[k]! := ⟨_, rfl⟩
      rw [← hx] at c0 c1 c2
      obtain ⟨i, val, ver⟩ := x
      dsimp only at c0 c1 c2
      obtain ⟨w5, hw5⟩ : ∃ w5, w5 = wr.alloc (.cells #[.int .i64 i, .int .i64 val, .int .i64 ver] 30) := ⟨_, rfl⟩
      have hb5 : Below wr.heap.size wr w5 := by rw [hw5]; exact (Below.refl wr.heap.size wr).alloc (Nat.le_refl _) _
      have HC5 := Hid.mk (hC.grown hb5)
      obtain ⟨T, hT⟩ : ∃ T, T = wr.heap.size := ⟨_, rfl⟩
      have ks5 : w5.heap[T]? = some (.cells #[.int .i64 i, .int .i64 val, .int .i64 ver] 30 (0, 0)) := by rw [hw5, hT]; exact heap_new _ _
      have HKS5 := Hid.mk ks5
      have da5 : w5.cell? ⟨m + 1 + 1, 0, none⟩ = some (.pointer (some ⟨m, 0, none⟩)) := cell_at HC5.out.pb rfl
      have da6 : w5.cell? ⟨m + 1, 0, none⟩ = some (.pointer (some ⟨ga + 1, 0, none⟩)) := cell_at HC5.out.pa rfl
      rw [hw5] at da5
      have HW5 := Hid.mk hw5
      have HT := Hid.mk hT
      have HS := Hid.mk hS
      have hTv : v.ownBlock ≠ some T := fun e => by have := (hC.ref.own_lt T e).2; omega
      have hTm : T ≠ m := by rw [hT]; exact Ne.symm (Nat.ne_of_lt hC.ref.lt)
      have hTg : T ≠ ga := by rw [hT]; exact Ne.symm (Nat.ne_of_lt hC.row.ltg)
      clear hw5 hb5 hat hx hC hS ho hT ks5
      by_cases hin : 0 ≤ i ∧ i < (N : Int)
      · obtain ⟨j, rfl⟩ : ∃ j : Nat, i = (j : Int) := ⟨i.toNat, by omega⟩
        have hj : j < N := by omega
        have HJ := Hid.mk hj
        clear hin hj
        gi_wp2_with fail
        rw [← HT.out, ← HW5.out]
        refine ⟨trivial, (callsIn_wide.2 (refIs_yes HC5.out.ref j HJ.out)).mono ?_⟩
        rintro e w6 ⟨rfl, hw6⟩
        rw [hw6]
        clear hw6 w6 c0 c1 c2
        have c0 : w5.cell? ⟨T, 0, none⟩ = some (.int .i64 (j : Int)) := cell_at HKS5.out rfl
        have c1 : w5.cell? ⟨T, 1, none⟩ = some (.int .i64 val) := cell_at HKS5.out rfl
        have c2 : w5.cell? ⟨T, 2, none⟩ = some (.int .i64 ver) := cell_at HKS5.out rfl
        gi_wp2_with fail
        refine ⟨trivial, (callsIn_wide.2 (set_yes HC5.out.row j (by rw [HS.out.len]; exact HJ.out) val ver)).mono ?_⟩
        rintro e w6 ⟨rfl, hr6, ho6⟩
        have HC6 := Hid.mk (HC5.out.set hr6 ho6 (by have := HO.out; omega))
        have HS6 := Hid.mk (HS.out.set j val ver)
        have ks6 : w6.heap[T]? = some (.cells #[.int .i64 (j : Int), .int .i64 val, .int .i64 ver] 30 (0, 0)) := (ho6.block T hTg).trans HKS5.out
        have s60 : w6.cell? ⟨T, 0, none⟩ = some (.int .i64 (j : Int)) := cell_at ks6 rfl
        have s61 : w6.cell? ⟨T, 1, none⟩ = some (.int .i64 val) := cell_at ks6 rfl
        have s62 : w6.cell? ⟨T, 2, none⟩ = some (.int .i64 ver) := cell_at ks6 rfl
        have d1 : w6.cell? ⟨m + 1 + 1, 0, none⟩ = some (.pointer (some ⟨m, 0, none⟩)) := cell_at HC6.out.pb rfl
        have d2 := HC6.out.ref.c2
        have d3 := HC6.out.ref.fz 2
        clear c0 c1 c2 da5 da6 hr6 ho6 HC5 HKS5 HW5 HS
        gi_wp2_with fail
        refine Code.wpIn_mono NoPanic.imp ?_
        refine wpIn_wide.2 ?_
        have hown := HC6.out.ref.owns
        have ag := HC6.out.ref.apart
        have hml := HC6.out.ref.lt
        have am : v.ownBlock ≠ some (m + 1 + 1) := fun e => own_ne HC6.out.ref e HC6.out.pb (by decide) rfl
        have hm6 : m + 1 + 1 < w6.heap.size := (Array.getElem?_eq_some_iff.1 HC6.out.pb).1
        have hT6 : T < w6.heap.size := (Array.getElem?_eq_some_iff.1 ks6).1
        have hB6 : B ≤ w6.heap.size := Nat.le_of_lt (Array.getElem?_eq_some_iff.1 HC6.out.r).1
        obtain ⟨i0, hi, hz0, hz1, hz2⟩ := info_parts Try.info30
        refine wp_region_held_drew (S := (fun wx => wx.cell? ⟨m + 1 + 1, 0, none⟩ = some (.pointer (some ⟨m, 0, none⟩)) ∧ wx.cell? ⟨T, 0, none⟩ = some (.int .i64 (j : Int)) ∧ wx.cell? ⟨T, 1, none⟩ = some (.int .i64 val) ∧ wx.cell? ⟨T, 2, none⟩ = some (.int .i64 ver))) (by kernel_rfl) ⟨d1, s60, s61, s62⟩ (fun hHeld => ?_)
        refine wpAnyH_take (i := 0) (v := ?_) rfl (by kernel_rfl) (by kernel_rfl) (by kernel_rfl) (fun _ _ _ h => h) (Or.inl ⟨by rfl, ?h0⟩) (by assumption) ?_
        case h0 =>
          intro wx hSw
          try dsimp only at hSw
          go_simp
          try with_reducible rfl
        refine wpAnyH_take (i := 1) (v := ?_) rfl (by kernel_rfl) (by kernel_rfl) (by kernel_rfl) (fun _ _ _ h => h) (Or.inl ⟨by rfl, ?h1⟩) (by assumption) ?_
        case h1 =>
          intro wx hSw
          try dsimp only at hSw
          go_simp
          try with_reducible rfl
        refine wpAnyH_take (i := 2) (v := ?_) rfl (by kernel_rfl) (by kernel_rfl) (by kernel_rfl) (fun _ _ _ h => h) (Or.inl ⟨by rfl, ?h2⟩) (by assumption) ?_
        case h2 =>
          intro wx hSw
          try dsimp only at hSw
          go_simp
          try with_reducible rfl
        refine wpAnyH_take (i := 3) (v := ?_) rfl (by kernel_rfl) (by kernel_rfl) (by kernel_rfl) (fun _ _ _ h => h) (Or.inl ⟨by rfl, ?h3⟩) (by assumption) ?_
        case h3 =>
          intro wx hSw
          try dsimp only at hSw
          go_simp
          try with_reducible rfl
        refine wpAnyH_take (i := 5) (v := ?_) rfl (by kernel_rfl) (by kernel_rfl) (by kernel_rfl) (fun _ _ _ h => h) (Or.inl ⟨by rfl, ?h5⟩) (by assumption) ?_
        case h5 =>
          intro wx hSw
          try dsimp only at hSw
          go_simp
          try with_reducible rfl
        refine wpAnyH_ready (rs := [4, 6]) (by kernel_rfl) (by simp) ?_
        refine AllReadyH.cons rfl (fun K hK => ?_) ?_
        · go_simp
          refine hK.out _ _ ⟨d1, s60, s61, s62⟩ (fun _ => ?_)
          clear hK K
          refine wpAnyH_ready (rs := [6]) (by kernel_rfl) (by simp) ?_
          refine AllReadyH.cons rfl (fun K hK => ?_) AllReadyH.nil
          go_simp
          refine hK.out _ _ ⟨cell_past1 d1, cell_past1 s60, cell_past1 s61, cell_past1 s62⟩ (fun _ => ?_)
          clear hK K
          refine wpAnyH_ready (rs := [7]) (by kernel_rfl) (by simp) ?_
          refine AllReadyH.cons rfl (fun K hK => ?_) AllReadyH.nil
          refine step_append_lies _ (by rfl) _ _ _ (by rfl) B 30 i0 _ 3 24 Try.underlying22 hi hz0 hz1 hz2 rfl (by omega) v l.length (stC l) (by rfl) ((hown.alloc _).drew) ⟨w6.heap.size, 0, none⟩ 1 1 [.int .i64 (j : Int), .int .i64 val, .int .i64 ver] (by rfl) (by rfl) (World.news_of_block (cs := #[.int .i64 (j : Int), .int .i64 val, .int .i64 ver]) (t := 30) (fr := (0, 0)) (heap_alloc_new w6 _)) (by simp [Value.oneCell']) (by omega) (by unfold maxLen; omega) (by omega) (by simp; omega) (w6.heap.size + 1) (by simp) ?_
          intro g1 cap1 w7 hown7 hgrow hat7 hlt7
          have c5 : w7.cell? ⟨m, 2, none⟩ = some v := (hgrow.cell_far ⟨m, 2, none⟩ (by simp; omega) (Ne.symm ag)).trans (cell_past1 d2)
          have f5 : w7.frozen? ⟨m, 2, none⟩ = false := (hgrow.frozen_far ⟨m, 2, none⟩ (by simp; omega) (Ne.symm ag)).trans (by simp [World.frozen?_alloc_past, hml, d3])
          have e1 := (hgrow.cell_far ⟨m + 1 + 1, 0, none⟩ (by simp; omega) (Ne.symm am)).trans (cell_past1 d1)
          have e2 := (hgrow.cell_far ⟨T, 0, none⟩ (by simp; omega) (Ne.symm hTv)).trans (cell_past1 s60)
          have e3 := (hgrow.cell_far ⟨T, 1, none⟩ (by simp; omega) (Ne.symm hTv)).trans (cell_past1 s61)
          have e4 := (hgrow.cell_far ⟨T, 2, none⟩ (by simp; omega) (Ne.symm hTv)).trans (cell_past1 s62)
          refine hK.out _ _ ⟨e1, e2, e3, e4⟩ (fun _ => ?_)
          clear hK K
          refine wpAnyH_ready (rs := [8]) (by kernel_rfl) (by simp) ?_
          refine AllReadyH.cons rfl (fun K hK => ?_) AllReadyH.nil
          go_simp
          refine hK.out _ _ ⟨e1, e2, e3, e4⟩ (fun _ => ?_)
          clear hK K
          refine wpAnyH_ready (rs := [9]) (by kernel_rfl) (by simp) ?_
          refine AllReadyH.cons rfl (fun K hK => ?_) AllReadyH.nil
          go_simp
          refine hK.out _ _ ⟨e1, e2, e3, e4⟩ (fun _ => ?_)
          clear hK K
          refine wpAnyH_ready (rs := [10]) (by kernel_rfl) (by simp) ?_
          refine AllReadyH.cons rfl (fun K hK => ?_) AllReadyH.nil
          go_simp
          refine hK.out _ _ ⟨(World.cell?_setCell_far _ _ _ _ (show m ≠ m + 1 + 1 by omega)).trans e1, (World.cell?_setCell_far _ _ _ _ (show m ≠ T from Ne.symm hTm)).trans e2, (World.cell?_setCell_far _ _ _ _ (show m ≠ T from Ne.symm hTm)).trans e3, (World.cell?_setCell_far _ _ _ _ (show m ≠ T from Ne.symm hTm)).trans e4⟩ (fun _ => ?_)
          clear hK K
          refine wpAnyH_done (by kernel_rfl) ?_ _
          refine NoPanic.normal ?_
          have hW6 : Below w6.heap.size w6 ((w6.alloc (.cells #[.int .i64 (j : Int), .int .i64 val, .int .i64 ver] 30)).drew) := ((Below.refl _ _).alloc (Nat.le_refl _) _).drew
          have HC7 := Hid.mk (HC6.out.wrote (c := ⟨(j : Int), val, ver⟩) hown7 (by simp) hgrow hW6 hat7 (by omega) (by have := HO.out; omega))
          have HLK := Hid.mk hlk
          clear hown hown7 hgrow hat7 hlt7 c5 f5 e1 e2 e3 e4 d1 d2 d3 s60 s61 s62 hW6 ks6 hHeld hB6 hlk ag am hTv hTg hTm hml hm6 hT6
          gi_wp2
          go_roundw
          case rel => exact ⟨k + 1, _, _, _, by omega, by go_num, HC7.out, HS6.out, by have := HLK.out; simp; omega⟩
          case measure => simp [intOf]; omega
        · refine AllReadyH.cons rfl (fun K hK => ?_) AllReadyH.nil
          go_simp
          refine hK.out _ _ ⟨cell_past1 d1, cell_past1 s60, cell_past1 s61, cell_past1 s62⟩ (fun _ => ?_)
          clear hK K
          have d2p := cell_past1 (o := .cells #[.int .i64 (j : Int), .int .i64 val, .int .i64 ver] 30) d2
          refine wpAnyH_ready (rs := [4]) (by kernel_rfl) (by simp) ?_
          refine AllReadyH.cons rfl (fun K hK => ?_) AllReadyH.nil
          go_simp
          refine hK.out _ _ ⟨cell_past1 d1, cell_past1 s60, cell_past1 s61, cell_past1 s62⟩ (fun _ => ?_)
          clear hK K
          refine wpAnyH_ready (rs := [7]) (by kernel_rfl) (by simp) ?_
          refine AllReadyH.cons rfl (fun K hK => ?_) AllReadyH.nil
          refine step_append_lies _ (by rfl) _ _ _ (by rfl) B 30 i0 _ 3 24 Try.underlying22 hi hz0 hz1 hz2 rfl (by omega) v l.length (stC l) (by rfl) ((hown.alloc _).drew) ⟨w6.heap.size, 0, none⟩ 1 1 [.int .i64 (j : Int), .int .i64 val, .int .i64 ver] (by rfl) (by rfl) (World.news_of_block (cs := #[.int .i64 (j : Int), .int .i64 val, .int .i64 ver]) (t := 30) (fr := (0, 0)) (heap_alloc_new w6 _)) (by simp [Value.oneCell']) (by omega) (by unfold maxLen; omega) (by omega) (by simp; omega) (w6.heap.size + 1) (by simp) ?_
          intro g1 cap1 w7 hown7 hgrow hat7 hlt7
          have c5 : w7.cell? ⟨m, 2, none⟩ = some v := (hgrow.cell_far ⟨m, 2, none⟩ (by simp; omega) (Ne.symm ag)).trans (cell_past1 d2)
          have f5 : w7.frozen? ⟨m, 2, none⟩ = false := (hgrow.frozen_far ⟨m, 2, none⟩ (by simp; omega) (Ne.symm ag)).trans (by simp [World.frozen?_alloc_past, hml, d3])
          have e1 := (hgrow.cell_far ⟨m + 1 + 1, 0, none⟩ (by simp; omega) (Ne.symm am)).trans (cell_past1 d1)
          have e2 := (hgrow.cell_far ⟨T, 0, none⟩ (by simp; omega) (Ne.symm hTv)).trans (cell_past1 s60)
          have e3 := (hgrow.cell_far ⟨T, 1, none⟩ (by simp; omega) (Ne.symm hTv)).trans (cell_past1 s61)
          have e4 := (hgrow.cell_far ⟨T, 2, none⟩ (by simp; omega) (Ne.symm hTv)).trans (cell_past1 s62)
          refine hK.out _ _ ⟨e1, e2, e3, e4⟩ (fun _ => ?_)
          clear hK K
          refine wpAnyH_ready (rs := [8]) (by kernel_rfl) (by simp) ?_
          refine AllReadyH.cons rfl (fun K hK => ?_) AllReadyH.nil
          go_simp
          refine hK.out _ _ ⟨e1, e2, e3, e4⟩ (fun _ => ?_)
          clear hK K
          refine wpAnyH_ready (rs := [9]) (by kernel_rfl) (by simp) ?_
          refine AllReadyH.cons rfl (fun K hK => ?_) AllReadyH.nil
          go_simp
          refine hK.out _ _ ⟨e1, e2, e3, e4⟩ (fun _ => ?_)
          clear hK K
          refine wpAnyH_ready (rs := [10]) (by kernel_rfl) (by simp) ?_
          refine AllReadyH.cons rfl (fun K hK => ?_) AllReadyH.nil
          go_simp
          refine hK.out _ _ ⟨(World.cell?_setCell_far _ _ _ _ (show m ≠ m + 1 + 1 by omega)).trans e1, (World.cell?_setCell_far _ _ _ _ (show m ≠ T from Ne.symm hTm)).trans e2, (World.cell?_setCell_far _ _ _ _ (show m ≠ T from Ne.symm hTm)).trans e3, (World.cell?_setCell_far _ _ _ _ (show m ≠ T from Ne.symm hTm)).trans e4⟩ (fun _ => ?_)
          clear hK K
          refine wpAnyH_done (by kernel_rfl) ?_ _
          refine NoPanic.normal ?_
          have hW6 : Below w6.heap.size w6 ((w6.alloc (.cells #[.int .i64 (j : Int), .int .i64 val, .int .i64 ver] 30)).drew) := ((Below.refl _ _).alloc (Nat.le_refl _) _).drew
          have HC7 := Hid.mk (HC6.out.wrote (c := ⟨(j : Int), val, ver⟩) hown7 (by simp) hgrow hW6 hat7 (by omega) (by have := HO.out; omega))
          have HLK := Hid.mk hlk
          clear hown hown7 hgrow hat7 hlt7 c5 f5 e1 e2 e3 e4 d1 d2 d3 s60 s61 s62 hW6 ks6 hHeld hB6 hlk ag am hTv hTg hTm hml hm6 hT6
          gi_wp2
          go_roundw
          case rel => exact ⟨k + 1, _, _, _, by omega, by go_num, HC7.out, HS6.out, by have := HLK.out; simp; omega⟩
          case measure => simp [intOf]; omega
      · have HIN := Hid.mk hin
        clear hin
        gi_wp2_with fail
        rw [← HT.out, ← HW5.out]
        refine ⟨trivial, (callsIn_wide.2 (refIs_no HC5.out.ref i HIN.out)).mono ?_⟩
        rintro e w6 ⟨rfl, hw6⟩
        rw [hw6]
        clear hw6 w6 c0 c1 c2
        have c0 : w5.cell? ⟨T, 0, none⟩ = some (.int .i64 i) := cell_at HKS5.out rfl
        have c1 : w5.cell? ⟨T, 1, none⟩ = some (.int .i64 val) := cell_at HKS5.out rfl
        have c2 : w5.cell? ⟨T, 2, none⟩ = some (.int .i64 ver) := cell_at HKS5.out rfl
        gi_wp2_with fail
        refine ⟨trivial, (callsIn_wide.2 (set_no HC5.out.row i (by rw [HS.out.len]; exact HIN.out) val ver)).mono ?_⟩
        rintro e w6 ⟨rfl, hw6⟩
        rw [hw6]
        clear hw6 w6
        gi_wp2
        go_roundw
        case rel => exact ⟨k + 1, _, _, _, by omega, by go_num, HC5.out, HS.out, by omega⟩
        case measure => simp [intOf]; omega
    · have hkK : (len : Int) ≤ (k : Int) := by omega
      have HC := Hid.mk hC
      have HS := Hid.mk hS
      have hll : l.length ≤ 1000000 := by omega
      have k1 : wr.cell? ⟨m + 1, 0, none⟩ = some (.pointer (some ⟨ga + 1, 0, none⟩)) := cell_at hC.pa rfl
      clear hC hS ho
      gi_wp2_with fail
      refine ⟨trivial, (callsIn_wide.2 (get_any HC.out.row other)).mono ?_⟩
      rintro e w5 ⟨rfl, n1, hw5⟩
      have HC5 : Hid (Cs B ga m N first v l R w w5) := Hid.mk (by rw [hw5]; exact HC.out.drewN n1)
      have k2 : w5.cell? ⟨m + 1 + 1, 0, none⟩ = some (.pointer (some ⟨m, 0, none⟩)) := cell_at HC5.out.pb rfl
      clear HC hw5 k1
      gi_wp2_with fail
      have hg := refGet_any HC5.out.ref hll other
      rw [HS.out.gv] at hg
      refine ⟨trivial, (callsIn_wide.2 hg).mono ?_⟩
      clear hg
      rintro e w6 ⟨rfl, n2, hw6⟩
      have HC6 : Hid (Cs B ga m N first v l R w w6) := Hid.mk (by rw [hw6]; exact HC5.out.drewN n2)
      have k1 : w6.cell? ⟨m + 1, 0, none⟩ = some (.pointer (some ⟨ga + 1, 0, none⟩)) := cell_at HC6.out.pa rfl
      have k2 : w6.cell? ⟨m + 1 + 1, 0, none⟩ = some (.pointer (some ⟨m, 0, none⟩)) := cell_at HC6.out.pb rfl
      have k3 := HC6.out.ref.c0
      have HV : Hid (∀ q, Calls Try.prog 12 #[.pointer (some ⟨ga + 1, 0, none⟩), .int .i64 other] (w6.drewN q) fun e w' => e = .returned (.int .i64 (gr R other).2) ∧ w' = w6.drewN q) := Hid.mk fun q => version_any (HC6.out.row.drewN q) other
      have HL : Hid (∀ q, Calls Try.prog 13 #[.pointer (some ⟨ga + 1, 0, none⟩)] (w6.drewN q) fun e w' => e = .returned (.int .i64 (N : Int)) ∧ w' = w6.drewN q) := Hid.mk fun q => by
        have h := len_yes (HC6.out.row.drewN q)
        rw [HS.out.len] at h
        exact h
      obtain ⟨X, hX⟩ : ∃ X, X = (gr R other).1 := ⟨_, rfl⟩
      obtain ⟨Y, hY⟩ : ∃ Y, Y = (gr R other).2 := ⟨_, rfl⟩
      rw [← hX, ← hY]
      rw [← hY] at HV
      clear hw6 HC5 hX hY
      gi_wp2_with fail
      refine wpIn_wide.2 ?_
      go_quiet (first | (go_at_call 12; exact Calls.quiet_of_same (HV.out _)) | (go_at_call 13; exact Calls.quiet_of_same (HL.out _)))
      have HC7 : Hid (Cs B ga m N first v l R w (w6.drewN nq)) := Hid.mk (HC6.out.drewN nq)
      obtain ⟨w7, hw7⟩ : ∃ w7, w7 = w6.drewN nq := ⟨_, rfl⟩
      rw [← hw7] at HC7 ⊢
      clear hw7 k1 k2 k3 HV HL HC6
      obtain ⟨K1, hK1⟩ : ∃ K1, K1 = w7.heap.size := ⟨_, rfl⟩
      have hm7 : m + 1 + 1 < K1 := by rw [hK1]; exact (Array.getElem?_eq_some_iff.1 HC7.out.pb).1
      obtain ⟨w8, hw8⟩ : ∃ w8, w8 = (w7.alloc (.cells #[.int .i64 0] 3)).alloc (.cells #[.int .i64 0] 3) := ⟨_, rfl⟩
      have b8 : Below w7.heap.size w7 w8 := by rw [hw8]; exact ((Below.refl _ _).alloc (Nat.le_refl _) _).alloc (by simp) _
      have hz8 : w8.heap.size = K1 + 2 := by rw [hw8, hK1]; simp
      have HC8 := Hid.mk (HC7.out.grown b8)
      have q1 : w8.heap[K1]? = some (.cells #[.int .i64 0] 3 (0, 0)) := by rw [hw8, hK1, Below.heap_alloc _ _ _ (by simp), heap_new]
      have q2 : w8.heap[K1 + 1]? = some (.cells #[.int .i64 0] 3 (0, 0)) := by
        have h := heap_new (w7.alloc (.cells #[.int .i64 0] 3)) (.cells #[.int .i64 0] 3)
        rw [World.size_alloc, ← hw8, ← hK1] at h
        exact h
      have k1 : w8.cell? ⟨m + 1, 0, none⟩ = some (.pointer (some ⟨ga + 1, 0, none⟩)) := cell_at HC8.out.pa rfl
      rw [hw8] at k1
      have HW8 := Hid.mk hw8
      have HK1 := Hid.mk hK1
      have HZ8 := Hid.mk hz8
      have HQ1 := Hid.mk q1
      have HQ2 := Hid.mk q2
      have HM7 := Hid.mk hm7
      clear hw8 b8 hz8 hK1 q1 q2 hm7 HC7
      gi_wp2_with fail
      refine ⟨trivial, (all_in _ _ _).mono ?_⟩
      rintro e w9 ⟨rfl, hw9⟩
      rw [hw9, ← HK1.out, ← HW8.out, HZ8.out]
      clear hw9 w9 k1
      have b9 : Below w8.heap.size w8 (w8.alloc (.cells #[.pointer (some ⟨ga + 1, 0, none⟩)] 24)) := (Below.refl _ _).alloc (Nat.le_refl _) _
      have LW9 : Hid (Lw B ga m N first v l R w K1 0 (w8.alloc (.cells #[.pointer (some ⟨ga + 1, 0, none⟩)] 24))) := Hid.mk ⟨HC8.out.grown b9, (b9.block _ (by have := HZ8.out; omega)).trans HQ1.out, (b9.block _ (by have := HZ8.out; omega)).trans (by rw [HQ2.out, List.take_zero]; rfl), HM7.out⟩
      have px9 : (w8.alloc (.cells #[.pointer (some ⟨ga + 1, 0, none⟩)] 24)).cell? ⟨K1 + 2, 0, none⟩ = some (.pointer (some ⟨ga + 1, 0, none⟩)) := by
        have h := heap_new w8 (.cells #[.pointer (some ⟨ga + 1, 0, none⟩)] 24)
        rw [HZ8.out] at h
        exact cell_at h rfl
      have hz9 : (w8.alloc (.cells #[.pointer (some ⟨ga + 1, 0, none⟩)] 24)).heap.size = K1 + 3 := by have := HZ8.out; simp; omega
      obtain ⟨w9, hw9⟩ : ∃ w9, w9 = w8.alloc (.cells #[.pointer (some ⟨ga + 1, 0, none⟩)] 24) := ⟨_, rfl⟩
      rw [← hw9] at LW9 px9 hz9 ⊢
      have HPX := Hid.mk px9
      have HZ9 := Hid.mk hz9
      clear hw9 b9 px9 hz9 HC8 HQ1 HQ2 HZ8 HW8 HK1 w8
      obtain ⟨fx, HFX⟩ : ∃ fx : Nat → Int, Hid (∀ j, fx j = R[j]!.1) := ⟨_, Hid.mk fun _ => rfl⟩
      gi_wp2
      refine wpIn_rangeFunc_ownF rfl (by omega) (gf := 22) (lb := #[.pointer (some ⟨K1 + 2, 0, none⟩)]) rfl trivial (enters_of Try.func22 (by kernel_rfl) rfl)
        (all_stops 5 (by omega) (K1 + 2) (ga + 1) ga N fx R w9 (by have := HZ9.out; omega) HPX.out LW9.out.cs.row HS.out.len (fun j _ => (HFX.out j).symm)) (fun h k => h.trans k) (fun W l o o' hl _ _ _ => Stay.put W o' (by have := HZ9.out; omega) (by have := HZ9.out; have := HM7.out; have := HO.out; omega) (by have := HZ9.out; have := HM7.out; have := HO.out; omega)) (Below.refl _ _) (fun _ => rfl)
        (fun pre W => pre.map (·.1) = List.range pre.length ∧ Lw B ga m N first v l R w K1 pre.length W)
        (fun c pre _ => c = .ret ∧ ¬ pre.map (·.1) = List.range pre.length)
        (fun s A B' row hs hg hr => ⟨hs.1, hs.2.kept hg hr (by have := HZ9.out; have := HM7.out; have := HO.out; omega)⟩)
        (fun _ _ _ _ _ hs _ _ => hs)
        ⟨rfl, LW9.out⟩
        ?acts ?assign ?body ?done ?stop
      case assign =>
        intro l x W K hK
        gi_wp2
        exact hK
      case body =>
        rintro lp pre ⟨j, hjN⟩ W ⟨hpre, hL⟩ hpl
        have hm7 := HM7.out
        have hkN : ((pre.length : Nat) : Int) < (N : Int) := by omega
        have a1 : W.cell? ⟨m + 1 + 1, 0, none⟩ = some (.pointer (some ⟨m, 0, none⟩)) := cell_at hL.cs.pb rfl
        have a2 : W.cell? ⟨K1, 0, none⟩ = some (.int .i64 (pre.length : Int)) := cell_at hL.kc rfl
        have hg := refGet_any hL.cs.ref hll (pre.length : Int)
        rw [HS.out.gv] at hg
        have hgr : gr R (pre.length : Int) = R[pre.length]! := by
          unfold gr
          rw [if_pos ⟨by omega, by rw [HS.out.len]; exact hkN⟩]
          simp
        rw [hgr] at hg
        obtain ⟨X0, hX0⟩ : ∃ X0, X0 = fx j := ⟨_, rfl⟩
        dsimp only
        rw [← hX0]
        have HX0 : Hid (X0 = R[j]!.1) := Hid.mk (by rw [hX0, HFX.out])
        have HL := Hid.mk hL
        have HG := Hid.mk hg
        have HPRE := Hid.mk hpre
        clear hX0 hL hg hgr hpre hm7
        gi_wp2_with fail
        refine ⟨trivial, (callsIn_wide.2 HG.out).mono ?_⟩
        rintro e W2 ⟨rfl, n1, hW2⟩
        have HL2 : Hid (Lw B ga m N first v l R w K1 pre.length W2) := Hid.mk (by rw [hW2]; exact HL.out.drewN n1)
        have HK2 : Hid (KeepsOthers W W2) := Hid.mk (by rw [hW2]; exact others_drewN _ _)
        have HS2 : Hid (Stay (K1 + 2) (ga + 1) ga W W2) := Hid.mk (by rw [hW2]; exact ⟨by rw [heap_drewN], by rw [heap_drewN], by rw [heap_drewN]⟩)
        have c1 : W2.cell? ⟨K1, 0, none⟩ = some (.int .i64 (pre.length : Int)) := cell_at HL2.out.kc rfl
        have c2 : W2.frozen? ⟨K1, 0, none⟩ = false := free_at HL2.out.kc
        have c3 : W2.cell? ⟨K1 + 1, 0, none⟩ = some (.int .i64 (newest (R.take pre.length))) := cell_at HL2.out.nw rfl
        have c4 : W2.frozen? ⟨K1 + 1, 0, none⟩ = false := free_at HL2.out.nw
        have c5 : W2.cell? ⟨m + 1, 0, none⟩ = some (.pointer (some ⟨ga + 1, 0, none⟩)) := cell_at HL2.out.cs.pa rfl
        have c6 : W2.cell? ⟨B, 0, none⟩ = some (.bool false) := cell_at HL2.out.cs.r rfl
        have c7 : W2.frozen? ⟨B, 0, none⟩ = false := free_at HL2.out.cs.r
        have hjR : j < R.length := by have := HS.out.len; omega
        have HVE := Hid.mk (version_yes HL2.out.cs.row j hjR)
        have hnt := newest_take R pre.length (by rw [HS.out.len]; exact hpl)
        have hlen1 : pre.length < 1024 := by have := HMN.out; omega
        obtain ⟨X, hX⟩ : ∃ X, X = R[pre.length]!.1 := ⟨_, rfl⟩
        obtain ⟨V, hV⟩ : ∃ V, V = R[pre.length]!.2 := ⟨_, rfl⟩
        obtain ⟨A, hA⟩ : ∃ A, A = newest (R.take pre.length) := ⟨_, rfl⟩
        obtain ⟨C, hC⟩ : ∃ C, C = newest (R.take (pre.length + 1)) := ⟨_, rfl⟩
        rw [← hA, ← hV, ← hC] at hnt
        rw [← hX, ← hV]
        rw [← hA] at c3
        by_cases hjk : j = pre.length
        · rw [hjk] at HX0 HVE
          have eX : X0 = X := by rw [HX0.out, hX]
          rw [eX]
          rw [← hV] at HVE
          have HCC := Hid.mk hC
          have HPK : Hid ((pre ++ [(⟨j, hjN⟩ : Ix N)]).length = pre.length + 1) := Hid.mk (by simp)
          have HPR : Hid ((pre ++ [(⟨j, hjN⟩ : Ix N)]).map (·.1) = List.range (pre.length + 1)) := Hid.mk (by rw [List.map_append, HPRE.out, List.range_succ]; simp [hjk])
          have eji : (j : Int) = (pre.length : Int) := by rw [hjk]
          rw [eji]
          obtain ⟨K, hK⟩ : ∃ K, K = pre.length := ⟨_, rfl⟩
          rw [← hK] at c1 HL2 hlen1 HPK HPR HVE HCC hkN ⊢
          have hm2 : (if A < V then V else A) = C := hnt.symm
          clear HX0 hX hV hA hC hnt eX HG HPRE hW2 a1 a2 HL eji hjk hK hpl hjR
          gi_wp2_with fail
          refine ⟨trivial, (callsIn_wide.2 HVE.out).mono ?_⟩
          rintro e W3 ⟨rfl, hW3⟩
          rw [hW3]
          clear hW3 W3
          gi_wp2
          have ho := HO.out
          refine ⟨(HK2.out.trans (KeepsOthers.setCell _ _ _)).trans (KeepsOthers.setCell _ _ _), HS2.out.trans ⟨?_, ?_, ?_⟩, by rw [HPK.out]; exact HPR.out, by rw [HPK.out]; exact HL2.out.bump HCC.out (by omega) (by omega)⟩
          · exact (Below.heap_setCell _ _ _ _ (show K1 + 2 ≠ K1 by omega)).trans (Below.heap_setCell _ _ _ _ (show K1 + 2 ≠ K1 + 1 by omega))
          · have := HM7.out
            exact (Below.heap_setCell _ _ _ _ (show ga + 1 ≠ K1 by omega)).trans (Below.heap_setCell _ _ _ _ (show ga + 1 ≠ K1 + 1 by omega))
          · have := HM7.out
            exact (Below.heap_setCell _ _ _ _ (show ga ≠ K1 by omega)).trans (Below.heap_setCell _ _ _ _ (show ga ≠ K1 + 1 by omega))
        · have HNO : Hid (¬ (pre ++ [(⟨j, hjN⟩ : Ix N)]).map (·.1) = List.range (pre ++ [(⟨j, hjN⟩ : Ix N)]).length) := Hid.mk (fun h => by
            rw [List.map_append, HPRE.out, List.length_append, List.length_singleton, List.range_succ] at h
            have h2 := List.append_cancel_left h
            simp at h2
            exact hjk h2)
          have e1 : ((j : Int) != (pre.length : Int)) = true := by
            rw [bne_iff_ne]
            intro h
            exact hjk (by omega)
          have e2 : (j != pre.length) = true := by rw [bne_iff_ne]; exact hjk
          have e3 : (j == pre.length) = false := by rw [beq_eq_false_iff_ne]; exact hjk
          have e4 : ((j : Int) == (pre.length : Int)) = false := by rw [beq_eq_false_iff_ne]; intro h; exact hjk (by omega)
          clear HX0 hX hV hA hC hnt HG HPRE hW2 a1 a2 HL HVE hjR
          have e5 : ¬ (j : Int) = (pre.length : Int) := by omega
          gi_wp2_with fail
          refine ⟨trivial, ?_⟩
          gi_wp2
          exact ⟨HK2.out.trans (KeepsOthers.setCell _ _ _), rfl, HNO.out⟩
      case done =>
        rintro D ys W hD hys ⟨hpre, hL⟩ hK
        have hyl : ys.length = N := by
          have h := congrArg List.length hys
          simpa using h
        rw [hyl] at hL
        have HL := Hid.mk hL
        have HK := Hid.mk hK
        clear hys hyl hpre hL hK
        gi_wp2_with fail
        refine ⟨trivial, (callsIn_wide.2 (get_nil 0 W)).mono ?_⟩
        rintro e W1 ⟨rfl, hW1⟩
        rw [hW1]
        clear hW1 W1
        gi_wp2_with fail
        refine ⟨trivial, (all_in _ _ _).mono ?_⟩
        rintro e W1 ⟨rfl, hW1⟩
        rw [hW1]
        clear hW1 W1
        have hDl : D < W.heap.size := (Array.getElem?_eq_some_iff.1 HK.out).1
        obtain ⟨G, hG⟩ : ∃ G, G = W.heap.size := ⟨_, rfl⟩
        have b1 : Below W.heap.size W (W.alloc (.cells #[.pointer none] 24)) := (Below.refl _ _).alloc (Nat.le_refl _) _
        have HL1 : Hid (Lw B ga m N first v l R w K1 N (W.alloc (.cells #[.pointer none] 24))) := Hid.mk ⟨HL.out.cs.grown b1, (b1.block _ (Array.getElem?_eq_some_iff.1 HL.out.kc).1).trans HL.out.kc, (b1.block _ (Array.getElem?_eq_some_iff.1 HL.out.nw).1).trans HL.out.nw, HL.out.far⟩
        have HD1 : Hid ((W.alloc (.cells #[.pointer none] 24)).heap[D]? = some (.deferred (some []))) := Hid.mk ((b1.block D hDl).trans HK.out)
        have HP1 : Hid ((W.alloc (.cells #[.pointer none] 24)).cell? ⟨G, 0, none⟩ = some (.pointer none)) := Hid.mk (by rw [hG]; exact cell_at (heap_new _ _) rfl)
        have HG1 : Hid (G < (W.alloc (.cells #[.pointer none] 24)).heap.size) := Hid.mk (by rw [hG]; simp)
        have HB1 : Hid (B ≤ (W.alloc (.cells #[.pointer none] 24)).heap.size) := Hid.mk (Nat.le_of_lt (Array.getElem?_eq_some_iff.1 HL1.out.cs.r).1)
        rw [← hG]
        obtain ⟨W1, hW1⟩ : ∃ W1, W1 = W.alloc (.cells #[.pointer none] 24) := ⟨_, rfl⟩
        rw [← hW1] at HL1 HD1 HP1 HG1 HB1 ⊢
        clear hW1 hG b1 HL HK hDl
        gi_wp2
        refine wpIn_rangeFunc_ownF rfl (by omega) (gf := 22) (lb := #[.pointer (some ⟨G, 0, none⟩)]) rfl trivial (enters_of Try.func22 (by kernel_rfl) rfl)
          (all_nil 5 (by omega) G W1 HG1.out HP1.out) (fun _ _ => trivial) (fun _ _ _ _ _ _ _ _ => trivial) (Below.refl _ _) (fun _ => rfl)
          (fun _ W' => Lw B ga m N first v l R w K1 N W' ∧ W'.heap[D]? = some (.deferred (some [])))
          (fun _ _ _ => False)
          (fun s A B' row hs hg hr => ⟨hs.1.kept hg hr HB1.out, (hg.block D (Array.getElem?_eq_some_iff.1 hs.2).1 (fun e => by have h1 := (hr D e.symm).1; have h2 := (Array.getElem?_eq_some_iff.1 HD1.out).1; omega)).trans hs.2⟩)
          (fun _ _ _ _ _ hs _ _ => hs)
          ⟨HL1.out, HD1.out⟩
          ?acts2 ?assign2 ?body2 ?done2 ?stop2
        case assign2 =>
          intro l x W K hK
          first
            | exact hK
            | (gi_wp2; exact hK)
        case body2 =>
          intro lp pre x W _ _
          exact absurd x.2 (Nat.not_lt_zero _)
        case stop2 =>
          intro _ _ _ _ _ h
          exact h.elim
        case done2 =>
          rintro D2 _ W3 hD2 _ ⟨hL3, hK3⟩ hK4
          have hLR : R.take N = R := by rw [← HS.out.len, List.take_length]
          have d1 : W3.cell? ⟨K1, 0, none⟩ = some (.int .i64 (N : Int)) := cell_at hL3.kc rfl
          have d2 : W3.cell? ⟨K1 + 1, 0, none⟩ = some (.int .i64 (newest R)) := by
            have h := hL3.nw
            rw [hLR] at h
            exact cell_at h rfl
          have d3 : W3.cell? ⟨m + 1 + 1, 0, none⟩ = some (.pointer (some ⟨m, 0, none⟩)) := cell_at hL3.cs.pb rfl
          have d4 : W3.cell? ⟨m + 1, 0, none⟩ = some (.pointer (some ⟨ga + 1, 0, none⟩)) := cell_at hL3.cs.pa rfl
          have d5 := hL3.cs.ref.c0
          have d6 : W3.cell? ⟨B, 0, none⟩ = some (.bool false) := cell_at hL3.cs.r rfl
          have d7 : W3.frozen? ⟨B, 0, none⟩ = false := free_at hL3.cs.r
          have hr3 : RowAt W3.drew (ga + 1) ga R := hL3.cs.row.drewN 1
          have HNW := Hid.mk (newest_yes hr3)
          have hbl := hL3.cs.bel
          obtain ⟨Z, hZ⟩ : ∃ Z, Z = newest R := ⟨_, rfl⟩
          rw [← hZ] at d2 HNW
          have HBL := Hid.mk hbl
          have HK3 := Hid.mk hK3
          have HK4 := Hid.mk hK4
          clear hZ hLR hL3 hr3 hbl hK3 hK4
          gi_wp2_with fail
          refine Code.wpIn_mono NoPanic.imp ?_
          refine wpIn_wide.2 ?_
          go_region_held3 (fun wx => wx.cell? ⟨K1, 0, none⟩ = some (.int .i64 (N : Int)) ∧ wx.cell? ⟨K1 + 1, 0, none⟩ = some (.int .i64 Z) ∧ wx.cell? ⟨m + 1 + 1, 0, none⟩ = some (.pointer (some ⟨m, 0, none⟩)) ∧ wx.cell? ⟨m + 1, 0, none⟩ = some (.pointer (some ⟨ga + 1, 0, none⟩)) ∧ wx.cell? ⟨m, 0, none⟩ = some (.int .i64 (N : Int)))
            (first
              | exact ⟨d1, d2, d3, d4, d5⟩
              | exact ⟨(World.cell?_setCell_far _ _ _ _ (show B ≠ K1 by have := HO.out; have := HM7.out; omega)).trans d1, (World.cell?_setCell_far _ _ _ _ (show B ≠ K1 + 1 by have := HO.out; have := HM7.out; omega)).trans d2, (World.cell?_setCell_far _ _ _ _ (show B ≠ m + 1 + 1 by have := HO.out; have := HM7.out; omega)).trans d3, (World.cell?_setCell_far _ _ _ _ (show B ≠ m + 1 by have := HO.out; have := HM7.out; omega)).trans d4, (World.cell?_setCell_far _ _ _ _ (show B ≠ m by have := HO.out; have := HM7.out; omega)).trans d5⟩)
            (first
              | (go_at_call_of 15 (Value.pointer none); refine (newest_nil _).mono ?_; rintro e w' ⟨rfl, rfl⟩)
              | (go_at_call 15; refine HNW.out.mono ?_; rintro e w' ⟨rfl, rfl⟩)
              | (go_at_call 12; refine (version_nil 0 _).mono ?_; rintro e w' ⟨rfl, rfl⟩)
              | (go_at_call 13; refine (len_nil _).mono ?_; rintro e w' ⟨rfl, rfl⟩)
              | (go_at_call 9; refine (set_nil 0 1 1 _).mono ?_; rintro e w' ⟨rfl, rfl⟩))
          all_goals
            refine NoPanic.normal ?_
            gi_wp2
            have hK' := (KeepsOthers.setCell W3.drew ⟨B, 0, none⟩ (.bool true)).same D2 _ HK4.out rfl
            refine ⟨by simp, .inl ⟨_, _, rfl, run_takeDeferred hK', ?_⟩⟩
            have hc5 := cell_kept (World.cell?_setCell_same' W3.drew ⟨B, 0, none⟩ (.bool true) (by show (W3.cell? _).isSome = true; rw [d6]; rfl)) (grownBy_putObj' _ D2 (.deferred none)) (fun r e => by cases e; exact ⟨_, hK', rfl⟩)
            have hb5 := (HBL.out.drew.setCell (p := ⟨B, 0, none⟩) (Nat.le_refl _) (.bool true)).trans (belowK_b (w := W1) HB1.out _ D2 _ (.deferred none) hD2 hK' rfl rfl)
            have hDl : D < W1.heap.size := (Array.getElem?_eq_some_iff.1 HD1.out).1
            have hK6 : ((W3.drew.setCell ⟨B, 0, none⟩ (.bool true)).putObj D2 (.deferred none)).heap[D]? = some (.deferred (some [])) := by
              have h1 := (KeepsOthers.setCell W3.drew ⟨B, 0, none⟩ (.bool true)).same D _ HK3.out rfl
              have hne : D2 ≠ D := by omega
              simp only [World.putObj]
              rw [Array.getElem?_setIfInBounds_ne hne]
              exact h1
            refine ⟨by simp, .inl ⟨_, _, rfl, run_takeDeferred hK6, ?_⟩⟩
            have hc6 := cell_kept hc5 (grownBy_putObj' _ D (.deferred none)) (fun r e => by cases e; exact ⟨_, hK6, rfl⟩)
            refine ⟨.bool true, ?_, rfl, hb5.trans (belowK_b (w := w9) (by have := HZ9.out; have := HM7.out; have := HO.out; omega) _ D _ _ hD hK6 rfl rfl)⟩
            have hc7 : (((W3.setCell ⟨B, 0, none⟩ (.bool true)).drew.putObj D2 (.deferred none)).putObj D (.deferred none)).cell? ⟨B, 0, none⟩ = some (.bool true) := hc6
            simp [results, Try.f3, go_sem, hc7]
      case stop =>
        rintro D c pre W hD hpre ⟨rfl, hn⟩ hK
        obtain ⟨q, hq, hr⟩ := hpre
        have : pre.length = q := by have h := congrArg List.length hr; simpa using h
        rw [this] at hn
        exact absurd hr hn
set_option maxRecDepth 100000 in
theorem lifted (os : Os) (started : os.Started) (H : Type) (enc : TypeId × Value → H) :
    ReturnsInHanded {} Try.checked os 3 .any (Rows.cellSetsSpec.pre6 enc Try.prog Try.f3 Rows.cellSetsRow.domain false) (Rows.cellSetsSpec.post enc Try.prog Try.f3 false true false false) := by
  refine returnsInHanded_of_change (C := Try.checked) own started (by kernel_rfl) Try.func3
    (ChangeSpec.witness6 (enc := enc) (C := Try.checked) false ⟨#[], #[.int .i64 0, .int .i64 0, .slice none 0 0, .int .i64 0], []⟩ 8 (by kernel_rfl) (by kernel_rfl) (by kernel_rfl) (by kernel_rfl)) ?_
  intro W base args ds gs before hval0 hW hcnd _
  have hval : ∀ (j : Nat) t v, Try.f3.params[j]? = some t → args[j]? = some v → Value.okWide Try.prog W .any base t v := hval0
  have hW' := hW
  obtain ⟨p, q, hA0, hV, rfl, hfz, hnd⟩ := hW
  have hA : DataW.TrodAll enc Try.prog W 0 (fun _ => true) true Try.f3.params.toList args.toList ds p := hA0
  rw [Try.params3] at hA hval
  obtain ⟨v0, vs0, d0, ds0, p0, q0, hargs, rfl, rfl, h0, r0⟩ := trodAll_cons hA
  obtain ⟨v1, vs1, d1, ds1, p1, q1, rfl, rfl, rfl, h1, r1⟩ := trodAll_cons r0
  obtain ⟨v2, vs2, d2, ds2, p2, q2, rfl, rfl, rfl, h2, r2⟩ := trodAll_cons r1
  obtain ⟨v3, vs3, d3, ds3, p3, q3, rfl, rfl, rfl, h3, r3⟩ := trodAll_cons r2
  obtain ⟨rfl, rfl, rfl⟩ := trodAll_nil r3
  obtain rfl : args = #[v0, v1, v2, v3] := by cases args; simp_all
  obtain ⟨rfl, rfl⟩ := trodVars_none hV
  obtain ⟨a0, rfl, rfl, rfl, w0⟩ := open_int Try.underlying3 (hval 0 3 v0 rfl rfl) h0
  obtain ⟨a1, rfl, rfl, rfl, w1⟩ := open_int Try.underlying3 (hval 1 3 v1 rfl rfl) h1
  obtain ⟨a2, len2, cap2, rfl⟩ := okWide_slice Try.underlying22 (hval 2 22 v2 rfl rfl)
  have k2 := h2
  have lt2 : ∀ x ∈ p2, x.block < W.heap.size := by obtain ⟨m, hm⟩ := k2; exact DataW.trod_lt m _ _ _ hm
  obtain ⟨ts2, w2⟩ : ∃ ts, IsSts W a2 len2 cap2 ts := by
    obtain ⟨fuel, hf⟩ := h2
    exact open_sts hf
  obtain ⟨a3, rfl, rfl, rfl, w3⟩ := open_int Try.underlying3 (hval 3 3 v3 rfl rfl) h3
  clear hA0 hval0
  refine (walk a0 a1 a2 len2 cap2 ts2 a3 W w0 w1 w2 w3).mono fun e W' ⟨he, bel⟩ => ?_
  subst he
  exact ⟨_, rfl, _, _, _, [], _, [], hW', trodAll_mk1 (shut_bool Try.underlying4 _), (trodAll_cons_mk (shut_int Try.underlying3 w0) (trodAll_cons_mk (shut_int Try.underlying3 w1) (trodAll_cons_mk (Below.trod laidOut (by kernel_rfl) (of_decide_eq_true (by kernel_rfl)) k2 bel lt2) (trodAll_cons_mk (shut_int Try.underlying3 w3) trodAll_mk0)))), rfl, bel.frame _, fun h => by cases h⟩

set_option maxRecDepth 100000 in
theorem over : Rows.cellSetsRow.holds Try.pinned (OpenSpec.ofChange Rows.cellSetsSpec) :=
  OpenClaim.holds_of_wide 3 Try.f3 rfl rfl rfl rfl rfl rfl rfl ⟨rfl, rfl, rfl, rfl, rfl⟩ rfl rfl rfl rfl rfl (by kernel_rfl) Try.func3 (by kernel_rfl)
    (of_decide_eq_true (by kernel_rfl)) (by unfold Func.isWrapper; first | (rw [if_pos (by decide +kernel)]; kernel_rfl) | (rw [if_neg (by decide +kernel)]; exact ⟨rfl, rfl⟩))
    (fun os started H enc _ => lifted os started H enc)

end Go.Proofs.Ytmlebbfaafccnaa.cellSets

namespace Go.Proofs.Ytmlebbfaafccnaa
/-- The statement. -/
theorem cellSets_holds : Rows.CellSetsSaid := cellSets.over
#print axioms cellSets_holds
end Go.Proofs.Ytmlebbfaafccnaa
