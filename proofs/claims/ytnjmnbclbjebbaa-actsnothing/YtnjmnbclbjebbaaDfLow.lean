/-
  What the texts on drafts share: an object's blocks, what calls leave; copies of elements of several cells, as laws of the walk.
-/
import Derived.Test.YtnjmnbclbjebbaaRLow
import Derived.Test.YtnjmnbclbjebbaaDfMath
import Derived.Lib.AppendZerosOnto
import Derived.Lib.Overlaps
import Derived.Laws.CopyRow
namespace Go.Proofs.Ytnjmnbclbjebbaa.Dft
open Go.RowKit Go.Proofs.Ytnjmnbclbjebbaa.Cel

/-- Numbers as cells. -/
def nuC (l : List Int) : List Value := l.map fun x => .int .i64 x

theorem nuC_length (l : List Int) : (nuC l).length = l.length := by simp [nuC]
theorem nuC_append (a b : List Int) : nuC (a ++ b) = nuC a ++ nuC b := by simp [nuC]
theorem nuC_get (l : List Int) (j : Nat) (hj : j < l.length) : (nuC l)[j]? = some (.int .i64 l[j]!) := by
  simp [nuC, hj]

/-- The blocks of an object: its own, and those of its rows. -/
def Foot (b : Nat) (vs : List Value) (k : Nat) : Prop := k = b ∨ ∃ v ∈ vs, v.ownBlock = some k

/-- What calls on an object left: its blocks, and new ones, alone are others. -/
structure Wrote (F F' : Nat → Prop) (w w' : World) : Prop where
  os : w'.os = w.os
  tape : w'.tape = w.tape
  output : w'.output = w.output
  size : w.heap.size ≤ w'.heap.size
  block : ∀ k, k < w.heap.size → ¬ F k → w'.heap[k]? = w.heap[k]?
  own : ∀ k, F' k → F k ∨ w.heap.size ≤ k

theorem Wrote.refl (F : Nat → Prop) (w : World) : Wrote F F w w := ⟨rfl, rfl, rfl, Nat.le_refl _, fun _ _ _ => rfl, fun _ h => .inl h⟩

theorem Wrote.trans {F0 F1 F2 : Nat → Prop} {w0 w1 w2 : World} (h : Wrote F0 F1 w0 w1) (k : Wrote F1 F2 w1 w2) : Wrote F0 F2 w0 w2 := by
  refine ⟨k.os.trans h.os, k.tape.trans h.tape, k.output.trans h.output, Nat.le_trans h.size k.size, fun i hi hf => ?_, fun i hi => ?_⟩
  · rw [k.block i (Nat.lt_of_lt_of_le hi h.size) (fun e => by
      rcases h.own i e with e' | e'
      · exact hf e'
      · omega)]
    exact h.block i hi hf
  · rcases k.own i hi with e | e
    · exact h.own i e
    · right; have := h.size; omega

theorem Wrote.of_below {F : Nat → Prop} {w w' : World} (hb : Below w.heap.size w w') : Wrote F F w w' :=
  ⟨hb.os, hb.tape, hb.output, hb.size, fun k hk _ => hb.block k hk, fun _ h => .inl h⟩

theorem Wrote.below {B : Nat} {F F' : Nat → Prop} {w w' : World} (h : Wrote F F' w w') (hB : B ≤ w.heap.size) (hv : ∀ k, F k → B ≤ k) : Below B w w' :=
  ⟨h.os, h.tape, h.output, h.size, fun k hk => h.block k (by omega) (fun e => by have := hv k e; omega)⟩

theorem Wrote.lo {B : Nat} {F F' : Nat → Prop} {w w' : World} (h : Wrote F F' w w') (hB : B ≤ w.heap.size) (hv : ∀ k, F k → B ≤ k) : ∀ k, F' k → B ≤ k := fun k hk => by
  rcases h.own k hk with e | e
  · exact hv k e
  · omega

theorem ownsRow_carry {w w' : World} {B e size : Nat} {v : Value} {n : Nat} {xs : List Value} (h : w.ownsRow B e size v n xs) (hv : ∀ k, v.ownBlock = some k → w'.heap[k]? = w.heap[k]?) : w'.ownsRow B e size v n xs := by
  refine ⟨h.1, ?_⟩
  rcases h.2 with e | ⟨g, cap, cur, e, h0, hg, r⟩
  · exact .inl e
  · exact .inr ⟨g, cap, cur, e, h0, by rw [hv g (by rw [e]; rfl)]; exact hg, r⟩

theorem block_ne {w : World} {i j : Nat} {c d : Array Value} {s t : TypeId} {m n : Nat × Nat} (h : w.heap[i]? = some (.cells c s m)) (k : w.heap[j]? = some (.cells d t n)) (hne : s ≠ t) : i ≠ j := fun e => by
  subst e
  rw [h] at k
  injection k with k
  injection k with _ k _
  exact hne k

/-- The block of a row that is owned. -/
theorem own_at {w : World} {B e size : Nat} {v : Value} {n : Nat} {xs : List Value} {k : Nat} (h : w.ownsRow B e size v n xs) (hk : v.ownBlock = some k) : ∃ cs, w.heap[k]? = some (.cells cs e (0, 0)) := by
  rcases h.2 with ⟨e, _⟩ | ⟨g, cap, cur, e, _, hg, _⟩
  · rw [e] at hk; cases hk
  · rw [e] at hk
    cases hk
    exact ⟨_, hg⟩

theorem row_shape {w : World} {B e size : Nat} {v : Value} {n : Nat} {xs : List Value} (h : w.ownsRow B e size v n xs) : ∃ a cap, v = .slice a n cap := by
  rcases h.2 with ⟨rfl, h0⟩ | ⟨g, cap, cur, rfl, _⟩
  · exact ⟨none, 0, by rw [h0]⟩
  · exact ⟨_, _, rfl⟩

theorem row_full {w : World} {B e size : Nat} {v : Value} {n : Nat} {xs : List Value} (h : w.ownsRow B e size v n xs) (hp : 0 < n) : ∃ g cap, v = .slice (some ⟨g, 0, none⟩) n cap := by
  rcases h.2 with ⟨rfl, h0⟩ | ⟨g, cap, cur, rfl, _⟩
  · omega
  · exact ⟨g, cap, rfl⟩

theorem addP (g i : Nat) : (⟨g, 0, none⟩ : Addr).add i = ⟨g, i, none⟩ := by unfold Addr.add; split <;> simp_all


/-! ### copy, of elements of several cells -/

/-- The row behind a copy. -/
def laid (cur : Array Value) (o : Nat) (cs : List Value) : Array Value := (cur.toList.take o ++ cs ++ cur.toList.drop (o + cs.length)).toArray

theorem laid_size (cur : Array Value) (o : Nat) (cs : List Value) (h : o + cs.length ≤ cur.size) : (laid cur o cs).size = cur.size := by
  simp [laid]; omega

section
variable {P : Program}

theorem run_copy_n (w : World) (dT sT ty elem : TypeId) (size g o dLen dCap : Nat) (ad : Addr) (sLen sCap m : Nat) (cur : Array Value) (t : TypeId) (cs : List Value)
    (hu : P.underlying dT = some (.slice elem)) (hs : (P.info? elem).map (·.size) = some size) (hg : w.heap[g]? = some (.cells cur t (0, 0))) (hm : Nat.min sLen dLen = m) (hn : cs.length = m * size)
    (hsrc : ∀ j v, cs[j]? = some v → w.cell? (ad.add j) = some v) (hfit : o + cs.length ≤ cur.size) (h1 : ∀ v ∈ cs, v.oneCell' = true) :
    (Builtin.copy_ #[dT, sT] ty #[.slice (some ⟨g, o, none⟩) dLen dCap, .slice (some ad) sLen sCap]).run P w =
      .ok (goInt m) (w.setRow g (laid cur o cs)) := by
  obtain ⟨i, hi, hi2⟩ := Option.map_eq_some_iff.1 hs
  have hc := run_firstCells_some (P := P) w i.size m ad sLen sCap cs (by rw [hi2]; exact hn) hsrc
  have hst := run_storeCells_at P g o t cs 0 cur w hg (by simpa using hfit) h1
  unfold laid
  simp [Builtin.copy_, run_underlying hu, Builtin.lenOf, sizeOf, typeInfo, hi, hm, hc, hst]

theorem wpList_copy_n {w : World} {ops : Array Oper} {rest : List Oper} {o : Oper} {a : Act} {Q : Exit → Act → World → Prop} (hgd : o.guard = none) (d s : Operand) (dT sT : TypeId)
    (ho : o.op = .call { callee := .builtin .copy, args := #[d, s], argTypes := #[dT, sT] }) (elem : TypeId) (size : Nat) (hu : P.underlying dT = some (.slice elem)) (hsz : (P.info? elem).map (·.size) = some size)
    (g off dLen dCap : Nat) (ad : Addr) (sLen sCap m : Nat) (hd : a.eval d = .slice (some ⟨g, off, none⟩) dLen dCap) (hs : a.eval s = .slice (some ad) sLen sCap)
    (cur : Array Value) (t : TypeId) (hg : w.heap[g]? = some (.cells cur t (0, 0))) (cs : List Value) (hm : Nat.min sLen dLen = m) (hn : cs.length = m * size)
    (hsrc : ∀ j v, cs[j]? = some v → w.cell? (ad.add j) = some v) (hfit : off + cs.length ≤ cur.size) (h1 : ∀ v ∈ cs, v.oneCell' = true)
    (h : ∀ w', Hid (w' = w.setRow g (laid cur off cs)) → wpList P ops Q rest (a.put o.dst (goInt m)) w') : wpList P ops Q (o :: rest) a w := by
  refine wpList_plain hgd fun K hK => ?_
  have hrun := run_copy_n (P := P) w dT sT o.type elem size g off dLen dCap ad sLen sCap m cur t cs hu hsz hg hm hn hsrc hfit h1
  unfold Oper.wp execOp
  simp only [ho, resolve, invoke, builtin, Sem.run_bind, Sem.run_pure, Result.andThen_ok, List.map_toArray, List.map_cons, List.map_nil, hd, hs, hrun]
  exact hK _ _ (h _ (Hid.mk rfl))

/-- .. and as one step of a region that draws. -/
theorem step_copy_n {ops : Array Oper} {o : Oper} {a : Act} {w : World} {K : Act → World → Prop} {Q : Exit → Act → World → Prop} {E : Prop} (hgd : o.guard = none) (d s : Operand) (dT sT : TypeId)
    (ho : o.op = .call { callee := .builtin .copy, args := #[d, s], argTypes := #[dT, sT] }) (elem : TypeId) (size : Nat) (hu : P.underlying dT = some (.slice elem)) (hsz : (P.info? elem).map (·.size) = some size)
    (g off dLen dCap : Nat) (ad : Addr) (sLen sCap m : Nat) (hd : a.eval d = .slice (some ⟨g, off, none⟩) dLen dCap) (hs : a.eval s = .slice (some ad) sLen sCap)
    (cur : Array Value) (t : TypeId) (hg : w.heap[g]? = some (.cells cur t (0, 0))) (cs : List Value) (hm : Nat.min sLen dLen = m) (hn : cs.length = m * size)
    (hsrc : ∀ j v, cs[j]? = some v → w.cell? (ad.add j) = some v) (hfit : off + cs.length ≤ cur.size) (h1 : ∀ v ∈ cs, v.oneCell' = true)
    (h : ∀ w', Hid (w' = w.setRow g (laid cur off cs)) → K (a.put o.dst (goInt m)) w') :
    if Region.wanted o (yielded ops a.tmps) = true then Oper.wp P o a w K Q else E := by
  have hw : Region.wanted o (yielded ops a.tmps) = true := by simp [Region.wanted, hgd]
  rw [if_pos hw]
  have hrun := run_copy_n (P := P) w dT sT o.type elem size g off dLen dCap ad sLen sCap m cur t cs hu hsz hg hm hn hsrc hfit h1
  unfold Oper.wp execOp
  simp only [ho, resolve, invoke, builtin, Sem.run_bind, Sem.run_pure, Result.andThen_ok, List.map_toArray, List.map_cons, List.map_nil, hd, hs, hrun]
  exact h _ (Hid.mk rfl)

end

/-- A row whose middle was moved on, and what was laid between: room there was. -/
theorem laid_between (cur xs : List Value) (i n s : Nat) (ys : List Value) (hx : cur.take (n * s) = xs) (hxl : xs.length = n * s) (hi : i ≤ n) (hy : ys.length = s) (hl : (n + 1) * s ≤ cur.length) :
    ((cur.take ((i + 1) * s) ++ xs.drop (i * s) ++ cur.drop ((i + 1) * s + (xs.drop (i * s)).length)).take (i * s) ++ ys ++
      (cur.take ((i + 1) * s) ++ xs.drop (i * s) ++ cur.drop ((i + 1) * s + (xs.drop (i * s)).length)).drop (i * s + ys.length)).take ((n + 1) * s) = xs.take (i * s) ++ (ys ++ xs.drop (i * s)) := by
  have e1 : (i + 1) * s = i * s + s := by rw [Nat.add_mul, Nat.one_mul]
  have e2 : (n + 1) * s = n * s + s := by rw [Nat.add_mul, Nat.one_mul]
  have e3 : i * s ≤ n * s := Nat.mul_le_mul_right _ hi
  have hdl : (xs.drop (i * s)).length = n * s - i * s := by rw [List.length_drop, hxl]
  rw [hdl, hy, e1, e2]
  have ht : cur.take (i * s) = xs.take (i * s) := by rw [← hx, List.take_take, Nat.min_eq_left e3]
  have hl' : n * s + s ≤ cur.length := by omega
  apply List.ext_getElem?
  intro j
  have gx : ∀ k, k < n * s → xs[k]? = cur[k]? := fun k hk => by rw [← hx, List.getElem?_take, if_pos hk]
  have gt : ∀ k, k < i * s → (xs.take (i * s))[k]? = cur[k]? := fun k hk => by rw [List.getElem?_take, if_pos hk]; exact gx k (by omega)
  have ltk : (xs.take (i * s)).length = i * s := by rw [List.length_take, hxl]; omega
  have lt1 : (cur.take (i * s + s)).length = i * s + s := by rw [List.length_take]; omega
  rw [List.getElem?_take]
  by_cases h1 : j < n * s + s
  · rw [if_pos h1]
    by_cases h2 : j < i * s
    · rw [List.append_assoc, List.append_assoc]
      rw [List.getElem?_append_left (by rw [List.length_take, List.length_append, lt1]; omega), List.getElem?_take, if_pos h2, List.getElem?_append_left (by rw [lt1]; omega), List.getElem?_take, if_pos (by omega)]
      rw [List.getElem?_append_left (by rw [ltk]; exact h2), gt j h2]
    · have lA : ((cur.take (i * s + s) ++ (xs.drop (i * s) ++ cur.drop (i * s + s + (n * s - i * s)))).take (i * s)).length = i * s := by rw [List.length_take, List.length_append, lt1]; omega
      rw [List.append_assoc, List.append_assoc, List.getElem?_append_right (by rw [lA]; omega), lA, List.getElem?_append_right (l₁ := xs.take (i * s)) (by rw [ltk]; omega), ltk]
      by_cases h3 : j < i * s + s
      · rw [List.getElem?_append_left (by rw [hy]; omega), List.getElem?_append_left (by rw [hy]; omega)]
      · rw [List.getElem?_append_right (by rw [hy]; omega), List.getElem?_append_right (by rw [hy]; omega), hy, List.getElem?_drop, List.getElem?_append_right (by rw [lt1]; omega), lt1, List.getElem?_append_left (by rw [hdl]; omega)]
        congr 1
        omega
  · rw [if_neg h1]
    symm
    rw [List.getElem?_eq_none]
    rw [List.length_append, List.length_append, ltk, hdl, hy]
    omega

/-- A new row: what stood ahead, what was laid between, what stood behind. -/
theorem laid_anew (Z xs ys : List Value) (i n s : Nat) (hxl : xs.length = n * s) (hi : i ≤ n) (hy : ys.length = s) (hz : Z.take (i * s) = xs.take (i * s)) :
    (((Z.take (i * s) ++ ys ++ Z.drop (i * s + ys.length)).take ((i + 1) * s) ++ xs.drop (i * s) ++ (Z.take (i * s) ++ ys ++ Z.drop (i * s + ys.length)).drop ((i + 1) * s + (xs.drop (i * s)).length))).take ((n + 1) * s) =
      xs.take (i * s) ++ (ys ++ xs.drop (i * s)) := by
  have e1 : (i + 1) * s = i * s + s := by rw [Nat.add_mul, Nat.one_mul]
  have e2 : (n + 1) * s = n * s + s := by rw [Nat.add_mul, Nat.one_mul]
  have e3 : i * s ≤ n * s := Nat.mul_le_mul_right _ hi
  have hdl : (xs.drop (i * s)).length = n * s - i * s := by rw [List.length_drop, hxl]
  have lt1 : (xs.take (i * s)).length = i * s := by rw [List.length_take, hxl]; omega
  rw [hz, hdl, hy, e1, e2]
  have a1 : (xs.take (i * s) ++ ys ++ Z.drop (i * s + s)).take (i * s + s) = xs.take (i * s) ++ ys := List.take_left' (by rw [List.length_append, lt1, hy])
  rw [a1, List.take_append_of_le_length (by simp only [List.length_append, lt1, hy, hdl]; omega), List.take_of_length_le (by simp only [List.length_append, lt1, hy, hdl]; omega), List.append_assoc]

/-- Which of two numbers is the lower one. -/
def cmpI (a b : Int) : Int := if a < b then -1 else if b < a then 1 else 0

theorem cmpI_neg (a b : Int) : (cmpI a b < 0) = (a < b) := by
  unfold cmpI
  split
  · simp [*]
  · split <;> simp [*]

theorem cmpI_zero (a b : Int) : (cmpI a b = 0) = (a = b) := by
  unfold cmpI
  apply propext
  split
  · constructor
    · intro h; omega
    · intro h; omega
  · split
    · constructor
      · intro h; omega
      · intro h; omega
    · constructor
      · intro h; omega
      · intro h; rfl





end Go.Proofs.Ytnjmnbclbjebbaa.Dft
