/-
  'append(own, x)' onto a row of instructions that the call owns.
-/
import Derived.Test.YtkpbampffndjoaaCAlive
import Derived.Test.YtkpbampffndjoaaCMove
namespace Go.Proofs.Ytkpbampffndjoaa
open Go.RowKit

set_option maxRecDepth 100000 in
theorem Try.info31 : (Try.prog.info? 31).map (fun i => (i.zero, i.size, i.bytes)) = some (some (.agg #[.int .i64 0, .int .i64 0, .int .i64 0, .int .i64 0]), 4, 32) := by kernel_rfl

theorem ownsRow_far {w w' : World} {base e size : Nat} {v : Value} {n : Nat} {xs : List Value} (h : w.ownsRow base e size v n xs) (hv : ∀ k, k < w.heap.size → w'.heap[k]? = w.heap[k]?) : w'.ownsRow base e size v n xs := by
  refine ⟨h.1, ?_⟩
  rcases h.2 with h0 | ⟨g, cap, cur, e0, hb, hg, r⟩
  · exact .inl h0
  · exact .inr ⟨g, cap, cur, e0, hb, by rw [hv g (Array.getElem?_eq_some_iff.1 hg).1]; exact hg, r⟩

theorem heap_alloc2 (w : World) (o1 o2 : Obj) : ((w.alloc o1).alloc o2).heap[w.heap.size + 1]? = some o2 := by
  have := heap_alloc_at (w.alloc o1) o2
  rwa [show (w.alloc o1).heap.size = w.heap.size + 1 by simp] at this

theorem box_kept {wr w3 : World} {o2 : Obj} {v v0 v1 v2 v3 : Value} {t u : TypeId} {base size n : Nat} {xs : List Value} (hown : wr.ownsRow base t size v n xs)
    (hg : ((wr.alloc (.cells #[v0, v1, v2, v3] u)).alloc o2).grownBy w3 v.ownBlock) : w3.cell? ⟨wr.heap.size, 0, none⟩ = some v0 := by
  have h := hg.block wr.heap.size (by simp; omega) (fun e => absurd (hown.lt _ e.symm).2 (Nat.lt_irrefl _))
  exact (World.cell?_of_block (w := (wr.alloc (.cells #[v0, v1, v2, v3] u)).alloc o2) h).trans (cell_past (cell_in (heap_alloc_at _ _) rfl))

set_option maxRecDepth 100000 in
theorem wpList_append_ins {ops : Array Oper} {rest : List Oper} {o : Oper} {act : Act} {Q : Exit → Act → World → Prop} (w : World) (hgd : o.guard = none) (s x : Operand)
    (ho : o.op = .call { callee := .builtin .append, args := #[s, x], argTypes := #[22, 22] }) (base : Nat)
    (v : Value) (n : Nat) (l : List Ins) (hs : act.eval s = v) (hown : w.ownsRow base 31 4 v n (insC l)) (y : Ins) (g : Nat) (hx : act.eval x = .slice (some ⟨g, 0, none⟩) 1 1)
    (hnews : w.heap[g]? = some (.cells #[.int .i64 y.op, .int .i64 y.a, .int .i64 y.b, .int .i64 y.c] 31 (0, 0))) (hn : n ≤ 1000) (hbase : base ≤ w.heap.size)
    (h : ∀ v' w', w'.ownsRow base 31 4 v' (n + 1) (insC (l ++ [y])) → w.grownBy w' v.ownBlock → wpList Try.prog ops Q rest (act.put o.dst v') w') : wpList Try.prog ops Q (o :: rest) act w := by
  obtain ⟨i0, hi, hz0, hz1, hz2⟩ := info_parts Try.info31
  refine wpList_append_own w hgd s x 22 ho base 31 i0 _ 4 32 Try.underlying22 hi hz0 hz1 hz2 rfl (by decide) v n (insC l) hs hown ⟨g, 0, none⟩ 1 1 (insC [y]) hx rfl ?_ (insC_one [y]) (by unfold maxLen; omega) (by omega) hbase
    (fun v' w' h1 h2 _ => h v' w' (by rw [insC_append]; exact h1) h2)
  exact World.news_of_block hnews

end Go.Proofs.Ytkpbampffndjoaa
