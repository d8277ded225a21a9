/-
  'append(list, texts...)' onto a list of texts that the call owns; such a list, as texts.
-/
import Derived.Test.YtcofiidibhmhgaaRowed
import Derived.Laws.AppendOwnNone
namespace Go.Proofs.Ytcofiidibhmhgaa
open Go.RowKit

set_option maxRecDepth 100000 in
theorem Try.info9 : (Try.prog.info? 9).map (fun i => (i.zero, i.size, i.bytes)) = some (some (.string ⟨#[]⟩), 1, 16) := by kernel_rfl

/-- Texts as cells. -/
def textCells (l : List ByteArray) : List Value := l.map .string

theorem textCells_length (l : List ByteArray) : (textCells l).length = l.length := by simp [textCells]
theorem textCells_append (a b : List ByteArray) : textCells (a ++ b) = textCells a ++ textCells b := by simp [textCells]
theorem textCells_one (l : List ByteArray) : ∀ u ∈ textCells l, u.oneCell' = true := by
  intro u hu
  obtain ⟨s, _, rfl⟩ := List.mem_map.1 hu
  rfl

theorem IsTexts.carry {w w' : World} {a : Option Addr} {len cap : Nat} {ts : List ByteArray} (h : IsTexts w a len cap ts) (hb : Below w.heap.size w w') : IsTexts w' a len cap ts := by
  obtain ⟨hl, ⟨rfl, hc⟩ | ⟨g, off, rfl, hat⟩⟩ := h
  · exact ⟨hl, .inl ⟨rfl, hc⟩⟩
  · exact ⟨hl, .inr ⟨g, off, rfl, hat.carry (hb.block g hat.lt) hb.size⟩⟩

/-- A list that the call owns, as texts. -/
theorem texts_of_row {w : World} {base n : Nat} {v : Value} {ts : List ByteArray} (h : w.ownsRow base 9 1 v n (textCells ts)) : ∃ a cap, v = .slice a n cap ∧ IsTexts w a n cap ts := by
  have hlen : ts.length = n := by
    have := h.1
    rw [textCells_length] at this
    omega
  rcases h.2 with ⟨rfl, rfl⟩ | ⟨g, cap, cur, rfl, _, hg, _⟩
  · exact ⟨none, 0, rfl, hlen, .inl ⟨List.length_eq_zero_iff.1 hlen, fun _ => rfl⟩⟩
  · refine ⟨some ⟨g, 0, none⟩, cap, rfl, hlen, .inr ⟨g, 0, rfl, ⟨(Array.getElem?_eq_some_iff.1 hg).1, fun j hj => ?_⟩⟩⟩
    rw [Nat.zero_add]
    have := h.cells (g := g) rfl j (.string ts[j]) (by simp [textCells, hj])
    rw [add_plain3, Nat.zero_add] at this
    exact this

set_option maxRecDepth 100000 in
/-- 'append(own, texts...)'. -/
theorem wpList_append_texts {ops : Array Oper} {rest : List Oper} {o : Oper} {act : Act} {Q : Exit → Act → World → Prop} (w : World) (hgd : o.guard = none) (s x : Operand)
    (ho : o.op = .call { callee := .builtin .append, args := #[s, x], argTypes := #[24, 24] }) (base : Nat)
    (v : Value) (n : Nat) (xs : List Value) (hs : act.eval s = v) (hown : w.ownsRow base 9 1 v n xs) (a : Option Addr) (len cap : Nat) (ts : List ByteArray) (hx : act.eval x = .slice a len cap) (hit : IsTexts w a len cap ts)
    (hn : n + len ≤ 10000) (hbase : base ≤ w.heap.size)
    (h : ∀ v' w', w'.ownsRow base 9 1 v' (n + len) (xs ++ textCells ts) → w.grownBy w' v.ownBlock → wpList Try.prog ops Q rest (act.put o.dst v') w') : wpList Try.prog ops Q (o :: rest) act w := by
  obtain ⟨i0, hi, hz0, hz1, hz2⟩ := info_parts Try.info9
  obtain ⟨hl, hcase⟩ := hit
  cases a with
  | none =>
    rcases hcase with ⟨rfl, hc⟩ | ⟨g, off, e, _⟩
    · have h0 : len = 0 := hl.symm
      have h1 : cap = 0 := hc rfl
      subst h0 h1
      refine wpList_append_own_none hgd s x 24 ho base 9 i0 1 Try.underlying24 hi v n xs hs hown hx ?_
      refine h v w ?_ ⟨rfl, rfl, rfl, Nat.le_refl _, fun _ _ _ => rfl⟩
      simpa [textCells] using hown
    · cases e
  | some ad =>
    refine wpList_append_own w hgd s x 24 ho base 9 i0 _ 1 16 Try.underlying24 hi hz0 hz1 hz2 rfl (by decide) v n xs hs hown ad len cap (textCells ts) hx (by rw [textCells_length, hl, Nat.mul_one]) ?_ (textCells_one ts) (by unfold maxLen; omega) (by omega) hbase (fun v' w' h1 h2 _ => h v' w' h1 h2)
    rcases hcase with ⟨rfl, _⟩ | ⟨g, off, e, hat⟩
    · intro j u hu; simp [textCells] at hu
    · cases e
      intro j u hu
      have hj : j < ts.length := by
        have := (List.getElem?_eq_some_iff.1 hu).1
        rwa [textCells_length] at this
      rw [add_plain3, hat.cell j hj]
      simp [textCells, hj] at hu
      rw [hu]

end Go.Proofs.Ytcofiidibhmhgaa
