/-
  'append(list, items...)' onto a list that the call owns; a list that the call owns, as items.
-/
import Derived.Test.YtjenalblcdmpaaaLists
import Derived.Laws.AppendOwnNone
namespace Go.Proofs.Ytjenalblcdmpaaa
open Go.RowKit

theorem Try.info30 : (Try.prog.info? 30).map (fun i => (i.zero, i.size, i.bytes)) = some (some (.agg #[.int .i64 0, .int .i64 0, .string ⟨#[]⟩]), 3, 32) := by kernel_rfl

/-- Items as cells. -/
def itemCells : List It → List Value
  | [] => []
  | i :: r => .int .i64 i.kind :: .int .i64 i.n :: .string i.s :: itemCells r

theorem itemCells_length (l : List It) : (itemCells l).length = l.length * 3 := by
  induction l with
  | nil => rfl
  | cons i r ih => simp [itemCells, ih]; omega

theorem itemCells_append (a b : List It) : itemCells (a ++ b) = itemCells a ++ itemCells b := by
  induction a with
  | nil => rfl
  | cons i r ih => simp [itemCells, ih]

theorem itemCells_get (l : List It) : ∀ q (h : q < l.length), (itemCells l)[q * 3]? = some (.int .i64 l[q].kind) ∧ (itemCells l)[q * 3 + 1]? = some (.int .i64 l[q].n) ∧ (itemCells l)[q * 3 + 1 + 1]? = some (.string l[q].s) := by
  induction l with
  | nil => intro q h; simp at h
  | cons i r ih =>
    intro q h
    cases q with
    | zero => simp [itemCells]
    | succ q =>
      obtain ⟨h1, h2, h3⟩ := ih q (by simpa using h)
      have e : (q + 1) * 3 = q * 3 + 1 + 1 + 1 := by omega
      rw [e]
      simp only [itemCells, List.getElem?_cons_succ, List.getElem_cons_succ]
      exact ⟨h1, h2, h3⟩

theorem itemCells_one (l : List It) : ∀ u ∈ itemCells l, u.oneCell' = true := by
  induction l with
  | nil => intro u hu; simp [itemCells] at hu
  | cons i r ih =>
    intro u hu
    simp only [itemCells, List.mem_cons] at hu
    rcases hu with rfl | rfl | rfl | hu
    · rfl
    · rfl
    · rfl
    · exact ih u hu

theorem ItemsAt.news {w : World} {g off : Nat} {its : List It} (h : ItemsAt w g off its) : ∀ j u, (itemCells its)[j]? = some u → w.cell? ((⟨g, off, none⟩ : Addr).add j) = some u := by
  intro j u hu
  have hj : j < its.length * 3 := by
    have := (List.getElem?_eq_some_iff.1 hu).1
    rw [itemCells_length] at this
    exact this
  obtain ⟨q, hq⟩ : ∃ q, q = j / 3 := ⟨_, rfl⟩
  obtain ⟨g0, g1, g2⟩ := itemCells_get its q (by omega)
  rw [add_plain3]
  have hr : j = q * 3 ∨ j = q * 3 + 1 ∨ j = q * 3 + 1 + 1 := by omega
  rcases hr with e | e | e
  · rw [e] at hu ⊢
    rw [g0] at hu
    cases hu
    exact h.kind q (by omega)
  · rw [e] at hu ⊢
    rw [g1] at hu
    cases hu
    exact h.n q (by omega)
  · rw [e] at hu ⊢
    rw [g2] at hu
    cases hu
    exact h.s q (by omega)

/-- A list that the call owns, as items. -/
theorem items_of_row {w : World} {base n : Nat} {v : Value} {its : List It} (h : w.ownsRow base 30 3 v n (itemCells its)) (hlo : ∀ j (h : j < its.length), -9223372036854775808 ≤ its[j].n) (hhi : ∀ j (h : j < its.length), its[j].n ≤ 9223372036854775807) :
    ∃ a cap, v = .slice a n cap ∧ IsItems w a n cap its := by
  have hlen : its.length = n := by
    have := h.1
    rw [itemCells_length] at this
    omega
  rcases h.2 with ⟨rfl, rfl⟩ | ⟨g, cap, cur, rfl, _, hg, _⟩
  · exact ⟨none, 0, rfl, hlen, .inl ⟨List.length_eq_zero_iff.1 hlen, fun _ => rfl⟩⟩
  · refine ⟨some ⟨g, 0, none⟩, cap, rfl, hlen, .inr ⟨g, 0, rfl, ⟨(Array.getElem?_eq_some_iff.1 hg).1, fun j hj => ?_, fun j hj => ?_, fun j hj => ?_, hlo, hhi⟩⟩⟩
    all_goals
      obtain ⟨g0, g1, g2⟩ := itemCells_get its j hj
      rw [Nat.zero_add, World.ownsRow.cellAt h _ (by omega)]
    · exact g0
    · exact g1
    · exact g2

/-- 'append(own, items...)'. -/
theorem wpList_append_items {ops : Array Oper} {rest : List Oper} {o : Oper} {act : Act} {Q : Exit → Act → World → Prop} (w : World) (hgd : o.guard = none) (s x : Operand)
    (ho : o.op = .call { callee := .builtin .append, args := #[s, x], argTypes := #[22, 22] }) (base : Nat)
    (v : Value) (n : Nat) (xs : List Value) (hs : act.eval s = v) (hown : w.ownsRow base 30 3 v n xs) (a : Option Addr) (len cap : Nat) (its : List It) (hx : act.eval x = .slice a len cap) (hit : IsItems w a len cap its)
    (hn : n + len ≤ 100) (hbase : base ≤ w.heap.size)
    (h : ∀ v' w', w'.ownsRow base 30 3 v' (n + len) (xs ++ itemCells its) → w.grownBy w' v.ownBlock → wpList Try.prog ops Q rest (act.put o.dst v') w') : wpList Try.prog ops Q (o :: rest) act w := by
  obtain ⟨i0, hi, hz0, hz1, hz2⟩ := info_parts Try.info30
  obtain ⟨hl, hcase⟩ := hit
  cases a with
  | none =>
    rcases hcase with ⟨rfl, hc⟩ | ⟨g, off, e, _⟩
    · have h0 : len = 0 := hl.symm
      have h1 : cap = 0 := hc rfl
      subst h0 h1
      refine wpList_append_own_none hgd s x 22 ho base 30 i0 3 Try.underlying22 hi v n xs hs hown hx ?_
      refine h v w ?_ ⟨rfl, rfl, rfl, Nat.le_refl _, fun _ _ _ => rfl⟩
      simpa [itemCells] using hown
    · cases e
  | some ad =>
    refine wpList_append_own w hgd s x 22 ho base 30 i0 _ 3 32 Try.underlying22 hi hz0 hz1 hz2 rfl (by decide) v n xs hs hown ad len cap (itemCells its) hx (by rw [itemCells_length, hl]) ?_ (itemCells_one its) (by unfold maxLen; omega) (by omega) hbase (fun v' w' h1 h2 _ => h v' w' h1 h2)
    rcases hcase with ⟨rfl, _⟩ | ⟨g, off, e, hat⟩
    · intro j u hu; simp [itemCells] at hu
    · cases e
      exact hat.news

end Go.Proofs.Ytjenalblcdmpaaa
