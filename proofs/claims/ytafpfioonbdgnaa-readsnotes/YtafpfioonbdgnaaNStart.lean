/-
  All changes that came in, appended to a row of one's own.
-/
import Derived.Test.YtafpfioonbdgnaaNOnce
namespace Go.Proofs.Ytafpfioonbdgnaa.Rds
open Go.RowKit Go.Proofs.Ytafpfioonbdgnaa.Cel

theorem ownsRow_low {w : World} {B e size : Nat} {v : Value} {n : Nat} {xs : List Value} (h : w.ownsRow B e size v n xs) : w.ownsRow 0 e size v n xs := by
  refine ⟨h.1, ?_⟩
  rcases h.2 with e | ⟨g, cap, cur, e, h0, r⟩
  · exact .inl e
  · exact .inr ⟨g, cap, cur, e, Nat.zero_le _, r⟩

set_option maxRecDepth 100000 in
/-- 'append(own, things...)', the things came in. -/
theorem wpList_append_ths {ops : Array Oper} {rest : List Oper} {o : Oper} {a : Act} {w : World} {Q : Exit → Act → World → Prop} (hgd : o.guard = none) (s x : Operand)
    (ho : o.op = .call { callee := .builtin .append, args := #[s, x], argTypes := #[22, 22] }) (base : Nat)
    (v : Value) (n : Nat) (l : List Value) (hs : a.eval s = v) (hown : w.ownsRow base 36 2 v n l)
    (ad : Option Addr) (m c : Nat) (xs : List Th) (hx : a.eval x = .slice ad m c) (hit : IsThs w ad m c xs) (hn : n + m ≤ 10000000) (hbase : base ≤ w.heap.size)
    (h : ∀ v' w', w'.ownsRow base 36 2 v' (n + m) (l ++ thC xs) → w.grownBy w' v.ownBlock → wpList Try.prog ops Q rest (a.put o.dst v') w') : wpList Try.prog ops Q (o :: rest) a w := by
  obtain ⟨i0, hi, hz0, hz1, hz2⟩ := info_parts Try.info36
  obtain ⟨hl, hc, hh⟩ := hit
  cases ad with
  | none =>
    rcases hh with ⟨rfl, h0⟩ | ⟨g, off, e, _⟩
    · have hm : m = 0 := by simpa using hl.symm
      have hc0 := h0 rfl
      subst hm hc0
      refine wpList_append_own_none hgd s x 22 ho base 36 i0 2 Try.underlying22 hi v n l hs hown hx ?_
      exact h v w (by simpa [thC] using hown) (World.grownBy.refl w _)
    · cases e
  | some ad =>
    refine wpList_append_own w hgd s x 22 ho base 36 i0 _ 2 16 Try.underlying22 hi hz0 hz1 hz2 rfl (by decide) v n l hs hown ad m c (thC xs) hx (by rw [thC_length, hl]) ?_ (thC_one xs) (by unfold maxLen; omega) (by omega) hbase (fun v' w' h1 h2 _ => h v' w' h1 h2)
    rcases hh with ⟨rfl, _⟩ | ⟨g, off, e, hat⟩
    · intro j u hu
      simp [thC] at hu
    · cases e
      exact hat.news

end Go.Proofs.Ytafpfioonbdgnaa.Rds
