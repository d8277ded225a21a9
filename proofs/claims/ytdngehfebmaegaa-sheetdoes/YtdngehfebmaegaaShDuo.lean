/-
  A call on the sheet and on the document's: the same answers; what 'alive' tells.
-/
import Derived.Test.YtdngehfebmaegaaShBoth
namespace Go.Proofs.Ytdngehfebmaegaa.Sht
open Go.RowKit Go.Deep Go.Proofs.Ytdngehfebmaegaa.Cel Go.Proofs.Ytdngehfebmaegaa.Dft Go.Proofs.Ytdngehfebmaegaa.Dft.F
open Tom (CanF TomeAt)

/-- A sheet over a tome, and the document's. -/
structure Du (w : World) (t b g : Nat) (T : List (Fl × Int)) (s d : Nat) (v : Value) (R : List (Int × Fl)) (m : Nat) : Prop where
  sh : SheetAt w t b g T s d v R
  md : MdAt w m T R

/-- The blocks that calls on both write. -/
def FD (d : Nat) (v : Value) (m k : Nat) : Prop := Foot d [v] k ∨ k = m

section
variable {w w' : World} {t b g s d m : Nat} {T : List (Fl × Int)} {v : Value} {R : List (Int × Fl)}

theorem Du.grown (h : Du w t b g T s d v R m) (hb : Below w.heap.size w w') : Du w' t b g T s d v R m := ⟨h.sh.grown hb, h.md.grown hb⟩

/-- A block of another type lies as it lay behind a sheet's call. -/
theorem SheetAt.other {F : Nat → Prop} {k : Nat} {cs : Array Value} {ty : TypeId} {n : Nat × Nat} (h : SheetAt w t b g T s d v R) (hw : Wrote (Foot d [v]) F w w') (hk : w.heap[k]? = some (.cells cs ty n)) (h1 : ty ≠ 79) (h2 : ty ≠ 77) :
    w'.heap[k]? = some (.cells cs ty n) :=
  (hw.block k (Array.getElem?_eq_some_iff.1 hk).1 (fun e => by
    rcases e with e | ⟨x, hx, e⟩
    · exact block_ne hk h.dr.at_ h1 e
    · simp at hx
      subst hx
      obtain ⟨cs', hc⟩ := own_at h.dr.owns e
      exact block_ne hk hc h2 rfl)).trans hk

theorem Du.first {v' : Value} (h : Du w t b g T s d v R m) (hw : Wrote (Foot d [v]) (Foot d [v']) w w') : MdAt w' m T R := h.sh.other hw h.md (by decide) (by decide)

theorem SheetAt.md {m : Nat} {Q : List (Int × Fl)} (h : SheetAt w t b g T s d v R) (hm : MdAt w m T Q) (hb : But [m] w w') : SheetAt w' t b g T s d v R := by
  have no : ∀ (k : Nat) (cs : Array Value) (ty : TypeId) (n : Nat × Nat), w.heap[k]? = some (.cells cs ty n) → ty ≠ 42 → w'.heap[k]? = w.heap[k]? := fun k cs ty n hk h1 =>
    hb.block k (Array.getElem?_eq_some_iff.1 hk).1 (fun e => by
      have e : k = m := by simpa using e
      exact block_ne hk hm h1 e)
  refine ⟨h.tome.keep (no _ _ _ _ h.tome.at_ (by decide)) (no _ _ _ _ h.tome.row.at_ (by decide)) (no _ _ _ _ h.tome.row.row (by decide)), (no _ _ _ _ h.at_ (by decide)).trans h.at_, h.dr.keep fun k hk => ?_, h.fit⟩
  rcases hk with e | ⟨x, hx, e⟩
  · subst e; exact no _ _ _ _ h.dr.at_ (by decide)
  · simp at hx
    subst hx
    obtain ⟨cs', hc⟩ := own_at h.dr.owns e
    exact no _ _ _ _ hc (by decide)

end
end Go.Proofs.Ytdngehfebmaegaa.Sht
