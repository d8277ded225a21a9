/-
  Two sheets over one tome that share no block, each with the document's beside it.
-/
import Derived.Test.YtdngehfebmaegaaShScript
namespace Go.Proofs.Ytdngehfebmaegaa.Sht
open Go.RowKit Go.Deep Go.Proofs.Ytdngehfebmaegaa.Cel Go.Proofs.Ytdngehfebmaegaa.Dft Go.Proofs.Ytdngehfebmaegaa.Dft.F
open Tom (CanF TomeAt)

section
variable {B t b g s d m s2 d2 m2 : Nat} {w W W' : World} {T : List (Fl × Int)} {v v2 v2' : Value} {R R2 R2' : List (Int × Fl)}

theorem Du.lt (h : Du W t b g T s d v R m) : ∀ k, FD d v m k → k < W.heap.size := fun k hk => by
  rcases hk with e | e
  · exact h.sh.dr.foot_lt k e
  · rw [e]; exact h.md.lt

theorem Du.not (h : Du W t b g T s d v R m) {k : Nat} {cs : Array Value} {ty : TypeId} {n : Nat × Nat} (hk : W.heap[k]? = some (.cells cs ty n)) (h1 : ty ≠ 79) (h2 : ty ≠ 77) (h3 : ty ≠ 42) : ¬ FD d v m k := fun e => by
  rcases e with (e | ⟨x, hx, e⟩) | e
  · exact block_ne hk h.sh.dr.at_ h1 e
  · simp at hx
    subst hx
    obtain ⟨cs', hc⟩ := own_at h.sh.dr.owns e
    exact block_ne hk hc h2 rfl
  · exact block_ne hk h.md h3 e

theorem Du.keep (h : Du W t b g T s d v R m) (ht : W'.heap[t]? = W.heap[t]?) (hb : W'.heap[b]? = W.heap[b]?) (hg : W'.heap[g]? = W.heap[g]?) (hs : W'.heap[s]? = W.heap[s]?) (hf : ∀ k, FD d v m k → W'.heap[k]? = W.heap[k]?) : Du W' t b g T s d v R m :=
  ⟨⟨h.sh.tome.keep ht hb hg, hs.trans h.sh.at_, h.sh.dr.keep fun k hk => hf k (.inl hk), h.sh.fit⟩, (hf m (.inr rfl)).trans h.md⟩

/-- What is done to the one isn't done to the other. -/
theorem Du.apart {F : Nat → Prop} (h : Du W t b g T s d v R m) (o : Du W t b g T s2 d2 v2 R2 m2) (far : ∀ k, FD d v m k → ¬ FD d2 v2 m2 k) (hw : Wrote (FD d2 v2 m2) F W W') : Du W' t b g T s d v R m := by
  have no : ∀ (k : Nat) (cs : Array Value) (ty : TypeId) (n : Nat × Nat), W.heap[k]? = some (.cells cs ty n) → ty ≠ 79 → ty ≠ 77 → ty ≠ 42 → W'.heap[k]? = W.heap[k]? := fun k cs ty n hk h1 h2 h3 =>
    hw.block k (Array.getElem?_eq_some_iff.1 hk).1 (o.not hk h1 h2 h3)
  exact h.keep (no _ _ _ _ h.sh.tome.at_ (by decide) (by decide) (by decide)) (no _ _ _ _ h.sh.tome.row.at_ (by decide) (by decide) (by decide)) (no _ _ _ _ h.sh.tome.row.row (by decide) (by decide) (by decide))
    (no _ _ _ _ h.sh.at_ (by decide) (by decide) (by decide)) fun k hk => hw.block k (h.lt k hk) (far k hk)

/-- Two of the law's own. -/
structure LD2 (B : Nat) (w W : World) (t b g : Nat) (T : List (Fl × Int)) (s d : Nat) (v : Value) (R : List (Int × Fl)) (m s2 d2 : Nat) (v2 : Value) (R2 : List (Int × Fl)) (m2 : Nat) : Prop where
  one : LD B w W t b g T s d v R m
  two : LD B w W t b g T s2 d2 v2 R2 m2
  far : ∀ k, FD d v m k → ¬ FD d2 v2 m2 k

theorem LD2.grown (h : LD2 B w W t b g T s d v R m s2 d2 v2 R2 m2) (hb : Below W.heap.size W W') : LD2 B w W' t b g T s d v R m s2 d2 v2 R2 m2 := ⟨h.one.grown hb, h.two.grown hb, h.far⟩
theorem LD2.did (h : LD2 B w W t b g T s d v R m s2 d2 v2 R2 m2) (hd : Du W' t b g T s2 d2 v2' R2' m2) (hw : Wrote (FD d2 v2 m2) (FD d2 v2' m2) W W') : LD2 B w W' t b g T s d v R m s2 d2 v2' R2' m2 :=
  ⟨⟨h.one.du.apart h.two.du h.far hw, h.one.lo, h.one.log, h.one.bel.trans (hw.below h.two.size h.two.lo)⟩, h.two.did hd hw, fun k hk hk2 => by
    rcases hw.own k hk2 with e | e
    · exact h.far k hk e
    · have := h.one.du.lt k hk; omega⟩

end

set_option maxRecDepth 100000 in
theorem size_md (ba fa : Nat → Fl) (wr : Nat → Bool) : (Try.prog.info? 42).map (·.size) = some (mdA ba fa wr).size := by rw [mdA_size]; kernel_rfl
theorem md_one (ba fa : Nat → Fl) (wr : Nat → Bool) : (mdA ba fa wr).all (·.oneCell') = true := by simp [mdA, Value.oneCell']

end Go.Proofs.Ytdngehfebmaegaa.Sht
