/-
  What a Note that answers true makes of all that was read: it was so at one time. Plain mathematics; and how the set and the world lie beside one another.
-/
import Derived.Test.YtafpfioonbdgnaaNThen
namespace Go.Proofs.Ytafpfioonbdgnaa.Rds
open Go.RowKit Go.Proofs.Ytafpfioonbdgnaa.Cel

theorem validB_iff {vf : Int → Int → Int} {E : List En} : validB vf E = true ↔ ∀ e ∈ E, vf e.1 e.2.1 = e.2.2 := by
  unfold validB
  rw [List.all_eq_true]
  exact ⟨fun h e he => by simpa using h e he, fun h e he => by simpa using h e he⟩

/-- All things that were read are such that there are. -/
def IsE (E : List En) : Prop := ∀ e ∈ E, isB e.1 e.2.1 = true

theorem IsE.snoc {E : List En} {k i v : Int} (h : IsE E) (hk : isB k i = true) : IsE (E ++ [(k, i, v)]) := fun e he => by
  rcases List.mem_append.1 he with he | he
  · exact h e he
  · simp at he
    subst he
    exact hk

theorem IsE.at_ {E : List En} (h : IsE E) (j : Nat) (hj : j < E.length) : isB E[j]!.1 E[j]!.2.1 = true := by
  rw [getElem!_pos E j hj]
  exact h _ (List.getElem_mem hj)

/-- Whether all is so now, by the program's versions and by the document's. -/
theorem validB_now {l : List Th} {E : List En} (h : IsE E) : validB (ofF (verF l)) E = validB (vfN l) E := by
  have e : ∀ e ∈ E, ofF (verF l) e.1 e.2.1 = vfN l e.1 e.2.1 := fun e he => ofF_is l e.1 e.2.1 (h e he)
  cases hv : validB (vfN l) E with
  | true => exact validB_iff.2 fun x hx => (e x hx).trans (validB_iff.1 hv x hx)
  | false =>
    cases hw : validB (ofF (verF l)) E with
    | false => rfl
    | true =>
      rw [validB_iff.2 fun x hx => (e x hx).symm.trans (validB_iff.1 hw x hx)] at hv
      cases hv

theorem noteE_is {vf : Int → Int → Int} {st : Int} {E : List En} {k i : Int} (h : IsE E) (hk : isB k i = true) : IsE (noteE vf st E k i) := by
  unfold noteE
  split
  · exact h
  · split
    · split
      · exact h.snoc hk
      · exact h
    · exact h.snoc hk

theorem noteE_length (vf : Int → Int → Int) (st : Int) (E : List En) (k i : Int) : (noteE vf st E k i).length ≤ E.length + 1 := by
  unfold noteE
  split
  · omega
  · split
    · split
      · simp
      · omega
    · simp

theorem noteT_lo {vf : Int → Int → Int} {lo cl st : Int} {E : List En} {k i : Int} (h : lo ≤ st) (hc : st ≤ cl) : lo ≤ noteT vf cl st E k i ∧ noteT vf cl st E k i ≤ cl := by
  unfold noteT
  split
  · exact ⟨h, hc⟩
  · split
    · split
      · exact ⟨by omega, Int.le_refl _⟩
      · exact ⟨h, hc⟩
    · exact ⟨h, hc⟩

/-- As long as Note answers true, all was so at the stamp. -/
theorem note_once {l : List Th} {st : Int} {E : List En} {k i : Int} (hs : st ≤ (l.length : Nat)) (hE : IsE E) (hk : isB k i = true) (ht : thenB l st E = true) (hn : noteB (ofF (verF l)) st E k i = true) :
    thenB l (noteT (ofF (verF l)) (l.length : Nat) st E k i) (noteE (ofF (verF l)) st E k i) = true := by
  unfold noteB at hn
  unfold noteT noteE
  have hv := ofF_is l k i hk
  cases hf : findE E k i with
  | some e => exact ht
  | none =>
    rw [hf] at hn
    dsimp only at hn ⊢
    by_cases hlt : st < ofF (verF l) k i
    · rw [if_pos hlt] at hn
      rw [if_pos hlt, if_pos hlt, hn]
      refine validB_iff.2 fun e he => ?_
      rcases List.mem_append.1 he with he | he
      · have h1 := validB_iff.1 hn e he
        rw [ofF_is l _ _ (hE e he)] at h1
        exact h1
      · simp at he
        subst he
        exact hv.symm
    · rw [if_neg hlt, if_neg hlt]
      refine validB_iff.2 fun e he => ?_
      rcases List.mem_append.1 he with he | he
      · exact validB_iff.1 ht e he
      · simp at he
        subst he
        show (atN l (k, i) st : Int) = ofF (verF l) k i
        rw [hv, atN_since l (k, i) st hs (by rw [← hv]; omega)]

/-- A change changes nothing of what was. -/
theorem thenB_snoc {l : List Th} {st : Int} {E : List En} (hs : st ≤ (l.length : Nat)) (x : Th) (ht : thenB l st E = true) : thenB (l ++ [x]) st E = true :=
  validB_iff.2 fun e he => by
    have h1 := validB_iff.1 ht e he
    show (atN (l ++ [x]) (e.1, e.2.1) st : Int) = e.2.2
    rw [atN_snoc l x _ st hs]
    exact h1

section
variable {w w' : World} {b m : Nat} {v u : Value} {l : List Th} {st : Int} {E : List En}

theorem SetAt.drewN (h : SetAt w b v st E) (n : Nat) : SetAt (w.drewN n) b v st E := h.keep fun _ _ => by rw [heap_drewN]
theorem WoAt.drewN (h : WoAt w b v l) (n : Nat) : WoAt (w.drewN n) b v l := h.keep fun _ _ => by rw [heap_drewN]

/-- The set and the world share no block. -/
theorem set_wo (h : SetAt w b v st E) (k : WoAt w m u l) : ∀ q, Foot m [u] q → ¬ Foot b [v] q := fun q h1 h2 => by
  have e1 : ∃ cs t, w.heap[q]? = some (.cells cs t (0, 0)) ∧ (t = 28 ∨ t = 36) := by
    rcases h1 with e | ⟨x, hx, e⟩
    · rw [e]; exact ⟨_, _, k.at_, .inl rfl⟩
    · simp at hx; subst hx
      obtain ⟨cs, hc⟩ := own_at k.owns e
      exact ⟨_, _, hc, .inr rfl⟩
  have e2 : ∃ cs t, w.heap[q]? = some (.cells cs t (0, 0)) ∧ (t = 65 ∨ t = 54) := by
    rcases h2 with e | ⟨x, hx, e⟩
    · rw [e]; exact ⟨_, _, h.at_, .inl rfl⟩
    · simp at hx; subst hx
      obtain ⟨cs, hc⟩ := own_at h.owns e
      exact ⟨_, _, hc, .inr rfl⟩
  obtain ⟨c1, t1, g1, d1⟩ := e1
  obtain ⟨c2, t2, g2, d2⟩ := e2
  rw [g1] at g2
  injection g2 with g2
  injection g2 with _ g2 _
  subst g2
  rcases d1 with rfl | rfl <;> rcases d2 with d | d <;> exact absurd d (by decide)

/-- A block of another type is none of the set's. -/
theorem box_free {X : Nat} {cs : Array Value} {t : TypeId} {q : Nat × Nat} (h : SetAt w b v st E) (hx : w.heap[X]? = some (.cells cs t q)) (h1 : t ≠ 65) (h2 : t ≠ 54) : ¬ Foot b [v] X := fun e => by
  rcases e with e | ⟨x, hx', e⟩
  · rw [e] at hx
    exact block_ne hx h.at_ h1 rfl
  · simp at hx'
    subst hx'
    obtain ⟨cs, hc⟩ := own_at h.owns e
    exact block_ne hx hc h2 rfl

end

end Go.Proofs.Ytafpfioonbdgnaa.Rds
