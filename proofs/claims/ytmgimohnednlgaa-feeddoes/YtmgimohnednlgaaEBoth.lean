/-
  A feed of the law's own and the document's, beside one another; what is told of a socket.
-/
import Derived.Test.YtmgimohnednlgaaERef
namespace Go.Proofs.Ytmgimohnednlgaa.Fee
open Go.RowKit Go.Proofs.Ytmgimohnednlgaa.Cel

/-- A feed in block b, and the document's in block m; all below w's end is as it was. -/
structure D2 (w wr : World) (b m : Nat) (ff fr : Nat → Sk) : Prop where
  mf : MF w.heap.size w wr b ff
  ref : Ref wr m fr
  le : w.heap.size ≤ m

section
variable {w wr wr2 : World} {b m : Nat} {ff fr ff' fr' : Nat → Sk}

theorem D2.feed (h : D2 w wr b m ff fr) (hm : MF w.heap.size w wr2 b ff') (hk : Keeps wr wr2) : D2 w wr2 b m ff' fr :=
  ⟨hm, ⟨hk m _ _ _ h.ref.at_ (by decide) (by decide) (by decide) (by decide)⟩, h.le⟩

theorem D2.refr (h : D2 w wr b m ff fr) (hr : Ref wr2 m fr') (ho : Only m wr wr2) : D2 w wr2 b m ff fr' := by
  refine ⟨h.mf.keepB (h.mf.below.trans (ho.below h.le)) fun k cs t mm hk ht => ho.block k fun e => ?_, hr, h.le⟩
  have ha := h.ref.at_
  rw [← e, hk] at ha
  injection ha with ha
  injection ha with _ ht2 _
  rw [ht2] at ht
  exact absurd ht (by decide)

theorem D2.grow (h : D2 w wr b m ff fr) (hb : Below wr.heap.size wr wr2) : D2 w wr2 b m ff fr := ⟨h.mf.grow hb, h.ref.carry (hb.block m h.ref.lt), h.le⟩
theorem D2.alloc (h : D2 w wr b m ff fr) (o : Obj) : D2 w (wr.alloc o) b m ff fr := h.grow ((Below.refl _ _).alloc (Nat.le_refl _) _)
theorem D2.drewN (h : D2 w wr b m ff fr) (n : Nat) : D2 w (wr.drewN n) b m ff fr := h.grow (below_drewN (Below.refl _ _) n)
theorem D2.drew (h : D2 w wr b m ff fr) : D2 w wr.drew b m ff fr := h.drewN 1

theorem Box.only {k : Nat} {c : Cl} (h : Box wr k c) (hr : Ref wr m fr) (ho : Only m wr wr2) : Box wr2 k c := by
  refine ⟨(ho.block k fun e => ?_).trans h.at_⟩
  have ha := hr.at_
  rw [← e, h.at_] at ha
  injection ha with ha
  injection ha with _ ht _
  exact absurd ht (by decide)
theorem Box.drewN {k : Nat} {c : Cl} (h : Box wr k c) (n : Nat) : Box (wr.drewN n) k c := ⟨by rw [heap_drewN]; exact h.at_⟩
theorem Box.drew {k : Nat} {c : Cl} (h : Box wr k c) : Box wr.drew k c := ⟨h.at_⟩

end

/-- What is told of a socket. -/
theorem told_at {f : Nat → Sk} (hg : ∀ i, i < 3 → (f i).Good) (i : Nat) (hi : i < 3) :
    anText f i = (f i).text ∧ anLeft f i = (f i).text.extract (f i).place (f i).text.size ∧ anPlace f i = ((f i).place : Int) ∧ anVer f i = (f i).ver ∧ (f i).place ≤ (f i).text.size := by
  unfold anText anLeft anPlace anVer
  rw [isS_of hi]
  refine ⟨rfl, Sk.left_text _, rfl, rfl, ?_⟩
  rw [Sk.text_size]
  exact (hg i hi).le

theorem at_text {f : Nat → Sk} (i : Nat) (hi : i < 3) (p : Nat) (hp : p < (f i).text.size) : anAt f i p = (((f i).text[p]'hp).toNat : Int) := by
  unfold anAt
  rw [isS_of hi]
  have hp2 := hp
  rw [Sk.text_size] at hp2
  simp only [if_true, Int.toNat_natCast]
  rw [Sk.byte_in _ _ hp2]
  rfl
theorem at_none {f : Nat → Sk} (i : Nat) (hi : i < 3) (p : Int) (hp : ¬ (0 ≤ p ∧ p < ((f i).text.size : Int))) : anAt f i p = -1 := by
  unfold anAt
  rw [isS_of hi]
  rw [Sk.text_size] at hp
  exact Sk.byte_out _ _ hp

theorem at_textT {f : Nat → Sk} {T : ByteArray} (i : Nat) (hi : i < 3) (hT : T = (f i).text) (n : Nat) (hn : n < T.size) : anAt f i n = ((T[n]'hn).toNat : Int) := by
  subst hT
  exact at_text i hi n hn
theorem at_noneT {f : Nat → Sk} {T : ByteArray} (i : Nat) (hi : i < 3) (hT : T = (f i).text) (p : Int) (hp : ¬ (0 ≤ p ∧ p < (T.size : Int))) : anAt f i p = -1 := by
  subst hT
  exact at_none i hi p hp

theorem stDo_good {f : Nat → Sk} (c : Cl) (hg : ∀ i, i < 3 → (f i).Good) : ∀ i, i < 3 → (stDo c f i).Good := by
  unfold stDo
  split
  · unfold stArr
    split
    · next h =>
      simp only [Bool.and_eq_true] at h
      obtain ⟨j, hj, e⟩ := isS_yes h.1
      have hf := h.2
      rw [e] at hf ⊢
      refine good_upd hg _ ((hg j hj).more _ ?_)
      simpa [fitS] using hf
    · exact hg
  · unfold stTake
    split
    · next h =>
      simp only [anTake, Bool.and_eq_true] at h
      obtain ⟨j, hj, e⟩ := isS_yes h.1
      have hf := h.2
      rw [e] at hf ⊢
      obtain ⟨n, e2, _, k2⟩ := okT_of hf
      rw [e2]
      exact good_upd hg _ ((hg j hj).took k2 _)
    · exact hg

end Go.Proofs.Ytmgimohnednlgaa.Fee
