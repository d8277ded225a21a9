/-
  Two feeds of the law's own, that share no block.
-/
import Derived.Test.YtmgimohnednlgaaEMine
namespace Go.Proofs.Ytmgimohnednlgaa.Fee
open Go.RowKit Go.Proofs.Ytmgimohnednlgaa.Cel

/-- Two feeds, in blocks a and b; all their blocks lie at B or behind it, none is both's, and all below B is as it was. -/
structure Two (B : Nat) (w0 w : World) (a : Nat) (fa : Nat → Sk) (b : Nat) (fb : Nat → Sk) : Prop where
  ex : ∃ A C : Lie, A.b = a ∧ C.b = b ∧ FeedAt w A fa ∧ FeedAt w C fb ∧ (∀ k, Foot A k → B ≤ k) ∧ (∀ k, Foot C k → B ≤ k) ∧ ∀ k, Foot A k → ¬ Foot C k
  below : Below B w0 w

section
variable {B : Nat} {w0 w w' : World} {a b : Nat} {fa fb fa' : Nat → Sk}

theorem Two.symm (h : Two B w0 w a fa b fb) : Two B w0 w b fb a fa := by
  obtain ⟨A, C, ea, ec, h1, h2, h3, h4, h5⟩ := h.ex
  exact ⟨⟨C, A, ec, ea, h2, h1, h4, h3, fun k k1 k2 => h5 k k2 k1⟩, h.below⟩

theorem Two.mf (h : Two B w0 w a fa b fb) : MF B w0 w a fa := by
  obtain ⟨A, C, ea, ec, h1, h2, h3, h4, h5⟩ := h.ex
  exact ⟨⟨A, ea, h1, h3⟩, h.below⟩

theorem Two.grow (h : Two B w0 w a fa b fb) (hb : Below w.heap.size w w') : Two B w0 w' a fa b fb := by
  have hlo := h.mf.lo
  obtain ⟨A, C, ea, ec, h1, h2, h3, h4, h5⟩ := h.ex
  exact ⟨⟨A, C, ea, ec, h1.grown hb, h2.grown hb, h3, h4, h5⟩, h.below.trans (hb.mono hlo)⟩
theorem Two.alloc (h : Two B w0 w a fa b fb) (o : Obj) : Two B w0 (w.alloc o) a fa b fb := h.grow ((Below.refl _ _).alloc (Nat.le_refl _) _)
theorem Two.drewN (h : Two B w0 w a fa b fb) (n : Nat) : Two B w0 (w.drewN n) a fa b fb := h.grow (below_drewN (Below.refl _ _) n)

/-- Calls on the first one. -/
theorem two_step {A A' C : Lie} (hB : B ≤ w.heap.size) (hbl : Below B w0 w) (h1 : FeedAt w A fa) (h2 : FeedAt w C fb) (h3 : ∀ k, Foot A k → B ≤ k) (h4 : ∀ k, Foot C k → B ≤ k) (h5 : ∀ k, Foot A k → ¬ Foot C k)
    (k1 : FeedAt w' A' fa') (k2 : Wrote A w A' w') : Two B w0 w' A'.b fa' C.b fb ∧ Keeps w w' := by
  refine ⟨⟨⟨A', C, rfl, rfl, k1, h2.beside k2 (fun k e1 e2 => h5 k e2 e1), k2.own_from hB h3, h4, fun k e1 e2 => ?_⟩, hbl.trans (k2.below hB h3)⟩, h1.keeps k2⟩
  rcases k2.own k e1 with e | e
  · exact h5 k e e2
  · have := h2.foot_lt k e2; omega

set_option maxRecDepth 100000 in
/-- A second one beside a first one. -/
theorem mfNew2 (h : MF B w0 w a fa) :
    Calls Try.prog 7 #[] w fun e w' => e = .returned (.pointer (some ⟨w.heap.size + 2, 0, none⟩)) ∧ Two B w0 w' a fa (w.heap.size + 2) nones ∧ Below w.heap.size w w' := by
  have hlo := h.lo
  obtain ⟨A, rfl, h1, h2⟩ := h.ex
  have key : ∀ k, Foot ⟨w.heap.size + 2, w.heap.size + 1, w.heap.size, nils⟩ k → w.heap.size ≤ k := fun k hk => by
    rcases hk with e | e | e | ⟨i, _, e⟩
    · dsimp only at e; omega
    · dsimp only at e; omega
    · dsimp only at e; omega
    · simp [nils, Value.ownBlock] at e
  refine (new_any w).mono fun e w' ⟨he, hf, hw⟩ => ⟨he, ⟨⟨A, _, rfl, rfl, h1.grown hw, hf, h2, fun k hk => ?_, fun k hk hk2 => ?_⟩, h.below.trans (hw.mono hlo)⟩, hw⟩
  · have := key k hk; omega
  · have := key k hk2
    have := h1.foot_lt k hk
    omega

set_option maxRecDepth 100000 in
theorem twoArr (h : Two B w0 w a fa b fb) (s : Int) (x : ByteArray) (hx : x.size ≤ 4398046511104) :
    Calls Try.prog 8 #[.pointer (some ⟨a, 0, none⟩), .int .i64 s, .string x] w fun e w' => e = .returned (.int .i64 (anArr fa s x)) ∧ Two B w0 w' a (stArr fa s x) b fb ∧ Keeps w w' := by
  have hlo := h.mf.lo
  have h0 := h
  obtain ⟨A, C, rfl, rfl, h1, h2, h3, h4, h5⟩ := h.ex
  unfold anArr stArr
  cases hs : isS s with
  | true =>
    obtain ⟨i, hi, rfl⟩ := isS_yes hs
    cases hf : fitS fa (i : Int) x with
    | true =>
      have hl : (fa i).bs.length + x.size ≤ 64 := by simpa [fitS] using hf
      refine (arrive_yes i hi x h1 hl).mono fun e w' ⟨he, A', e', k1, k2⟩ => ⟨he, ?_⟩
      rw [← e']
      exact two_step hlo h.below h1 h2 h3 h4 h5 k1 k2
    | false =>
      have hl : 64 < (fa i).bs.length + x.size := by simpa [fitS] using hf
      exact (arrive_full i hi x h1 hl hx).mono fun e w' ⟨he, hw⟩ => ⟨he, by rw [hw]; exact h0, by rw [hw]; exact Keeps.refl _⟩
  | false =>
    exact (arrive_no _ s (isS_no hs) x w).mono fun e w' ⟨he, hw⟩ => ⟨he, by rw [hw]; exact h0, by rw [hw]; exact Keeps.refl _⟩

end

end Go.Proofs.Ytmgimohnednlgaa.Fee
