/-
  Two wires of the law's own, that share no block; what a call of a script makes of a wire.
-/
import Derived.Test.YtjiljencdhbchaaXScript
namespace Go.Proofs.Ytjiljencdhbchaa
open Go.RowKit

section
variable {w : World} {b : Nat} {vs : Nat → Value} {f : Nat → Wy}

set_option maxRecDepth 100000 in
theorem wirPush (h : Wir w b vs f) (s : Int) (x : ByteArray) {N : Nat} (hf : Fits N f) (hl : N + x.size ≤ 4398046511104) :
    Calls Try.prog 12 #[.pointer (some ⟨b, 0, none⟩), .int .i64 s, .string x] w fun e w' => e = .returned (.bool (isS s)) ∧ ∃ vs', Wir w' b vs' (stPush f s x) ∧ Wrote b vs w vs' w' := by
  cases hs : isS s with
  | true =>
    obtain ⟨i, hi, rfl⟩ := isS_yes hs
    refine (push_yes i hi x h (by have := hf i hi; omega)).mono fun e w' ⟨he, vs', h3, h4⟩ => ⟨he, vs', ?_, h4⟩
    unfold stPush
    rw [hs]
    exact h3
  | false =>
    refine (push_none _ s x (.inr (isS_no hs)) w).mono fun e w' ⟨he, hw⟩ => ⟨he, vs, ?_, by rw [hw]; exact Wrote.refl _ _ _⟩
    unfold stPush
    rw [hs, hw]
    exact h

set_option maxRecDepth 100000 in
theorem wirPump (h : Wir w b vs f) (s : Int) (hf : Fits 4398046511104 f) :
    Calls Try.prog 14 #[.pointer (some ⟨b, 0, none⟩), .int .i64 s] w fun e w' => e = .returned (.int .i64 (anPump f s : Nat)) ∧ ∃ vs', Wir w' b vs' (stPump f s) ∧ Wrote b vs w vs' w' := by
  unfold anPump stPump
  cases hs : isS s with
  | true =>
    obtain ⟨i, hi, rfl⟩ := isS_yes hs
    exact (pump_yes i hi h (hf i hi)).mono fun e w' ⟨he, h3, h4⟩ => ⟨he, vs, h3, h4⟩
  | false => exact (pump_none _ s (.inr (isS_no hs)) w).mono fun e w' ⟨he, hw⟩ => ⟨he, vs, by rw [hw]; exact h, by rw [hw]; exact Wrote.refl _ _ _⟩

set_option maxRecDepth 100000 in
theorem wirTake (h : Wir w b vs f) (s n : Int) (hf : Fits 4398046511104 f) :
    Calls Try.prog 16 #[.pointer (some ⟨b, 0, none⟩), .int .i64 s, .int .i64 n] w fun e w' => e = .returned (.string (anTake f s n)) ∧ ∃ vs', Wir w' b vs' (stTake f s n) ∧ Wrote b vs w vs' w' := by
  unfold anTake stTake
  cases hs : isS s with
  | true =>
    obtain ⟨i, hi, rfl⟩ := isS_yes hs
    exact (take_yes i hi n h (hf i hi)).mono fun e w' ⟨he, h3, h4⟩ => ⟨he, vs, h3, h4⟩
  | false => exact (take_none _ s n (.inr (isS_no hs)) w).mono fun e w' ⟨he, hw⟩ => ⟨he, vs, by rw [hw]; exact h, by rw [hw]; exact Wrote.refl _ _ _⟩

end

/-- Two wires, in blocks a and b; all their blocks lie at B or behind it, none is both's, and all below B is as it was. -/
structure Two (B : Nat) (w0 w : World) (a : Nat) (fa : Nat → Wy) (b : Nat) (fb : Nat → Wy) : Prop where
  ex : ∃ va vb, Wir w a va fa ∧ Wir w b vb fb ∧ (∀ k, Foot a va k → B ≤ k) ∧ (∀ k, Foot b vb k → B ≤ k) ∧ ∀ k, Foot a va k → ¬ Foot b vb k
  below : Below B w0 w

section
variable {B : Nat} {w0 w w' : World} {a b : Nat} {fa fb fa' : Nat → Wy}

theorem Two.symm (h : Two B w0 w a fa b fb) : Two B w0 w b fb a fa := by
  obtain ⟨va, vb, h1, h2, h3, h4, h5⟩ := h.ex
  exact ⟨⟨vb, va, h2, h1, h4, h3, fun k k1 k2 => h5 k k2 k1⟩, h.below⟩

theorem Two.mx (h : Two B w0 w a fa b fb) : MX B w0 w a fa := by
  obtain ⟨va, vb, h1, h2, h3, h4, h5⟩ := h.ex
  exact ⟨⟨va, h1, h3⟩, h.below⟩

theorem Two.grow (h : Two B w0 w a fa b fb) (hb : Below w.heap.size w w') : Two B w0 w' a fa b fb := by
  have hlo := h.mx.lo
  obtain ⟨va, vb, h1, h2, h3, h4, h5⟩ := h.ex
  exact ⟨⟨va, vb, h1.grown hb, h2.grown hb, h3, h4, h5⟩, h.below.trans (hb.mono hlo)⟩
theorem Two.alloc (h : Two B w0 w a fa b fb) (o : Obj) : Two B w0 (w.alloc o) a fa b fb := h.grow ((Below.refl _ _).alloc (Nat.le_refl _) _)
theorem Two.drewN (h : Two B w0 w a fa b fb) (n : Nat) : Two B w0 (w.drewN n) a fa b fb := h.grow (below_drewN (Below.refl _ _) n)

/-- Calls on the first one. -/
theorem two_step {va va' vb : Nat → Value} (hB : B ≤ w.heap.size) (hbl : Below B w0 w) (h1 : Wir w a va fa) (h2 : Wir w b vb fb) (h3 : ∀ k, Foot a va k → B ≤ k) (h4 : ∀ k, Foot b vb k → B ≤ k) (h5 : ∀ k, Foot a va k → ¬ Foot b vb k)
    (k1 : Wir w' a va' fa') (k2 : Wrote a va w va' w') : Two B w0 w' a fa' b fb ∧ Keeps w w' := by
  refine ⟨⟨⟨va', vb, k1, h2.beside k2 (fun k e1 e2 => h5 k e2 e1), k2.own_from hB h3, h4, fun k e1 e2 => ?_⟩, hbl.trans (k2.below hB h3)⟩, h1.keeps k2⟩
  rcases k2.own k e1 with e | e
  · exact h5 k e e2
  · have := h2.foot_lt k e2; omega

set_option maxRecDepth 100000 in
theorem twoPush (h : Two B w0 w a fa b fb) (s : Int) (x : ByteArray) {N : Nat} (hf : Fits N fa) (hl : N + x.size ≤ 4398046511104) :
    Calls Try.prog 12 #[.pointer (some ⟨a, 0, none⟩), .int .i64 s, .string x] w fun e w' => e = .returned (.bool (isS s)) ∧ Two B w0 w' a (stPush fa s x) b fb ∧ Keeps w w' := by
  have hlo := h.mx.lo
  obtain ⟨va, vb, h1, h2, h3, h4, h5⟩ := h.ex
  exact (wirPush h1 s x hf hl).mono fun e w' ⟨he, v', k1, k2⟩ => ⟨he, two_step hlo h.below h1 h2 h3 h4 h5 k1 k2⟩
set_option maxRecDepth 100000 in
theorem twoPump (h : Two B w0 w a fa b fb) (s : Int) (hf : Fits 4398046511104 fa) :
    Calls Try.prog 14 #[.pointer (some ⟨a, 0, none⟩), .int .i64 s] w fun e w' => e = .returned (.int .i64 (anPump fa s : Nat)) ∧ Two B w0 w' a (stPump fa s) b fb ∧ Keeps w w' := by
  have hlo := h.mx.lo
  obtain ⟨va, vb, h1, h2, h3, h4, h5⟩ := h.ex
  exact (wirPump h1 s hf).mono fun e w' ⟨he, v', k1, k2⟩ => ⟨he, two_step hlo h.below h1 h2 h3 h4 h5 k1 k2⟩
set_option maxRecDepth 100000 in
theorem twoTake (h : Two B w0 w a fa b fb) (s n : Int) (hf : Fits 4398046511104 fa) :
    Calls Try.prog 16 #[.pointer (some ⟨a, 0, none⟩), .int .i64 s, .int .i64 n] w fun e w' => e = .returned (.string (anTake fa s n)) ∧ Two B w0 w' a (stTake fa s n) b fb ∧ Keeps w w' := by
  have hlo := h.mx.lo
  obtain ⟨va, vb, h1, h2, h3, h4, h5⟩ := h.ex
  exact (wirTake h1 s n hf).mono fun e w' ⟨he, v', k1, k2⟩ => ⟨he, two_step hlo h.below h1 h2 h3 h4 h5 k1 k2⟩
set_option maxRecDepth 100000 in
theorem twoCrash (h : Two B w0 w a fa b fb) :
    Calls Try.prog 17 #[.pointer (some ⟨a, 0, none⟩)] w fun e w' => e = .returned (.tuple #[]) ∧ Two B w0 w' a (cutF fa 3) b fb ∧ Keeps w w' := by
  have hlo := h.mx.lo
  obtain ⟨va, vb, h1, h2, h3, h4, h5⟩ := h.ex
  exact (crash_yes h1).mono fun e w' ⟨he, v', k1, k2⟩ => ⟨he, two_step hlo h.below h1 h2 h3 h4 h5 k1 k2⟩

end

theorem Two.new {B : Nat} {w0 w : World} (hb : Below B w0 w) (hB : B ≤ w.heap.size) :
    Two B w0 ((w.alloc (.cells #[.slice none 0 0, .int .i64 0, .int .i64 0, .slice none 0 0, .int .i64 0, .int .i64 0, .slice none 0 0, .int .i64 0, .int .i64 0] 48)).alloc
      (.cells #[.slice none 0 0, .int .i64 0, .int .i64 0, .slice none 0 0, .int .i64 0, .int .i64 0, .slice none 0 0, .int .i64 0, .int .i64 0] 48)) w.heap.size nones (w.heap.size + 1) nones := by
  have hf : ∀ b k, Foot b nils k → k = b := fun b k hk => by
    rcases hk with e | ⟨i, _, e⟩
    · exact e
    · simp [nils, Value.ownBlock] at e
  have h2 := Wir.new (w.alloc (.cells #[.slice none 0 0, .int .i64 0, .int .i64 0, .slice none 0 0, .int .i64 0, .int .i64 0, .slice none 0 0, .int .i64 0, .int .i64 0] 48))
  have hsz : (w.alloc (.cells #[.slice none 0 0, .int .i64 0, .int .i64 0, .slice none 0 0, .int .i64 0, .int .i64 0, .slice none 0 0, .int .i64 0, .int .i64 0] 48)).heap.size = w.heap.size + 1 := by simp
  rw [hsz] at h2
  refine ⟨⟨nils, nils, (Wir.new w).alloc _, h2, fun k hk => by have := hf _ _ hk; omega, fun k hk => by have := hf _ _ hk; omega, fun k h1 h2 => ?_⟩, (hb.alloc hB _).alloc (by rw [hsz]; omega) _⟩
  have e1 := hf _ _ h1
  have e2 := hf _ _ h2
  omega

/-- What a call of a script makes of a wire. -/
def stDo (c : Cl) (f : Nat → Wy) : Nat → Wy :=
  if c.kind = 0 then stPush f c.sock c.s else if c.kind = 1 then stPump f c.sock else if c.kind = 2 then stTake f c.sock c.n else if c.kind = 3 then cutF f 3 else f

theorem Fits.does {N : Nat} {f : Nat → Wy} (h : Fits N f) (c : Cl) : Fits (N + c.s.size) (stDo c f) := by
  unfold stDo
  split
  · exact h.push _ _
  split
  · exact (h.pump _).mono (by omega)
  split
  · exact (h.take _ _).mono (by omega)
  split
  · exact h.crash.mono (by omega)
  · exact h.mono (by omega)

/-- At one socket alike wires are alike behind the same call; and one at another socket plays no part. -/
theorem stDo_same {c : Cl} {s : Int} {fa fb : Nat → Wy} (hs : isS s = true) (h : fa s.toNat = fb s.toNat) : stDo c fa s.toNat = stDo c fb s.toNat := by
  unfold stDo
  by_cases hc : c.sock = s
  · rw [hc]
    split
    · rw [stPush_at hs, stPush_at hs, h]
    split
    · rw [stPump_at hs, stPump_at hs, h]
    split
    · rw [stTake_at hs, stTake_at hs, h]
    split
    · rw [cutF_toNat hs, cutF_toNat hs, h]
    · exact h
  · split
    · rw [stPush_far hs hc, stPush_far hs hc, h]
    split
    · rw [stPump_far hs hc, stPump_far hs hc, h]
    split
    · rw [stTake_far hs hc, stTake_far hs hc, h]
    split
    · rw [cutF_toNat hs, cutF_toNat hs, h]
    · exact h

theorem stDo_skip {c : Cl} {s : Int} {fa : Nat → Wy} (hs : isS s = true) (hc : c.sock ≠ s) (hk : c.kind < 3) : stDo c fa s.toNat = fa s.toNat := by
  unfold stDo
  split
  · rw [stPush_far hs hc]
  split
  · rw [stPump_far hs hc]
  split
  · rw [stTake_far hs hc]
  rw [if_neg (by omega)]

end Go.Proofs.Ytjiljencdhbchaa
