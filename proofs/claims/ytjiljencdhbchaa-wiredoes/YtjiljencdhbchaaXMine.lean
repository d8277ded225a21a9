/-
  A wire of the law's own: all its blocks are new ones; the calls on it, at every socket; the law's 'alive' and the document's 'Is'.
-/
import Derived.Test.YtjiljencdhbchaaXCrash
namespace Go.Proofs.Ytjiljencdhbchaa
open Go.RowKit

/-- Is there such a socket? -/
def isS (s : Int) : Bool := decide (0 ≤ s) && decide (s ≤ 2)

theorem isS_yes {s : Int} (h : isS s = true) : ∃ i : Nat, i < 3 ∧ s = (i : Int) := by
  simp [isS] at h
  exact ⟨s.toNat, by omega, by omega⟩
theorem isS_no {s : Int} (h : isS s = false) : Not3 s := by
  simp [isS] at h
  unfold Not3
  omega
theorem isS_of {i : Nat} (h : i < 3) : isS (i : Int) = true := by simp [isS]; omega

/-- What the calls make of the ways. -/
def stPush (f : Nat → Wy) (s : Int) (x : ByteArray) : Nat → Wy := if isS s then upd f s.toNat ((f s.toNat).push x.data.toList) else f
def stPump (f : Nat → Wy) (s : Int) : Nat → Wy := if isS s then upd f s.toNat (f s.toNat).pump else f
def stTake (f : Nat → Wy) (s n : Int) : Nat → Wy := if isS s then upd f s.toNat ((f s.toNat).take n) else f
/-- What they answer. -/
def anPump (f : Nat → Wy) (s : Int) : Nat := if isS s then (f s.toNat).pump.gone - (f s.toNat).gone else 0
def anTake (f : Nat → Wy) (s n : Int) : ByteArray := if isS s then (f s.toNat).part (f s.toNat).came ((f s.toNat).take n).came else ⟨#[]⟩
def anTrace (f : Nat → Wy) (s : Int) : ByteArray := if isS s then (f s.toNat).trace else ⟨#[]⟩
def anAll (f : Nat → Wy) (s : Int) : ByteArray := if isS s then (f s.toNat).all else ⟨#[]⟩
def anLeft (f : Nat → Wy) (s : Int) : Nat := if isS s then (f s.toNat).bs.length - (f s.toNat).came else 0

/-- No way has more bytes than so many. -/
def Fits (N : Nat) (f : Nat → Wy) : Prop := ∀ i, i < 3 → (f i).bs.length ≤ N

theorem Fits.mono {N M : Nat} {f : Nat → Wy} (h : Fits N f) (hm : N ≤ M) : Fits M f := fun i hi => Nat.le_trans (h i hi) hm
theorem Fits.upd {N : Nat} {f : Nat → Wy} (h : Fits N f) (i : Nat) {y : Wy} (hy : y.bs.length ≤ N) : Fits N (upd f i y) := fun j hj => by
  unfold Go.Proofs.Ytjiljencdhbchaa.upd
  split
  · exact hy
  · exact h j hj
theorem Fits.push {N : Nat} {f : Nat → Wy} (h : Fits N f) (s : Int) (x : ByteArray) : Fits (N + x.size) (stPush f s x) := by
  unfold stPush
  split
  · next hs =>
    obtain ⟨i, hi, rfl⟩ := isS_yes hs
    refine (h.mono (by omega)).upd _ ?_
    have := h i hi
    simp [Wy.push]
    omega
  · exact h.mono (by omega)
theorem Fits.pump {N : Nat} {f : Nat → Wy} (h : Fits N f) (s : Int) : Fits N (stPump f s) := by
  unfold stPump
  split
  · next hs =>
    obtain ⟨i, hi, rfl⟩ := isS_yes hs
    exact h.upd _ (h i hi)
  · exact h
theorem Fits.take {N : Nat} {f : Nat → Wy} (h : Fits N f) (s n : Int) : Fits N (stTake f s n) := by
  unfold stTake
  split
  · next hs =>
    obtain ⟨i, hi, rfl⟩ := isS_yes hs
    exact h.upd _ (h i hi)
  · exact h
theorem Fits.crash {N : Nat} {f : Nat → Wy} (h : Fits N f) : Fits N (cutF f 3) := fun i hi => by
  have := h i hi
  unfold cutF
  rw [if_pos hi]
  simp [Wy.crash]
  omega
theorem Fits.nones (N : Nat) : Fits N nones := fun _ _ => Nat.zero_le _

/-- The wire in block b has these ways; its blocks lie at B or behind it, and all below B is as it was. -/
structure MX (B : Nat) (w0 w : World) (b : Nat) (f : Nat → Wy) : Prop where
  ex : ∃ vs, Wir w b vs f ∧ ∀ k, Foot b vs k → B ≤ k
  below : Below B w0 w

/-- All blocks but those of wires and of bytes are as they were. -/
def Keeps (w w' : World) : Prop := ∀ (k : Nat) (cs : Array Value) (t : TypeId) (m : Nat × Nat), w.heap[k]? = some (.cells cs t m) → t ≠ 48 → t ≠ 5 → w'.heap[k]? = some (.cells cs t m)

theorem Keeps.refl (w : World) : Keeps w w := fun _ _ _ _ h _ _ => h
theorem Keeps.trans {w w1 w2 : World} (h : Keeps w w1) (k : Keeps w1 w2) : Keeps w w2 := fun i cs t m h1 h2 h3 => k i cs t m (h i cs t m h1 h2 h3) h2 h3
theorem Keeps.of_below {w w' : World} (h : Below w.heap.size w w') : Keeps w w' := fun i _ _ _ h1 _ _ => (h.block i (Array.getElem?_eq_some_iff.1 h1).1).trans h1

theorem Wir.keeps {w w' : World} {b : Nat} {vs vs' : Nat → Value} {f : Nat → Wy} (h : Wir w b vs f) (hw : Wrote b vs w vs' w') : Keeps w w' := fun k cs t m h1 h2 h3 => by
  refine (hw.block k (Array.getElem?_eq_some_iff.1 h1).1 fun hf => ?_).trans h1
  rcases hf with e | ⟨i, hi, e⟩
  · rw [e, h.at_] at h1
    cases h1
    exact h2 rfl
  · rcases (h.owns i hi).2 with ⟨e1, _⟩ | ⟨g, cap, cur, e1, _, hg, _⟩
    · rw [e1] at e; cases e
    · rw [e1] at e
      cases e
      rw [hg] at h1
      cases h1
      exact h3 rfl

section
variable {B : Nat} {w0 w w' : World} {b : Nat} {f f' : Nat → Wy}

theorem MX.lo (h : MX B w0 w b f) : B ≤ w.heap.size := by
  obtain ⟨vs, h1, h2⟩ := h.ex
  have := h1.lt
  have := h2 b (.inl rfl)
  omega

theorem MX.step {vs vs' : Nat → Value} (h : MX B w0 w b f) (hf : ∀ k, Foot b vs k → B ≤ k) (h1 : Wir w' b vs' f') (hw : Wrote b vs w vs' w') : MX B w0 w' b f' :=
  ⟨⟨vs', h1, hw.own_from h.lo hf⟩, h.below.trans (hw.below h.lo hf)⟩

theorem MX.grow (h : MX B w0 w b f) (hb : Below w.heap.size w w') : MX B w0 w' b f := by
  obtain ⟨vs, h1, h2⟩ := h.ex
  exact ⟨⟨vs, h1.grown hb, h2⟩, h.below.trans (hb.mono h.lo)⟩

theorem MX.alloc (h : MX B w0 w b f) (o : Obj) : MX B w0 (w.alloc o) b f := h.grow ((Below.refl _ _).alloc (Nat.le_refl _) _)
theorem MX.drewN (h : MX B w0 w b f) (n : Nat) : MX B w0 (w.drewN n) b f := h.grow (below_drewN (Below.refl _ _) n)
theorem MX.good (h : MX B w0 w b f) : ∀ i, i < 3 → (f i).Good := by
  obtain ⟨vs, h1, h2⟩ := h.ex
  exact h1.good

theorem MX.new {w : World} (hb : Below B w0 w) (hB : B ≤ w.heap.size) :
    MX B w0 (w.alloc (.cells #[.slice none 0 0, .int .i64 0, .int .i64 0, .slice none 0 0, .int .i64 0, .int .i64 0, .slice none 0 0, .int .i64 0, .int .i64 0] 48)) w.heap.size nones := by
  refine ⟨⟨nils, Wir.new w, fun k hk => ?_⟩, hb.alloc hB _⟩
  rcases hk with e | ⟨i, _, e⟩
  · omega
  · simp [nils, Value.ownBlock] at e

set_option maxRecDepth 100000 in
theorem mxPush (h : MX B w0 w b f) (s : Int) (x : ByteArray) {N : Nat} (hf : Fits N f) (hl : N + x.size ≤ 4398046511104) :
    Calls Try.prog 12 #[.pointer (some ⟨b, 0, none⟩), .int .i64 s, .string x] w fun e w' => e = .returned (.bool (isS s)) ∧ MX B w0 w' b (stPush f s x) ∧ Keeps w w' := by
  cases hs : isS s with
  | true =>
    obtain ⟨i, hi, rfl⟩ := isS_yes hs
    obtain ⟨vs, h1, h2⟩ := h.ex
    refine (push_yes i hi x h1 (by have := hf i hi; omega)).mono fun e w' ⟨he, vs', h3, h4⟩ => ⟨he, ?_, h1.keeps h4⟩
    unfold stPush
    rw [hs]
    exact h.step h2 h3 h4
  | false =>
    refine (push_none _ s x (.inr (isS_no hs)) w).mono fun e w' ⟨he, hw⟩ => ⟨he, ?_, by rw [hw]; exact Keeps.refl _⟩
    unfold stPush
    rw [hs, hw]
    exact h

set_option maxRecDepth 100000 in
theorem mxPump (h : MX B w0 w b f) (s : Int) (hf : Fits 4398046511104 f) :
    Calls Try.prog 14 #[.pointer (some ⟨b, 0, none⟩), .int .i64 s] w fun e w' => e = .returned (.int .i64 (anPump f s : Nat)) ∧ MX B w0 w' b (stPump f s) ∧ Keeps w w' := by
  cases hs : isS s with
  | true =>
    obtain ⟨i, hi, rfl⟩ := isS_yes hs
    obtain ⟨vs, h1, h2⟩ := h.ex
    refine (pump_yes i hi h1 (hf i hi)).mono fun e w' ⟨he, h3, h4⟩ => ⟨?_, ?_, h1.keeps h4⟩
    · unfold anPump; rw [hs]; exact he
    · unfold stPump
      rw [hs]
      exact h.step h2 h3 h4
  | false =>
    refine (pump_none _ s (.inr (isS_no hs)) w).mono fun e w' ⟨he, hw⟩ => ⟨?_, ?_, by rw [hw]; exact Keeps.refl _⟩
    · unfold anPump; rw [hs]; exact he
    · unfold stPump
      rw [hs, hw]
      exact h

set_option maxRecDepth 100000 in
theorem mxTake (h : MX B w0 w b f) (s n : Int) (hf : Fits 4398046511104 f) :
    Calls Try.prog 16 #[.pointer (some ⟨b, 0, none⟩), .int .i64 s, .int .i64 n] w fun e w' => e = .returned (.string (anTake f s n)) ∧ MX B w0 w' b (stTake f s n) ∧ Keeps w w' := by
  cases hs : isS s with
  | true =>
    obtain ⟨i, hi, rfl⟩ := isS_yes hs
    obtain ⟨vs, h1, h2⟩ := h.ex
    refine (take_yes i hi n h1 (hf i hi)).mono fun e w' ⟨he, h3, h4⟩ => ⟨?_, ?_, h1.keeps h4⟩
    · unfold anTake; rw [hs]; exact he
    · unfold stTake
      rw [hs]
      exact h.step h2 h3 h4
  | false =>
    refine (take_none _ s n (.inr (isS_no hs)) w).mono fun e w' ⟨he, hw⟩ => ⟨?_, ?_, by rw [hw]; exact Keeps.refl _⟩
    · unfold anTake; rw [hs]; exact he
    · unfold stTake
      rw [hs, hw]
      exact h

set_option maxRecDepth 100000 in
theorem mxCrash (h : MX B w0 w b f) :
    Calls Try.prog 17 #[.pointer (some ⟨b, 0, none⟩)] w fun e w' => e = .returned (.tuple #[]) ∧ MX B w0 w' b (cutF f 3) ∧ Keeps w w' := by
  obtain ⟨vs, h1, h2⟩ := h.ex
  exact (crash_yes h1).mono fun e w' ⟨he, vs', h3, h4⟩ => ⟨he, h.step h2 h3 h4, h1.keeps h4⟩

set_option maxRecDepth 100000 in
theorem mxTrace (h : MX B w0 w b f) (s : Int) :
    Calls Try.prog 19 #[.pointer (some ⟨b, 0, none⟩), .int .i64 s] w fun e w' => e = .returned (.string (anTrace f s)) ∧ ∃ n, w' = w.drewN n := by
  unfold anTrace
  cases hs : isS s with
  | true =>
    obtain ⟨i, hi, rfl⟩ := isS_yes hs
    obtain ⟨vs, h1, h2⟩ := h.ex
    exact trace_yes i hi h1
  | false => exact (trace_none _ s (.inr (isS_no hs)) w).mono fun e w' ⟨he, hw⟩ => ⟨he, 0, hw⟩

set_option maxRecDepth 100000 in
theorem mxAll (h : MX B w0 w b f) (s : Int) :
    Calls Try.prog 20 #[.pointer (some ⟨b, 0, none⟩), .int .i64 s] w fun e w' => e = .returned (.string (anAll f s)) ∧ ∃ n, w' = w.drewN n := by
  unfold anAll
  cases hs : isS s with
  | true =>
    obtain ⟨i, hi, rfl⟩ := isS_yes hs
    obtain ⟨vs, h1, h2⟩ := h.ex
    exact (all_yes i hi h1).mono fun e w' ⟨he, hw⟩ => ⟨he, 0, hw⟩
  | false => exact (all_none _ s (.inr (isS_no hs)) w).mono fun e w' ⟨he, hw⟩ => ⟨he, 0, hw⟩

set_option maxRecDepth 100000 in
theorem mxLeft (h : MX B w0 w b f) (s : Int) :
    Calls Try.prog 21 #[.pointer (some ⟨b, 0, none⟩), .int .i64 s] w fun e w' => e = .returned (.int .i64 (anLeft f s : Nat)) ∧ ∃ n, w' = w.drewN n := by
  unfold anLeft
  cases hs : isS s with
  | true =>
    obtain ⟨i, hi, rfl⟩ := isS_yes hs
    obtain ⟨vs, h1, h2⟩ := h.ex
    exact left_yes i hi h1
  | false => exact (left_none _ s (.inr (isS_no hs)) w).mono fun e w' ⟨he, hw⟩ => ⟨he, 0, hw⟩

end

set_option maxHeartbeats 400000 in
set_option maxRecDepth 100000 in
theorem is_any (s : Int) (w : World) :
    Calls Try.prog 11 #[.int .i64 s] w fun e w' => e = .returned (.bool (isS s)) ∧ w' = w := by
  cases hs : isS s with
  | true =>
    simp [isS] at hs
    have h0 : (0 : Int) ≤ s := by omega
    have h1 : s ≤ 2 := by omega
    clear hs
    go_enter Try.func11, Try.ntmps11
    go_wp2
    go_ret
    exact ⟨rfl, rfl⟩
  | false =>
    simp [isS] at hs
    by_cases h0 : (0 : Int) ≤ s
    · have h1 : ¬ s ≤ 2 := by omega
      clear hs
      go_enter Try.func11, Try.ntmps11
      go_wp2
      go_ret
      exact ⟨rfl, rfl⟩
    · clear hs
      go_enter Try.func11, Try.ntmps11
      go_wp2
      go_ret
      exact ⟨rfl, rfl⟩

def digits : ByteArray := ⟨#[48, 49, 50, 51, 52, 53, 54, 55, 56, 57]⟩

set_option maxHeartbeats 800000 in
set_option maxRecDepth 100000 in
theorem alive_any (w : World) :
    Calls Try.prog 8 #[] w fun e w' => e = .returned (.bool true) ∧ Below w.heap.size w w' := by
  obtain ⟨f1, hf1⟩ : ∃ f1, f1 = stPush nones 0 digits := ⟨_, rfl⟩
  obtain ⟨f2, hf2⟩ : ∃ f2, f2 = stPump f1 0 := ⟨_, rfl⟩
  obtain ⟨f3, hf3⟩ : ∃ f3, f3 = stTake f2 0 3 := ⟨_, rfl⟩
  have a1 : anPump f1 0 = 8 := by rw [hf1]; decide
  have a2 : anTake f2 0 3 = ⟨#[48, 49, 50]⟩ := by rw [hf2, hf1]; decide
  have a3 : anLeft f3 0 = 7 := by rw [hf3, hf2, hf1]; decide
  have k1 : Fits 10 f1 := by rw [hf1]; exact (Fits.nones 0).push 0 digits
  have k2 : Fits 10 f2 := by rw [hf2]; exact k1.pump 0
  have H1 := Hid.mk hf1
  have H2 := Hid.mk hf2
  have H3 := Hid.mk hf3
  have A1 := Hid.mk a1
  have A2 := Hid.mk a2
  have A3 := Hid.mk a3
  clear hf1 hf2 hf3 a1 a2 a3
  have h0 := MX.new (Below.refl w.heap.size w) (Nat.le_refl _)
  go_enter Try.func8, Try.ntmps8
  go_wp2_with fail
  refine (new_any w).mono ?_
  rintro e w1 ⟨rfl, hw1⟩
  rw [← hw1] at h0
  clear hw1
  go_wp2_with fail
  refine (mxPush h0 0 digits (Fits.nones 0) (by decide)).mono ?_
  rintro e w2 ⟨rfl, h1, _⟩
  have b1 : isS 0 = true := by decide
  rw [← H1.out] at h1
  rw [b1]
  clear b1 h0
  go_wp2_with fail
  refine (mxPump h1 0 (k1.mono (by decide))).mono ?_
  rintro e w3 ⟨rfl, h2, _⟩
  rw [← H2.out] at h2
  rw [A1.out]
  clear h1
  go_wp2_with fail
  refine (mxTake h2 0 3 (k2.mono (by decide))).mono ?_
  rintro e w4 ⟨rfl, h3, _⟩
  rw [← H3.out] at h3
  rw [A2.out]
  clear h2
  go_wp2_with fail
  refine (mxLeft h3 0).mono ?_
  rintro e w5 ⟨rfl, n, hw5⟩
  rw [A3.out]
  have hb : Below w.heap.size w w5 := by rw [hw5]; exact (h3.drewN n).below
  clear hw5 h3
  go_wp2
  go_ret
  exact ⟨rfl, hb⟩

end Go.Proofs.Ytjiljencdhbchaa
