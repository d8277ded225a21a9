/-
  A feed of the law's own: all its blocks are new ones; the calls on it, at every socket; the law's 'alive' and the document's 'Is'.
-/
import Derived.Test.YtmgimohnednlgaaEArrive
namespace Go.Proofs.Ytmgimohnednlgaa.Fee
open Go.RowKit Go.Proofs.Ytmgimohnednlgaa.Cel

/-- What the calls make of the sockets, and what they answer. -/
def fitS (f : Nat → Sk) (s : Int) (x : ByteArray) : Bool := decide ((f s.toNat).bs.length + x.size ≤ 64)
def stArr (f : Nat → Sk) (s : Int) (x : ByteArray) : Nat → Sk := if isS s && fitS f s x then upd f s.toNat ((f s.toNat).more x.data.toList) else f
def anArr (f : Nat → Sk) (s : Int) (x : ByteArray) : Int := if isS s then (if fitS f s x then 0 else 6) else 1
def anTake (f : Nat → Sk) (s p : Int) : Bool := isS s && okT (f s.toNat) p
def stTake (f : Nat → Sk) (s p v : Int) : Nat → Sk := if anTake f s p then upd f s.toNat ((f s.toNat).took p.toNat v) else f
def anText (f : Nat → Sk) (s : Int) : ByteArray := if isS s then (f s.toNat).text else ⟨#[]⟩
def anLeft (f : Nat → Sk) (s : Int) : ByteArray := if isS s then (f s.toNat).left else ⟨#[]⟩
def anPlace (f : Nat → Sk) (s : Int) : Int := if isS s then ((f s.toNat).place : Int) else 0
def anVer (f : Nat → Sk) (s : Int) : Int := if isS s then (f s.toNat).ver else 0
def anAt (f : Nat → Sk) (s p : Int) : Int := if isS s then (f s.toNat).byte p else -1

/-- The feed in block b has these sockets; its blocks lie at B or behind it, and all below B is as it was. -/
structure MF (B : Nat) (w0 w : World) (b : Nat) (f : Nat → Sk) : Prop where
  ex : ∃ A : Lie, A.b = b ∧ FeedAt w A f ∧ ∀ k, Foot A k → B ≤ k
  below : Below B w0 w

/-- All blocks but those of feeds, of rows of numbers, and of bytes are as they were. -/
def Keeps (w w' : World) : Prop := ∀ (k : Nat) (cs : Array Value) (t : TypeId) (m : Nat × Nat), w.heap[k]? = some (.cells cs t m) → t ≠ 50 → t ≠ 55 → t ≠ 57 → t ≠ 5 → w'.heap[k]? = some (.cells cs t m)

theorem Keeps.refl (w : World) : Keeps w w := fun _ _ _ _ h _ _ _ _ => h
theorem Keeps.trans {w w1 w2 : World} (h : Keeps w w1) (k : Keeps w1 w2) : Keeps w w2 := fun i cs t m h1 h2 h3 h4 h5 => k i cs t m (h i cs t m h1 h2 h3 h4 h5) h2 h3 h4 h5
theorem Keeps.of_below {w w' : World} (h : Below w.heap.size w w') : Keeps w w' := fun i _ _ _ h1 _ _ _ _ => (h.block i (Array.getElem?_eq_some_iff.1 h1).1).trans h1
theorem Keeps.drewN (w : World) (n : Nat) : Keeps w (w.drewN n) := .of_below (below_drewN (Below.refl _ _) n)

theorem FeedAt.keeps {w w' : World} {A A' : Lie} {f : Nat → Sk} (h : FeedAt w A f) (hw : Wrote A w A' w') : Keeps w w' := fun k cs t m h1 h2 h3 h4 h5 => by
  refine (hw.block k (Array.getElem?_eq_some_iff.1 h1).1 fun hf => ?_).trans h1
  rcases hf with e | e | e | ⟨i, hi, e⟩
  · rw [e, h.at_] at h1
    cases h1
    exact h2 rfl
  · rw [e, h.row.at_] at h1
    cases h1
    exact h3 rfl
  · rw [e, h.row.row] at h1
    cases h1
    exact h4 rfl
  · obtain ⟨cs2, m2, hg⟩ := own_at (h.owns i hi) e
    rw [hg] at h1
    cases h1
    exact h5 rfl

section
variable {B : Nat} {w0 w w' : World} {b : Nat} {f f' : Nat → Sk}

theorem MF.lo (h : MF B w0 w b f) : B ≤ w.heap.size := by
  obtain ⟨A, rfl, h1, h2⟩ := h.ex
  have := h1.lt
  have := h2 A.b (.inl rfl)
  omega

theorem MF.grow (h : MF B w0 w b f) (hb : Below w.heap.size w w') : MF B w0 w' b f := by
  obtain ⟨A, e, h1, h2⟩ := h.ex
  exact ⟨⟨A, e, h1.grown hb, h2⟩, h.below.trans (hb.mono h.lo)⟩

theorem MF.alloc (h : MF B w0 w b f) (o : Obj) : MF B w0 (w.alloc o) b f := h.grow ((Below.refl _ _).alloc (Nat.le_refl _) _)
theorem MF.drewN (h : MF B w0 w b f) (n : Nat) : MF B w0 (w.drewN n) b f := h.grow (below_drewN (Below.refl _ _) n)
theorem MF.good (h : MF B w0 w b f) : ∀ i, i < 3 → (f i).Good := by
  obtain ⟨A, _, h1, _⟩ := h.ex
  exact h1.good
theorem MF.blk (h : MF B w0 w b f) : B ≤ b ∧ b < w.heap.size := by
  obtain ⟨A, rfl, h1, h2⟩ := h.ex
  exact ⟨h2 _ (.inl rfl), h1.lt⟩

/-- Other blocks are others. -/
theorem MF.keepB (h : MF B w0 w b f) (hb : Below B w0 w') (hk : ∀ (k : Nat) (cs : Array Value) (t : TypeId) (m : Nat × Nat), w.heap[k]? = some (.cells cs t m) → t = 50 ∨ t = 55 ∨ t = 57 ∨ t = 5 → w'.heap[k]? = w.heap[k]?) : MF B w0 w' b f := by
  obtain ⟨A, e, h1, h2⟩ := h.ex
  refine ⟨⟨A, e, h1.keep fun k hf => ?_, h2⟩, hb⟩
  rcases hf with e | e | e | ⟨i, hi, e⟩
  · rw [e]; exact hk _ _ _ _ h1.at_ (.inl rfl)
  · rw [e]; exact hk _ _ _ _ h1.row.at_ (.inr (.inl rfl))
  · rw [e]; exact hk _ _ _ _ h1.row.row (.inr (.inr (.inl rfl)))
  · obtain ⟨cs2, m2, hg⟩ := own_at (h1.owns i hi) e
    exact hk _ _ _ _ hg (.inr (.inr (.inr rfl)))

set_option maxRecDepth 100000 in
theorem mfNew {w : World} (hb : Below B w0 w) (hB : B ≤ w.heap.size) :
    Calls Try.prog 7 #[] w fun e w' => e = .returned (.pointer (some ⟨w.heap.size + 2, 0, none⟩)) ∧ MF B w0 w' (w.heap.size + 2) nones ∧ Below w.heap.size w w' ∧ w.heap.size + 2 < w'.heap.size := by
  refine (new_any w).mono fun e w' ⟨he, hf, hw⟩ => ⟨he, ⟨⟨_, rfl, hf, fun k hk => ?_⟩, hb.trans (hw.mono hB)⟩, hw, hf.lt⟩
  rcases hk with e | e | e | ⟨i, _, e⟩
  · dsimp only at e; omega
  · dsimp only at e; omega
  · dsimp only at e; omega
  · simp [nils, Value.ownBlock] at e

set_option maxRecDepth 100000 in
theorem mfArr (h : MF B w0 w b f) (s : Int) (x : ByteArray) (hx : x.size ≤ 4398046511104) :
    Calls Try.prog 8 #[.pointer (some ⟨b, 0, none⟩), .int .i64 s, .string x] w fun e w' => e = .returned (.int .i64 (anArr f s x)) ∧ MF B w0 w' b (stArr f s x) ∧ Keeps w w' ∧ w.heap.size ≤ w'.heap.size := by
  unfold anArr stArr
  cases hs : isS s with
  | true =>
    obtain ⟨i, hi, rfl⟩ := isS_yes hs
    obtain ⟨A, rfl, h1, h2⟩ := h.ex
    cases hf : fitS f (i : Int) x with
    | true =>
      have hl : (f i).bs.length + x.size ≤ 64 := by simpa [fitS] using hf
      refine (arrive_yes i hi x h1 hl).mono fun e w' ⟨he, A', e', h3, h4⟩ => ⟨he, ⟨⟨A', e', h3, h4.own_from h.lo h2⟩, h.below.trans (h4.below h.lo h2)⟩, h1.keeps h4, h4.size⟩
    | false =>
      have hl : 64 < (f i).bs.length + x.size := by simpa [fitS] using hf
      exact (arrive_full i hi x h1 hl hx).mono fun e w' ⟨he, hw⟩ => ⟨he, by rw [hw]; exact h, by rw [hw]; exact Keeps.refl _, by rw [hw]; exact Nat.le_refl _⟩
  | false =>
    exact (arrive_no _ s (isS_no hs) x w).mono fun e w' ⟨he, hw⟩ => ⟨he, by rw [hw]; exact h, by rw [hw]; exact Keeps.refl _, by rw [hw]; exact Nat.le_refl _⟩

theorem okT_of {y : Sk} {p : Int} (h : okT y p = true) : ∃ n : Nat, p = (n : Int) ∧ y.place ≤ n ∧ n ≤ y.bs.length := by
  simp [okT] at h
  exact ⟨p.toNat, by omega, by omega, by omega⟩
theorem okT_not {y : Sk} {p : Int} (h : okT y p = false) : ¬ ((y.place : Int) ≤ p ∧ p ≤ (y.bs.length : Int)) := fun e => by
  simp [okT] at h
  omega

set_option maxRecDepth 100000 in
theorem mfTake (h : MF B w0 w b f) (s p v : Int) :
    Calls Try.prog 10 #[.pointer (some ⟨b, 0, none⟩), .int .i64 s, .int .i64 p, .int .i64 v] w fun e w' => e = .returned (.bool (anTake f s p)) ∧ MF B w0 w' b (stTake f s p v) ∧ Keeps w w' ∧ w.heap.size ≤ w'.heap.size := by
  obtain ⟨A, rfl, h1, h2⟩ := h.ex
  unfold stTake anTake
  cases hs : isS s with
  | true =>
    obtain ⟨i, hi, rfl⟩ := isS_yes hs
    cases hf : okT (f (i : Int).toNat) p with
    | true =>
      obtain ⟨n, rfl, q1, q2⟩ := okT_of hf
      refine (take_yes i hi n v h1 q1 q2).mono fun e w' ⟨he, h3, h4⟩ => ⟨he, ⟨⟨A, rfl, h3, h4.own_from h.lo h2⟩, h.below.trans (h4.below h.lo h2)⟩, h1.keeps h4, h4.size⟩
    | false =>
      refine (take_bad i hi p v h1 (okT_not hf)).mono fun e w' ⟨he, n, hw⟩ => ⟨he, by rw [hw]; exact h.drewN n, by rw [hw]; exact Keeps.drewN _ _, by rw [hw]; simp⟩
  | false =>
    exact (take_no s (isS_no hs) p v h1).mono fun e w' ⟨he, hw⟩ => ⟨he, by rw [hw]; exact h, by rw [hw]; exact Keeps.refl _, by rw [hw]; exact Nat.le_refl _⟩

set_option maxRecDepth 100000 in
theorem mfText (h : MF B w0 w b f) (s : Int) :
    Calls Try.prog 13 #[.pointer (some ⟨b, 0, none⟩), .int .i64 s] w fun e w' => e = .returned (.string (anText f s)) ∧ ∃ n, w' = w.drewN n := by
  obtain ⟨A, rfl, h1, h2⟩ := h.ex
  unfold anText
  cases hs : isS s with
  | true =>
    obtain ⟨i, hi, rfl⟩ := isS_yes hs
    exact (text_yes i hi h1).mono fun e w' ⟨he, hw⟩ => ⟨he, 0, hw⟩
  | false => exact (text_no _ s (isS_no hs) w).mono fun e w' ⟨he, hw⟩ => ⟨he, 0, hw⟩

set_option maxRecDepth 100000 in
theorem mfLeft (h : MF B w0 w b f) (s : Int) :
    Calls Try.prog 14 #[.pointer (some ⟨b, 0, none⟩), .int .i64 s] w fun e w' => e = .returned (.string (anLeft f s)) ∧ ∃ n, w' = w.drewN n := by
  obtain ⟨A, rfl, h1, h2⟩ := h.ex
  unfold anLeft
  cases hs : isS s with
  | true =>
    obtain ⟨i, hi, rfl⟩ := isS_yes hs
    exact left_yes i hi h1
  | false => exact (left_no s (isS_no hs) h1).mono fun e w' ⟨he, hw⟩ => ⟨he, 0, hw⟩

set_option maxRecDepth 100000 in
theorem mfPlace (h : MF B w0 w b f) (s : Int) :
    Calls Try.prog 16 #[.pointer (some ⟨b, 0, none⟩), .int .i64 s] w fun e w' => e = .returned (.tuple #[.int .i64 (anPlace f s), .int .i64 (anVer f s)]) ∧ ∃ n, w' = w.drewN n := by
  obtain ⟨A, rfl, h1, h2⟩ := h.ex
  unfold anPlace anVer
  cases hs : isS s with
  | true =>
    obtain ⟨i, hi, rfl⟩ := isS_yes hs
    exact place_yes i hi h1
  | false => exact (place_no s (isS_no hs) h1).mono fun e w' ⟨he, hw⟩ => ⟨he, 0, hw⟩

set_option maxRecDepth 100000 in
theorem mfAt (h : MF B w0 w b f) (s p : Int) :
    Calls Try.prog 15 #[.pointer (some ⟨b, 0, none⟩), .int .i64 s, .int .i64 p] w fun e w' => e = .returned (.int .i64 (anAt f s p)) ∧ ∃ n, w' = w.drewN n := by
  obtain ⟨A, rfl, h1, h2⟩ := h.ex
  unfold anAt
  cases hs : isS s with
  | true =>
    obtain ⟨i, hi, rfl⟩ := isS_yes hs
    exact (at_yes i hi p h1).mono fun e w' ⟨he, hw⟩ => ⟨he, 0, hw⟩
  | false => exact (at_no _ s (isS_no hs) p w).mono fun e w' ⟨he, hw⟩ => ⟨he, 0, hw⟩

end

set_option maxHeartbeats 400000 in
set_option maxRecDepth 100000 in
theorem is_any (s : Int) (w : World) :
    Calls Try.prog 12 #[.int .i64 s] w fun e w' => e = .returned (.bool (isS s)) ∧ w' = w := by
  cases hs : isS s with
  | true =>
    simp [isS] at hs
    have h0 : (0 : Int) ≤ s := by omega
    have h1 : s ≤ 2 := by omega
    clear hs
    go_enter Try.func12, Try.ntmps12
    go_wp2
    go_ret
    exact ⟨rfl, rfl⟩
  | false =>
    simp [isS] at hs
    by_cases h0 : (0 : Int) ≤ s
    · have h1 : ¬ s ≤ 2 := by omega
      clear hs
      go_enter Try.func12, Try.ntmps12
      go_wp2
      go_ret
      exact ⟨rfl, rfl⟩
    · clear hs
      go_enter Try.func12, Try.ntmps12
      go_wp2
      go_ret
      exact ⟨rfl, rfl⟩

def ab : ByteArray := ⟨#[97, 98]⟩

set_option maxHeartbeats 800000 in
set_option maxRecDepth 100000 in
theorem alive_any (w : World) :
    Calls Try.prog 6 #[] w fun e w' => e = .returned (.bool true) ∧ Below w.heap.size w w' := by
  obtain ⟨f1, hf1⟩ : ∃ f1, f1 = stArr nones 0 ab := ⟨_, rfl⟩
  obtain ⟨f2, hf2⟩ : ∃ f2, f2 = stTake f1 0 1 5 := ⟨_, rfl⟩
  have a1 : anArr nones 0 ab = 0 := by decide
  have a2 : anTake f1 0 1 = true := by rw [hf1]; decide
  have a3 : anLeft f2 0 = ⟨#[98]⟩ := by rw [hf2, hf1]; decide
  have a4 : anAt f2 0 0 = 97 := by rw [hf2, hf1]; decide
  have H1 := Hid.mk hf1
  have H2 := Hid.mk hf2
  have A1 := Hid.mk a1
  have A2 := Hid.mk a2
  have A3 := Hid.mk a3
  have A4 := Hid.mk a4
  clear hf1 hf2 a1 a2 a3 a4
  go_enter Try.func6, Try.ntmps6
  go_wp2_with fail
  refine (mfNew (Below.refl w.heap.size w) (Nat.le_refl _)).mono ?_
  rintro e w1 ⟨rfl, h0, _, _⟩
  obtain ⟨b, hb⟩ : ∃ b, b = w.heap.size + 2 := ⟨_, rfl⟩
  rw [← hb] at h0
  rw [← hb]
  clear hb
  go_wp2_with fail
  refine (mfArr h0 0 ab (by decide)).mono ?_
  rintro e w2 ⟨rfl, h1, _, _⟩
  rw [← H1.out] at h1
  rw [A1.out]
  clear h0
  go_wp2_with fail
  refine (mfTake h1 0 1 5).mono ?_
  rintro e w3 ⟨rfl, h2, _, _⟩
  rw [← H2.out] at h2
  rw [A2.out]
  clear h1
  go_wp2_with fail
  refine (mfLeft h2 0).mono ?_
  rintro e w4 ⟨rfl, n4, hw4⟩
  rw [A3.out]
  have h4 := h2.drewN n4
  rw [← hw4] at h4
  clear hw4 h2
  go_wp2_with fail
  refine (mfAt h4 0 0).mono ?_
  rintro e w5 ⟨rfl, n5, hw5⟩
  rw [A4.out]
  have hbl : Below w.heap.size w w5 := by rw [hw5]; exact (h4.drewN n5).below
  clear hw5 h4
  go_wp2
  go_ret
  exact ⟨rfl, hbl⟩

end Go.Proofs.Ytmgimohnednlgaa.Fee
