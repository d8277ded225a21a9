/-
  A vault in whatever row of images and loads; rows of numbers that came in.
-/
import Derived.ChangeSlices
import Derived.Test.YtcofiidibhmhgaaVFound
namespace Go.Proofs.Ytcofiidibhmhgaa
open Go.RowKit

set_option maxRecDepth 100000 in
theorem Try.cells3 : Try.prog.cellsOf 3 = 1 := by kernel_rfl

/-- A row of numbers that came in. -/
def IsInts (w : World) (a : Option Addr) (len : Nat) (zs : List Int) : Prop :=
  zs.length = len ∧ (zs = [] ∨ ∃ g off, a = some ⟨g, off, none⟩ ∧ g < w.heap.size ∧ ∀ j (h : j < zs.length), w.cell? ⟨g, off + j, none⟩ = some (.int .i64 zs[j]))

set_option maxRecDepth 100000 in
theorem open_nums {H : Type} {enc : TypeId × Value → H} {w : World} {a : Option Addr} {len cap fuel : Nat} {x : DataW H × List MemPlace}
    (h : DataW.trod enc Try.prog w 0 (fun _ => true) true fuel 40 [.slice a len cap] = some x) : ∃ zs, IsInts w a len zs := by
  rcases Go.ChangeShapes.open_ints Try.underlying40 Try.underlying3 Try.cells3 h with ⟨hcs, _⟩ | ⟨a', len', cap', zs, hcs, _, hl, hm, hzl, _, hx, _⟩
  · simp at hcs
    obtain ⟨rfl, rfl, rfl⟩ := hcs
    exact ⟨[], rfl, .inl rfl⟩
  · simp at hcs
    obtain ⟨rfl, rfl, rfl⟩ := hcs
    have hlm : len ≤ zs.length := by rw [hzl]; simpa using hl
    by_cases h0 : len = 0
    · exact ⟨[], h0.symm, .inl rfl⟩
    obtain ⟨g', off', e, hg⟩ := plain_of_cell (hx 0 (by omega))
    obtain ⟨g, off, rfl⟩ : ∃ g off, a' = ⟨g, off, none⟩ := by
      obtain ⟨g, off, sp⟩ := a'
      have hs := congrArg Addr.spot e
      unfold Addr.add at hs
      cases sp with
      | none => exact ⟨g, off, rfl⟩
      | some y => simp at hs
    rw [add_plain3] at e
    have hgg : g = g' := congrArg Addr.block e
    subst hgg
    refine ⟨zs.take len, by rw [List.length_take]; omega, .inr ⟨g, off, rfl, hg, fun j hj => ?_⟩⟩
    have hj' : j < len := by rw [List.length_take] at hj; omega
    have := hx j (by omega)
    rw [add_plain3] at this
    rw [this]
    simp [List.getD, List.getElem?_eq_getElem (show j < zs.length by omega)]

/-- A vault with so many images, the last one, and the loads behind it. -/
def KS (B : Nat) (w0 w : World) (vb b e : Nat) (im : ByteArray) (U : List ByteArray) : Prop :=
  (e = 0 ∧ im = ⟨#[]⟩ ∧ U = [] ∧ ∃ lb ob v tn tm, MV B w0 w vb lb ob b v false tn tm 0 false [] []) ∨ ∃ y, VS B w0 w vb b y e im [] U

/-- Such a vault's disk, all being forced. -/
def KE (B : Nat) (w0 w : World) (b e : Nat) (im : ByteArray) (U : List ByteArray) : Prop := ∃ v dn y, Mine B w0 w b v dn [] ∧ Fnd dn [] y e im U

section
variable {B : Nat} {w0 w w' : World} {vb b e : Nat} {im : ByteArray} {U : List ByteArray}

theorem KS.below (h : KS B w0 w vb b e im U) : Below B w0 w := by
  rcases h with ⟨_, _, _, lb, ob, v, tn, tm, mv⟩ | ⟨y, vs⟩
  · exact mv.d.below
  · exact vs.below
theorem KS.lo (h : KS B w0 w vb b e im U) : B ≤ w.heap.size := by
  rcases h with ⟨_, _, _, lb, ob, v, tn, tm, mv⟩ | ⟨y, vs⟩
  · exact mv.lo
  · exact vs.lo
theorem KS.grow (h : KS B w0 w vb b e im U) (hb : Below w.heap.size w w') : KS B w0 w' vb b e im U := by
  rcases h with ⟨h1, h2, h3, lb, ob, v, tn, tm, mv⟩ | ⟨y, vs⟩
  · exact .inl ⟨h1, h2, h3, lb, ob, v, tn, tm, mv.grow hb⟩
  · exact .inr ⟨y, vs.grow hb⟩
theorem KS.row {base n : Nat} {vr : Value} {xs : List Value} (h : KS B w0 w vb b e im U) (hr : w.ownsRow base 9 1 vr n xs) (hB : B ≤ base) (hg : w.grownBy w' vr.ownBlock) : KS B w0 w' vb b e im U := by
  rcases h with ⟨h1, h2, h3, lb, ob, v, tn, tm, mv⟩ | ⟨y, vs⟩
  · exact .inl ⟨h1, h2, h3, lb, ob, v, tn, tm, mv.row hr hB hg⟩
  · exact .inr ⟨y, vs.row hr hB hg⟩

set_option maxRecDepth 100000 in
theorem KS.settle (h : KS B w0 w vb b e im U) (s : ByteArray) (he : e < 1099511627776) (hlong : (imgB (e + 1) s).size ≤ 1024) (hn : U.length ≤ 1000) :
    Calls Try.prog 18 #[.pointer (some ⟨vb, 0, none⟩), .string s] w fun en w' => en = .returned (.int .i64 0) ∧ KS B w0 w' vb b (e + 1) s [] ∧ Keeps w w' := by
  rcases h with ⟨rfl, rfl, rfl, lb, ob, v, tn, tm, mv⟩ | ⟨y, vs⟩
  · exact (settle_vs mv s he hlong (by decide)).mono fun en w' ⟨h1, h2, h3⟩ => ⟨h1, .inr ⟨_, h2⟩, h3⟩
  · exact (vs.settle s he hlong hn).mono fun en w' ⟨h1, h2, h3⟩ => ⟨h1, .inr ⟨_, h2⟩, h3⟩
set_option maxRecDepth 100000 in
theorem KS.long (h : KS B w0 w vb b e im U) (s : ByteArray) (he : e < 1099511627776) (hs : s.size ≤ 1000000) (hlong : 1024 < (imgB (e + 1) s).size) :
    Calls Try.prog 18 #[.pointer (some ⟨vb, 0, none⟩), .string s] w fun en w' => en = .returned (.int .i64 3) ∧ KS B w0 w' vb b e im U ∧ Keeps w w' := by
  have h0 := h
  rcases h with ⟨rfl, rfl, rfl, lb, ob, v, tn, tm, mv⟩ | ⟨y, vs⟩
  · exact (settle_long mv.a s he (by omega) hlong).mono fun en w' ⟨h1, h2⟩ => ⟨h1, h0.grow h2, Keeps.below h2⟩
  · exact (vs.long s he hs hlong).mono fun en w' ⟨h1, h2, h3⟩ => ⟨h1, .inr ⟨_, h2⟩, h3⟩
set_option maxRecDepth 100000 in
theorem KS.epoch (h : KS B w0 w vb b e im U) : Calls Try.prog 15 #[.pointer (some ⟨vb, 0, none⟩)] w fun en w' => en = .returned (.int .i64 e) ∧ w' = w := by
  rcases h with ⟨rfl, rfl, rfl, lb, ob, v, tn, tm, mv⟩ | ⟨y, vs⟩
  · exact vEpoch_any mv.a
  · exact vs.epoch
set_option maxRecDepth 100000 in
theorem KS.stale (h : KS B w0 w vb b 0 im U) (s : ByteArray) : Calls Try.prog 17 #[.pointer (some ⟨vb, 0, none⟩), .string s] w fun en w' => en = .returned (.int .i64 9) ∧ w' = w := by
  rcases h with ⟨_, rfl, rfl, lb, ob, v, tn, tm, mv⟩ | ⟨y, vs⟩
  · exact vAppend_stale mv.a s
  · have := vs.e1
    omega
theorem KS.settled (h : KS B w0 w vb b e im U) (h1 : 1 ≤ e) : ∃ y, VS B w0 w vb b y e im [] U := by
  rcases h with ⟨rfl, _⟩ | h
  · omega
  · exact h
set_option maxRecDepth 100000 in
theorem KS.append (h : KS B w0 w vb b e im U) (h1 : 1 ≤ e) (t : ByteArray) (ht : t.size ≤ 1023) (hn : U.length ≤ 1000) (hroom : 7 * U.length + sumT U ≤ 12000) :
    Calls Try.prog 17 #[.pointer (some ⟨vb, 0, none⟩), .string t] w fun en w' => en = .returned (.int .i64 0) ∧ KS B w0 w' vb b e im (U ++ [t]) ∧ Keeps w w' := by
  obtain ⟨y, vs⟩ := h.settled h1
  exact (vs.append t ht hn (by rw [List.nil_append]; exact hroom)).mono fun en w' ⟨h1, h2, h3⟩ => ⟨h1, .inr ⟨_, h2⟩, h3⟩
set_option maxRecDepth 100000 in
theorem KS.tooLong (h : KS B w0 w vb b e im U) (h1 : 1 ≤ e) (t : ByteArray) (ht : 1023 < t.size) (ht2 : t.size ≤ 1000000) (hn : U.length ≤ 1000) :
    Calls Try.prog 17 #[.pointer (some ⟨vb, 0, none⟩), .string t] w fun en w' => en = .returned (.int .i64 3) ∧ KS B w0 w' vb b e im U ∧ Keeps w w' := by
  obtain ⟨y, vs⟩ := h.settled h1
  exact (vs.tooLong t ht ht2 hn).mono fun en w' ⟨h1, h2, h3⟩ => ⟨h1, .inr ⟨_, h2⟩, h3⟩
set_option maxRecDepth 100000 in
theorem KS.size (h : KS B w0 w vb b e im U) (h1 : 1 ≤ e) : Calls Try.prog 21 #[.pointer (some ⟨vb, 0, none⟩)] w fun en w' => en = .returned (.int .i64 (wholeN (imgs e im U) : Nat)) ∧ Below w.heap.size w w' := by
  obtain ⟨y, vs⟩ := h.settled h1
  exact vs.size
set_option maxRecDepth 100000 in
theorem KS.force (h : KS B w0 w vb b e im U) : Calls Try.prog 22 #[.pointer (some ⟨vb, 0, none⟩)] w fun en w' => en = .returned (.tuple #[]) ∧ KE B w0 w' b e im U ∧ Keeps w w' := by
  rcases h with ⟨rfl, rfl, rfl, lb, ob, v, tn, tm, mv⟩ | ⟨y, vs⟩
  · refine (vForce_any mv.a mv.l mv.d.has).mono ?_
    rintro en w' ⟨he, h1, hw⟩
    exact ⟨he, ⟨_, _, false, mv.d.step h1 hw, fnd_new⟩, Keeps.wrote mv.d.has hw⟩
  · refine vs.force.mono ?_
    rintro en w' ⟨he, vs2, hk⟩
    obtain ⟨lb, ob, v, dn, mv, hs⟩ := vs2.mv
    have hF := vs2.here hs
    rw [List.append_nil, List.nil_append] at hF
    exact ⟨he, ⟨v, dn, y, mv.d, hF⟩, hk⟩
set_option maxRecDepth 100000 in
theorem KE.crash (h : KE B w0 w b e im U) : Calls Try.prog 23 #[.pointer (some ⟨b, 0, none⟩), .int .i64 0, .int .i64 0] w fun en w' => en = .returned (.tuple #[]) ∧ KE B w0 w' b e im U ∧ Keeps w w' := by
  obtain ⟨v, dn, y, m, hF⟩ := h
  refine (crash_any m.has (by decide) 0 0).mono ?_
  rintro en w' ⟨he, h1, hw⟩
  have e0 : kept [] 0 0 = ([] : List Ch) := rfl
  rw [e0, List.append_nil] at h1
  exact ⟨he, ⟨_, dn, y, m.step h1 hw, hF⟩, Keeps.wrote m.has hw⟩
end

/-- How many bytes records have. -/
theorem rec_size {s : ByteArray} (h : s.size ≤ 1024) : (recOf s).size = s.size + 6 := by
  unfold recOf
  rw [str_size, recB_length (by rw [size_list]; omega), size_list]
theorem rec_none {s : ByteArray} (h : 1024 < s.size) : (recOf s).size = 0 := by
  unfold recOf
  rw [str_size]
  unfold recB
  rw [if_pos (by rw [size_list]; exact h)]
  rfl

theorem whole_take {e : Nat} {im : ByteArray} {U : List ByteArray} {j : Nat} {t : ByteArray} (hj : j < U.length) (ht : t = U[j]) : wholeN (imgs e im (U.take (j + 1))) = wholeN (imgs e im (U.take j)) + (t.size + 7) := by
  rw [List.take_succ_eq_append_getElem hj, imgs_append, wholeN_append, ← ht]
  simp [wholeN, ldB_size]
  omega

end Go.Proofs.Ytcofiidibhmhgaa
