/-
  Lists of things, and of steps, that came in; 'alive' and 'great'.
-/
import Derived.Test.YtafpfioonbdgnaaNRefN
import Derived.Laws.AppendOwnNone
namespace Go.Proofs.Ytafpfioonbdgnaa.Rds
open Go.ChangeShapes Go.WideShapes Go.ChangeAt Go.RowKit Go.Shelf Go.Deep Go.Proofs.Ytafpfioonbdgnaa.Cel Go.Proofs.Ytafpfioonbdgnaa.Rng

/-- A step: a kind, an index, and whether it is a change. -/
abbrev Sp := Int × Int × Bool

/-- Things lie there. -/
structure ThsAt (w : World) (g off : Nat) (xs : List Th) : Prop where
  lt : g < w.heap.size
  k : ∀ j (_ : j < xs.length), w.cell? ⟨g, off + j * 2, none⟩ = some (.int .i64 xs[j]!.1)
  i : ∀ j (_ : j < xs.length), w.cell? ⟨g, off + j * 2 + 1, none⟩ = some (.int .i64 xs[j]!.2)

theorem ThsAt.carry {w w' : World} {g off : Nat} {xs : List Th} (h : ThsAt w g off xs) (hb : w'.heap[g]? = w.heap[g]?) (hs : w.heap.size ≤ w'.heap.size) : ThsAt w' g off xs :=
  ⟨Nat.lt_of_lt_of_le h.lt hs, fun j q => (World.cell?_of_block (w := w) hb).trans (h.k j q), fun j q => (World.cell?_of_block (w := w) hb).trans (h.i j q)⟩

/-- What is told of a list of things that came in. -/
def IsThs (w : World) (a : Option Addr) (len cap : Nat) (xs : List Th) : Prop :=
  xs.length = len ∧ len ≤ cap ∧ (xs = [] ∧ (a = none → cap = 0) ∨ ∃ g off, a = some ⟨g, off, none⟩ ∧ ThsAt w g off xs)

theorem IsThs.carry {w w' : World} {a : Option Addr} {len cap : Nat} {xs : List Th} (h : IsThs w a len cap xs) (hb : Below w.heap.size w w') : IsThs w' a len cap xs := by
  obtain ⟨hl, hc, ⟨rfl, hn⟩ | ⟨g, off, rfl, hat⟩⟩ := h
  · exact ⟨hl, hc, .inl ⟨rfl, hn⟩⟩
  · exact ⟨hl, hc, .inr ⟨g, off, rfl, hat.carry (hb.block g hat.lt) hb.size⟩⟩

theorem IsThs.at_ {w : World} {a : Option Addr} {len cap : Nat} {xs : List Th} (h : IsThs w a len cap xs) (hl : 0 < len) : ∃ g off, a = some ⟨g, off, none⟩ ∧ ThsAt w g off xs := by
  obtain ⟨hl2, _, ⟨rfl, _⟩ | ⟨g, off, e, hat⟩⟩ := h
  · simp at hl2; omega
  · exact ⟨g, off, e, hat⟩

theorem IsThs.none (w : World) : IsThs w none 0 0 [] := ⟨rfl, Nat.le_refl _, .inl ⟨rfl, fun _ => rfl⟩⟩

/-- Their cells, as a row that can be appended. -/
theorem ThsAt.news {w : World} {g off : Nat} {xs : List Th} (h : ThsAt w g off xs) : ∀ j u, (thC xs)[j]? = some u → w.cell? ((⟨g, off, none⟩ : Addr).add j) = some u := by
  intro j u hu
  have hj : j < xs.length * 2 := by have := (List.getElem?_eq_some_iff.1 hu).1; rw [thC_length] at this; exact this
  obtain ⟨e0, e1⟩ := thC_get xs (j / 2) (by omega)
  rw [Cel.add_plain]
  by_cases hp : j % 2 = 0
  · have ej : j = j / 2 * 2 := by omega
    rw [← ej] at e0
    rw [e0] at hu
    injection hu with hu
    rw [← hu, show off + j = off + j / 2 * 2 by omega]
    exact h.k _ (by omega)
  · have ej : j = j / 2 * 2 + 1 := by omega
    rw [← ej] at e1
    rw [e1] at hu
    injection hu with hu
    rw [← hu, show off + j = off + j / 2 * 2 + 1 by omega]
    exact h.i _ (by omega)

/-- Steps lie there. -/
structure SpsAt (w : World) (g off : Nat) (ss : List Sp) : Prop where
  lt : g < w.heap.size
  k : ∀ j (_ : j < ss.length), w.cell? ⟨g, off + j * 3, none⟩ = some (.int .i64 ss[j]!.1)
  i : ∀ j (_ : j < ss.length), w.cell? ⟨g, off + j * 3 + 1, none⟩ = some (.int .i64 ss[j]!.2.1)
  c : ∀ j (_ : j < ss.length), w.cell? ⟨g, off + j * 3 + 2, none⟩ = some (.bool ss[j]!.2.2)

theorem SpsAt.carry {w w' : World} {g off : Nat} {ss : List Sp} (h : SpsAt w g off ss) (hb : w'.heap[g]? = w.heap[g]?) (hs : w.heap.size ≤ w'.heap.size) : SpsAt w' g off ss :=
  ⟨Nat.lt_of_lt_of_le h.lt hs, fun j q => (World.cell?_of_block (w := w) hb).trans (h.k j q), fun j q => (World.cell?_of_block (w := w) hb).trans (h.i j q), fun j q => (World.cell?_of_block (w := w) hb).trans (h.c j q)⟩

/-- What is told of a list of steps that came in. -/
def IsSps (w : World) (a : Option Addr) (len cap : Nat) (ss : List Sp) : Prop :=
  ss.length = len ∧ len ≤ cap ∧ (ss = [] ∧ (a = none → cap = 0) ∨ ∃ g off, a = some ⟨g, off, none⟩ ∧ SpsAt w g off ss)

theorem IsSps.carry {w w' : World} {a : Option Addr} {len cap : Nat} {ss : List Sp} (h : IsSps w a len cap ss) (hb : Below w.heap.size w w') : IsSps w' a len cap ss := by
  obtain ⟨hl, hc, ⟨rfl, hn⟩ | ⟨g, off, rfl, hat⟩⟩ := h
  · exact ⟨hl, hc, .inl ⟨rfl, hn⟩⟩
  · exact ⟨hl, hc, .inr ⟨g, off, rfl, hat.carry (hb.block g hat.lt) hb.size⟩⟩

theorem IsSps.at_ {w : World} {a : Option Addr} {len cap : Nat} {ss : List Sp} (h : IsSps w a len cap ss) (hl : 0 < len) : ∃ g off, a = some ⟨g, off, none⟩ ∧ SpsAt w g off ss := by
  obtain ⟨hl2, _, ⟨rfl, _⟩ | ⟨g, off, e, hat⟩⟩ := h
  · simp at hl2; omega
  · exact ⟨g, off, e, hat⟩

set_option maxRecDepth 100000 in
theorem Try.cells36 : Try.prog.cellsOf 36 = 2 := by kernel_rfl
set_option maxRecDepth 100000 in
theorem Try.cells38 : Try.prog.cellsOf 38 = 3 := by kernel_rfl
set_option maxRecDepth 100000 in
theorem Try.cells4 : Try.prog.cellsOf 4 = 1 := by kernel_rfl

set_option maxRecDepth 100000 in
theorem open_th {H : Type} {enc : TypeId × Value → H} {w : World} {n : Nat} {cs : List Value} {x : DataW H × List MemPlace}
    (h : DataW.trod enc Try.prog w 0 (fun _ => true) true n 36 cs = some x) : ∃ c : Th, cs = [.int .i64 c.1, .int .i64 c.2] := by
  obtain ⟨xs, m, _, _, hlen, hxs, hf⟩ := DataW.trod_struct Try.underlying36 h
  rw [Try.cells36] at hlen
  match cs, hlen, xs, hxs with
  | [v0, v1], _, [y0, y1], _ =>
    have g0 := hf 0 _ rfl
    have g1 := hf 1 _ rfl
    simp [Try.cells3] at g0 g1
    obtain ⟨q0, e0, _, _⟩ := DataW.trod_int Try.underlying3 g0
    obtain ⟨q1, e1, _, _⟩ := DataW.trod_int Try.underlying3 g1
    simp at e0 e1
    subst e0 e1
    exact ⟨⟨q0, q1⟩, rfl⟩

set_option maxRecDepth 100000 in
theorem open_sp {H : Type} {enc : TypeId × Value → H} {w : World} {n : Nat} {cs : List Value} {x : DataW H × List MemPlace}
    (h : DataW.trod enc Try.prog w 0 (fun _ => true) true n 38 cs = some x) : ∃ c : Sp, cs = [.int .i64 c.1, .int .i64 c.2.1, .bool c.2.2] := by
  obtain ⟨xs, m, _, _, hlen, hxs, hf⟩ := DataW.trod_struct Try.underlying38 h
  rw [Try.cells38] at hlen
  match cs, hlen, xs, hxs with
  | [v0, v1, v2], _, [y0, y1], _ =>
    have g0 := hf 0 _ rfl
    have g1 := hf 1 _ rfl
    simp [Try.cells36, Try.cells4] at g0 g1
    obtain ⟨t, ht⟩ := open_th g0
    obtain ⟨q1, e1, _⟩ := DataW.trod_bool Try.underlying4 g1
    simp at ht e1
    obtain ⟨rfl, rfl⟩ := ht
    subst e1
    exact ⟨⟨t.1, t.2, q1⟩, rfl⟩

set_option maxRecDepth 100000 in
theorem open_ths {H : Type} {enc : TypeId × Value → H} {w : World} {a : Option Addr} {len cap fuel : Nat} {x : DataW H × List MemPlace}
    (h : DataW.trod enc Try.prog w 0 (fun _ => true) true fuel 22 [.slice a len cap] = some x) : ∃ cs, IsThs w a len cap cs := by
  rcases open_slice Try.underlying22 h with ⟨hcs, _⟩ | ⟨a', len', cap', m, n, D, Pl, hcs, _, hl, hm, hmm, _, hx⟩
  · simp at hcs
    obtain ⟨rfl, rfl, rfl⟩ := hcs
    exact ⟨[], rfl, Nat.le_refl _, .inl ⟨rfl, fun _ => rfl⟩⟩
  · simp at hcs
    obtain ⟨rfl, rfl, rfl⟩ := hcs
    rw [Try.cells36] at hx
    have hlc : len ≤ cap := by simpa using hl
    have hlm : len ≤ m := by rw [hmm]; simpa using hl
    have each : ∀ i, i < len → ∃ it : Th, w.cell? (a'.add (i * 2)) = some (.int .i64 it.1) ∧ w.cell? (a'.add (i * 2 + 1)) = some (.int .i64 it.2) := by
      intro i hi
      obtain ⟨cs', h1, h2⟩ := hx i (by omega)
      obtain ⟨_, hlen, hcell⟩ := World.cells?_some h1
      obtain ⟨c, rfl⟩ := open_th h2
      have c0 := hcell 0 (by decide)
      have c1 := hcell 1 (by decide)
      rw [Deep.add_add] at c0 c1
      exact ⟨c, by simpa using c0, by simpa using c1⟩
    by_cases h0 : len = 0
    · exact ⟨[], h0.symm, hlc, .inl ⟨rfl, fun e => by cases e⟩⟩
    obtain ⟨it0, k0, _⟩ := each 0 (by omega)
    obtain ⟨g', off', e, hg⟩ := plain_of_cell k0
    obtain ⟨g, off, rfl⟩ : ∃ g off, a' = ⟨g, off, none⟩ := by
      obtain ⟨g, off, sp⟩ := a'
      have hs := congrArg Addr.spot e
      unfold Addr.add at hs
      cases sp with
      | none => exact ⟨g, off, rfl⟩
      | some y => simp at hs
    rw [Cel.add_plain] at e
    have hgg : g = g' := congrArg Addr.block e
    subst hgg
    obtain ⟨f, hf⟩ := choose_lt (α := Th) each
    have hget : ∀ j, j < len → ((List.range len).map f)[j]! = f j := fun j hj => by
      rw [getElem!_pos _ j (by simpa using hj)]
      simp
    refine ⟨(List.range len).map f, by simp, hlc, .inr ⟨g, off, rfl, hg, fun j hj => ?_, fun j hj => ?_⟩⟩
    all_goals
      have hj' : j < len := by simpa using hj
      have hfj := hf j hj'
      rw [Cel.add_plain, Cel.add_plain] at hfj
      rw [hget j hj']
    · exact hfj.1
    · exact hfj.2

set_option maxRecDepth 100000 in
theorem open_sps {H : Type} {enc : TypeId × Value → H} {w : World} {a : Option Addr} {len cap fuel : Nat} {x : DataW H × List MemPlace}
    (h : DataW.trod enc Try.prog w 0 (fun _ => true) true fuel 23 [.slice a len cap] = some x) : ∃ cs, IsSps w a len cap cs := by
  rcases open_slice Try.underlying23 h with ⟨hcs, _⟩ | ⟨a', len', cap', m, n, D, Pl, hcs, _, hl, hm, hmm, _, hx⟩
  · simp at hcs
    obtain ⟨rfl, rfl, rfl⟩ := hcs
    exact ⟨[], rfl, Nat.le_refl _, .inl ⟨rfl, fun _ => rfl⟩⟩
  · simp at hcs
    obtain ⟨rfl, rfl, rfl⟩ := hcs
    rw [Try.cells38] at hx
    have hlc : len ≤ cap := by simpa using hl
    have hlm : len ≤ m := by rw [hmm]; simpa using hl
    have each : ∀ i, i < len → ∃ it : Sp, w.cell? (a'.add (i * 3)) = some (.int .i64 it.1) ∧ w.cell? (a'.add (i * 3 + 1)) = some (.int .i64 it.2.1) ∧ w.cell? (a'.add (i * 3 + 2)) = some (.bool it.2.2) := by
      intro i hi
      obtain ⟨cs', h1, h2⟩ := hx i (by omega)
      obtain ⟨_, hlen, hcell⟩ := World.cells?_some h1
      obtain ⟨c, rfl⟩ := open_sp h2
      have c0 := hcell 0 (by decide)
      have c1 := hcell 1 (by decide)
      have c2 := hcell 2 (by decide)
      rw [Deep.add_add] at c0 c1 c2
      exact ⟨c, by simpa using c0, by simpa using c1, by simpa using c2⟩
    by_cases h0 : len = 0
    · exact ⟨[], h0.symm, hlc, .inl ⟨rfl, fun e => by cases e⟩⟩
    obtain ⟨it0, k0, _⟩ := each 0 (by omega)
    obtain ⟨g', off', e, hg⟩ := plain_of_cell k0
    obtain ⟨g, off, rfl⟩ : ∃ g off, a' = ⟨g, off, none⟩ := by
      obtain ⟨g, off, sp⟩ := a'
      have hs := congrArg Addr.spot e
      unfold Addr.add at hs
      cases sp with
      | none => exact ⟨g, off, rfl⟩
      | some y => simp at hs
    rw [Cel.add_plain] at e
    have hgg : g = g' := congrArg Addr.block e
    subst hgg
    obtain ⟨f, hf⟩ := choose_lt (α := Sp) each
    have hget : ∀ j, j < len → ((List.range len).map f)[j]! = f j := fun j hj => by
      rw [getElem!_pos _ j (by simpa using hj)]
      simp
    refine ⟨(List.range len).map f, by simp, hlc, .inr ⟨g, off, rfl, hg, fun j hj => ?_, fun j hj => ?_, fun j hj => ?_⟩⟩
    all_goals
      have hj' : j < len := by simpa using hj
      have hfj := hf j hj'
      rw [Cel.add_plain, Cel.add_plain, Cel.add_plain] at hfj
      rw [hget j hj']
    · exact hfj.1
    · exact hfj.2.1
    · exact hfj.2.2

/-! ### alive, great -/

set_option maxHeartbeats 1600000 in
set_option maxRecDepth 100000 in
theorem alive_any (w : World) : Calls Try.prog 7 #[] w fun e w' => e = .returned (.bool true) ∧ Below w.heap.size w w' := by
  have hz : ofF (fun _ => 0) 0 1 = 0 := by decide
  have hfe : findE [(0, 1, 0)] 0 1 = some (0, 1, 0) := by decide
  have HZ := Hid.mk hz
  have HFE := Hid.mk hfe
  clear hz hfe
  go_enter Try.func7, Try.ntmps7
  go_wp2_with fail
  refine (new_any 0 w).mono ?_
  rintro e w1 ⟨rfl, hs, hw1⟩
  have hb1 : Below w.heap.size w w1 := by rw [hw1]; exact (Below.refl _ _).alloc (Nat.le_refl _) _
  obtain ⟨b, hb⟩ : ∃ b, b = w.heap.size := ⟨_, rfl⟩
  rw [← hb] at hs
  rw [← hb]
  have HS := Hid.mk hs
  have HB1 := Hid.mk hb1
  have HB := Hid.mk hb
  clear hs hw1 hb1 hb
  go_wp2_with fail
  refine (note_new (fun _ => 0) 0 0 1 HS.out (by decide) rfl (by decide)).mono ?_
  rintro e w2 ⟨rfl, v2, hs2, hw2⟩
  rw [HZ.out] at hs2
  have HS2 : Hid (SetAt w2 b v2 0 [(0, 1, 0)]) := Hid.mk hs2
  have HB2 := Hid.mk (hw2.below (B := w.heap.size) HB1.out.size (fun k hk => by
    have h0 := HB.out
    rcases hk with e | ⟨x, hx, e⟩
    · omega
    · simp at hx
      subst hx
      cases e))
  clear hs2 hw2
  go_wp2_with fail
  refine (len_any HS2.out).mono ?_
  rintro e w3 ⟨rfl, hw3⟩
  rw [hw3]
  clear hw3 w3
  go_wp2_with fail
  refine (has_any HS2.out (by decide) 0 1).mono ?_
  rw [HFE.out]
  rintro e w3 ⟨rfl, hb3⟩
  have HB3 := Hid.mk (HB1.out.trans (HB2.out.trans (hb3.mono (Nat.le_trans HB1.out.size HB2.out.size))))
  clear hb3
  go_wp2
  go_ret
  exact ⟨rfl, HB3.out⟩

/-- What is played. -/
structure Small (xs : List Th) (ss : List Sp) : Prop where
  steps : ss.length ≤ 80
  ahead : xs.length ≤ 40
  xs : ∀ j, j < xs.length → isB xs[j]!.1 xs[j]!.2 = true
  ss : ∀ j, j < ss.length → isB ss[j]!.1 ss[j]!.2.1 = true

set_option maxHeartbeats 4000000 in
set_option maxRecDepth 100000 in
theorem great_any {w : World} {a c : Option Addr} {la ca lc cc : Nat} {xs : List Th} {ss : List Sp} (h1 : IsThs w a la ca xs) (h2 : IsSps w c lc cc ss) :
    Calls Try.prog 8 #[.slice a la ca, .slice c lc cc] w fun e w' => (e = .returned (.bool true) ∨ (e = .returned (.bool false) ∧ Small xs ss)) ∧ Below w.heap.size w w' := by
  have hl1 := h1.1
  have hl2 := h2.1
  have H1 := Hid.mk h1
  have H2 := Hid.mk h2
  have HL1 := Hid.mk hl1
  have HL2 := Hid.mk hl2
  clear h1 h2 hl1 hl2
  by_cases hs : 80 < lc
  · have hs2 : (80 : Int) < (lc : Int) := by omega
    go_enter Try.func8, Try.ntmps8
    go_wp2
    go_ret
    exact ⟨.inl rfl, Below.refl _ _⟩
  have hs2 : ¬ (80 : Int) < (lc : Int) := by omega
  by_cases ht : 40 < la
  · have ht2 : (40 : Int) < (la : Int) := by omega
    go_enter Try.func8, Try.ntmps8
    go_wp2
    go_ret
    exact ⟨.inl rfl, Below.refl _ _⟩
  have ht2 : ¬ (40 : Int) < (la : Int) := by omega
  go_enter Try.func8, Try.ntmps8
  go_wp2
  go_loopw [6, 19] (fun _ idx wr => ∃ k : Nat, k ≤ la ∧ idx = .int .i64 k ∧ (∀ j, j < k → isB xs[j]!.1 xs[j]!.2 = true) ∧ Below w.heap.size w wr) (fun _ idx _ => la - (intOf idx).toNat)
  case atStart => exact ⟨0, Nat.zero_le _, rfl, fun j hj => absurd hj (Nat.not_lt_zero j), Below.refl _ _⟩
  case round =>
    obtain ⟨k, hk, rfl, hok, hb⟩ := hrel
    have HOK := Hid.mk hok
    by_cases hlt : k < la
    · have hkl : k < xs.length := by have := HL1.out; omega
      obtain ⟨g, off, rfl, hat⟩ := (H1.out.carry hb).at_ (by omega)
      have c0 := hat.k k hkl
      have c1 := hat.i k hkl
      obtain ⟨y0, hy0⟩ : ∃ y, y = xs[k]!.1 := ⟨_, rfl⟩
      obtain ⟨y1, hy1⟩ : ∃ y, y = xs[k]!.2 := ⟨_, rfl⟩
      rw [← hy0] at c0
      rw [← hy1] at c1
      have HY : Hid (y0 = xs[k]!.1 ∧ y1 = xs[k]!.2) := Hid.mk ⟨hy0, hy1⟩
      have HBR : Hid (Below w.heap.size w (wr.alloc (.cells #[.int .i64 y0, .int .i64 y1] 36))) := Hid.mk (hb.alloc hb.size _)
      clear hy0 hy1 hat hb hok
      have hgl : g < wr.heap.size := World.block_lt_of_cell? wr _ c0
      have hi := is_any y0 y1
      cases hv : isB y0 y1 with
      | true =>
        rw [hv] at hi
        have HI := Hid.mk hi
        have HV := Hid.mk hv
        clear hi hv
        go_wp2_with fail
        refine (HI.out _).mono ?_
        rintro e w5 ⟨rfl, hb5⟩
        have HB5 := Hid.mk (HBR.out.trans (hb5.mono HBR.out.size))
        clear hb5 c0 c1
        go_wp2
        go_roundw
        case rel =>
          refine ⟨k + 1, by omega, by go_num, fun j hj => ?_, HB5.out⟩
          by_cases e : j = k
          · subst e
            obtain ⟨p0, p1⟩ := HY.out
            rw [← p0, ← p1]
            exact HV.out
          · exact HOK.out j (by omega)
        case measure => simp [intOf]; omega
      | false =>
        rw [hv] at hi
        have HI := Hid.mk hi
        clear hi hv
        go_wp2_with fail
        refine (HI.out _).mono ?_
        rintro e w5 ⟨rfl, hb5⟩
        have HB5 := Hid.mk (HBR.out.trans (hb5.mono HBR.out.size))
        clear hb5 c0 c1
        go_wp2
        go_ret
        exact ⟨.inl rfl, HB5.out⟩
    · have hle : (la : Int) ≤ (k : Int) := by omega
      have HK : Hid (k = xs.length) := Hid.mk (by have := HL1.out; omega)
      have HBR := Hid.mk hb
      clear hb hok
      go_wp2
      go_loopw [8, 29] (fun _ idx wq => ∃ q : Nat, q ≤ lc ∧ idx = .int .i64 q ∧ (∀ j, j < q → isB ss[j]!.1 ss[j]!.2.1 = true) ∧ Below w.heap.size w wq) (fun _ idx _ => lc - (intOf idx).toNat)
      case atStart => exact ⟨0, Nat.zero_le _, rfl, fun j hj => absurd hj (Nat.not_lt_zero j), HBR.out⟩
      case round =>
        clear HBR
        rename_i wq
        obtain ⟨q, hq, rfl, hoq, hb⟩ := hrel
        have HOQ := Hid.mk hoq
        by_cases hlq : q < lc
        · have hql : q < ss.length := by have := HL2.out; omega
          obtain ⟨g, off, rfl, hat⟩ := (H2.out.carry hb).at_ (by omega)
          have c0 := hat.k q hql
          have c1 := hat.i q hql
          have c2 := hat.c q hql
          obtain ⟨y0, hy0⟩ : ∃ y, y = ss[q]!.1 := ⟨_, rfl⟩
          obtain ⟨y1, hy1⟩ : ∃ y, y = ss[q]!.2.1 := ⟨_, rfl⟩
          obtain ⟨y2, hy2⟩ : ∃ y, y = ss[q]!.2.2 := ⟨_, rfl⟩
          rw [← hy0] at c0
          rw [← hy1] at c1
          rw [← hy2] at c2
          have HY : Hid (y0 = ss[q]!.1 ∧ y1 = ss[q]!.2.1) := Hid.mk ⟨hy0, hy1⟩
          have HBQ := Hid.mk (hb.alloc hb.size (.cells #[.int .i64 y0, .int .i64 y1, .bool y2] 38))
          clear hy0 hy1 hy2 hat hb hoq
          have hgl := World.block_lt_of_cell? _ _ c0
          have hi := is_any y0 y1
          cases hv : isB y0 y1 with
          | true =>
            rw [hv] at hi
            have HI := Hid.mk hi
            have HV := Hid.mk hv
            clear hi hv
            go_wp2_with fail
            refine (HI.out _).mono ?_
            rintro e w5 ⟨rfl, hb5⟩
            have HB5 := Hid.mk (HBQ.out.trans (hb5.mono HBQ.out.size))
            clear hb5 c0 c1 c2
            go_wp2
            go_roundw
            case rel =>
              refine ⟨q + 1, by omega, by go_num, fun j hj => ?_, HB5.out⟩
              by_cases e : j = q
              · subst e
                obtain ⟨p0, p1⟩ := HY.out
                rw [← p0, ← p1]
                exact HV.out
              · exact HOQ.out j (by omega)
            case measure => simp [intOf]; omega
          | false =>
            rw [hv] at hi
            have HI := Hid.mk hi
            clear hi hv
            go_wp2_with fail
            refine (HI.out _).mono ?_
            rintro e w5 ⟨rfl, hb5⟩
            have HB5 := Hid.mk (HBQ.out.trans (hb5.mono HBQ.out.size))
            clear hb5 c0 c1 c2
            go_wp2
            go_ret
            exact ⟨.inl rfl, HB5.out⟩
        · have hlq2 : (lc : Int) ≤ (q : Int) := by omega
          have HQ : Hid (q = ss.length) := Hid.mk (by have := HL2.out; omega)
          have HBQ := Hid.mk hb
          clear hb hoq
          go_wp2
          go_ret
          exact ⟨.inr ⟨rfl, ⟨by have := HL2.out; omega, by have := HL1.out; omega, fun j hj => HOK.out j (by rw [HK.out]; exact hj), fun j hj => HOQ.out j (by rw [HQ.out]; exact hj)⟩⟩, HBQ.out⟩

end Go.Proofs.Ytafpfioonbdgnaa.Rds
