/-
  Sets of files, as they lie in memory; a list of them that came in; 'great'.
-/
import Derived.Test.YtabjjjbopbjbeaaTMem
namespace Go.Proofs.Ytabjjjbopbjbeaa.Tom
open Go.ChangeShapes Go.WideShapes Go.ChangeAt Go.RowKit Go.Deep Cel

/-- That a file was set: its number, the file, and the version. -/
abbrev Sx := Int × (Bool × ByteArray) × Int

/-- The sets cs lie in memory from g, off on. -/
structure SxAt (w : World) (g off : Nat) (cs : List Sx) : Prop where
  lt : g < w.heap.size
  i : ∀ j (_ : j < cs.length), w.cell? ⟨g, off + j * 4, none⟩ = some (.int .i64 cs[j]!.1)
  is : ∀ j (_ : j < cs.length), w.cell? ⟨g, off + j * 4 + 1, none⟩ = some (.bool cs[j]!.2.1.1)
  text : ∀ j (_ : j < cs.length), w.cell? ⟨g, off + j * 4 + 2, none⟩ = some (.string cs[j]!.2.1.2)
  version : ∀ j (_ : j < cs.length), w.cell? ⟨g, off + j * 4 + 3, none⟩ = some (.int .i64 cs[j]!.2.2)

theorem SxAt.keep {w w' : World} {g off : Nat} {cs : List Sx} (h : SxAt w g off cs) (hb : w'.heap[g]? = w.heap[g]?) : SxAt w' g off cs :=
  ⟨(Array.getElem?_eq_some_iff.1 (hb.trans (Array.getElem?_eq_getElem h.lt))).1, fun j k => (World.cell?_of_block (w := w) hb).trans (h.i j k), fun j k => (World.cell?_of_block (w := w) hb).trans (h.is j k), fun j k => (World.cell?_of_block (w := w) hb).trans (h.text j k), fun j k => (World.cell?_of_block (w := w) hb).trans (h.version j k)⟩
theorem SxAt.grown {w w' : World} {g off : Nat} {cs : List Sx} (h : SxAt w g off cs) (hb : Below w.heap.size w w') : SxAt w' g off cs := h.keep (hb.block g h.lt)

/-- What is told of a list of sets that came in. -/
def IsSx (w : World) (a : Option Addr) (len cap : Nat) (cs : List Sx) : Prop :=
  cs.length = len ∧ len ≤ cap ∧ (cs = [] ∧ (a = none → cap = 0) ∨ ∃ g off, a = some ⟨g, off, none⟩ ∧ SxAt w g off cs)

theorem IsSx.grown {w w' : World} {a : Option Addr} {len cap : Nat} {cs : List Sx} (h : IsSx w a len cap cs) (hb : Below w.heap.size w w') : IsSx w' a len cap cs := by
  obtain ⟨hl, hc, ⟨rfl, hn⟩ | ⟨g, off, rfl, hat⟩⟩ := h
  · exact ⟨hl, hc, .inl ⟨rfl, hn⟩⟩
  · exact ⟨hl, hc, .inr ⟨g, off, rfl, hat.grown hb⟩⟩

theorem IsSx.at_ {w : World} {a : Option Addr} {len cap : Nat} {cs : List Sx} (h : IsSx w a len cap cs) (hl : 0 < len) : ∃ g off, a = some ⟨g, off, none⟩ ∧ SxAt w g off cs := by
  obtain ⟨hl2, _, ⟨rfl, _⟩ | ⟨g, off, e, hat⟩⟩ := h
  · simp at hl2; omega
  · exact ⟨g, off, e, hat⟩

set_option maxRecDepth 100000 in
theorem Try.cells36 : Try.prog.cellsOf 36 = 4 := by kernel_rfl
set_option maxRecDepth 100000 in
theorem Try.cells34 : Try.prog.cellsOf 34 = 2 := by kernel_rfl
set_option maxRecDepth 100000 in
theorem Try.cells4b : Try.prog.cellsOf 4 = 1 := by kernel_rfl
set_option maxRecDepth 100000 in
theorem Try.cells9s : Try.prog.cellsOf 9 = 1 := by kernel_rfl

set_option maxRecDepth 100000 in
/-- A file's cells, opened. -/
theorem open_fl2 {H : Type} {enc : TypeId × Value → H} {w : World} {n : Nat} {cs : List Value} {x : DataW H × List MemPlace}
    (h : DataW.trod enc Try.prog w 0 (fun _ => true) true n 34 cs = some x) : ∃ (c : Bool) (s : ByteArray), cs = [.bool c, .string s] := by
  obtain ⟨xs, m, _, _, hlen, hxs, hf⟩ := DataW.trod_struct Try.underlying34 h
  rw [Try.cells34] at hlen
  match cs, hlen, xs, hxs with
  | [v0, v1], _, [y0, y1], _ =>
    have g0 := hf 0 _ rfl
    have g1 := hf 1 _ rfl
    simp [Try.cells4b, Try.cells9s] at g0 g1
    obtain ⟨q0, e0, _⟩ := DataW.trod_bool Try.underlying4 g0
    obtain ⟨q1, e1, _⟩ := DataW.trod_string Try.underlying9 g1
    simp at e0 e1
    subst e0 e1
    exact ⟨q0, q1, rfl⟩

set_option maxRecDepth 100000 in
/-- A set's cells, opened. -/
theorem open_sx {H : Type} {enc : TypeId × Value → H} {w : World} {n : Nat} {cs : List Value} {x : DataW H × List MemPlace}
    (h : DataW.trod enc Try.prog w 0 (fun _ => true) true n 36 cs = some x) : ∃ c : Sx, cs = [.int .i64 c.1, .bool c.2.1.1, .string c.2.1.2, .int .i64 c.2.2] := by
  obtain ⟨xs, m, _, _, hlen, hxs, hf⟩ := DataW.trod_struct Try.underlying36 h
  rw [Try.cells36] at hlen
  match cs, hlen, xs, hxs with
  | [v0, v1, v2, v3], _, [y0, y1, y2], _ =>
    have g0 := hf 0 _ rfl
    have g1 := hf 1 _ rfl
    have g2 := hf 2 _ rfl
    simp [Try.cells3, Try.cells34] at g0 g1 g2
    obtain ⟨q0, e0, _, _⟩ := DataW.trod_int Try.underlying3 g0
    obtain ⟨q1, s1, e1⟩ := open_fl2 g1
    obtain ⟨q2, e2, _, _⟩ := DataW.trod_int Try.underlying3 g2
    simp at e0 e1 e2
    obtain ⟨rfl, rfl⟩ := e1
    subst e0 e2
    exact ⟨⟨q0, ⟨q1, s1⟩, q2⟩, rfl⟩

set_option maxRecDepth 100000 in
theorem open_sxs {H : Type} {enc : TypeId × Value → H} {w : World} {a : Option Addr} {len cap fuel : Nat} {x : DataW H × List MemPlace}
    (h : DataW.trod enc Try.prog w 0 (fun _ => true) true fuel 22 [.slice a len cap] = some x) : ∃ cs, IsSx w a len cap cs := by
  rcases open_slice Try.underlying22 h with ⟨hcs, _⟩ | ⟨a', len', cap', m, n, D, Pl, hcs, _, hl, hm, hmm, _, hx⟩
  · simp at hcs
    obtain ⟨rfl, rfl, rfl⟩ := hcs
    exact ⟨[], rfl, Nat.le_refl _, .inl ⟨rfl, fun _ => rfl⟩⟩
  · simp at hcs
    obtain ⟨rfl, rfl, rfl⟩ := hcs
    rw [Try.cells36] at hx
    have hlc : len ≤ cap := by simpa using hl
    have hlm : len ≤ m := by rw [hmm]; simpa using hl
    have each : ∀ i, i < len → ∃ it : Sx, w.cell? (a'.add (i * 4)) = some (.int .i64 it.1) ∧ w.cell? (a'.add (i * 4 + 1)) = some (.bool it.2.1.1) ∧ w.cell? (a'.add (i * 4 + 2)) = some (.string it.2.1.2) ∧ w.cell? (a'.add (i * 4 + 3)) = some (.int .i64 it.2.2) := by
      intro i hi
      obtain ⟨cs', h1, h2⟩ := hx i (by omega)
      obtain ⟨_, hlen, hcell⟩ := World.cells?_some h1
      obtain ⟨c, rfl⟩ := open_sx h2
      have c0 := hcell 0 (by decide)
      have c1 := hcell 1 (by decide)
      have c2 := hcell 2 (by decide)
      have c3 := hcell 3 (by decide)
      rw [Deep.add_add] at c0 c1 c2 c3
      exact ⟨c, by simpa using c0, by simpa using c1, by simpa using c2, by simpa using c3⟩
    by_cases h0 : len = 0
    · exact ⟨[], h0.symm, hlc, .inl ⟨rfl, fun e => by cases e⟩⟩
    obtain ⟨it0, k0, _⟩ := each 0 (by omega)
    obtain ⟨g', off', e, hg⟩ := plain_of_cell k0
    obtain ⟨g, off, rfl⟩ : ∃ g off, a' = ⟨g, off, none⟩ := by
      obtain ⟨g, off, sp⟩ := a'
      have hs := congrArg Addr.spot e
      unfold Addr.add at hs
      cases sp with
      | none => exact ⟨g, off, rfl⟩
      | some y => simp at hs
    rw [Cel.add_plain] at e
    have hgg : g = g' := congrArg Addr.block e
    subst hgg
    obtain ⟨f, hf⟩ := choose_lt (α := Sx) each
    have hget : ∀ j, j < len → ((List.range len).map f)[j]! = f j := fun j hj => by
      rw [getElem!_pos _ j (by simpa using hj)]
      simp
    refine ⟨(List.range len).map f, by simp, hlc, .inr ⟨g, off, rfl, hg, fun j hj => ?_, fun j hj => ?_, fun j hj => ?_, fun j hj => ?_⟩⟩
    all_goals
      have hj' : j < len := by simpa using hj
      have hfj := hf j hj'
      rw [Cel.add_plain, Cel.add_plain, Cel.add_plain, Cel.add_plain] at hfj
      rw [hget j hj']
    · exact hfj.1
    · exact hfj.2.1
    · exact hfj.2.2.1
    · exact hfj.2.2.2

/-- One set's four cells. -/
def Cells4 (w : World) (g o : Nat) (q : Sx) : Prop :=
  w.cell? ⟨g, o, none⟩ = some (.int .i64 q.1) ∧ w.cell? ⟨g, o + 1, none⟩ = some (.bool q.2.1.1) ∧ w.cell? ⟨g, o + 2, none⟩ = some (.string q.2.1.2) ∧ w.cell? ⟨g, o + 3, none⟩ = some (.int .i64 q.2.2)

theorem SxAt.cells {w : World} {g off : Nat} {cs : List Sx} (h : SxAt w g off cs) (j : Nat) (hj : j < cs.length) : Cells4 w g (off + j * 4) cs[j]! := ⟨h.i j hj, h.is j hj, h.text j hj, h.version j hj⟩

/-- A set's box. -/
abbrev sxO (q : Sx) : Obj := .cells #[.int .i64 q.1, .bool q.2.1.1, .string q.2.1.2, .int .i64 q.2.2] 36

theorem box4 {w : World} {g : Nat} {q : Sx} (h : w.heap[g]? = some (sxO q)) : Cells4 w g 0 q := ⟨cell_at h rfl, cell_at h rfl, cell_at h rfl, cell_at h rfl⟩

set_option maxHeartbeats 1600000 in
set_option maxRecDepth 100000 in
theorem great_any (a : Option Addr) (len cap : Nat) (cs : List Sx) (w : World) (h : IsSx w a len cap cs) :
    Calls Try.prog 8 #[.slice a len cap] w fun e w' => (∃ B : Bool, e = .returned (.bool B) ∧ (B = false → len ≤ 40)) ∧ Below w.heap.size w w' := by
  by_cases hlong : 40 < len
  · have h1 : (40 : Int) < (len : Int) := by omega
    clear h
    go_enter Try.func8, Try.ntmps8
    go_wp2
    go_ret
    exact ⟨⟨true, rfl, fun e => by cases e⟩, Below.refl _ _⟩
  · have h1 : ¬ (40 : Int) < (len : Int) := by omega
    have H := Hid.mk h
    clear h
    go_enter Try.func8, Try.ntmps8
    go_wp2
    go_loopw [4, 10] (fun _ k wr => ∃ j : Nat, j ≤ len ∧ k = .int .i64 j ∧ Below w.heap.size w wr) (fun _ k _ => len - (intOf k).toNat)
    case atStart => exact ⟨0, Nat.zero_le _, rfl, Below.refl _ _⟩
    case round =>
      obtain ⟨j, hj, rfl, hb⟩ := hrel
      by_cases hlt : j < len
      · obtain ⟨g, off, rfl, hat⟩ := (H.out.grown hb).at_ (by omega)
        have hjl : j < cs.length := by rw [H.out.1]; exact hlt
        have c0 := hat.i j hjl
        have c1 := hat.is j hjl
        have c2 := hat.text j hjl
        have c3 := hat.version j hjl
        obtain ⟨q0, hq0⟩ : ∃ q, q = cs[j]!.1 := ⟨_, rfl⟩
        obtain ⟨q1, hq1⟩ : ∃ q, q = cs[j]!.2.1.1 := ⟨_, rfl⟩
        obtain ⟨q2, hq2⟩ : ∃ q, q = cs[j]!.2.1.2 := ⟨_, rfl⟩
        obtain ⟨q3, hq3⟩ : ∃ q, q = cs[j]!.2.2 := ⟨_, rfl⟩
        rw [← hq0] at c0
        rw [← hq1] at c1
        rw [← hq2] at c2
        rw [← hq3] at c3
        have HB := Hid.mk (hb.alloc hb.size (.cells #[.int .i64 q0, .bool q1, .string q2, .int .i64 q3] 36))
        clear hq0 hq1 hq2 hq3 hat hb hjl
        by_cases hs : 100 < (q2.size : Int)
        · go_wp2
          go_ret
          exact ⟨⟨true, rfl, fun e => by cases e⟩, HB.out⟩
        · go_wp2
          go_roundw
          case rel => exact ⟨j + 1, by omega, by go_num, HB.out⟩
          case measure => simp [intOf]; omega
      · have hkR : (len : Int) ≤ (j : Int) := by omega
        have HB := Hid.mk hb
        clear hb
        go_wp2
        go_ret
        exact ⟨⟨false, rfl, fun _ => by omega⟩, HB.out⟩

end Go.Proofs.Ytabjjjbopbjbeaa.Tom
