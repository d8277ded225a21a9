/-
  Rows that came in: of steps, acts, opens, numbers.
-/
import Derived.Test.YtnjmnbclbjebbaaAcSame
import Derived.ChangeSlices
import Derived.Deep.Cut
import Derived.Deep.CutRange
import Derived.Deep.CutBlock
namespace Go.Proofs.Ytnjmnbclbjebbaa.Ac
open Go.ChangeShapes Go.WideShapes Go.ChangeAt Go.RowKit Go.Deep Go.Proofs.Ytnjmnbclbjebbaa.Cel Go.Proofs.Ytnjmnbclbjebbaa.Dft

/-- A step: an act and a mark. -/
abbrev Sp := A3 × Int × Int × Int × Int
def eS (x : Sp) : List Value := [.int .i64 x.1.1, .int .i64 x.1.2.1, .int .i64 x.1.2.2, .int .i64 x.2.1, .int .i64 x.2.2.1, .int .i64 x.2.2.2.1, .int .i64 x.2.2.2.2]
theorem eS_len : ∀ x, (eS x).length = 7 := fun _ => rfl
def mOf (x : Sp) : Nat → Int := fun i => match i with | 0 => x.2.1 | 1 => x.2.2.1 | 2 => x.2.2.2.1 | _ => x.2.2.2.2

set_option maxRecDepth 100000 in
theorem Try.cells56 : Try.prog.cellsOf 56 = 2 := by kernel_rfl
set_option maxRecDepth 100000 in
theorem Try.cells32 : Try.prog.cellsOf 32 = 3 := by kernel_rfl
set_option maxRecDepth 100000 in
theorem Try.cells33 : Try.prog.cellsOf 33 = 4 := by kernel_rfl
set_option maxRecDepth 100000 in
theorem Try.cells35 : Try.prog.cellsOf 35 = 7 := by kernel_rfl

section
variable {H : Type} {enc : TypeId × Value → H} {w : World} {n : Nat} {cs : List Value} {x : DataW H × List MemPlace}

set_option maxRecDepth 100000 in
theorem open_open (h : DataW.trod enc Try.prog w 0 (fun _ => true) true n 56 cs = some x) : ∃ c : Pr, cs = eP c := by
  obtain ⟨xs, m, _, _, hlen, hxs, hf⟩ := DataW.trod_struct Try.underlying56 h
  rw [Try.cells56] at hlen
  match cs, hlen, xs, hxs with
  | [v0, v1], _, [y0, y1], _ =>
    have g0 := hf 0 _ rfl
    have g1 := hf 1 _ rfl
    simp [Try.cells3] at g0 g1
    obtain ⟨q0, e0, _, _⟩ := DataW.trod_int Try.underlying3 g0
    obtain ⟨q1, e1, _, _⟩ := DataW.trod_int Try.underlying3 g1
    simp at e0 e1
    subst e0 e1
    exact ⟨(q0, q1), rfl⟩

set_option maxRecDepth 100000 in
theorem open_act (h : DataW.trod enc Try.prog w 0 (fun _ => true) true n 32 cs = some x) : ∃ c : A3, cs = eA c := by
  obtain ⟨xs, m, _, _, hlen, hxs, hf⟩ := DataW.trod_struct Try.underlying32 h
  rw [Try.cells32] at hlen
  match cs, hlen, xs, hxs with
  | [v0, v1, v2], _, [y0, y1, y2], _ =>
    have g0 := hf 0 _ rfl
    have g1 := hf 1 _ rfl
    have g2 := hf 2 _ rfl
    simp [Try.cells3] at g0 g1 g2
    obtain ⟨q0, e0, _, _⟩ := DataW.trod_int Try.underlying3 g0
    obtain ⟨q1, e1, _, _⟩ := DataW.trod_int Try.underlying3 g1
    obtain ⟨q2, e2, _, _⟩ := DataW.trod_int Try.underlying3 g2
    simp at e0 e1 e2
    subst e0 e1 e2
    exact ⟨(q0, q1, q2), rfl⟩

set_option maxRecDepth 100000 in
theorem open_four (h : DataW.trod enc Try.prog w 0 (fun _ => true) true n 33 cs = some x) : ∃ a b c d : Int, cs = [.int .i64 a, .int .i64 b, .int .i64 c, .int .i64 d] := by
  obtain ⟨xs, m, _, _, hlen, hxs, hf⟩ := DataW.trod_array Try.underlying33 h
  rw [Try.cells33] at hlen
  rw [Try.cells3] at hf
  match cs, hlen, xs, hxs with
  | [v0, v1, v2, v3], _, [y0, y1, y2, y3], _ =>
    obtain ⟨q0, e0, _, _⟩ := DataW.trod_int Try.underlying3 (hf 0 (by decide))
    obtain ⟨q1, e1, _, _⟩ := DataW.trod_int Try.underlying3 (hf 1 (by decide))
    obtain ⟨q2, e2, _, _⟩ := DataW.trod_int Try.underlying3 (hf 2 (by decide))
    obtain ⟨q3, e3, _, _⟩ := DataW.trod_int Try.underlying3 (hf 3 (by decide))
    simp at e0 e1 e2 e3
    subst e0 e1 e2 e3
    exact ⟨q0, q1, q2, q3, rfl⟩

set_option maxRecDepth 100000 in
theorem open_step (h : DataW.trod enc Try.prog w 0 (fun _ => true) true n 35 cs = some x) : ∃ c : Sp, cs = eS c := by
  obtain ⟨xs, m, _, _, hlen, hxs, hf⟩ := DataW.trod_struct Try.underlying35 h
  rw [Try.cells35] at hlen
  match cs, hlen, xs, hxs with
  | [v0, v1, v2, v3, v4, v5, v6], _, [y0, y1], _ =>
    have g0 := hf 0 _ rfl
    have g1 := hf 1 _ rfl
    simp [Try.cells32, Try.cells33] at g0 g1
    obtain ⟨⟨q0, q1, q2⟩, e0⟩ := open_act g0
    obtain ⟨m0, m1, m2, m3, e1⟩ := open_four g1
    simp [eA] at e0 e1
    obtain ⟨rfl, rfl, rfl⟩ := e0
    obtain ⟨rfl, rfl, rfl, rfl⟩ := e1
    exact ⟨((q0, q1, q2), m0, m1, m2, m3), rfl⟩

set_option maxRecDepth 100000 in
theorem open_num (h : DataW.trod enc Try.prog w 0 (fun _ => true) true n 3 cs = some x) : ∃ c : Int, cs = eI c := by
  obtain ⟨q0, e0, _, _⟩ := DataW.trod_int Try.underlying3 h
  exact ⟨q0, e0⟩
end

set_option maxRecDepth 100000 in
/-- A row that came in can be read. -/
theorem open_view {α : Type} [Inhabited α] {en : α → List Value} {s : Nat} (h0 : 0 < s) (hE : ∀ x, (en x).length = s) {t et : TypeId} (hu : Try.prog.underlying t = some (.slice et)) (hc : Try.prog.cellsOf et = s)
    {H : Type} {enc : TypeId × Value → H} {w : World} (h1 : ∀ {n : Nat} {cs : List Value} {x : DataW H × List MemPlace}, DataW.trod enc Try.prog w 0 (fun _ => true) true n et cs = some x → ∃ c : α, cs = en c)
    {a : Option Addr} {len cap fuel : Nat} {x : DataW H × List MemPlace} (h : DataW.trod enc Try.prog w 0 (fun _ => true) true fuel t [.slice a len cap] = some x) : ∃ l, View w en s a len cap l := by
  rcases open_slice hu h with ⟨hcs, _⟩ | ⟨a', len', cap', m, n, D, Pl, hcs, _, hl, hm, hmm, _, hx⟩
  · simp at hcs
    obtain ⟨rfl, rfl, rfl⟩ := hcs
    exact ⟨[], rfl, Nat.le_refl _, .inl ⟨rfl, fun _ => rfl⟩⟩
  · simp at hcs
    obtain ⟨rfl, rfl, rfl⟩ := hcs
    rw [hc] at hx
    have hlc : len ≤ cap := by simpa using hl
    have hlm : len ≤ m := by rw [hmm]; simpa using hl
    have each : ∀ i, i < len → ∃ it : α, ∀ r v, (en it)[r]? = some v → w.cell? (a'.add (i * s + r)) = some v := by
      intro i hi
      obtain ⟨cs', k1, k2⟩ := hx i (by omega)
      obtain ⟨_, hlen, hcell⟩ := World.cells?_some k1
      obtain ⟨c, rfl⟩ := h1 k2
      refine ⟨c, fun r v hv => ?_⟩
      have hr : r < (en c).length := (List.getElem?_eq_some_iff.1 hv).1
      have := hcell r (by rw [hE] at hr; exact hr)
      rw [Deep.add_add] at this
      rw [this]
      exact hv
    by_cases hz : len = 0
    · exact ⟨[], hz.symm, hlc, .inl ⟨rfl, fun e => by cases e⟩⟩
    obtain ⟨it0, k0⟩ := each 0 (by omega)
    have hl0 : 0 < (en it0).length := by rw [hE]; exact h0
    have k0 := k0 0 _ (List.getElem?_eq_getElem hl0)
    obtain ⟨g', off', e, hg⟩ := plain_of_cell k0
    obtain ⟨g, off, rfl⟩ : ∃ g off, a' = ⟨g, off, none⟩ := by
      obtain ⟨g, off, sp⟩ := a'
      have hs := congrArg Addr.spot e
      unfold Addr.add at hs
      cases sp with
      | none => exact ⟨g, off, rfl⟩
      | some y => simp at hs
    rw [Cel.add_plain] at e
    have hgg : g = g' := congrArg Addr.block e
    subst hgg
    obtain ⟨f, hf⟩ := choose_lt (α := α) each
    refine ⟨(List.range len).map f, by simp, hlc, .inr ⟨g, off, rfl, hg, fun j hj r v hv => ?_⟩⟩
    have hj' : j < len := by simpa using hj
    have hfj := hf j hj' r v (by simpa using hv)
    rw [Cel.add_plain] at hfj
    rw [Nat.add_assoc]
    exact hfj

end Go.Proofs.Ytnjmnbclbjebbaa.Ac
