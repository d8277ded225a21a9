/-
  Several disks, one beside the other; what little, and all, of what waits comes to.
-/
import Derived.Test.YtcofiidibhmhgaaDMine
namespace Go.Proofs.Ytcofiidibhmhgaa
open Go.RowKit

/-- Two objects have no block in common. -/
structure Apart (b : Nat) (v : Value) (b2 : Nat) (v2 : Value) : Prop where
  ne : b ≠ b2
  own2 : v2.ownBlock ≠ some b
  own1 : v.ownBlock ≠ some b2
  owns : ∀ k, v.ownBlock = some k → v2.ownBlock ≠ some k

theorem Apart.symm {b b2 : Nat} {v v2 : Value} (h : Apart b v b2 v2) : Apart b2 v2 b v :=
  ⟨h.ne.symm, h.own1, h.own2, fun k h1 h2 => h.owns k h2 h1⟩

section
variable {B : Nat} {w0 w w' : World} {b b2 : Nat} {v v' v2 v2' : Value} {dn ws dn2 ws2 dn' ws' : List Ch}

theorem Apart.step (ap : Apart b v b2 v2) (h : Has w b v dn ws) (hw : Wrote b2 v2 w v2' w') : Apart b v b2 v2' := by
  refine ⟨ap.ne, fun e => ?_, ap.own1, fun k hk e => ?_⟩
  · rcases hw.own b e with e1 | e1
    · exact ap.own2 e1
    · have := h.lt; omega
  · rcases hw.own k e with e1 | e1
    · exact ap.owns k hk e1
    · have := h.own_lt k hk; omega

/-- The other disk's calls. -/
theorem Mine.other (h : Mine B w0 w b v dn ws) (h2 : Mine B w0 w b2 v2 dn2 ws2) (ap : Apart b v b2 v2) (hw : Wrote b2 v2 w v2' w') : Mine B w0 w' b v dn ws :=
  ⟨h.has.beside hw ap.ne ap.own2 fun k hk => ⟨fun e => ap.own1 (by rw [← e]; exact hk), ap.owns k hk⟩, h.le, h.own, h2.below.trans (hw.below h2.lo h2.le h2.own)⟩

theorem Mine.copied (h : Mine B w0 w b v dn ws) (h1 : Has w' b2 v2 dn2 ws2) (hb : w.heap.size ≤ b2) (hv : ∀ k, v2.ownBlock = some k → w.heap.size ≤ k) (hbel : Below w.heap.size w w') : Mine B w0 w' b2 v2 dn2 ws2 :=
  ⟨h1, Nat.le_trans h.lo hb, fun k hk => Nat.le_trans h.lo (hv k hk), h.below.trans (hbel.mono h.lo)⟩

theorem Mine.apart_new (h : Mine B w0 w b v dn ws) (hb : w.heap.size ≤ b2) (hv : ∀ k, v2.ownBlock = some k → w.heap.size ≤ k) : Apart b v b2 v2 := by
  refine ⟨fun e => ?_, fun e => ?_, fun e => ?_, fun k hk e => ?_⟩
  · have := h.has.lt; omega
  · have := h.has.lt; have := hv _ e; omega
  · have := h.has.own_lt _ e; omega
  · have := h.has.own_lt _ hk; have := hv _ e; omega

end

theorem empty_join (x : ByteArray) : x ++ (⟨#[]⟩ : ByteArray) = x := ByteArray.append_empty

theorem extract_zero (x : ByteArray) : x.extract 0 0 = ⟨#[]⟩ := by
  apply ByteArray.ext
  simp

/-- With nothing kept the areas have what was safe. -/
theorem txt_lost (a : Bool) (dn ws : List Ch) : txt a (dn ++ kept ws 0 0) = txt a dn := by
  have h0 : near 0 ws.length = 0 := by unfold near; simp
  unfold kept
  rw [h0, List.take_zero, List.nil_append]
  cases hc : ws[0]? with
  | none => simp
  | some c =>
    simp only [torn]
    cases hr : c.reset with
    | true => simp
    | false =>
      have h1 : near 0 c.bytes.size = 0 := by unfold near; simp
      rw [if_neg (by simp), txt_one, h1, extract_zero]
      unfold Ch.on
      by_cases e : c.one = a
      · simp [e, empty_join]
      · simp [e]

/-- With all kept the areas have what they had. -/
theorem kept_many (ws : List Ch) (h : ws.length ≤ 1048576) (p : Int) : kept ws 1048576 p = ws := kept_all (by unfold near; omega)

end Go.Proofs.Ytcofiidibhmhgaa
