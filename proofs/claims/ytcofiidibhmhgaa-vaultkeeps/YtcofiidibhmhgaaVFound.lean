/-
  The document's Found.
-/
import Derived.Test.YtcofiidibhmhgaaVRef
namespace Go.Proofs.Ytcofiidibhmhgaa
open Go.RowKit

/-- What the document's Found answers. -/
def RFound (w : World) (a b : ByteArray) (en : Ending) (w' : World) : Prop :=
  ∃ (y : Bool) (e : Nat) (s : ByteArray) (va : Option Addr) (vc : Nat) (lds : List ByteArray), en = .returned (.tuple #[.int .i64 e, .string s, .slice va lds.length vc]) ∧ Fnd [] (twoW a b) y e s lds ∧
    w'.ownsRow w.heap.size 9 1 (.slice va lds.length vc) lds.length (textCells lds) ∧ Below w.heap.size w w'

set_option maxHeartbeats 1600000 in
set_option maxRecDepth 100000 in
theorem refFound_any (w : World) (a b : ByteArray) (ha : a.size ≤ 16384) (hb : b.size ≤ 16384) : Calls Try.prog 14 #[.string a, .string b] w (RFound w a b) := by
  go_enter Try.func14, Try.ntmps14
  go_wp2_with fail
  refine (refTold_any w a ha).mono ?_
  rintro en w1 ⟨e0, s0, va0, vc0, l0, L0, rfl, hL0, hT0, row0, hb0⟩
  have HL0 := Hid.mk hL0
  have HT0 := Hid.mk hT0
  clear hL0 hT0
  go_wp2_with fail
  refine (refTold_any w1 b hb).mono ?_
  rintro en w2 ⟨e1, s1, va1, vc1, l1, L1, rfl, hL1, hT1, row1, hb1⟩
  have HL1 := Hid.mk hL1
  have HT1 := Hid.mk hT1
  have HR0 := Hid.mk ((Keeps.below hb1).row row0)
  have HR1 := Hid.mk (row_low row1 hb0.size)
  have HB := Hid.mk (hb0.trans (hb1.mono hb0.size))
  clear hL1 hT1 row0 row1 hb0 hb1
  by_cases hlt : e0 < e1
  · have hlt' : (e0 : Int) < (e1 : Int) := by omega
    go_wp2
    refine bodyPost_ret (v := .tuple #[.int .i64 e1, .string s1, .slice va1 l1.length vc1]) (by simp [results, Try.f14, go_sem]) rfl ?_
    refine ⟨true, e1, s1, va1, vc1, l1, rfl, ⟨L1, L0, e0, s0, l0, ?_, ?_, HT1.out, HT0.out, hlt⟩, HR1.out, HB.out⟩
    · rw [twoW_true]; exact HL1.out
    · show AllOf (txt false ([] ++ twoW a b)).data.toList L0
      rw [twoW_false]; exact HL0.out
  · have hlt' : ¬ (e0 : Int) < (e1 : Int) := by omega
    go_wp2
    refine bodyPost_ret (v := .tuple #[.int .i64 e0, .string s0, .slice va0 l0.length vc0]) (by simp [results, Try.f14, go_sem]) rfl ?_
    refine ⟨false, e0, s0, va0, vc0, l0, rfl, ⟨L0, L1, e1, s1, l1, ?_, ?_, HT0.out, HT1.out, by simp; omega⟩, HR0.out, HB.out⟩
    · rw [twoW_false]; exact HL0.out
    · show AllOf (txt true ([] ++ twoW a b)).data.toList L1
      rw [twoW_true]; exact HL1.out

theorem Fnd.one {dn ws : List Ch} {y z : Bool} {e f : Nat} {s t : ByteArray} {l m : List ByteArray} (h : Fnd dn ws y e s l) (k : Fnd dn ws z f t m) : y = z ∧ e = f ∧ s = t ∧ l = m := by
  obtain ⟨L, M, g, u, n, h1, h2, h3, h4, h5⟩ := h
  obtain ⟨L', M', g', u', n', k1, k2, k3, k4, k5⟩ := k
  by_cases hyz : y = z
  · subst hyz
    obtain rfl := h1.one k1
    obtain ⟨r1, r2, r3⟩ := h3.one k3
    exact ⟨rfl, r1, r2, r3⟩
  · exfalso
    have hz : z = !y := by cases y <;> cases z <;> simp_all
    subst hz
    rw [Bool.not_not] at k2
    obtain rfl := h1.one k2
    obtain rfl := h2.one k1
    obtain ⟨r1, _, _⟩ := h3.one k4
    obtain ⟨r2, _, _⟩ := h4.one k3
    subst r1 r2
    cases y <;> simp at h5 k5 <;> omega

theorem Fnd.len {dn ws : List Ch} {y : Bool} {e : Nat} {s : ByteArray} {l : List ByteArray} (h : Fnd dn ws y e s l) (hf : Fits (dn ++ ws)) : l.length ≤ 1000000 := by
  obtain ⟨L, M, g, u, n, h1, h2, h3, h4, h5⟩ := h
  have r1 := h3.len
  have r2 := h1.whole
  have r3 := wholeN_len L
  have r4 := hf.all y
  rw [← size_list] at r4
  omega

end Go.Proofs.Ytcofiidibhmhgaa
