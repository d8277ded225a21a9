/-
  The walks of file's calls, over any world: what they answer; they leave all that was there as it was.
-/
import Derived.Test.YtdngehfebmaegaaRows
import Derived.BigRegion
import Derived.BigQuiet
import Derived.Deep.QuietTactic
import Derived.WalkSmall
import Derived.ProofKit
import Derived.OpenShut
import Derived.Deep.Strs
import Derived.Deep.RegionHeld3
import Derived.OwnWalk
import Derived.Laws.OwnMore
import Derived.Laws.MakeOwn
import Derived.Lib.BufferWrite
import Derived.Test.YtdngehfebmaegaaFMath
namespace Go.Proofs.Ytdngehfebmaegaa.Fil
open Go.ChangeShapes Go.WideShapes Go.ChangeAt Go.RowKit Go.Deep

theorem Hid.mk {p : Prop} (h : p) : Hid p := h

set_option maxRecDepth 100000 in
theorem own : ownKnob Try.prog.godebug = none := by kernel_rfl
set_option maxRecDepth 100000 in
theorem laidOut : laidOutB Try.prog = true := by kernel_rfl
set_option maxRecDepth 100000 in
theorem Try.info5 : (Try.prog.info? 5).map (fun i => (i.zero, i.size, i.bytes)) = some (some (.int .u8 0), 1, 1) := by kernel_rfl

theorem heap_set {w : World} {b i : Nat} {cs : Array Value} {t : TypeId} {m : Nat × Nat} (x : Value) (h : w.heap[b]? = some (.cells cs t m)) : (w.setCell ⟨b, i, none⟩ x).heap[b]? = some (.cells (cs.setIfInBounds i x) t m) := by
  simp [World.setCell, Array.getElem?_modify, h]

theorem heap_new (w : World) (o : Obj) : (w.alloc o).heap[w.heap.size]? = some o := heap_alloc_new w o

theorem cell_at {w : World} {g i : Nat} {cs : Array Value} {t : TypeId} {m : Nat × Nat} {v : Value} (h : w.heap[g]? = some (.cells cs t m)) (hc : cs[i]? = some v) : w.cell? ⟨g, i, none⟩ = some v := by simp [World.cell?, h, hc]
theorem free_at {w : World} {g i : Nat} {cs : Array Value} {t : TypeId} (h : w.heap[g]? = some (.cells cs t (0, 0))) : w.frozen? ⟨g, i, none⟩ = false := by simp [World.frozen?, h]

/-- A file that can be. -/
def CanBe (is : Bool) (s : ByteArray) : Prop := (is = true ∧ s.size ≤ 32) ∨ (is = false ∧ s = ⟨#[]⟩)

theorem CanBe.le {is : Bool} {s : ByteArray} (h : CanBe is s) : s.size ≤ 32 := by
  rcases h with ⟨_, h⟩ | ⟨_, rfl⟩
  · exact h
  · decide

theorem wrap_u8 (b : UInt8) : wrap64 (b.toNat : Int) = (b.toNat : Int) := by
  have := b.toNat_lt
  unfold wrap64
  omega

theorem toList_txt (s : ByteArray) : s.toList = s.data.toList := ByteArray.toList_eq s

theorem isEmpty_no {s : ByteArray} (h : s ≠ ⟨#[]⟩) : s.toList.isEmpty = false := by
  rw [toList_txt]
  cases e : s.data.toList with
  | nil => exact absurd (by rw [← txt_list s, e]; rfl) h
  | cons x r => rfl

set_option maxHeartbeats 800000 in
set_option maxRecDepth 100000 in
theorem good_yes {is : Bool} {s : ByteArray} (h : CanBe is s) (w : World) : Calls Try.prog 48 #[.agg #[.bool is, .string s]] w fun e w' => e = .returned (.bool true) ∧ Below w.heap.size w w' := by
  have hb := (Below.refl w.heap.size w).alloc (Nat.le_refl _) (.cells #[.bool is, .string s] 23)
  have HB := Hid.mk hb
  clear hb
  rcases h with ⟨rfl, h⟩ | ⟨rfl, rfl⟩
  · have h1 : (s.size : Int) ≤ 32 := by omega
    go_enter Try.func48, Try.ntmps48
    go_wp2
    go_ret
    exact ⟨rfl, HB.out⟩
  · go_enter Try.func48, Try.ntmps48
    go_wp2
    go_ret
    exact ⟨rfl, HB.out⟩

set_option maxHeartbeats 800000 in
set_option maxRecDepth 100000 in
theorem good_no {is : Bool} {s : ByteArray} (h : ¬ CanBe is s) (w : World) : Calls Try.prog 48 #[.agg #[.bool is, .string s]] w fun e w' => e = .returned (.bool false) ∧ Below w.heap.size w w' := by
  have hb := (Below.refl w.heap.size w).alloc (Nat.le_refl _) (.cells #[.bool is, .string s] 23)
  have HB := Hid.mk hb
  clear hb
  cases is with
  | true =>
    have h1 : ¬ (s.size : Int) ≤ 32 := fun k => h (.inl ⟨rfl, by omega⟩)
    have h2 : ¬ s.size ≤ 32 := fun k => h (.inl ⟨rfl, k⟩)
    clear h
    go_enter Try.func48, Try.ntmps48
    go_wp2
    go_ret
    exact ⟨rfl, HB.out⟩
  | false =>
    have h1 : s.toList.isEmpty = false := isEmpty_no fun k => h (.inr ⟨rfl, k⟩)
    clear h
    go_enter Try.func48, Try.ntmps48
    go_wp2
    go_ret
    exact ⟨rfl, HB.out⟩





set_option maxHeartbeats 800000 in
set_option maxRecDepth 100000 in
theorem make_yes {is : Bool} {s : ByteArray} (h : CanBe is s) (w : World) : Calls Try.prog 42 #[.agg #[.bool is, .string s]] w fun e w' => e = .returned (.agg #[.bool true, .string s]) ∧ Below w.heap.size w w' := by
  have HB := Hid.mk (((Below.refl w.heap.size w).alloc (Nat.le_refl _) (.cells #[.bool is, .string s] 23)).alloc (by simp) (.cells #[.bool false, .string ⟨#[]⟩] 23))
  have HC := Hid.mk h
  clear h
  go_enter Try.func42, Try.ntmps42
  go_wp2_with fail
  refine (good_yes HC.out _).mono ?_
  rintro e w1 ⟨rfl, hb1⟩
  have c0 : w1.cell? ⟨w.heap.size, 1, none⟩ = some (.string s) := cell_at ((hb1.block w.heap.size (by simp; omega)).trans ((Below.heap_alloc _ _ _ (by simp)).trans (heap_new w _))) rfl
  have hR : w1.heap[w.heap.size + 1]? = some (.cells #[.bool false, .string ⟨#[]⟩] 23 (0, 0)) := (hb1.block _ (by simp)).trans (by simpa using heap_new (w.alloc (.cells #[.bool is, .string s] 23)) (.cells #[.bool false, .string ⟨#[]⟩] 23))
  have d0 : w1.cell? ⟨w.heap.size + 1, 0, none⟩ = some (.bool false) := cell_at hR rfl
  have d1 : w1.cell? ⟨w.heap.size + 1, 1, none⟩ = some (.string ⟨#[]⟩) := cell_at hR rfl
  have f0 : w1.frozen? ⟨w.heap.size + 1, 0, none⟩ = false := free_at hR
  have f1 : w1.frozen? ⟨w.heap.size + 1, 1, none⟩ = false := free_at hR
  have HB1 := Hid.mk hb1
  clear hb1 hR
  go_wp2
  refine bodyPost_ret (v := Value.agg #[.bool true, .string s]) ?_ rfl ⟨rfl, ?_⟩
  · simp [results, Try.f42, go_sem, d0, d1]
  · exact ((HB.out.trans (HB1.out.mono (by simp; omega))).setCell (by simp) _).setCell (by simp) _

end Go.Proofs.Ytdngehfebmaegaa.Fil
