/-
  The walks of file's calls, over any world: what they answer; they leave all that was there as it was.
-/
import Derived.Test.YtajongclalcigaaRows
import Derived.BigRegion
import Derived.BigQuiet
import Derived.Deep.QuietTactic
import Derived.WalkSmall
import Derived.ProofKit
import Derived.OpenShut
import Derived.Deep.Strs
import Derived.Deep.RegionHeld3
import Derived.OwnWalk
import Derived.Laws.OwnMore
import Derived.Laws.MakeOwn
import Derived.Lib.BufferWrite
import Derived.Test.YtajongclalcigaaFMath
namespace Go.Proofs.Ytajongclalcigaa.Fil
open Go.ChangeShapes Go.WideShapes Go.ChangeAt Go.RowKit Go.Deep

theorem Hid.mk {p : Prop} (h : p) : Hid p := h

set_option maxRecDepth 100000 in
theorem own : ownKnob Try.prog.godebug = none := by kernel_rfl
set_option maxRecDepth 100000 in
theorem laidOut : laidOutB Try.prog = true := by kernel_rfl
set_option maxRecDepth 100000 in
theorem Try.info5 : (Try.prog.info? 5).map (fun i => (i.zero, i.size, i.bytes)) = some (some (.int .u8 0), 1, 1) := by kernel_rfl

theorem heap_set {w : World} {b i : Nat} {cs : Array Value} {t : TypeId} {m : Nat × Nat} (x : Value) (h : w.heap[b]? = some (.cells cs t m)) : (w.setCell ⟨b, i, none⟩ x).heap[b]? = some (.cells (cs.setIfInBounds i x) t m) := by
  simp [World.setCell, Array.getElem?_modify, h]

theorem heap_new (w : World) (o : Obj) : (w.alloc o).heap[w.heap.size]? = some o := heap_alloc_new w o

theorem cell_at {w : World} {g i : Nat} {cs : Array Value} {t : TypeId} {m : Nat × Nat} {v : Value} (h : w.heap[g]? = some (.cells cs t m)) (hc : cs[i]? = some v) : w.cell? ⟨g, i, none⟩ = some v := by simp [World.cell?, h, hc]
theorem free_at {w : World} {g i : Nat} {cs : Array Value} {t : TypeId} (h : w.heap[g]? = some (.cells cs t (0, 0))) : w.frozen? ⟨g, i, none⟩ = false := by simp [World.frozen?, h]

/-- A file that can be. -/
def CanBe (is : Bool) (s : ByteArray) : Prop := (is = true ∧ s.size ≤ 32) ∨ (is = false ∧ s = ⟨#[]⟩)

theorem CanBe.le {is : Bool} {s : ByteArray} (h : CanBe is s) : s.size ≤ 32 := by
  rcases h with ⟨_, h⟩ | ⟨_, rfl⟩
  · exact h
  · decide

theorem wrap_u8 (b : UInt8) : wrap64 (b.toNat : Int) = (b.toNat : Int) := by
  have := b.toNat_lt
  unfold wrap64
  omega

theorem toList_txt (s : ByteArray) : s.toList = s.data.toList := ByteArray.toList_eq s

theorem isEmpty_no {s : ByteArray} (h : s ≠ ⟨#[]⟩) : s.toList.isEmpty = false := by
  rw [toList_txt]
  cases e : s.data.toList with
  | nil => exact absurd (by rw [← txt_list s, e]; rfl) h
  | cons x r => rfl

set_option maxHeartbeats 800000 in
set_option maxRecDepth 100000 in
theorem good_yes {is : Bool} {s : ByteArray} (h : CanBe is s) (w : World) : Calls Try.prog 9 #[.agg #[.bool is, .string s]] w fun e w' => e = .returned (.bool true) ∧ Below w.heap.size w w' := by
  have hb := (Below.refl w.heap.size w).alloc (Nat.le_refl _) (.cells #[.bool is, .string s] 23)
  have HB := Hid.mk hb
  clear hb
  rcases h with ⟨rfl, h⟩ | ⟨rfl, rfl⟩
  · have h1 : (s.size : Int) ≤ 32 := by omega
    go_enter Try.func9, Try.ntmps9
    go_wp2
    go_ret
    exact ⟨rfl, HB.out⟩
  · go_enter Try.func9, Try.ntmps9
    go_wp2
    go_ret
    exact ⟨rfl, HB.out⟩

set_option maxHeartbeats 800000 in
set_option maxRecDepth 100000 in
theorem good_no {is : Bool} {s : ByteArray} (h : ¬ CanBe is s) (w : World) : Calls Try.prog 9 #[.agg #[.bool is, .string s]] w fun e w' => e = .returned (.bool false) ∧ Below w.heap.size w w' := by
  have hb := (Below.refl w.heap.size w).alloc (Nat.le_refl _) (.cells #[.bool is, .string s] 23)
  have HB := Hid.mk hb
  clear hb
  cases is with
  | true =>
    have h1 : ¬ (s.size : Int) ≤ 32 := fun k => h (.inl ⟨rfl, by omega⟩)
    have h2 : ¬ s.size ≤ 32 := fun k => h (.inl ⟨rfl, k⟩)
    clear h
    go_enter Try.func9, Try.ntmps9
    go_wp2
    go_ret
    exact ⟨rfl, HB.out⟩
  | false =>
    have h1 : s.toList.isEmpty = false := isEmpty_no fun k => h (.inr ⟨rfl, k⟩)
    clear h
    go_enter Try.func9, Try.ntmps9
    go_wp2
    go_ret
    exact ⟨rfl, HB.out⟩

set_option maxHeartbeats 800000 in
set_option maxRecDepth 100000 in
theorem at_yes {is : Bool} {s : ByteArray} (h : CanBe is s) (k : Nat) (hk : k < s.size) (w : World) : Calls Try.prog 14 #[.agg #[.bool is, .string s], .int .i64 k] w fun e w' => e = .returned (.int .i64 ((atz s.data.toList k).toNat : Int)) ∧ Below w.heap.size w w' := by
  have hb := (Below.refl w.heap.size w).alloc (Nat.le_refl _) (.cells #[.bool is, .string s] 23)
  have HB := Hid.mk hb
  have hz : atz s.data.toList k = s[k]'hk := by rw [atz_get _ _ (by rw [list_size]; exact hk), Array.getElem_toList]; rfl
  have HZ := Hid.mk hz
  have wz : wrap64 (s[k].toNat : Int) = (s[k].toNat : Int) := wrap_u8 _
  have HC := Hid.mk h
  clear hb hz h
  go_enter Try.func14, Try.ntmps14
  go_wp2_with fail
  refine (good_yes HC.out _).mono ?_
  rintro e w1 ⟨rfl, hb1⟩
  have c0 : w1.cell? ⟨w.heap.size, 1, none⟩ = some (.string s) := cell_at ((hb1.block w.heap.size (by simp)).trans (heap_new w _)) rfl
  have HB1 := Hid.mk hb1
  clear hb1
  go_wp2
  go_ret
  exact ⟨by rw [HZ.out]; exact congrArg (fun x => Ending.returned (Value.int .i64 x)) wz, HB.out.trans (HB1.out.mono (by simp))⟩

set_option maxHeartbeats 800000 in
set_option maxRecDepth 100000 in
theorem at_no {is : Bool} {s : ByteArray} (h : CanBe is s) (k : Int) (hk : k < 0 ∨ (s.size : Int) ≤ k) (w : World) : Calls Try.prog 14 #[.agg #[.bool is, .string s], .int .i64 k] w fun e w' => e = .returned (.int .i64 (-1)) ∧ Below w.heap.size w w' := by
  have hb := (Below.refl w.heap.size w).alloc (Nat.le_refl _) (.cells #[.bool is, .string s] 23)
  have HB := Hid.mk hb
  have HC := Hid.mk h
  clear hb h
  go_enter Try.func14, Try.ntmps14
  go_wp2_with fail
  refine (good_yes HC.out _).mono ?_
  rintro e w1 ⟨rfl, hb1⟩
  have c0 : w1.cell? ⟨w.heap.size, 1, none⟩ = some (.string s) := cell_at ((hb1.block w.heap.size (by simp)).trans (heap_new w _)) rfl
  have HB1 := Hid.mk hb1
  clear hb1
  by_cases h0 : k < 0
  · clear hk
    go_wp2
    go_ret
    exact ⟨rfl, HB.out.trans (HB1.out.mono (by simp))⟩
  · have h1 : (s.size : Int) ≤ k := by omega
    clear hk
    go_wp2
    go_ret
    exact ⟨rfl, HB.out.trans (HB1.out.mono (by simp))⟩

set_option maxHeartbeats 800000 in
set_option maxRecDepth 100000 in
theorem make_yes {is : Bool} {s : ByteArray} (h : CanBe is s) (w : World) : Calls Try.prog 16 #[.agg #[.bool is, .string s]] w fun e w' => e = .returned (.agg #[.bool true, .string s]) ∧ Below w.heap.size w w' := by
  have HB := Hid.mk (((Below.refl w.heap.size w).alloc (Nat.le_refl _) (.cells #[.bool is, .string s] 23)).alloc (by simp) (.cells #[.bool false, .string ⟨#[]⟩] 23))
  have HC := Hid.mk h
  clear h
  go_enter Try.func16, Try.ntmps16
  go_wp2_with fail
  refine (good_yes HC.out _).mono ?_
  rintro e w1 ⟨rfl, hb1⟩
  have c0 : w1.cell? ⟨w.heap.size, 1, none⟩ = some (.string s) := cell_at ((hb1.block w.heap.size (by simp; omega)).trans ((Below.heap_alloc _ _ _ (by simp)).trans (heap_new w _))) rfl
  have hR : w1.heap[w.heap.size + 1]? = some (.cells #[.bool false, .string ⟨#[]⟩] 23 (0, 0)) := (hb1.block _ (by simp)).trans (by simpa using heap_new (w.alloc (.cells #[.bool is, .string s] 23)) (.cells #[.bool false, .string ⟨#[]⟩] 23))
  have d0 : w1.cell? ⟨w.heap.size + 1, 0, none⟩ = some (.bool false) := cell_at hR rfl
  have d1 : w1.cell? ⟨w.heap.size + 1, 1, none⟩ = some (.string ⟨#[]⟩) := cell_at hR rfl
  have f0 : w1.frozen? ⟨w.heap.size + 1, 0, none⟩ = false := free_at hR
  have f1 : w1.frozen? ⟨w.heap.size + 1, 1, none⟩ = false := free_at hR
  have HB1 := Hid.mk hb1
  clear hb1 hR
  go_wp2
  refine bodyPost_ret (v := Value.agg #[.bool true, .string s]) ?_ rfl ⟨rfl, ?_⟩
  · simp [results, Try.f16, go_sem, d0, d1]
  · exact ((HB.out.trans (HB1.out.mono (by simp; omega))).setCell (by simp) _).setCell (by simp) _

end Go.Proofs.Ytajongclalcigaa.Fil
