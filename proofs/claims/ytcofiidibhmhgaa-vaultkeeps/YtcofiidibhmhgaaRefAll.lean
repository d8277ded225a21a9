/-
  The document's All: all loads with which bytes begin, as a list that the call owns.
-/
import Derived.Test.YtcofiidibhmhgaaJoined
import Derived.Test.YtcofiidibhmhgaaSeqs
namespace Go.Proofs.Ytcofiidibhmhgaa
open Go.RowKit

theorem texts_one (w : World) (t : ByteArray) : IsTexts (w.alloc (.cells #[.string t] 9)) (some ⟨w.heap.size, 0, none⟩) 1 1 [t] :=
  ⟨rfl, .inr ⟨w.heap.size, 0, rfl, ⟨by simp, fun j hj => by
    have : j = 0 := by simpa using hj
    subst this
    simp⟩⟩⟩

set_option maxHeartbeats 800000 in
set_option maxRecDepth 100000 in
theorem refAll_any (w : World) (s : ByteArray) (hsz : s.size ≤ 50000) :
    Calls Try.prog 45 #[.string s] w fun e w' => ∃ v L, e = .returned v ∧ AllOf s.data.toList L ∧ w'.ownsRow w.heap.size 9 1 v L.length (textCells L) ∧ Below w.heap.size w w' := by
  go_enter Try.func45, Try.ntmps45
  go_wp2_with fail
  refine (refOpen_any _ s (by omega)).mono ?_
  rintro e w1 ⟨ld0, m0, rfl, ho0, hb1⟩
  have HO := Hid.mk ho0
  clear ho0
  go_wp2_with fail
  go_loopw [0, 3, 4, 5] (fun b out load n wr => ∃ (pre : List ByteArray) (r ld : ByteArray) (m : Nat), b = .string r ∧ load = .string ld ∧ n = .int .i64 m ∧ Led s.data.toList pre r.data.toList ∧ Opened r.data.toList ld.data.toList m ∧ wr.ownsRow w.heap.size 9 1 out pre.length (textCells pre) ∧ Below w.heap.size w wr) (fun b _ _ _ _ => strOf b)
  case atStart => exact ⟨[], s, ld0, m0, rfl, rfl, rfl, rfl, HO.out, ⟨rfl, .inl ⟨rfl, rfl⟩⟩, hb1⟩
  case round =>
    obtain ⟨pre, r, ld, m, rfl, rfl, rfl, hled, ho, hown, hbel⟩ := hrel
    clear hb1
    have hls := hled.size
    rw [size_list, size_list] at hls
    have HL := Hid.mk hled
    clear hled
    by_cases hm : m = 0
    · subst hm
      have hnone : AllOf r.data.toList [] := by
        rcases ho with ⟨_, h⟩ | ⟨_, _, h⟩
        · omega
        · exact h
      have HA : Hid (AllOf s.data.toList pre) := Hid.mk (by have h := HL.out.all hnone; rw [List.append_nil] at h; exact h)
      clear ho hnone
      have HW := Hid.mk hown
      clear hown
      go_wp2
      go_ret
      exact ⟨_, pre, rfl, HA.out, HW.out, hbel⟩
    · have hbg : Begins r.data.toList ld.data.toList ∧ m = ld.data.toList.length + 6 := by
        rcases ho with h | ⟨h, _⟩
        · exact h
        · exact absurd h hm
      have hrs := hbg.1.size
      rw [size_list, size_list] at hrs
      have hm2 : m = ld.size + 6 := by rw [hbg.2, size_list]
      have HLN := Hid.mk (HL.out.snoc hbg.1)
      have hmp : (0 : Int) < (m : Int) := by omega
      have hmr : (m : Int) ≤ (r.size : Int) := by omega
      have HM := Hid.mk hm2
      clear ho hbg hm2
      go_wp2_with (at_builtin; refine wpList_append_texts _ rfl (.tmp 13) (.tmp 15) rfl w.heap.size _ pre.length (textCells pre) rfl ?o1 (some ⟨wr.heap.size, 0, none⟩) 1 1 [ld] rfl ?i1 (by omega) (by have := hbel.size; simp; omega) ?_)
      case o1 => exact hown.alloc _
      case i1 => exact texts_one wr ld
      intro v1 w2 hown2 hg2
      have hb2 : Below w.heap.size w w2 := (hbel.alloc hbel.size _).grown hg2 (by have := hbel.size; simp; omega) (fun k hk => (hown.lt k hk).1)
      rw [← textCells_append] at hown2
      have hl2 : (pre ++ [ld]).length = pre.length + 1 := by simp
      rw [← hl2] at hown2
      clear hown hg2 hbel hl2
      go_wp2_with fail
      obtain ⟨r2, hr2⟩ : ∃ r2, r2 = r.extract m r.size := ⟨_, rfl⟩
      have hrl : r2.data.toList = r.data.toList.drop (ld.size + 6) := by
        rw [hr2, extract_list, List.take_of_length_le (by rw [size_list]; exact Nat.le_refl _), HM.out]
      have hrz : r2.size = r.size - (ld.size + 6) := by rw [← size_list, hrl, List.length_drop, size_list]
      rw [← hr2]
      have HRL := Hid.mk hrl
      clear hr2 hrl
      refine (refOpen_any _ r2 (by omega)).mono ?_
      rintro e w3 ⟨ld3, m3, rfl, ho3, hb3⟩
      have hown3 := hown2.kept (grown_of_below hb3) (by cases hv : v1.ownBlock <;> simp)
      have hbel3 := hb2.trans (hb3.mono hb2.size)
      have HO3 := Hid.mk ho3
      have HW3 := Hid.mk hown3
      clear ho3 hown3 hown2 hb3 hb2
      go_wp2
      go_roundw
      case rel => exact ⟨pre ++ [ld], r2, ld3, m3, rfl, rfl, rfl, by rw [HRL.out]; exact HLN.out, HO3.out, HW3.out, hbel3⟩
      case measure =>
        show r2.size < r.size
        omega

end Go.Proofs.Ytcofiidibhmhgaa
