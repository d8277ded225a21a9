/-
  The document's own answers of layer 5: Image, Told, Found.
-/
import Derived.Test.YtcofiidibhmhgabVRow
namespace Go.Proofs.Ytcofiidibhmhgab
open Go.RowKit

set_option maxHeartbeats 800000 in
set_option maxRecDepth 100000 in
theorem refImage_any (e : Nat) (s : ByteArray) (he : e ≤ 9223372036854775807) (hs : s.size ≤ 1000000) (w : World) :
    Calls Try.prog 12 #[.int .i64 e, .string s] w fun en w' => en = .returned (.string (recOf (imgB e s))) ∧ Below w.heap.size w w' := by
  have hn := Sty.refNat_any w (e : Int) (by omega)
  have hw : Sty.natB (e : Int) = Sty.wide e := by unfold Sty.natB; rw [if_neg (by omega), Int.toNat_natCast]
  rw [hw] at hn
  have hlw : (Sty.wide e).length ≤ 10 := Sty.wide_len (by omega)
  have h1 : (⟨#[0]⟩ : ByteArray) ++ (⟨(Sty.wide e).toArray⟩ : ByteArray) ++ s = imgB e s := bytes_ext (by rw [imgB_list]; simp)
  have hz : (⟨(Sty.wide e).toArray⟩ : ByteArray).size ≤ 10 := by rw [str_size]; exact hlw
  obtain ⟨nb, hnb⟩ : ∃ nb : ByteArray, nb = ⟨(Sty.wide e).toArray⟩ := ⟨_, rfl⟩
  rw [← hnb] at hn h1 hz
  have hzi := imgB_size e s
  have HN := Hid.mk hn
  have H1 := Hid.mk h1
  clear hn hw hnb h1
  go_enter Try.func12, Try.ntmps12
  go_wp2_with fail
  refine HN.out.mono ?_
  rintro en w1 ⟨rfl, hb1⟩
  go_wp2_with fail
  rw [H1.out]
  refine (refClose_any _ (imgB e s) (by omega)).mono ?_
  rintro en w2 ⟨rfl, hb2⟩
  have hb3 := hb1.trans (hb2.mono hb1.size)
  obtain ⟨X, hX⟩ : ∃ X : ByteArray, X = ⟨(recB (imgB e s).data.toList).toArray⟩ := ⟨_, rfl⟩
  rw [← hX]
  have HX := Hid.mk hX
  clear hX hb1 hb2
  go_wp2
  go_ret
  exact ⟨by rw [HX.out]; rfl, hb3⟩

theorem head_of {t : ByteArray} (h : 0 < t.size) : t.data.toList = t[0] :: t.data.toList.drop 1 := by
  cases hl : t.data.toList with
  | nil => rw [← size_list, hl] at h; simp at h
  | cons c r =>
    have : t[0] = c := by
      have h1 := Sty.byte_at t 0 h
      rw [hl] at h1
      exact UInt8.toNat_inj.1 h1
    rw [this]
    rfl

theorem noImg_empty {t : ByteArray} (h : t.size = 0) : NoImg t := fun e s hi => by
  have := imgB_size e s
  rw [← hi.2.2] at this
  omega
theorem notLd_empty {t : ByteArray} (h : t.size = 0) : NotLd t := fun s hi => by
  have := ldB_size s
  rw [← hi] at this
  omega
theorem noImg_byte {t : ByteArray} (h : 0 < t.size) (hq : ((t[0].toNat : Int) != 0) = true) : NoImg t := fun e s hi => by
  have h1 := head_of h
  have h2 : t.data.toList = 0 :: (Sty.wide e ++ s.data.toList) := by rw [hi.2.2, imgB_list]
  rw [h2] at h1
  have h3 := (List.cons.inj h1).1
  rw [← h3] at hq
  simp at hq
theorem zero_byte {t : ByteArray} (h : 0 < t.size) (hq : ((t[0].toNat : Int) != 0) = false) : t.data.toList = 0 :: t.data.toList.drop 1 := by
  have h1 := head_of h
  have h2 : t[0] = 0 := by
    simp at hq
    exact UInt8.toNat_inj.1 hq
  rw [h2] at h1
  exact h1
theorem notLd_byte {t : ByteArray} (h : 0 < t.size) (hq : ((t[0].toNat : Int) != 1) = true) : NotLd t := fun s hi => by
  have h1 := head_of h
  have h2 : t.data.toList = 1 :: s.data.toList := by rw [hi, ldB_list]
  rw [h2] at h1
  have h3 := (List.cons.inj h1).1
  rw [← h3] at hq
  simp at hq
theorem ld_byte {t : ByteArray} (h : 0 < t.size) (hq : ((t[0].toNat : Int) != 1) = false) : t = ldB (t.extract 1 t.size) := by
  have h1 := head_of h
  have h2 : t[0] = 1 := by
    simp at hq
    apply UInt8.toNat_inj.1
    show t[0].toNat = 1
    omega
  apply bytes_ext
  rw [ldB_list, Sty.extract_list, ← h2]
  exact h1

theorem take_at {L : List ByteArray} {j : Nat} {t : ByteArray} (hj : j < L.length) (ht : t = L[j]) : L.take (j + 1) = L.take j ++ [t] := by rw [List.take_succ_eq_append_getElem hj, ht]
theorem split_at {L : List ByteArray} {j : Nat} {t : ByteArray} (hj : j < L.length) (ht : t = L[j]) : L = L.take j ++ t :: L.drop (j + 1) := by
  rw [ht, ← List.drop_eq_getElem_cons hj, List.take_append_drop]

/-- A first record that is no image's. -/
theorem told_first {L : List ByteArray} {t : ByteArray} (hj : 0 < L.length) (ht : t = L[0]) (hn : NoImg t) : Told L 0 ⟨#[]⟩ [] := .inl ⟨rfl, rfl, rfl, fun r R hL => by
  subst hL
  simp at ht
  rw [← ht]
  exact hn⟩
/-- A record behind loads that is none. -/
theorem told_break {L lds : List ByteArray} {j e : Nat} {s t : ByteArray} (h0 : j ≠ 0) (hj : j < L.length) (ht : t = L[j]) (hseen : Seen (L.take j) e s lds) (hn : NotLd t) : Told L e s lds := by
  rcases hseen with ⟨h, _⟩ | ⟨r, h, hi⟩
  · have := congrArg List.length h
    rw [List.length_take] at this
    simp only [List.length_nil] at this
    omega
  · refine .inr ⟨r, lds.map ldB ++ t :: L.drop (j + 1), ?_, hi, (loadsOf_stop lds hn _).symm⟩
    have h1 := split_at hj ht
    rw [h] at h1
    exact h1
theorem told_end {L lds : List ByteArray} {e : Nat} {s : ByteArray} (hseen : Seen L e s lds) : Told L e s lds := by
  rcases hseen with ⟨rfl, rfl, rfl, rfl⟩ | ⟨r, rfl, hi⟩
  · exact Told.none
  · exact .inr ⟨r, _, rfl, hi, (loadsOf_map _).symm⟩

/-- What the document's Told answers. -/
def RTold (w : World) (x : ByteArray) (en : Ending) (w' : World) : Prop :=
  ∃ (e : Nat) (s : ByteArray) (va : Option Addr) (vc : Nat) (lds L : List ByteArray), en = .returned (.tuple #[.int .i64 e, .string s, .slice va lds.length vc]) ∧ AllOf x.data.toList L ∧ Told L e s lds ∧
    w'.ownsRow w.heap.size 9 1 (.slice va lds.length vc) lds.length (textCells lds) ∧ Below w.heap.size w w'



end Go.Proofs.Ytcofiidibhmhgab
