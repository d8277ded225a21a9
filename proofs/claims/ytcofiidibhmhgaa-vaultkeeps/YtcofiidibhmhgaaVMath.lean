/-
  What a vault's records are, and what an area's records tell. No walk here.
-/
import Derived.Test.YtcofiidibhmhgaaLMath
import Derived.Test.YtcofiidibhmhgaaYCanon
namespace Go.Proofs.Ytcofiidibhmhgaa

/-- The load of an image's record; of a load's. -/
def imgB (e : Nat) (s : ByteArray) : ByteArray := ⟨(0 :: (Sty.wide e ++ s.data.toList)).toArray⟩
def ldB (s : ByteArray) : ByteArray := ⟨(1 :: s.data.toList).toArray⟩

def IsImg (r : ByteArray) (e : Nat) (s : ByteArray) : Prop := 1 ≤ e ∧ e ≤ 1099511627776 ∧ r = imgB e s
def NoImg (r : ByteArray) : Prop := ∀ e s, ¬ IsImg r e s
def NotLd (r : ByteArray) : Prop := ∀ s, r ≠ ldB s

theorem bytes_ext {a b : ByteArray} (h : a.data.toList = b.data.toList) : a = b := by
  apply ByteArray.ext
  exact Array.toList_inj.1 h

theorem imgB_list (e : Nat) (s : ByteArray) : (imgB e s).data.toList = 0 :: (Sty.wide e ++ s.data.toList) := str_list _
theorem ldB_list (s : ByteArray) : (ldB s).data.toList = 1 :: s.data.toList := str_list _
theorem imgB_size (e : Nat) (s : ByteArray) : (imgB e s).size = 1 + (Sty.wide e).length + s.size := by
  rw [← size_list, imgB_list]
  simp
  omega
theorem ldB_size (s : ByteArray) : (ldB s).size = 1 + s.size := by
  rw [← size_list, ldB_list]
  simp
  omega
theorem ldB_inj {s t : ByteArray} (h : ldB s = ldB t) : s = t := by
  have := congrArg (fun x => x.data.toList) h
  simp only [ldB_list] at this
  exact bytes_ext (List.cons.inj this).2
theorem ldB_add (s : ByteArray) : (⟨#[1]⟩ : ByteArray) ++ s = ldB s := by
  apply bytes_ext
  rw [ldB_list]
  simp

theorem IsImg.one {r s t : ByteArray} {e f : Nat} (h : IsImg r e s) (k : IsImg r f t) : e = f ∧ s = t := by
  have h1 := congrArg (fun x => x.data.toList) (h.2.2.symm.trans k.2.2)
  simp only [imgB_list] at h1
  have h2 := (List.cons.inj h1).2
  have he : e = f := Sty.prefix_unique (l := Sty.wide e ++ s.data.toList) (List.prefix_append _ _) (by rw [h2]; exact List.prefix_append _ _)
  subst he
  exact ⟨rfl, bytes_ext (List.append_cancel_left h2)⟩

/-- The loads of records, as long as they are loads'. -/
def loadsOf : List ByteArray → List ByteArray
  | [] => []
  | r :: R => match r.data.toList with
    | 1 :: t => ⟨t.toArray⟩ :: loadsOf R
    | _ => []

theorem loadsOf_ld (s : ByteArray) (R : List ByteArray) : loadsOf (ldB s :: R) = s :: loadsOf R := by
  rw [loadsOf, ldB_list]
  exact congrArg (fun x => x :: loadsOf R) (bytes_ext (str_list _))

theorem loadsOf_not {r : ByteArray} (h : NotLd r) (R : List ByteArray) : loadsOf (r :: R) = [] := by
  rw [loadsOf]
  split
  · rename_i t ht
    exact absurd (bytes_ext (by rw [ldB_list, ht, str_list])) (h ⟨t.toArray⟩)
  · rfl

theorem loadsOf_map (l : List ByteArray) : loadsOf (l.map ldB) = l := by
  induction l with
  | nil => rfl
  | cons s r ih => rw [List.map_cons, loadsOf_ld, ih]

theorem loadsOf_stop (l : List ByteArray) {r : ByteArray} (h : NotLd r) (R : List ByteArray) : loadsOf (l.map ldB ++ r :: R) = l := by
  induction l with
  | nil => exact loadsOf_not h R
  | cons s l ih => rw [List.map_cons, List.cons_append, loadsOf_ld, ih]

/-- What an area's records tell: the epoch, the image, the loads. -/
def Told (L : List ByteArray) (e : Nat) (s : ByteArray) (lds : List ByteArray) : Prop :=
  (e = 0 ∧ s = ⟨#[]⟩ ∧ lds = [] ∧ ∀ r R, L = r :: R → NoImg r) ∨ ∃ r R, L = r :: R ∧ IsImg r e s ∧ lds = loadsOf R

theorem Told.one {L : List ByteArray} {e f : Nat} {s t : ByteArray} {l m : List ByteArray} (h : Told L e s l) (k : Told L f t m) : e = f ∧ s = t ∧ l = m := by
  rcases h with ⟨rfl, rfl, rfl, hn⟩ | ⟨r, R, rfl, hi, rfl⟩
  · rcases k with ⟨rfl, rfl, rfl, _⟩ | ⟨r, R, rfl, hi, _⟩
    · exact ⟨rfl, rfl, rfl⟩
    · exact absurd hi (hn r R rfl _ _)
  · rcases k with ⟨_, _, _, hn⟩ | ⟨r', R', e, hi', rfl⟩
    · exact absurd hi (hn r R rfl _ _)
    · injection e with e1 e2
      subst e1 e2
      obtain ⟨h1, h2⟩ := hi.one hi'
      exact ⟨h1, h2, rfl⟩

theorem Told.none : Told [] 0 ⟨#[]⟩ [] := .inl ⟨rfl, rfl, rfl, fun _ _ h => by cases h⟩
theorem Told.img {e : Nat} {s : ByteArray} (h1 : 1 ≤ e) (h2 : e ≤ 1099511627776) (l : List ByteArray) : Told (imgB e s :: l.map ldB) e s l :=
  .inr ⟨_, _, rfl, ⟨h1, h2, rfl⟩, (loadsOf_map l).symm⟩
theorem Told.exists_ (L : List ByteArray) : ∃ e s l, Told L e s l := by
  cases L with
  | nil => exact ⟨_, _, _, Told.none⟩
  | cons r R =>
    by_cases h : ∃ e s, IsImg r e s
    · obtain ⟨e, s, h⟩ := h
      exact ⟨e, s, _, .inr ⟨r, R, rfl, h, rfl⟩⟩
    · exact ⟨0, ⟨#[]⟩, [], .inl ⟨rfl, rfl, rfl, fun r' R' e e' s' hi => by
        injection e with e1 _
        subst e1
        exact h ⟨_, _, hi⟩⟩⟩

theorem Told.le {L : List ByteArray} {e : Nat} {s : ByteArray} {l : List ByteArray} (h : Told L e s l) : e ≤ 1099511627776 := by
  rcases h with ⟨rfl, _⟩ | ⟨_, _, _, hi, _⟩
  · omega
  · exact hi.2.1

theorem loadsOf_len (R : List ByteArray) : (loadsOf R).length ≤ R.length := by
  induction R with
  | nil => exact Nat.le_refl _
  | cons r R ih =>
    rw [loadsOf]
    split
    · simp only [List.length_cons]; omega
    · simp

theorem Told.len {L : List ByteArray} {e : Nat} {s : ByteArray} {l : List ByteArray} (h : Told L e s l) : l.length ≤ L.length := by
  rcases h with ⟨_, _, rfl, _⟩ | ⟨r, R, rfl, _, rfl⟩
  · exact Nat.zero_le _
  · have := loadsOf_len R
    rw [List.length_cons]
    omega

theorem txt_congr {o : Bool} {a b : List Ch} (h : txt o a = txt o b) (x : List Ch) : txt o (a ++ x) = txt o (b ++ x) := by
  unfold txt at h ⊢
  rw [List.foldl_append, List.foldl_append, h]

end Go.Proofs.Ytcofiidibhmhgaa
