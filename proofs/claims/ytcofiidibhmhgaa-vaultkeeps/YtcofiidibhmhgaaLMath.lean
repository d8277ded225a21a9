/-
  Rows of records, and what is left of them behind a crash. No walk here.
-/
import Derived.Test.YtcofiidibhmhgaaLApp
namespace Go.Proofs.Ytcofiidibhmhgaa

/-- Loads that are not too long. -/
def Small (l : List ByteArray) : Prop := ∀ t ∈ l, t.size ≤ 1024

theorem recB_begins {s : ByteArray} (h : s.size ≤ 1024) (r : List UInt8) : Begins (recB s.data.toList ++ r) s.data.toList := ⟨by rw [size_list]; exact h, r, rfl⟩

theorem rec_drop {s : ByteArray} (h : s.size ≤ 1024) (r : List UInt8) : (recB s.data.toList ++ r).drop (s.size + 6) = r := by
  have hl : (recB s.data.toList).length = s.size + 6 := by rw [recB_length (by rw [size_list]; omega), size_list]
  rw [← hl, List.drop_left]

theorem all_row : ∀ (l : List ByteArray) (r : List UInt8), Small l → (∀ m, ¬ Begins r m) → AllOf (rowB l ++ r) l
  | [], r, _, hr => hr
  | s :: l, r, hs, hr => by
    have h1 : s.size ≤ 1024 := hs s (by simp)
    refine ⟨?_, ?_⟩
    · rw [rowB, List.append_assoc]
      exact recB_begins h1 _
    · rw [rowB, List.append_assoc, rec_drop h1]
      exact all_row l r (fun t ht => hs t (by simp [ht])) hr

theorem none_nil (m : List UInt8) : ¬ Begins [] m := fun hb => by
  have := hb.size
  simp at this

theorem all_row_nil (l : List ByteArray) (h : Small l) : AllOf (rowB l) l := by
  have := all_row l [] h none_nil
  rwa [List.append_nil] at this

/-- A record that is cut is none. -/
theorem part_none {s : ByteArray} (h : s.size ≤ 1024) (n : Nat) (hn : n < (recB s.data.toList).length) (m : List UInt8) : ¬ Begins ((recB s.data.toList).take n) m := fun hb => by
  have hl : (recB s.data.toList).length = s.size + 6 := by rw [recB_length (by rw [size_list]; omega), size_list]
  have h2 : Begins (recB s.data.toList) m := by
    refine ⟨hb.1, ?_⟩
    exact hb.2.trans (List.take_prefix _ _)
  have h3 : Begins (recB s.data.toList) s.data.toList := by
    have := recB_begins h []
    rwa [List.append_nil] at this
  have e := h2.one h3
  have hz := hb.size
  rw [e, size_list, List.length_take] at hz
  omega

/-- Records as changes that wait. -/
def recs (o : Bool) (l : List ByteArray) : List Ch := l.map fun s => ⟨o, false, recOf s⟩

theorem recs_length (o : Bool) (l : List ByteArray) : (recs o l).length = l.length := by simp [recs]
theorem recs_append (o : Bool) (a b : List ByteArray) : recs o (a ++ b) = recs o a ++ recs o b := by simp [recs]
theorem recs_take (o : Bool) (l : List ByteArray) (k : Nat) : (recs o l).take k = recs o (l.take k) := by simp [recs, List.map_take]
theorem recOf_list (s : ByteArray) : (recOf s).data.toList = recB s.data.toList := str_list _

theorem txt_recs (o : Bool) (l : List ByteArray) : (txt o (recs o l)).data.toList = rowB l := by
  have key : ∀ (l : List ByteArray) (x : ByteArray), ((recs o l).foldl (fun x c => c.on o x) x).data.toList = x.data.toList ++ rowB l := by
    intro l
    induction l with
    | nil => intro x; simp [recs, rowB]
    | cons s r ih =>
      intro x
      have h1 := ih (x ++ recOf s)
      simp only [recs, List.map_cons, List.foldl_cons] at h1 ⊢
      rw [show (⟨o, false, recOf s⟩ : Ch).on o x = x ++ recOf s from by simp [Ch.on], h1]
      simp [rowB, recOf_list]
  have h := key l ⟨#[]⟩
  simpa [txt] using h

theorem txt_recs_size (o : Bool) (l : List ByteArray) : (txt o (recs o l)).size ≤ 6 * l.length + sumT l := by
  rw [← size_list, txt_recs]
  exact rowB_le l

/-- What is left of records behind a crash: some first ones, each whole. -/
theorem lasts (o : Bool) (A W : List ByteArray) (k p : Int) (hA : Small A) (hW : Small W) :
    ∃ n, n ≤ W.length ∧ AllOf (txt o (recs o A ++ kept (recs o W) k p)).data.toList (A ++ W.take n) := by
  have hs : ∀ n, Small (A ++ W.take n) := fun n t ht => by
    rcases List.mem_append.1 ht with h | h
    · exact hA t h
    · exact hW t (List.mem_of_mem_take h)
  obtain ⟨K, hK⟩ : ∃ K, K = near k (recs o W).length := ⟨_, rfl⟩
  have hKW : K ≤ W.length := by rw [hK, recs_length]; exact near_le _ _
  by_cases hlt : K < W.length
  · have hj : K < (recs o W).length := by rw [recs_length]; exact hlt
    have hg : (recs o W)[K] = ⟨o, false, recOf W[K]⟩ := by simp [recs]
    have hr : (recs o W)[K].reset = false := by rw [hg]
    have hk := kept_torn (p := p) hK hj hr
    rw [hg] at hk
    dsimp only at hk
    have hsm : W[K].size ≤ 1024 := hW _ (List.getElem_mem hlt)
    obtain ⟨P, hP⟩ : ∃ P, P = near p (recOf W[K]).size := ⟨_, rfl⟩
    have hPs : P ≤ (recOf W[K]).size := by rw [hP]; exact near_le _ _
    have hsz : (recOf W[K]).size = (recB W[K].data.toList).length := by rw [← size_list, recOf_list]
    have ht : (txt o (recs o A ++ kept (recs o W) k p)).data.toList = rowB (A ++ W.take K) ++ (recB W[K].data.toList).take P := by
      rw [hk, ← hP, ← List.append_assoc, txt_one, recs_take, ← recs_append]
      simp only [Ch.on, ↓reduceIte, Bool.false_eq_true]
      rw [show ∀ a b : ByteArray, (a ++ b).data.toList = a.data.toList ++ b.data.toList from fun a b => by simp, txt_recs, extract_list, recOf_list]
      simp
    rw [ht]
    by_cases hPe : P = (recOf W[K]).size
    · refine ⟨K + 1, by omega, ?_⟩
      have hfull : (recB W[K].data.toList).take P = recB W[K].data.toList := List.take_of_length_le (by omega)
      rw [hfull, List.take_succ_eq_append_getElem hlt, ← List.append_assoc]
      have h1 : rowB (A ++ W.take K) ++ recB W[K].data.toList = rowB (A ++ W.take K ++ [W[K]]) := by
        rw [rowB_append (A ++ W.take K)]
        simp [rowB]
      rw [h1]
      refine all_row_nil _ fun t ht => ?_
      rcases List.mem_append.1 ht with h | h
      · exact hs K t h
      · simp at h; rw [h]; exact hsm
    · exact ⟨K, hKW, all_row _ _ (hs K) (part_none hsm P (by omega))⟩
  · have hKe : K = W.length := by omega
    have hk : kept (recs o W) k p = recs o W := kept_all (by rw [← hK, recs_length]; exact hKe)
    refine ⟨W.length, Nat.le_refl _, ?_⟩
    rw [hk, ← recs_append, txt_recs, List.take_length]
    have := hs W.length
    rw [List.take_length] at this
    exact all_row_nil _ this

theorem stepL_ok (o : Bool) (s : ByteArray) (dn ws : List Ch) (hs : s.size ≤ 1024) (hf : (txt o (dn ++ ws)).size + s.size + 6 ≤ 16384) : stepL o false s dn ws = (0, ws ++ [⟨o, false, recOf s⟩]) := by
  have := recOf_size s
  unfold stepL
  rw [if_neg (by omega), if_neg (by simp), if_neg (by omega)]

theorem stepL_long (o tn : Bool) (s : ByteArray) (dn ws : List Ch) (hs : 1024 < s.size) : stepL o tn s dn ws = (3, ws) := by
  unfold stepL
  rw [if_pos hs]

end Go.Proofs.Ytcofiidibhmhgaa
