/-
  What is found where Settle is cut: the old image with all its loads, or the new one. No walk here.
-/
import Derived.Test.YtcofiidibhmhgaaVFound
namespace Go.Proofs.Ytcofiidibhmhgaa
open Go.RowKit

theorem fnd_old {dn : List Ch} {e : Nat} {old : ByteArray} {A : List ByteArray} (he : 1 ≤ e) (he2 : e ≤ 1099511627776) (h1 : AllOf (txt true dn).data.toList (imgs e old A)) (h0 : AllOf (txt false dn).data.toList []) : Fnd dn [] true e old A :=
  ⟨imgs e old A, [], 0, ⟨#[]⟩, [], by rw [List.append_nil]; exact h1, by rw [List.append_nil]; exact h0, Told.img he he2 A, Told.none, he⟩

theorem fnd_next {dn : List Ch} {e f : Nat} {img t : ByteArray} {L m : List ByteArray} (he : 1 ≤ e) (he2 : e ≤ 1099511627776) (h0 : AllOf (txt false dn).data.toList (imgs e img [])) (h1 : AllOf (txt true dn).data.toList L) (hT : Told L f t m) (hf : f ≤ e) : Fnd dn [] false e img [] :=
  ⟨imgs e img [], L, f, t, m, by rw [List.append_nil]; exact h0, by rw [List.append_nil]; exact h1, Told.img he he2 [], hT, hf⟩

section
variable {dn : List Ch} {old img : ByteArray} {A : List ByteArray}

/-- The changes of the steps. -/
def cut1 (dn : List Ch) : List Ch := dn ++ ([] ++ [⟨false, true, ⟨#[]⟩⟩])
def cut2 (dn : List Ch) (r : ByteArray) (p : Int) : List Ch := cut1 dn ++ kept ([] ++ [⟨false, false, r⟩]) 0 p
def cut3 (dn : List Ch) (r : ByteArray) : List Ch := cut1 dn ++ ([] ++ [⟨false, false, r⟩])
def cut4 (dn : List Ch) (r : ByteArray) (p : Int) : List Ch := cut3 dn r ++ kept ([] ++ [⟨true, true, ⟨#[]⟩⟩]) p 0

theorem cut1_true (dn : List Ch) : txt true (cut1 dn) = txt true dn := by
  unfold cut1
  rw [List.nil_append, txt_one]
  simp [Ch.on]
theorem cut1_false (dn : List Ch) : txt false (cut1 dn) = ⟨#[]⟩ := by
  unfold cut1
  rw [List.nil_append]
  exact txt_reset _ _

theorem found0 (h1 : AllOf (txt true dn).data.toList (imgs 1 old A)) (h0 : AllOf (txt false dn).data.toList []) : Fnd dn [] true 1 old A := fnd_old (by omega) (by omega) h1 h0

theorem found1 (h1 : AllOf (txt true dn).data.toList (imgs 1 old A)) : Fnd (cut1 dn) [] true 1 old A :=
  fnd_old (by omega) (by omega) (by rw [cut1_true]; exact h1) (by rw [cut1_false]; exact none_nil)

theorem found2 (h1 : AllOf (txt true dn).data.toList (imgs 1 old A)) (hi : (imgB 2 img).size ≤ 1024) (p : Int) :
    Fnd (cut2 dn (recOf (imgB 2 img)) p) [] true 1 old A ∨ Fnd (cut2 dn (recOf (imgB 2 img)) p) [] false 2 img [] := by
  obtain ⟨n, hn, hall⟩ := lasts false [] [imgB 2 img] 0 p (fun t ht => by simp at ht) (fun t ht => by simp at ht; rw [ht]; exact hi)
  have e1 : txt true (cut2 dn (recOf (imgB 2 img)) p) = txt true dn := by
    have := kept_other false [imgB 2 img] 0 p (cut1 dn)
    exact this.trans (cut1_true dn)
  have e0 : txt false (cut2 dn (recOf (imgB 2 img)) p) = txt false (recs false [] ++ kept (recs false [imgB 2 img]) 0 p) := txt_congr (by rw [cut1_false]; rfl) _
  rw [← e0] at hall
  rw [← e1] at h1
  have hn' : n = 0 ∨ n = 1 := by simp at hn; omega
  rcases hn' with rfl | rfl
  · exact .inl (fnd_old (by omega) (by omega) h1 hall)
  · exact .inr (fnd_next (by omega) (by omega) hall h1 (Told.img (by omega) (by omega) A) (by omega))

theorem found4 (h1 : AllOf (txt true dn).data.toList (imgs 1 old A)) (hi : (imgB 2 img).size ≤ 1024) (p : Int) : Fnd (cut4 dn (recOf (imgB 2 img)) p) [] false 2 img [] := by
  have e3 : txt false (cut3 dn (recOf (imgB 2 img))) = txt false (recs false (imgs 2 img [])) := by
    have : txt false (cut3 dn (recOf (imgB 2 img))) = txt false ([] ++ recs false [imgB 2 img]) := txt_congr (by rw [cut1_false]; rfl) _
    exact this
  have t3 : txt true (cut3 dn (recOf (imgB 2 img))) = txt true dn := by
    unfold cut3
    rw [List.nil_append, txt_one, cut1_true]
    simp [Ch.on]
  have h0 : AllOf (txt false (recs false (imgs 2 img []))).data.toList (imgs 2 img []) := by
    rw [txt_recs]
    exact all_row_nil _ (small_imgs hi fun t ht => by simp at ht)
  by_cases hk : near p 1 = 0
  · have e : kept ([] ++ [⟨true, true, ⟨#[]⟩⟩]) p 0 = ([] : List Ch) := by
      have := kept_reset (ws := [⟨true, true, ⟨#[]⟩⟩]) (k := p) (p := 0) (K := 0) (by simpa using hk.symm) (by simp) rfl
      simpa using this
    refine fnd_next (by omega) (by omega) ?_ (L := imgs 1 old A) (f := 1) ?_ (Told.img (by omega) (by omega) A) (by omega)
    · unfold cut4
      rw [e, List.append_nil, e3]
      exact h0
    · unfold cut4
      rw [e, List.append_nil, t3]
      exact h1
  · have hk1 : near p 1 = 1 := by have := near_le p 1; omega
    have e : kept ([] ++ [⟨true, true, ⟨#[]⟩⟩]) p 0 = ([⟨true, true, ⟨#[]⟩⟩] : List Ch) := kept_all (ws := [⟨true, true, ⟨#[]⟩⟩]) (by simpa using hk1)
    refine fnd_next (by omega) (by omega) ?_ (L := []) (f := 0) ?_ Told.none (by omega)
    · unfold cut4
      rw [e, txt_one, e3]
      exact h0
    · unfold cut4
      rw [e, txt_reset]
      exact none_nil

end

theorem wrap_four (c : Int) : wrap64 ((IntKind.u64.wrap c).tmod 4) = 0 ∨ wrap64 ((IntKind.u64.wrap c).tmod 4) = 1 ∨ wrap64 ((IntKind.u64.wrap c).tmod 4) = 2 ∨ wrap64 ((IntKind.u64.wrap c).tmod 4) = 3 := by
  rw [IntKind.wrap_u64, Int.tmod_eq_emod_of_nonneg (by omega)]
  have h : (c % 18446744073709551616) % 4 = 0 ∨ (c % 18446744073709551616) % 4 = 1 ∨ (c % 18446744073709551616) % 4 = 2 ∨ (c % 18446744073709551616) % 4 = 3 := by omega
  rcases h with h | h | h | h <;> rw [h]
  · exact .inl (by unfold wrap64; omega)
  · exact .inr (.inl (by unfold wrap64; omega))
  · exact .inr (.inr (.inl (by unfold wrap64; omega)))
  · exact .inr (.inr (.inr (by unfold wrap64; omega)))

end Go.Proofs.Ytcofiidibhmhgaa
