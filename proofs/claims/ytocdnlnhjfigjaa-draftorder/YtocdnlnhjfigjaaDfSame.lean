/-
  Writes of the same numbers, in whatever order: the same draft.
-/
import Derived.Test.YtocdnlnhjfigjaaDfBox
namespace Go.Proofs.Ytocdnlnhjfigjaa.Dft

section
variable {α : Type}

theorem look_cons (e : Int × α) (r : List (Int × α)) (i : Int) : Dft.look (e :: r) i = if e.1 = i then some e.2 else Dft.look r i := by
  unfold Dft.look
  by_cases h : e.1 = i
  · rw [List.find?_cons_of_pos (by simpa using h), if_pos h]; rfl
  · rw [List.find?_cons_of_neg (by simpa using h), if_neg h]

theorem look_low {R : List (Int × α)} {i : Int} (h : ∀ e ∈ R, i < e.1) : Dft.look R i = none := by
  unfold Dft.look
  rw [List.find?_eq_none.2 (fun e he => by have := h e he; simp; omega)]
  rfl

/-- Drafts that tell the same are the same. -/
theorem same_of_look : ∀ {R Q : List (Int × α)}, Rises R → Rises Q → (∀ i, Dft.look R i = Dft.look Q i) → R = Q
  | [], [], _, _, _ => rfl
  | [], e :: q, _, _, h => by
    have := h e.1
    rw [look_cons, if_pos rfl] at this
    cases this
  | e :: r, [], _, _, h => by
    have := h e.1
    rw [look_cons, if_pos rfl] at this
    cases this
  | e :: r, f :: q, hR, hQ, h => by
    have hr := List.pairwise_cons.1 hR
    have hq := List.pairwise_cons.1 hQ
    have he : e.1 = f.1 := by
      rcases Int.lt_trichotomy e.1 f.1 with hlt | heq | hgt
      · have h1 := h e.1
        rw [look_cons, if_pos rfl, look_low (fun x hx => by
          rcases List.mem_cons.1 hx with rfl | hx
          · exact hlt
          · have : f.1 < x.1 := hq.1 x hx; omega)] at h1
        cases h1
      · exact heq
      · have h1 := h f.1
        rw [look_cons f, if_pos rfl, look_low (fun x hx => by
          rcases List.mem_cons.1 hx with rfl | hx
          · exact hgt
          · have : e.1 < x.1 := hr.1 x hx; omega)] at h1
        cases h1
    have hv : e.2 = f.2 := by
      have h1 := h e.1
      rw [look_cons, if_pos rfl, look_cons, if_pos he.symm] at h1
      exact Option.some.inj h1
    have ht : r = q := by
      refine same_of_look hr.2 hq.2 (fun i => ?_)
      by_cases hi : e.1 < i
      · have h1 := h i
        rw [look_cons, if_neg (by omega), look_cons, if_neg (by omega)] at h1
        exact h1
      · rw [look_low (fun x hx => by have : e.1 < x.1 := hr.1 x hx; omega), look_low (fun x hx => by have : f.1 < x.1 := hq.1 x hx; omega)]
    rw [ht, show e = f from Prod.ext he hv]

/-- Writes of some numbers, each to be what f says. -/
def wr (f : Int → α) (N : List Int) : List (Int × α) := N.map fun n => (n, f n)

theorem last_wr (f : Int → α) (N : List Int) (i : Int) : last (wr f N) i = if i ∈ N then some (f i) else none := by
  refine snoc_ind (m := fun N => last (wr f N) i = if i ∈ N then some (f i) else none) rfl (fun l e ih => ?_) N
  have h : wr f (l ++ [e]) = wr f l ++ [(e, f e)] := by simp [wr]
  rw [h, last_snoc, ih]
  by_cases h1 : i = e
  · subst h1
    simp
  · simp [h1]

theorem wr_same (f : Int → α) {N M : List Int} (h : ∀ i, i ∈ N ↔ i ∈ M) : ofL (wr f N) = ofL (wr f M) :=
  same_of_look (rises_ofL _) (rises_ofL _) fun i => by
    rw [look_ofL, look_ofL, last_wr, last_wr]
    simp only [h i]

theorem wr_length (f : Int → α) (N : List Int) : (wr f N).length = N.length := by simp [wr]
end

/-- The j-th number from behind, moved on. -/
def back (N : List Int) (at_ j : Nat) : Int := N[(N.length - 1 - j + at_) % N.length]!

theorem back_all (N : List Int) (at_ : Nat) (i : Int) : i ∈ (List.range N.length).map (back N at_) ↔ i ∈ N := by
  constructor
  · intro h
    obtain ⟨j, hj, rfl⟩ := List.mem_map.1 h
    have hj : j < N.length := by simpa using hj
    unfold back
    have hm : (N.length - 1 - j + at_) % N.length < N.length := Nat.mod_lt _ (by omega)
    rw [getElem!_pos N _ hm]
    exact List.getElem_mem hm
  · intro h
    obtain ⟨t, ht, rfl⟩ := List.getElem_of_mem h
    refine List.mem_map.2 ⟨(N.length - 1 + at_ - t) % N.length, by simpa using Nat.mod_lt _ (by omega), ?_⟩
    have hm : (N.length - 1 + at_ - t) % N.length < N.length := Nat.mod_lt _ (by omega)
    have hd := Nat.div_add_mod (N.length - 1 + at_ - t) N.length
    have e : N.length - 1 - (N.length - 1 + at_ - t) % N.length + at_ = t + N.length * ((N.length - 1 + at_ - t) / N.length) := by omega
    unfold back
    rw [e, Nat.add_mul_mod_self_left, Nat.mod_eq_of_lt ht, getElem!_pos N t ht]

end Go.Proofs.Ytocdnlnhjfigjaa.Dft
