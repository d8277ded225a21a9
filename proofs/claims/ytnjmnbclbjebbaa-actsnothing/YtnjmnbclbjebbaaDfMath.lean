/-
  What was written, by rising numbers: plain facts on lists, without the program.
-/
import Derived.Test.YtnjmnbclbjebbaaRows
namespace Go.Proofs.Ytnjmnbclbjebbaa.Dft

section
variable {β : Type} [Inhabited β] {f : β → Int} {L : List β} {i : Int} {p : Nat}

/-- Numbers that rise. -/
def Up (f : β → Int) (L : List β) : Prop := L.Pairwise fun a b => f a < f b

/-- The place where a number stands, or is to stand. -/
structure Stands (f : β → Int) (L : List β) (i : Int) (p : Nat) : Prop where
  le : p ≤ L.length
  ahead : ∀ t, t < p → f L[t]! < i
  behind : ∀ t, p ≤ t → t < L.length → i ≤ f L[t]!

theorem Up.at (h : Up f L) (a b : Nat) (hab : a < b) (hb : b < L.length) : f L[a]! < f L[b]! := by
  have := List.pairwise_iff_getElem.1 h a b (by omega) hb hab
  rw [getElem!_pos L a (by omega), getElem!_pos L b hb]
  exact this

theorem take_lt (hs : Stands f L i p) : ∀ e ∈ L.take p, f e < i := by
  intro e he
  obtain ⟨t, ht, rfl⟩ := List.getElem_of_mem he
  have h1 : t < p := by have := ht; simp at this; omega
  have := hs.ahead t h1
  rw [getElem!_pos L t (by have := hs.le; omega)] at this
  simpa using this

theorem drop_le (hs : Stands f L i p) : ∀ e ∈ L.drop p, i ≤ f e := by
  intro e he
  obtain ⟨t, ht, rfl⟩ := List.getElem_of_mem he
  have h1 : t < L.length - p := by simpa using ht
  have := hs.behind (p + t) (by omega) (by omega)
  rw [getElem!_pos L (p + t) (by omega)] at this
  simpa using this

theorem filter_lt (hs : Stands f L i p) : L.filter (fun e => decide (f e < i)) = L.take p := by
  conv => lhs; rw [← List.take_append_drop p L]
  rw [List.filter_append, List.filter_eq_self.2 (fun e he => decide_eq_true (take_lt hs e he)), List.filter_eq_nil_iff.2 (fun e he => by have := drop_le hs e he; simp; omega)]
  simp

theorem filter_gt_no (hs : Stands f L i p) (hup : Up f L) (hn : ¬ (p < L.length ∧ f L[p]! = i)) : L.filter (fun e => decide (i < f e)) = L.drop p := by
  conv => lhs; rw [← List.take_append_drop p L]
  rw [List.filter_append, List.filter_eq_nil_iff.2 (fun e he => by have := take_lt hs e he; simp; omega), List.filter_eq_self.2 (fun e he => decide_eq_true ?_)]
  · simp
  · obtain ⟨t, ht, rfl⟩ := List.getElem_of_mem he
    have h1 : t < L.length - p := by simpa using ht
    have h2 := hs.behind p (Nat.le_refl _) (by omega)
    have h3 : f L[p]! ≠ i := fun h => hn ⟨by omega, h⟩
    have h4 : f L[p]! ≤ f L[p + t]! := by
      cases t with
      | zero => exact Int.le_refl _
      | succ t => exact Int.le_of_lt (hup.at p (p + (t + 1)) (by omega) (by omega))
    rw [getElem!_pos L (p + t) (by omega)] at h4
    simp only [List.getElem_drop]
    omega

theorem filter_gt_yes (hs : Stands f L i p) (hup : Up f L) (hp : p < L.length) (he : f L[p]! = i) : L.filter (fun e => decide (i < f e)) = L.drop (p + 1) := by
  have hd : L.drop p = L[p]! :: L.drop (p + 1) := by rw [getElem!_pos L p hp]; exact List.drop_eq_getElem_cons hp
  conv => lhs; rw [← List.take_append_drop p L, hd]
  have hz : ¬ (i < f L[p]!) := by omega
  rw [List.filter_append, List.filter_cons_of_neg (by simpa using hz), List.filter_eq_nil_iff.2 (fun e he => by have := take_lt hs e he; simp; omega), List.filter_eq_self.2 (fun e hm => decide_eq_true ?_)]
  · simp
  · obtain ⟨t, ht, rfl⟩ := List.getElem_of_mem hm
    have h1 : t < L.length - (p + 1) := by simpa using ht
    have h4 := hup.at p (p + 1 + t) (by omega) (by omega)
    rw [getElem!_pos L (p + 1 + t) (by omega)] at h4
    simp only [List.getElem_drop]
    omega

/-- A number's place lies between two places. -/
structure Cut (f : β → Int) (L : List β) (i : Int) (p q : Nat) : Prop where
  le : p ≤ q
  len : q ≤ L.length
  ahead : ∀ t, t < p → f L[t]! < i
  behind : ∀ t, q ≤ t → t < L.length → i ≤ f L[t]!

theorem Cut.whole (f : β → Int) (L : List β) (i : Int) : Cut f L i 0 L.length := ⟨Nat.zero_le _, Nat.le_refl _, fun t ht => absurd ht (Nat.not_lt_zero t), fun _ h1 h2 => absurd h2 (Nat.not_lt.2 h1)⟩

/-- The one at m is lower: the place lies behind it. -/
theorem Cut.above {q m : Nat} (h : Cut f L i p q) (hup : Up f L) (hm : m < q) (hl : f L[m]! < i) : Cut f L i (m + 1) q :=
  ⟨hm, h.len, fun t ht => by
    rcases Nat.lt_or_eq_of_le (Nat.le_of_lt_succ ht) with h1 | h1
    · exact Int.lt_trans (hup.at t m h1 (Nat.lt_of_lt_of_le hm h.len)) hl
    · rw [h1]; exact hl, h.behind⟩

/-- The one at m isn't lower: the place lies there, or ahead of it. -/
theorem Cut.below {q m : Nat} (h : Cut f L i p q) (hup : Up f L) (hp : p ≤ m) (hm : m < q) (hl : ¬ f L[m]! < i) : Cut f L i p m :=
  ⟨hp, Nat.le_trans (Nat.le_of_lt hm) h.len, h.ahead, fun t h1 h2 => by
    rcases Nat.lt_or_eq_of_le h1 with h3 | h3
    · exact Int.le_trans (Int.not_lt.1 hl) (Int.le_of_lt (hup.at m t h3 h2))
    · rw [← h3]; exact Int.not_lt.1 hl⟩

theorem Cut.stands (h : Cut f L i p p) : Stands f L i p := ⟨h.len, h.ahead, h.behind⟩

theorem Stands.one {q : Nat} (h : Stands f L i p) (k : Stands f L i q) : p = q := by
  rcases Nat.lt_trichotomy p q with h1 | h1 | h1
  · have a := k.ahead p h1
    have b := h.behind p (Nat.le_refl _) (by have := k.le; omega)
    omega
  · exact h1
  · have a := h.ahead q h1
    have b := k.behind q (Nat.le_refl _) (by have := h.le; omega)
    omega

end

section
variable {α : Type}

/-- A thing is to be another one. -/
def put (R : List (Int × α)) (i : Int) (x : α) : List (Int × α) := R.filter (fun e => decide (e.1 < i)) ++ (i, x) :: R.filter (fun e => decide (i < e.1))

/-- What a thing is to be. -/
def look (R : List (Int × α)) (i : Int) : Option α := (R.find? fun e => e.1 == i).map (·.2)

abbrev Rises (R : List (Int × α)) : Prop := Up (·.1) R

theorem rises_nil : Rises ([] : List (Int × α)) := List.Pairwise.nil

theorem rises_put {R : List (Int × α)} (h : Rises R) (i : Int) (x : α) : Rises (put R i x) := by
  unfold Rises Up put
  rw [List.pairwise_append]
  refine ⟨List.Pairwise.filter _ h, ?_, ?_⟩
  · rw [List.pairwise_cons]
    refine ⟨fun e he => ?_, List.Pairwise.filter _ h⟩
    have := (List.mem_filter.1 he).2
    simpa using this
  · intro a ha b hb
    have h1 : a.1 < i := by simpa using (List.mem_filter.1 ha).2
    rcases List.mem_cons.1 hb with rfl | hb
    · exact h1
    · have h2 : i < b.1 := by simpa using (List.mem_filter.1 hb).2
      show a.1 < b.1
      omega

theorem find_filter {R : List (Int × α)} (q : Int × α → Bool) (j : Int) (hq : ∀ e, e.1 = j → q e = true) : (R.filter q).find? (fun e => e.1 == j) = R.find? (fun e => e.1 == j) := by
  induction R with
  | nil => rfl
  | cons e r ih =>
    by_cases h1 : e.1 = j
    · rw [List.filter_cons_of_pos (hq e h1)]
      simp [h1]
    · have h2 : (e.1 == j) = false := by simpa using h1
      rw [List.find?_cons_of_neg (by simp [h1]), List.filter_cons]
      split
      · rw [List.find?_cons_of_neg (by simp [h1])]; exact ih
      · exact ih

theorem find_none {R : List (Int × α)} (q : Int × α → Bool) (j : Int) (hq : ∀ e, e.1 = j → q e = false) : (R.filter q).find? (fun e => e.1 == j) = none := by
  rw [List.find?_eq_none]
  intro e he
  have h := (List.mem_filter.1 he).2
  intro hj
  rw [hq e (by simpa using hj)] at h
  cases h

theorem look_put (R : List (Int × α)) (i : Int) (x : α) (j : Int) : look (put R i x) j = if j = i then some x else look R j := by
  unfold look put
  rw [List.find?_append]
  rcases Int.lt_trichotomy j i with h | h | h
  · rw [find_filter _ j (fun e he => by simp; omega), List.find?_cons_of_neg (by simp; omega), find_none _ j (fun e he => by simp; omega)]
    rw [if_neg (by omega)]
    simp
  · subst h
    rw [find_none _ j (fun e he => by simp; omega)]
    simp
  · rw [find_none _ j (fun e he => by simp; omega), List.find?_cons_of_neg (by simp; omega), find_filter _ j (fun e he => by simp; omega)]
    rw [if_neg (by omega)]
    simp

theorem look_yes [Inhabited α] {R : List (Int × α)} {i : Int} {p : Nat} (h : Stands (·.1) R i p) (hp : p < R.length) (he : R[p]!.1 = i) : look R i = some R[p]!.2 := by
  unfold look
  have e : R = R.take p ++ R[p]! :: R.drop (p + 1) := by
    rw [getElem!_pos R p hp, ← List.drop_eq_getElem_cons hp, List.take_append_drop]
  have k : (R.take p).find? (fun e => e.1 == i) = none := List.find?_eq_none.2 (fun e hm => by have := take_lt h e hm; simp; omega)
  have : R.find? (fun e => e.1 == i) = some R[p]! := by
    conv => lhs; rw [e]
    rw [List.find?_append, k, List.find?_cons_of_pos (by simpa using he)]
    rfl
  rw [this]; rfl

theorem look_no [Inhabited α] {R : List (Int × α)} {i : Int} {p : Nat} (h : Stands (·.1) R i p) (hup : Rises R) (hn : ¬ (p < R.length ∧ R[p]!.1 = i)) : look R i = none := by
  unfold look
  have : R.find? (fun e => e.1 == i) = none := by
    rw [List.find?_eq_none]
    intro e he hj
    have hj : e.1 = i := by simpa using hj
    have h1 : e ∈ R.filter (fun e => decide (e.1 < i)) ∨ e ∈ R.filter (fun e => decide (i < e.1)) := by
      rw [filter_lt (f := fun e : Int × α => e.1) h, filter_gt_no (f := fun e : Int × α => e.1) h hup hn, ← List.mem_append, List.take_append_drop]
      exact he
    rcases h1 with h1 | h1
    · have := (List.mem_filter.1 h1).2; simp at this; omega
    · have := (List.mem_filter.1 h1).2; simp at this; omega
  rw [this]; rfl

theorem put_yes [Inhabited α] {R : List (Int × α)} {i : Int} {p : Nat} (h : Stands (·.1) R i p) (hup : Rises R) (hp : p < R.length) (he : R[p]!.1 = i) (x : α) : put R i x = R.set p (i, x) := by
  unfold put
  rw [filter_lt (f := fun e : Int × α => e.1) h, filter_gt_yes (f := fun e : Int × α => e.1) h hup hp he, List.set_eq_take_append_cons_drop, if_pos hp]

theorem put_no [Inhabited α] {R : List (Int × α)} {i : Int} {p : Nat} (h : Stands (·.1) R i p) (hup : Rises R) (hn : ¬ (p < R.length ∧ R[p]!.1 = i)) (x : α) : put R i x = R.take p ++ (i, x) :: R.drop p := by
  unfold put
  rw [filter_lt (f := fun e : Int × α => e.1) h, filter_gt_no (f := fun e : Int × α => e.1) h hup hn]

/-- The last one that was written. -/
def ofL (l : List (Int × α)) : List (Int × α) := l.foldl (fun R e => put R e.1 e.2) []

theorem ofL_snoc (l : List (Int × α)) (e : Int × α) : ofL (l ++ [e]) = put (ofL l) e.1 e.2 := by simp [ofL, List.foldl_append]

theorem rises_foldl (l : List (Int × α)) : ∀ R, Rises R → Rises (l.foldl (fun R e => put R e.1 e.2) R) := by
  induction l with
  | nil => intro R h; exact h
  | cons e r ih => intro R h; exact ih _ (rises_put h _ _)

theorem rises_ofL (l : List (Int × α)) : Rises (ofL l) := rises_foldl l [] rises_nil

theorem length_put_le (R : List (Int × α)) (i : Int) (x : α) : (put R i x).length ≤ R.length + 1 := by
  unfold put
  have key : ∀ R : List (Int × α), (R.filter fun e => decide (e.1 < i)).length + (R.filter fun e => decide (i < e.1)).length ≤ R.length := by
    intro R
    induction R with
    | nil => simp
    | cons e r ih =>
      rcases Int.lt_trichotomy e.1 i with h | h | h
      · have h' : ¬ i < e.1 := by omega
        simp [h, h']; omega
      · have h' : ¬ i < e.1 := by omega
        have h'' : ¬ e.1 < i := by omega
        simp [h', h'']; omega
      · have h' : ¬ e.1 < i := by omega
        simp [h, h']; omega
  have := key R
  simp
  omega

theorem length_foldl_le (l : List (Int × α)) : ∀ R : List (Int × α), (l.foldl (fun R e => put R e.1 e.2) R).length ≤ R.length + l.length := by
  induction l with
  | nil => intro R; simp
  | cons e r ih =>
    intro R
    have := ih (put R e.1 e.2)
    have := length_put_le R e.1 e.2
    simp at *
    omega

theorem length_ofL (l : List (Int × α)) : (ofL l).length ≤ l.length := by simpa [ofL] using length_foldl_le l []

/-- The last one that was written of a number, looked for from the end. -/
def last (l : List (Int × α)) (i : Int) : Option α := look l.reverse i

theorem last_snoc (l : List (Int × α)) (e : Int × α) (i : Int) : last (l ++ [e]) i = if i = e.1 then some e.2 else last l i := by
  unfold last look
  rw [List.reverse_append]
  simp only [List.reverse_cons, List.reverse_nil, List.nil_append, List.singleton_append]
  by_cases h : i = e.1
  · rw [List.find?_cons_of_pos (by simp [h]), if_pos h]; rfl
  · rw [List.find?_cons_of_neg (by simp; omega), if_neg h]

theorem snoc_ind {β : Type} {m : List β → Prop} (h0 : m []) (h1 : ∀ l e, m l → m (l ++ [e])) (l : List β) : m l := by
  have key : ∀ l : List β, m l.reverse := by
    intro l
    induction l with
    | nil => exact h0
    | cons e r ih => rw [List.reverse_cons]; exact h1 _ _ ih
  have := key l.reverse
  rwa [List.reverse_reverse] at this

theorem look_ofL (l : List (Int × α)) (i : Int) : look (ofL l) i = last l i := by
  refine snoc_ind (m := fun l => look (ofL l) i = last l i) rfl (fun l e ih => ?_) l
  rw [ofL_snoc, look_put, last_snoc, ih]

/-- A number among rising ones. -/
def insN (N : List Int) (i : Int) : List Int := N.filter (fun e => decide (e < i)) ++ i :: N.filter (fun e => decide (i < e))

/-- The numbers that were written, rising. -/
def nums (l : List (Int × α)) : List Int := l.foldl (fun N e => insN N e.1) []

theorem map_put (R : List (Int × α)) (i : Int) (x : α) : (put R i x).map (·.1) = insN (R.map (·.1)) i := by
  unfold put insN
  simp [List.filter_map, Function.comp_def]

theorem nums_snoc (l : List (Int × α)) (e : Int × α) : nums (l ++ [e]) = insN (nums l) e.1 := by simp [nums, List.foldl_append]

theorem map_ofL (l : List (Int × α)) : (ofL l).map (·.1) = nums l := by
  refine snoc_ind (m := fun l => (ofL l).map (·.1) = nums l) rfl (fun l e ih => ?_) l
  rw [ofL_snoc, map_put, nums_snoc, ih]

theorem up_nums (l : List (Int × α)) : Up (fun x => x) (nums l) := by
  rw [← map_ofL]
  exact List.pairwise_map.2 (rises_ofL l)

theorem length_nums (l : List (Int × α)) : (nums l).length = (ofL l).length := by rw [← map_ofL]; simp

theorem ins_yes {N : List Int} {i : Int} {p : Nat} (h : Stands (fun x => x) N i p) (hup : Up (fun x => x) N) (hp : p < N.length) (he : N[p]! = i) : insN N i = N := by
  unfold insN
  rw [filter_lt (f := fun x => x) h, filter_gt_yes (f := fun x => x) h hup hp he, ← he, getElem!_pos N p hp, ← List.drop_eq_getElem_cons hp, List.take_append_drop]

theorem ins_no {N : List Int} {i : Int} {p : Nat} (h : Stands (fun x => x) N i p) (hup : Up (fun x => x) N) (hn : ¬ (p < N.length ∧ N[p]! = i)) : insN N i = N.take p ++ i :: N.drop p := by
  unfold insN
  rw [filter_lt (f := fun x => x) h, filter_gt_no (f := fun x => x) h hup hn]

/-- Which entry stands at a place of a draft. -/
theorem look_at [Inhabited α] {R : List (Int × α)} (hup : Rises R) (j : Nat) (hj : j < R.length) : look R R[j]!.1 = some R[j]!.2 := by
  have hs : Stands (·.1) R R[j]!.1 j := ⟨Nat.le_of_lt hj, fun t ht => hup.at t j ht hj, fun t h1 h2 => by
    rcases Nat.eq_or_lt_of_le h1 with rfl | h
    · exact Int.le_refl _
    · exact Int.le_of_lt (hup.at j t h h2)⟩
  exact look_yes hs hj rfl

end

end Go.Proofs.Ytnjmnbclbjebbaa.Dft
