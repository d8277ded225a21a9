/-
  A vault that has settled: its image, the loads that were forced, those that wait. What its calls make of that, and what is found behind a crash.
-/
import Derived.Test.YtcofiidibhmhgaaVTexts
namespace Go.Proofs.Ytcofiidibhmhgaa
open Go.RowKit

/-- Both disks' areas have the same. -/
def SameT (a b : List Ch) : Prop := ∀ o, txt o a = txt o b

theorem SameT.add {a b : List Ch} (h : SameT a b) (x : List Ch) : SameT (a ++ x) (b ++ x) := fun o => txt_congr (h o) x

theorem txt_other (o : Bool) (l : List ByteArray) : txt (!o) (recs o l) = ⟨#[]⟩ := by
  have key : ∀ (l : List ByteArray) (x : ByteArray), ((recs o l).foldl (fun x c => c.on (!o) x) x) = x := by
    intro l
    induction l with
    | nil => intro x; rfl
    | cons s r ih =>
      intro x
      simp only [recs, List.map_cons, List.foldl_cons] at ih ⊢
      rw [show (⟨o, false, recOf s⟩ : Ch).on (!o) x = x from by cases o <;> simp [Ch.on]]
      exact ih x
  exact key l _

/-- The records of an image and of loads. -/
def imgs (e : Nat) (s : ByteArray) (l : List ByteArray) : List ByteArray := imgB e s :: l.map ldB

theorem imgs_append (e : Nat) (s : ByteArray) (a b : List ByteArray) : imgs e s (a ++ b) = imgs e s a ++ b.map ldB := by simp [imgs]

/-- The vault in block vb, on the disk in block b, has settled. -/
structure VS (B : Nat) (w0 w : World) (vb b : Nat) (y : Bool) (e : Nat) (s : ByteArray) (A U : List ByteArray) : Prop where
  mv : ∃ lb ob v dn, MV B w0 w vb lb ob b v y false false e true dn (recs y (U.map ldB)) ∧ SameT dn (recs y (imgs e s A))
  e1 : 1 ≤ e
  e2 : e ≤ 1099511627776
  si : (imgB e s).size ≤ 1024
  sa : ∀ t ∈ A, t.size ≤ 1023
  su : ∀ t ∈ U, t.size ≤ 1023

theorem small_map {l : List ByteArray} (h : ∀ t ∈ l, t.size ≤ 1023) : Small (l.map ldB) := fun t ht => by
  obtain ⟨s, hs, rfl⟩ := List.mem_map.1 ht
  have := h s hs
  rw [ldB_size]
  omega

theorem small_imgs {e : Nat} {s : ByteArray} {l : List ByteArray} (h : (imgB e s).size ≤ 1024) (hl : ∀ t ∈ l, t.size ≤ 1023) : Small (imgs e s l) := fun t ht => by
  rcases List.mem_cons.1 ht with rfl | ht
  · exact h
  · exact small_map hl t ht

section
variable {B : Nat} {w0 w : World} {vb lb ob b : Nat} {v : Value} {y tn tm : Bool} {e : Nat} {st : Bool} {dn ws : List Ch} {s : ByteArray} {A U : List ByteArray}

theorem VS.below (h : VS B w0 w vb b y e s A U) : Below B w0 w := by
  obtain ⟨lb, ob, v, dn, mv, _⟩ := h.mv
  exact mv.d.below
theorem VS.lo (h : VS B w0 w vb b y e s A U) : B ≤ w.heap.size := by
  obtain ⟨lb, ob, v, dn, mv, _⟩ := h.mv
  exact mv.lo
theorem VS.grow {w' : World} (h : VS B w0 w vb b y e s A U) (hb : Below w.heap.size w w') : VS B w0 w' vb b y e s A U := by
  obtain ⟨lb, ob, v, dn, mv, hs⟩ := h.mv
  exact ⟨⟨lb, ob, v, dn, mv.grow hb, hs⟩, h.e1, h.e2, h.si, h.sa, h.su⟩

theorem setD_same (y : Bool) (e : Nat) (s : ByteArray) (dn ws : List Ch) : SameT (setD y (imgB e s) dn ws) (recs (!y) (imgs e s [])) := fun o => by
  by_cases ho : o = y
  · subst ho
    rw [setD_old]
    have := txt_other (!o) (imgs e s [])
    rw [Bool.not_not] at this
    exact this.symm
  · have ho : o = !y := by cases o <;> cases y <;> simp_all
    subst ho
    rw [setD_young]
    apply bytes_ext
    rw [txt_recs, recOf_list]
    simp [imgs, rowB]

set_option maxRecDepth 100000 in
theorem settle_vs (h : MV B w0 w vb lb ob b v y tn tm e st dn ws) (s : ByteArray) (he : e < 1099511627776) (hlong : (imgB (e + 1) s).size ≤ 1024) (hn : ws.length ≤ 1000) :
    Calls Try.prog 18 #[.pointer (some ⟨vb, 0, none⟩), .string s] w fun en w' => en = .returned (.int .i64 0) ∧ VS B w0 w' vb b (!y) (e + 1) s [] [] ∧ Keeps w w' := by
  refine (settle_ok h s he (by have := imgB_size (e + 1) s; omega) hlong hn).mono ?_
  rintro en w' ⟨he', mv, hk⟩
  exact ⟨he', ⟨⟨ob, lb, _, _, mv, setD_same y (e + 1) s dn ws⟩, by omega, by omega, hlong, fun t ht => by simp at ht, fun t ht => by simp at ht⟩, hk⟩

set_option maxRecDepth 100000 in
theorem VS.settle (h : VS B w0 w vb b y e s A U) (t : ByteArray) (he : e < 1099511627776) (hlong : (imgB (e + 1) t).size ≤ 1024) (hn : U.length ≤ 1000) :
    Calls Try.prog 18 #[.pointer (some ⟨vb, 0, none⟩), .string t] w fun en w' => en = .returned (.int .i64 0) ∧ VS B w0 w' vb b (!y) (e + 1) t [] [] ∧ Keeps w w' := by
  obtain ⟨lb, ob, v, dn, mv, hs⟩ := h.mv
  exact settle_vs mv t he hlong (by rw [recs_length, List.length_map]; exact hn)

set_option maxRecDepth 100000 in
theorem VS.long (h : VS B w0 w vb b y e s A U) (t : ByteArray) (he : e < 1099511627776) (ht : t.size ≤ 1000000) (hlong : 1024 < (imgB (e + 1) t).size) :
    Calls Try.prog 18 #[.pointer (some ⟨vb, 0, none⟩), .string t] w fun en w' => en = .returned (.int .i64 3) ∧ VS B w0 w' vb b y e s A U ∧ Keeps w w' := by
  obtain ⟨lb, ob, v, dn, mv, hs⟩ := h.mv
  refine (settle_long mv.a t he (by omega) hlong).mono ?_
  rintro en w' ⟨he', hb⟩
  exact ⟨he', h.grow hb, Keeps.below hb⟩

set_option maxRecDepth 100000 in
theorem VS.epoch (h : VS B w0 w vb b y e s A U) : Calls Try.prog 15 #[.pointer (some ⟨vb, 0, none⟩)] w fun en w' => en = .returned (.int .i64 e) ∧ w' = w := by
  obtain ⟨lb, ob, v, dn, mv, hs⟩ := h.mv
  exact vEpoch_any mv.a

/-- All that the log has. -/
theorem VS.text (h : SameT dn (recs y (imgs e s A))) : txt y (dn ++ recs y (U.map ldB)) = txt y (recs y (imgs e s (A ++ U))) := by
  rw [imgs_append, recs_append]
  exact h.add _ y

theorem VS.all (h : VS B w0 w vb b y e s A U) (hs : SameT dn (recs y (imgs e s A))) : AllOf (txt y (dn ++ recs y (U.map ldB))).data.toList (imgs e s (A ++ U)) := by
  rw [VS.text hs, txt_recs]
  refine all_row_nil _ (small_imgs h.si fun t ht => ?_)
  rcases List.mem_append.1 ht with h1 | h1
  · exact h.sa t h1
  · exact h.su t h1

set_option maxRecDepth 100000 in
theorem VS.size (h : VS B w0 w vb b y e s A U) : Calls Try.prog 21 #[.pointer (some ⟨vb, 0, none⟩)] w fun en w' => en = .returned (.int .i64 (wholeN (imgs e s (A ++ U)) : Nat)) ∧ Below w.heap.size w w' := by
  obtain ⟨lb, ob, v, dn, mv, hs⟩ := h.mv
  exact vSize_any mv.a mv.l mv.d.has _ (h.all hs)

set_option maxRecDepth 100000 in
theorem VS.force (h : VS B w0 w vb b y e s A U) : Calls Try.prog 22 #[.pointer (some ⟨vb, 0, none⟩)] w fun en w' => en = .returned (.tuple #[]) ∧ VS B w0 w' vb b y e s (A ++ U) [] ∧ Keeps w w' := by
  obtain ⟨lb, ob, v, dn, mv, hs⟩ := h.mv
  refine (vForce_any mv.a mv.l mv.d.has).mono ?_
  rintro en w' ⟨he', h1, hw⟩
  refine ⟨he', ⟨⟨lb, ob, _, _, mv.step h1 hw, ?_⟩, h.e1, h.e2, h.si, fun t ht => ?_, fun t ht => by simp at ht⟩, Keeps.wrote mv.d.has hw⟩
  · rw [imgs_append, recs_append]
    exact hs.add _
  · rcases List.mem_append.1 ht with h1 | h1
    · exact h.sa t h1
    · exact h.su t h1

/-- How many bytes there are at most. -/
theorem sum_map (l : List ByteArray) : sumT (l.map ldB) = sumT l + l.length := by
  induction l with
  | nil => rfl
  | cons s r ih => simp only [List.map_cons, sumT, ldB_size, ih, List.length_cons]; omega

theorem VS.bytes (h : VS B w0 w vb b y e s A U) (hs : SameT dn (recs y (imgs e s A))) : (txt y (dn ++ recs y (U.map ldB))).size ≤ 1030 + 7 * (A ++ U).length + sumT (A ++ U) := by
  rw [VS.text hs]
  have h1 := txt_recs_size y (imgs e s (A ++ U))
  have h2 := h.si
  simp only [imgs, List.length_cons, List.length_map, sumT, sum_map] at h1 ⊢
  omega

set_option maxRecDepth 100000 in
theorem VS.append (h : VS B w0 w vb b y e s A U) (t : ByteArray) (ht : t.size ≤ 1023) (hn : U.length ≤ 1000) (hroom : 7 * (A ++ U).length + sumT (A ++ U) ≤ 12000) :
    Calls Try.prog 17 #[.pointer (some ⟨vb, 0, none⟩), .string t] w fun en w' => en = .returned (.int .i64 0) ∧ VS B w0 w' vb b y e s A (U ++ [t]) ∧ Keeps w w' := by
  obtain ⟨lb, ob, v, dn, mv, hs⟩ := h.mv
  have hb := h.bytes hs
  have hc := vAppend_any t mv.a mv.l mv.d.has (by omega) (by rw [recs_length, List.length_map]; omega)
  rw [stepL_ok y (ldB t) _ _ (by rw [ldB_size]; omega) (by rw [ldB_size]; omega)] at hc
  refine hc.mono ?_
  rintro en w' ⟨he', v', h1, hw⟩
  have e1 : recs y (U.map ldB) ++ [⟨y, false, recOf (ldB t)⟩] = recs y ((U ++ [t]).map ldB) := by simp [recs]
  have h1' : Has w' b v' dn (recs y ((U ++ [t]).map ldB)) := by rw [← e1]; exact h1
  refine ⟨he', ⟨⟨lb, ob, _, _, mv.step h1' hw, hs⟩, h.e1, h.e2, h.si, h.sa, fun x hx => ?_⟩, Keeps.wrote mv.d.has hw⟩
  rcases List.mem_append.1 hx with hx | hx
  · exact h.su x hx
  · simp at hx
    rw [hx]
    exact ht

set_option maxRecDepth 100000 in
theorem VS.tooLong (h : VS B w0 w vb b y e s A U) (t : ByteArray) (ht : 1023 < t.size) (ht2 : t.size ≤ 1000000) (hn : U.length ≤ 1000) :
    Calls Try.prog 17 #[.pointer (some ⟨vb, 0, none⟩), .string t] w fun en w' => en = .returned (.int .i64 3) ∧ VS B w0 w' vb b y e s A U ∧ Keeps w w' := by
  obtain ⟨lb, ob, v, dn, mv, hs⟩ := h.mv
  have hc := vAppend_any t mv.a mv.l mv.d.has (by omega) (by rw [recs_length, List.length_map]; omega)
  rw [stepL_long y false (ldB t) _ _ (by rw [ldB_size]; omega)] at hc
  refine hc.mono ?_
  rintro en w' ⟨he', v', h1, hw⟩
  exact ⟨he', ⟨⟨lb, ob, _, _, mv.step h1 hw, hs⟩, h.e1, h.e2, h.si, h.sa, h.su⟩, Keeps.wrote mv.d.has hw⟩

theorem kept_other (y : Bool) (l : List ByteArray) (k p : Int) (dn : List Ch) : txt (!y) (dn ++ kept (recs y l) k p) = txt (!y) dn := by
  have hon : ∀ c ∈ kept (recs y l) k p, c.one = y := fun c hc => by
    unfold kept at hc
    rcases List.mem_append.1 hc with hc | hc
    · have := List.mem_of_mem_take hc
      obtain ⟨t, _, rfl⟩ := List.mem_map.1 this
      rfl
    · split at hc
      · rename_i d hd
        obtain ⟨hl, he⟩ := List.getElem?_eq_some_iff.1 hd
        have hm : d ∈ recs y l := by rw [← he]; exact List.getElem_mem hl
        obtain ⟨t, _, rfl⟩ := List.mem_map.1 hm
        unfold torn at hc
        simp at hc
        rw [hc]
      · simp at hc
  have key : ∀ (m : List Ch) (x : ByteArray), (∀ c ∈ m, c.one = y) → m.foldl (fun x c => c.on (!y) x) x = x := by
    intro m
    induction m with
    | nil => intro x _; rfl
    | cons c r ih =>
      intro x hm
      rw [List.foldl_cons, show c.on (!y) x = x from by
        have := hm c (by simp)
        unfold Ch.on
        rw [if_neg (by rw [this]; cases y <;> simp)]]
      exact ih x fun d hd => hm d (by simp [hd])
  unfold txt
  rw [List.foldl_append]
  exact key _ _ hon

/-- What is found behind a crash: the image, all loads that were forced, some first ones of the others. -/
theorem VS.found (h : VS B w0 w vb b y e s A U) (hs : SameT dn (recs y (imgs e s A))) (k p : Int) : ∃ n, n ≤ U.length ∧ Fnd (dn ++ kept (recs y (U.map ldB)) k p) [] y e s (A ++ U.take n) := by
  obtain ⟨n, hn, hall⟩ := lasts y (imgs e s A) (U.map ldB) k p (small_imgs h.si h.sa) (small_map h.su)
  rw [List.length_map] at hn
  refine ⟨n, hn, imgs e s A ++ (U.map ldB).take n, [], 0, ⟨#[]⟩, [], ?_, ?_, ?_, Told.none, ?_⟩
  · rw [List.append_nil, txt_congr (hs y)]
    exact hall
  · rw [List.append_nil, kept_other, hs (!y), txt_other]
    exact none_nil
  · rw [← List.map_take, ← imgs_append]
    exact Told.img h.e1 h.e2 _
  · have := h.e1
    cases y <;> simp <;> omega

/-- The same without a crash. -/
theorem VS.here (h : VS B w0 w vb b y e s A U) (hs : SameT dn (recs y (imgs e s A))) : Fnd dn (recs y (U.map ldB)) y e s (A ++ U) := by
  refine ⟨imgs e s (A ++ U), [], 0, ⟨#[]⟩, [], h.all hs, ?_, Told.img h.e1 h.e2 _, Told.none, ?_⟩
  · have h1 := hs.add (recs y (U.map ldB)) (!y)
    rw [h1, ← recs_append, txt_other]
    exact none_nil
  · have := h.e1
    cases y <;> simp <;> omega

set_option maxRecDepth 100000 in
/-- Behind a crash the disk is one of which a vault is opened anew. -/
theorem VS.crash (h : VS B w0 w vb b y e s A U) (k p : Int) (hn : U.length ≤ 1000) :
    Calls Try.prog 23 #[.pointer (some ⟨b, 0, none⟩), .int .i64 k, .int .i64 p] w fun en w' => en = .returned (.tuple #[]) ∧ ∃ v' dn' n, n ≤ U.length ∧ Mine B w0 w' b v' dn' [] ∧ Fnd dn' [] y e s (A ++ U.take n) ∧ Keeps w w' := by
  obtain ⟨lb, ob, v, dn, mv, hs⟩ := h.mv
  obtain ⟨n, hnn, hF⟩ := h.found hs k p
  refine (crash_any mv.d.has (by rw [recs_length, List.length_map]; omega) k p).mono ?_
  rintro en w' ⟨he', h1, hw⟩
  exact ⟨he', _, _, n, hnn, mv.d.step h1 hw, hF, Keeps.wrote mv.d.has hw⟩

end

theorem fnd_new : Fnd [] [] false 0 ⟨#[]⟩ [] := ⟨[], [], 0, ⟨#[]⟩, [], none_nil, none_nil, Told.none, Told.none, by simp⟩

end Go.Proofs.Ytcofiidibhmhgaa
