/-
  A sheet in memory, over a tome, and the walks of New, Draft, has and Get.
-/
import Derived.Test.YtdngehfebmaegaaShMath
namespace Go.Proofs.Ytdngehfebmaegaa.Sht
open Go.RowKit Go.Proofs.Ytdngehfebmaegaa.Cel Go.Proofs.Ytdngehfebmaegaa.Dft Go.Proofs.Ytdngehfebmaegaa.Dft.F
open Tom (CanF TomeAt)

/-- A sheet in block s, its draft in block d, over the tome in block t. -/
structure SheetAt (w : World) (t b g : Nat) (T : List (Fl × Int)) (s d : Nat) (v : Value) (R : List (Int × Fl)) : Prop where
  tome : TomeAt w t b g T
  at_ : w.heap[s]? = some (.cells #[.pointer (some ⟨d, 0, none⟩)] 72 (0, 0))
  dr : DraftAt w d v R
  fit : Fits R

section
variable {w w' : World} {t b g s d : Nat} {T : List (Fl × Int)} {v : Value} {R : List (Int × Fl)}

theorem SheetAt.c0 (h : SheetAt w t b g T s d v R) : w.cell? ⟨s, 0, none⟩ = some (.pointer (some ⟨d, 0, none⟩)) := cell_at h.at_ rfl
theorem SheetAt.lt (h : SheetAt w t b g T s d v R) : s < w.heap.size := (Array.getElem?_eq_some_iff.1 h.at_).1
theorem SheetAt.grown (h : SheetAt w t b g T s d v R) (hb : Below w.heap.size w w') : SheetAt w' t b g T s d v R := ⟨h.tome.grown hb, (hb.block s h.lt).trans h.at_, h.dr.grown hb, h.fit⟩
theorem SheetAt.short (h : SheetAt w t b g T s d v R) : R.length ≤ 1000000 := Nat.le_trans h.fit.short (by decide)

set_option maxHeartbeats 400000 in
set_option maxRecDepth 100000 in
theorem draft_yes (h : SheetAt w t b g T s d v R) : Calls Try.prog 12 #[.pointer (some ⟨s, 0, none⟩)] w fun e w' => e = .returned (.pointer (some ⟨d, 0, none⟩)) ∧ w' = w := by
  have c0 := h.c0
  clear h
  go_enter Try.func12, Try.ntmps12
  go_wp2
  go_ret
  exact ⟨rfl, rfl⟩

set_option maxHeartbeats 400000 in
set_option maxRecDepth 100000 in
theorem draft_nil (w : World) : Calls Try.prog 12 #[.pointer none] w fun e w' => e = .returned (.pointer none) ∧ w' = w := by
  go_enter Try.func12, Try.ntmps12
  go_wp2
  go_ret
  exact ⟨rfl, rfl⟩

set_option maxHeartbeats 400000 in
set_option maxRecDepth 100000 in
theorem has_any (s : Nat) (i : Int) (w : World) : Calls Try.prog 43 #[.pointer (some ⟨s, 0, none⟩), .int .i64 i] w fun e w' => e = .returned (.bool (decide (0 ≤ i ∧ i < 6))) ∧ w' = w := by
  by_cases h0 : 0 ≤ i
  · by_cases h1 : i < 6
    · have e : decide (0 ≤ i ∧ i < 6) = true := decide_eq_true ⟨h0, h1⟩
      rw [e]
      clear e
      go_enter Try.func43, Try.ntmps43
      go_wp2
      go_ret
      exact ⟨rfl, rfl⟩
    · have e : decide (0 ≤ i ∧ i < 6) = false := decide_eq_false (fun k => h1 k.2)
      rw [e]
      clear e
      go_enter Try.func43, Try.ntmps43
      go_wp2
      go_ret
      exact ⟨rfl, rfl⟩
  · have e : decide (0 ≤ i ∧ i < 6) = false := decide_eq_false (fun k => h0 k.1)
    rw [e]
    clear e
    go_enter Try.func43, Try.ntmps43
    go_wp2
    go_ret
    exact ⟨rfl, rfl⟩

set_option maxHeartbeats 400000 in
set_option maxRecDepth 100000 in
theorem has_nil (i : Int) (w : World) : Calls Try.prog 43 #[.pointer none, .int .i64 i] w fun e w' => e = .returned (.bool false) ∧ w' = w := by
  go_enter Try.func43, Try.ntmps43
  go_wp2
  go_ret
  exact ⟨rfl, rfl⟩

set_option maxHeartbeats 400000 in
set_option maxRecDepth 100000 in
theorem new_any (w : World) : Calls Try.prog 24 #[] w fun e w' => ∃ s d, e = .returned (.pointer (some ⟨s, 0, none⟩)) ∧ w'.heap[s]? = some (.cells #[.pointer (some ⟨d, 0, none⟩)] 72 (0, 0)) ∧
    DraftAt w' d (.slice none 0 0) [] ∧ Below w.heap.size w w' ∧ w.heap.size ≤ s ∧ w.heap.size ≤ d := by
  go_enter Try.func24, Try.ntmps24
  go_wp2
  go_ret
  have e1 : ((w.alloc (.cells #[.slice none 0 0] 79)).alloc (.cells #[.pointer (some ⟨w.heap.size, 0, none⟩)] 72)).heap[w.heap.size + 1]? = some (.cells #[.pointer (some ⟨w.heap.size, 0, none⟩)] 72 (0, 0)) := by
    have h := heap_new (w.alloc (.cells #[.slice none 0 0] 79)) (.cells #[.pointer (some ⟨w.heap.size, 0, none⟩)] 72)
    rwa [World.size_alloc] at h
  exact ⟨w.heap.size + 1, w.heap.size, rfl, e1, (DraftAt.made w).grown ((Below.refl _ _).alloc (Nat.le_refl _) _), ((Below.refl _ w).alloc (Nat.le_refl _) _).alloc (by simp) _, by omega, Nat.le_refl _⟩

set_option maxRecDepth 100000 in
/-- A tome's file, at any number. -/
theorem tget (h : TomeAt w t b g T) (i : Int) :
    Calls Try.prog 23 #[.pointer (some ⟨t, 0, none⟩), .int .i64 i] w fun e w' => (∃ n, e = .returned (.tuple #[.agg #[.bool (base T i).1, .string (base T i).2], .int .i64 n])) ∧ Below w.heap.size w w' := by
  by_cases hi : 0 ≤ i ∧ i < 6
  · obtain ⟨j, rfl⟩ : ∃ j : Nat, i = (j : Int) := ⟨i.toNat, by omega⟩
    refine (Tom.get_yes h j (by omega)).mono ?_
    rintro e z ⟨rfl, hb⟩
    refine ⟨⟨T[j]!.2, ?_⟩, hb⟩
    unfold base
    rw [if_pos hi, Int.toNat_natCast]
  · refine (Tom.get_no h i hi).mono ?_
    rintro e z ⟨rfl, hb⟩
    refine ⟨⟨0, ?_⟩, hb⟩
    unfold base
    rw [if_neg hi]

/-- A file's box lies as it lay behind what is laid anew. -/
theorem box_past {z : World} {A : Nat} {q : Bool} {y : ByteArray} (o : Obj) (h : z.heap[A]? = some (.cells #[.bool q, .string y] 23 (0, 0))) :
    (z.alloc o).cell? ⟨A, 0, none⟩ = some (.bool q) ∧ (z.alloc o).cell? ⟨A, 1, none⟩ = some (.string y) ∧ (z.alloc o).frozen? ⟨A, 0, none⟩ = false ∧ (z.alloc o).frozen? ⟨A, 1, none⟩ = false := by
  have hk : (z.alloc o).heap[A]? = some (.cells #[.bool q, .string y] 23 (0, 0)) := (Below.heap_alloc _ _ _ (Array.getElem?_eq_some_iff.1 h).1).trans h
  exact ⟨cell_at hk rfl, cell_at hk rfl, free_at hk, free_at hk⟩

set_option maxHeartbeats 1600000 in
set_option maxRecDepth 100000 in
theorem sget (h : SheetAt w t b g T s d v R) (i : Int) :
    Calls Try.prog 11 #[.pointer (some ⟨s, 0, none⟩), .pointer (some ⟨t, 0, none⟩), .int .i64 i] w fun e w' =>
      e = .returned (.tuple #[.agg #[.bool (ovr T R i).1, .string (ovr T R i).2], .bool (Dft.look R i).isSome]) ∧ Below w.heap.size w w' := by
  obtain ⟨hn0, hz0, hb0⟩ := box_new w false ⟨#[]⟩
  have HD := Hid.mk (h.grown hb0)
  have HN := Hid.mk hn0
  have HZ := Hid.mk hz0
  have HB0 := Hid.mk hb0
  clear h hn0 hz0 hb0
  go_enter Try.func11, Try.ntmps11
  go_wp2_with fail
  refine (draft_yes HD.out).mono ?_
  rintro e w1 ⟨rfl, hw1⟩
  rw [hw1]
  clear hw1 w1
  go_wp2_with fail
  refine (Dft.F.get_yes HD.out.dr HD.out.short i).mono ?_
  rintro e w1 ⟨rfl, hb1⟩
  have HT := Hid.mk (HD.out.tome.grown hb1)
  have hN : w1.heap[w.heap.size]? = some (.cells #[.bool false, .string ⟨#[]⟩] 23 (0, 0)) := (hb1.block w.heap.size (by rw [HZ.out]; omega)).trans HN.out
  have HB := Hid.mk (HB0.out.trans (hb1.mono (by rw [HZ.out]; omega)))
  have hlt := (Array.getElem?_eq_some_iff.1 hN).1
  cases hl : Dft.look R i with
  | some x =>
    obtain ⟨q, y⟩ := x
    have HE : Hid (ovr T R i = (q, y)) := Hid.mk (by unfold ovr; rw [hl]; rfl)
    have HL := Hid.mk hl
    dsimp only [Option.getD_some, Option.isSome_some]
    obtain ⟨e0, e1, g0, g1⟩ := box_past (.cells #[.bool q, .string y] 23) hN
    have HB2 := Hid.mk (HB.out.alloc HB.out.size (.cells #[.bool q, .string y] 23))
    clear hb1 hl hN hlt
    go_wp2
    refine bodyPost_ret (v := .tuple #[.agg #[.bool q, .string y], .bool true]) ?_ rfl ⟨by rw [HE.out, HL.out]; rfl, ?_⟩
    · simp [results, Try.f11, go_sem, e0, e1]
    · exact (HB2.out.setCell (by simp) _).setCell (by simp) _
  | none =>
    have HE : Hid (ovr T R i = base T i) := Hid.mk (by unfold ovr; rw [hl]; rfl)
    have HL := Hid.mk hl
    dsimp only [Option.getD_none, Option.isSome_none]
    obtain ⟨e0, e1, g0, g1⟩ := box_past (.cells #[.bool false, .string ⟨#[]⟩] 23) hN
    have HNN := Hid.mk hN
    have ht := tget (HT.out.grown ((Below.refl _ w1).alloc (Nat.le_refl _) (.cells #[.bool false, .string ⟨#[]⟩] 23))) i
    obtain ⟨⟨q, y⟩, hq⟩ : ∃ q, q = base T i := ⟨_, rfl⟩
    rw [← hq] at HE ht
    have HTG := Hid.mk ht
    have HBA := Hid.mk (HB.out.alloc HB.out.size (.cells #[.bool false, .string ⟨#[]⟩] 23))
    clear hb1 hl hlt hN hq ht
    go_wp2_with fail
    refine HTG.out.mono ?_
    rintro e w2 ⟨⟨n, rfl⟩, hb2⟩
    have hN2 : w2.heap[w.heap.size]? = some (.cells #[.bool false, .string ⟨#[]⟩] 23 (0, 0)) := (hb2.block w.heap.size (by have := (Array.getElem?_eq_some_iff.1 HNN.out).1; simp; omega)).trans ((Below.heap_alloc _ _ _ (Array.getElem?_eq_some_iff.1 HNN.out).1).trans HNN.out)
    have hb3 := HBA.out.trans (hb2.mono HBA.out.size)
    have HB3 := Hid.mk (hb3.alloc hb3.size (.cells #[.bool q, .string y] 23))
    obtain ⟨k0, k1, l0, l1⟩ := box_past (.cells #[.bool q, .string y] 23) hN2
    clear hb2 hb3 hN2 e0 e1 g0 g1 HTG
    dsimp only
    go_wp2
    refine bodyPost_ret (v := .tuple #[.agg #[.bool q, .string y], .bool false]) ?_ rfl ⟨by rw [HE.out, HL.out]; rfl, ?_⟩
    · simp [results, Try.f11, go_sem, k0, k1]
    · exact (HB3.out.setCell (by simp) _).setCell (by simp) _

set_option maxHeartbeats 1600000 in
set_option maxRecDepth 100000 in
/-- Of a nil sheet the tome's file. -/
theorem sget_nil (h : TomeAt w t b g T) (i : Int) :
    Calls Try.prog 11 #[.pointer none, .pointer (some ⟨t, 0, none⟩), .int .i64 i] w fun e w' =>
      e = .returned (.tuple #[.agg #[.bool (base T i).1, .string (base T i).2], .bool false]) ∧ Below w.heap.size w w' := by
  obtain ⟨hn0, hz0, hb0⟩ := box_new w false ⟨#[]⟩
  have HD := Hid.mk (h.grown hb0)
  have HN := Hid.mk hn0
  have HZ := Hid.mk hz0
  have HB0 := Hid.mk hb0
  clear h hn0 hz0 hb0
  go_enter Try.func11, Try.ntmps11
  go_wp2_with fail
  refine (draft_nil _).mono ?_
  rintro e w1 ⟨rfl, hw1⟩
  rw [hw1]
  clear hw1 w1
  go_wp2_with fail
  refine (Dft.F.get_nil i _).mono ?_
  rintro e w1 ⟨rfl, hb1⟩
  have HT := Hid.mk (HD.out.grown hb1)
  have hN : w1.heap[w.heap.size]? = some (.cells #[.bool false, .string ⟨#[]⟩] 23 (0, 0)) := (hb1.block w.heap.size (by rw [HZ.out]; omega)).trans HN.out
  have HB := Hid.mk (HB0.out.trans (hb1.mono (by rw [HZ.out]; omega)))
  have hlt := (Array.getElem?_eq_some_iff.1 hN).1
  obtain ⟨e0, e1, g0, g1⟩ := box_past (.cells #[.bool false, .string ⟨#[]⟩] 23) hN
  have HNN := Hid.mk hN
  have ht := tget (HT.out.grown ((Below.refl _ w1).alloc (Nat.le_refl _) (.cells #[.bool false, .string ⟨#[]⟩] 23))) i
  obtain ⟨⟨q, y⟩, hq⟩ : ∃ q, q = base T i := ⟨_, rfl⟩
  rw [← hq] at ht
  have HE := Hid.mk hq
  have HTG := Hid.mk ht
  have HBA := Hid.mk (HB.out.alloc HB.out.size (.cells #[.bool false, .string ⟨#[]⟩] 23))
  clear hb1 hlt hN hq ht
  go_wp2_with fail
  refine HTG.out.mono ?_
  rintro e w2 ⟨⟨n, rfl⟩, hb2⟩
  have hN2 : w2.heap[w.heap.size]? = some (.cells #[.bool false, .string ⟨#[]⟩] 23 (0, 0)) := (hb2.block w.heap.size (by have := (Array.getElem?_eq_some_iff.1 HNN.out).1; simp; omega)).trans ((Below.heap_alloc _ _ _ (Array.getElem?_eq_some_iff.1 HNN.out).1).trans HNN.out)
  have hb3 := HBA.out.trans (hb2.mono HBA.out.size)
  have HB3 := Hid.mk (hb3.alloc hb3.size (.cells #[.bool q, .string y] 23))
  obtain ⟨k0, k1, l0, l1⟩ := box_past (.cells #[.bool q, .string y] 23) hN2
  clear hb2 hb3 hN2 e0 e1 g0 g1 HTG
  dsimp only
  go_wp2
  refine bodyPost_ret (v := .tuple #[.agg #[.bool q, .string y], .bool false]) ?_ rfl ⟨by rw [← HE.out], ?_⟩
  · simp [results, Try.f11, go_sem, k0, k1]
  · exact (HB3.out.setCell (by simp) _).setCell (by simp) _

/-- What calls on a sheet leave. -/
theorem SheetAt.put {v' : Value} {R' : List (Int × Fl)} (h : SheetAt w t b g T s d v R) (hd : DraftAt w' d v' R') (hf : Fits R') (hw : Wrote (Foot d [v]) (Foot d [v']) w w') : SheetAt w' t b g T s d v' R' := by
  have no : ∀ (k : Nat) (cs : Array Value) (ty : TypeId) (m : Nat × Nat), w.heap[k]? = some (.cells cs ty m) → ty ≠ 79 → ty ≠ 77 → w'.heap[k]? = w.heap[k]? := fun k cs ty m hk h1 h2 =>
    hw.block k (Array.getElem?_eq_some_iff.1 hk).1 (fun e => by
      rcases e with e | ⟨x, hx, e⟩
      · exact block_ne hk h.dr.at_ h1 e
      · simp at hx
        subst hx
        obtain ⟨cs', hc⟩ := own_at h.dr.owns e
        exact block_ne hk hc h2 rfl)
  refine ⟨h.tome.keep (no _ _ _ _ h.tome.at_ (by decide) (by decide)) (no _ _ _ _ h.tome.row.at_ (by decide) (by decide)) (no _ _ _ _ h.tome.row.row (by decide) (by decide)), (no _ _ _ _ h.at_ (by decide) (by decide)).trans h.at_, hd, hf⟩

set_option maxRecDepth 100000 in
theorem eq_fl (f g : Fl) (w : World) : (Op.equalIn 10000 23 (.agg #[.bool f.1, .string f.2]) (.agg #[.bool g.1, .string g.2])).run Try.prog w = .ok (decide (f = g)) w := by
  obtain ⟨a, s⟩ := f
  obtain ⟨b, t⟩ := g
  by_cases ha : a = b
  · subst ha
    by_cases hs : s = t
    · subst hs
      rw [decide_eq_true rfl]
      simp [go_sem]
    · have hd : ¬ (a, s) = (a, t) := fun h => hs (congrArg Prod.snd h)
      have hl : ¬ s.toList = t.toList := fun h => by
        rw [Fil.toList_txt, Fil.toList_txt] at h
        exact hs (Tom.bytes_eq h)
      rw [decide_eq_false hd]
      simp [go_sem, hl]
  · have hd : ¬ (a, s) = (b, t) := fun h => ha (congrArg Prod.fst h)
    rw [decide_eq_false hd]
    simp [go_sem, ha]

end

end Go.Proofs.Ytdngehfebmaegaa.Sht
