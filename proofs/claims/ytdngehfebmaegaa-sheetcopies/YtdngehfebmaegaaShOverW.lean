/-
  The walk of Over of a sheet.
-/
import Derived.Test.YtdngehfebmaegaaShOver
namespace Go.Proofs.Ytdngehfebmaegaa.Sht
open Go.RowKit Go.Shelf Go.Deep Go.Proofs.Ytdngehfebmaegaa.Cel Go.Proofs.Ytdngehfebmaegaa.Rng Go.Proofs.Ytdngehfebmaegaa.Dft Go.Proofs.Ytdngehfebmaegaa.Dft.F
open Tom (CanF TomeAt)
attribute [local go_sem] Oper.semAt_some

section
variable {w w' : World} {t b g s d : Nat} {T : List (Fl × Int)} {v : Value} {R : List (Int × Fl)}

theorem take_snoc {R : List (Int × Fl)} (J : Nat) (hJ : J < R.length) : R.take (J + 1) = R.take J ++ [(R[J]!.1, R[J]!.2)] := by
  rw [getElem!_pos R J hJ, List.take_succ_eq_append_getElem hJ]

set_option maxHeartbeats 8000000 in
set_option maxRecDepth 100000 in
theorem over_any (h : SheetAt w t b g T s d v R) (ver : Int) :
    Calls Try.prog 22 #[.pointer (some ⟨s, 0, none⟩), .pointer (some ⟨t, 0, none⟩), .int .i64 ver] w fun e w' => e = .returned (.int .i64 (R.length : Nat)) ∧ TomeAt w' t b g (oT T R ver) ∧ But [g] w w' := by
  obtain ⟨K, hK⟩ : ∃ K, K = w.heap.size := ⟨_, rfl⟩
  obtain ⟨w0, hw0⟩ : ∃ z, z = ((w.alloc (.cells #[.pointer (some ⟨t, 0, none⟩)] 27)).alloc (.cells #[.int .i64 ver] 3)).alloc (.cells #[.int .i64 0] 3) := ⟨_, rfl⟩
  have hb0 : Below w.heap.size w w0 := by rw [hw0]; exact (((Below.refl _ w).alloc (Nat.le_refl _) _).alloc (by simp) _).alloc (by simp; omega) _
  have k0 : w0.heap[K]? = some (.cells #[.pointer (some ⟨t, 0, none⟩)] 27 (0, 0)) := by
    rw [hw0, hK]; exact (Below.heap_alloc _ _ _ (by simp; omega)).trans ((Below.heap_alloc _ _ _ (by simp)).trans (heap_new _ _))
  have k1 : w0.heap[K + 1]? = some (.cells #[.int .i64 ver] 3 (0, 0)) := by
    have h := heap_new (w.alloc (.cells #[.pointer (some ⟨t, 0, none⟩)] 27)) (.cells #[.int .i64 ver] 3)
    rw [World.size_alloc] at h
    rw [hw0, hK]; exact (Below.heap_alloc _ _ _ (by simp)).trans h
  have k2 : w0.heap[K + 1 + 1]? = some (.cells #[.int .i64 0] 3 (0, 0)) := by
    have h := heap_new ((w.alloc (.cells #[.pointer (some ⟨t, 0, none⟩)] 27)).alloc (.cells #[.int .i64 ver] 3)) (.cells #[.int .i64 0] 3)
    rw [World.size_alloc, World.size_alloc] at h
    rw [hw0, hK]; exact h
  have hS0 := h.grown hb0
  have HO0 : Hid (OSt w w0 t b g T K ver 0) := Hid.mk ⟨hS0.tome, k0, k1, k2, .of_below hb0⟩
  have HS0 := Hid.mk hS0
  have HFT := Hid.mk h.fit
  have HK := Hid.mk hK
  have HTL := Hid.mk h.tome.len
  clear h hb0 k0 k1 k2 hS0
  refine (callsIn_wide (n := 8)).1 ?_
  refine callsIn_of_wp_marks Try.func22 rfl trivial ?_ rfl
  simp only [Try.ntmps22, List.size_toArray, List.length_cons, List.length_nil, Nat.reduceAdd, Nat.reduceSub, Array.replicate_succ, Array.replicate_zero, List.push_toArray, List.append_toArray, List.nil_append, List.cons_append]
  gi_wp2_with fail
  rw [← hw0, ← hK]
  clear hw0 hK
  refine ⟨trivial, (callsIn_wide.2 (draft_yes HS0.out)).mono ?_⟩
  rintro e w1 ⟨rfl, hw1⟩
  rw [hw1]
  clear hw1 w1
  gi_wp2_with fail
  refine ⟨trivial, (Dft.F.all_in _ _ _).mono ?_⟩
  rintro e wb ⟨rfl, hwb⟩
  obtain ⟨ZS, hZS⟩ : ∃ ZS, ZS = w0.heap.size := ⟨_, rfl⟩
  rw [← hZS]
  have hbb : Below w0.heap.size w0 wb := by rw [hwb]; exact (Below.refl _ _).alloc (Nat.le_refl _) _
  have hcb : wb.cell? ⟨ZS, 0, none⟩ = some (.pointer (some ⟨d, 0, none⟩)) := by rw [hwb, hZS]; exact cell_at (heap_new _ _) rfl
  have HOB := Hid.mk (HO0.out.grown hbb)
  have HSB := Hid.mk (HS0.out.grown hbb)
  have HCB := Hid.mk hcb
  have HWZ : Hid (w.heap.size ≤ wb.heap.size) := Hid.mk HOB.out.but.size
  clear hwb hZS hbb hcb HO0 HS0
  gi_wp2
  refine range_over2 (gf := 37) (lb := #[.pointer (some ⟨ZS, 0, none⟩)]) rfl (enters_of Try.func37 (by kernel_rfl) rfl)
    (Dft.F.all_gives 7 (by omega) _ d v R wb HCB.out HSB.out.dr HSB.out.short) (Below.refl _ _) (fun _ _ _ h k => h.trans k) (fun W l r r' hl hr => Dft.F.KT.put hr) (fun _ => rfl)
    (fun (pre : List (Ix R.length)) X => OSt w X t b g (oT T (R.take pre.length) ver) K ver (pre.length : Nat)) (fun _ _ => False)
    (fun s X Y row hs hg hr => hs.kept hg fun r e => ⟨Nat.le_trans HWZ.out (hr r e).1, (hr r e).2⟩) (fun _ _ _ _ h _ _ => h) HOB.out ?round ?done ?stop
  case stop => intro D pre X hD hS hF; exact hF.elim
  case round =>
    intro q pre x X r hl hr hI hgood
    unfold encE
    obtain ⟨J, hJ⟩ : ∃ J, J = pre.length := ⟨_, rfl⟩
    have hxJ : x.1 = J := by rw [hJ]; exact hgood
    have hJR : J < R.length := by rw [← hxJ]; exact x.2
    rw [← hJ] at hI
    rw [hxJ]
    have HTK := Hid.mk (take_snoc J hJR)
    have hfit := HFT.out.is R[J]! (by rw [getElem!_pos R J hJR]; exact List.getElem_mem _)
    have hok := okS_fits hfit
    obtain ⟨y0, hy0⟩ : ∃ y, y = R[J]!.1 := ⟨_, rfl⟩
    obtain ⟨⟨q1, q2⟩, hy1⟩ : ∃ y, y = R[J]!.2 := ⟨_, rfl⟩
    rw [← hy0, ← hy1] at HTK hok
    rw [← hy0, ← hy1]
    have HI := Hid.mk hI
    have HJP : Hid (J = pre.length) := Hid.mk hJ
    have HR := Hid.mk hr
    have hl0 : wb.heap.size ≤ q := hl
    have HOK := Hid.mk hok
    have hJ6 : J < 6 := by have := HFT.out.short; omega
    dsimp only
    clear hy0 hy1 hgood hI hr hJ hxJ hJR hfit hok
    have HX := Hid.mk (Array.getElem?_eq_some_iff.1 HR.out).1
    gi_wp2
    refine ⟨(KeepsOthers.alloc _ _).from _, Dft.F.KT.of_below ((Below.refl _ X).alloc (Nat.le_refl _) _), fun r' => ?_⟩
    have hbx := (Below.refl _ X).alloc (Nat.le_refl _) (.cells #[.bool q1, .string q2] 23)
    have hr2 : (X.alloc (.cells #[.bool q1, .string q2] 23)).heap[q]? = some (.loop r) := (Below.heap_alloc _ _ _ HX.out).trans HR.out
    obtain ⟨Z, hZ⟩ : ∃ Z, Z = (X.alloc (.cells #[.bool q1, .string q2] 23)).putObj q (.loop r') := ⟨_, rfl⟩
    have hg1 : (X.alloc (.cells #[.bool q1, .string q2] 23)).grownBy Z (some q) := by rw [hZ]; exact grownBy_putObj' _ _ _
    have hOZ := (HI.out.grown hbx).kept hg1 (fun p e => by cases e; exact ⟨Nat.le_trans HWZ.out hl0, _, hr2, rfl⟩)
    have hfZ : Z.heap[X.heap.size]? = some (.cells #[.bool q1, .string q2] 23 (0, 0)) := by
      rw [hZ]
      exact (World.putObj_heap_other (Nat.ne_of_gt HX.out)).trans (heap_new _ _)
    have HOZ := Hid.mk hOZ
    rw [← hZ]
    obtain ⟨P, hP⟩ : ∃ P, P = X.heap.size := ⟨_, rfl⟩
    rw [← hP] at hfZ ⊢
    have k0 : Z.cell? ⟨K, 0, none⟩ = some (.pointer (some ⟨t, 0, none⟩)) := cell_at hOZ.bt rfl
    have k1 : Z.cell? ⟨K + 1, 0, none⟩ = some (.int .i64 ver) := cell_at hOZ.bv rfl
    have d0 : Z.cell? ⟨P, 0, none⟩ = some (.bool q1) := cell_at hfZ rfl
    have d1 : Z.cell? ⟨P, 1, none⟩ = some (.string q2) := cell_at hfZ rfl
    have hset := Tom.set_any hOZ.tome y0 (q1, q2) ver
    rw [HOK.out] at hset
    have HSET := Hid.mk hset
    clear hbx hr2 hg1 hOZ hfZ hZ hP hset
    gi_wp2_with fail
    refine ⟨trivial, (callsIn_wide.2 HSET.out).mono ?_⟩
    rintro e z2 ⟨rfl, ht2, hb2⟩
    have hO2 := HOZ.out.set ht2 hb2
    have HO2 := Hid.mk hO2
    have HKF := Hid.mk (others_but wb.heap.size hb2 HOZ.out.tome.row.row)
    have HKT : Hid (Dft.F.KT Z z2) := Hid.mk (kt_but hb2 HOZ.out.tome.row.row (by decide))
    have m0 : z2.cell? ⟨K + 1 + 1, 0, none⟩ = some (.int .i64 (J : Nat)) := cell_at hO2.bn rfl
    have m1 : z2.frozen? ⟨K + 1 + 1, 0, none⟩ = false := free_at hO2.bn
    have HJ1 : Hid ((pre ++ [x]).length = J + 1) := Hid.mk (by simp; exact HJP.out.symm)
    have HTO : Hid (oT T (R.take (J + 1)) ver = Tom.setR (oT T (R.take J) ver) y0 (q1, q2) ver) := Hid.mk (by rw [HTK.out, oT_snoc])
    clear ht2 hb2 hO2 k0 k1 d0 d1 HSET
    gi_wp2
    refine ⟨HKF.out.trans (others_set _ _ _ _), HKT.out.trans (Dft.F.KT.set _ HO2.out.bn (by decide)), ?_⟩
    have h := HO2.out.number (by rw [HK.out]; exact Nat.le_refl _) ((J + 1 : Nat) : Int)
    dsimp only
    rw [HJ1.out, HTO.out]
    simpa using h
  case done =>
    intro D ys W2 hD hys hI hK2
    have hyl : ys.length = R.length := by have h := congrArg List.length hys; simpa using h
    rw [hyl, List.take_length] at hI
    have m0 : W2.cell? ⟨K + 1 + 1, 0, none⟩ = some (.int .i64 (R.length : Nat)) := cell_at hI.bn rfl
    have HI := Hid.mk hI
    have HD := Hid.mk hD
    have HK2 := Hid.mk hK2
    clear hys hI hyl hD hK2
    gi_wp2
    refine ⟨by simp, .inl ⟨_, _, rfl, run_takeDeferred HK2.out, ?_⟩⟩
    have hg2 := grownBy_putObj' W2 D (.deferred none)
    refine ⟨_, results_tmp rfl _ _ _, rfl, tome_kept HI.out.tome hg2 (fun r e => by cases e; exact ⟨_, HK2.out, rfl⟩), HI.out.but.grown hg2 (fun r e => by cases e; exact .inr (Nat.le_trans HWZ.out HD.out))⟩

end

/-! ### Over of a nil sheet -/

set_option maxHeartbeats 8000000 in
set_option maxRecDepth 100000 in
theorem over_nil (t : Option Addr) (ver : Int) (w : World) :
    Calls Try.prog 22 #[.pointer none, .pointer t, .int .i64 ver] w fun e w' => e = .returned (.int .i64 0) ∧ Below w.heap.size w w' := by
  obtain ⟨K, hK⟩ : ∃ K, K = w.heap.size := ⟨_, rfl⟩
  obtain ⟨w0, hw0⟩ : ∃ z, z = ((w.alloc (.cells #[.pointer t] 27)).alloc (.cells #[.int .i64 ver] 3)).alloc (.cells #[.int .i64 0] 3) := ⟨_, rfl⟩
  have hb0 : Below w.heap.size w w0 := by rw [hw0]; exact (((Below.refl _ w).alloc (Nat.le_refl _) _).alloc (by simp) _).alloc (by simp; omega) _
  have k2 : w0.heap[K + 1 + 1]? = some (.cells #[.int .i64 0] 3 (0, 0)) := by
    have h := heap_new ((w.alloc (.cells #[.pointer t] 27)).alloc (.cells #[.int .i64 ver] 3)) (.cells #[.int .i64 0] 3)
    rw [World.size_alloc, World.size_alloc] at h
    rw [hw0, hK]; exact h
  have HB0 := Hid.mk hb0
  have HK2 := Hid.mk k2
  have HK := Hid.mk hK
  clear hb0 k2
  refine (callsIn_wide (n := 8)).1 ?_
  refine callsIn_of_wp_marks Try.func22 rfl trivial ?_ rfl
  simp only [Try.ntmps22, List.size_toArray, List.length_cons, List.length_nil, Nat.reduceAdd, Nat.reduceSub, Array.replicate_succ, Array.replicate_zero, List.push_toArray, List.append_toArray, List.nil_append, List.cons_append]
  gi_wp2_with fail
  rw [← hw0, ← hK]
  clear hw0 hK
  refine ⟨trivial, (callsIn_wide.2 (draft_nil _)).mono ?_⟩
  rintro e w1 ⟨rfl, hw1⟩
  rw [hw1]
  clear hw1 w1
  gi_wp2_with fail
  refine ⟨trivial, (Dft.F.all_in _ _ _).mono ?_⟩
  rintro e wb ⟨rfl, hwb⟩
  obtain ⟨ZS, hZS⟩ : ∃ ZS, ZS = w0.heap.size := ⟨_, rfl⟩
  rw [← hZS]
  have hbb : Below w0.heap.size w0 wb := by rw [hwb]; exact (Below.refl _ _).alloc (Nat.le_refl _) _
  have hcb : wb.cell? ⟨ZS, 0, none⟩ = some (.pointer none) := by rw [hwb, hZS]; exact cell_at (heap_new _ _) rfl
  have HBB : Hid (Below w.heap.size w wb) := Hid.mk (HB0.out.trans (hbb.mono HB0.out.size))
  have HKB := Hid.mk ((hbb.block _ (Array.getElem?_eq_some_iff.1 HK2.out).1).trans HK2.out)
  have HCB := Hid.mk hcb
  clear hwb hZS hbb hcb
  gi_wp2
  refine range_over2 (gf := 37) (lb := #[.pointer (some ⟨ZS, 0, none⟩)]) rfl (enters_of Try.func37 (by kernel_rfl) rfl)
    (Dft.F.nil_gives 7 _ wb HCB.out) (Below.refl _ _) (fun _ _ _ _ _ => trivial) (fun _ _ _ _ _ _ => trivial) (fun _ => rfl)
    (fun (pre : List Unit) X => X.heap[K + 1 + 1]? = some (.cells #[.int .i64 0] 3 (0, 0)) ∧ Below w.heap.size w X) (fun _ _ => False)
    (fun s X Y row hs hg hr => ⟨block_kept hs.1 hg fun r e => (hr r e).2, hs.2.grown hg hs.2.size fun k e => Nat.le_trans HBB.out.size (hr k e).1⟩) (fun _ _ _ _ h _ _ => h) ⟨HKB.out, HBB.out⟩ ?round ?done ?stop
  case stop => intro D pre X hD hS hF; exact hF.elim
  case round => intro l pre x X r hl hr hI hgood; exact hgood.elim
  case done =>
    rintro D ys W2 hD hys ⟨hI, hbX⟩ hK2
    have m0 : W2.cell? ⟨K + 1 + 1, 0, none⟩ = some (.int .i64 0) := cell_at hI rfl
    have HBX := Hid.mk hbX
    have HD := Hid.mk hD
    have HKK := Hid.mk hK2
    clear hys hI hD hK2 hbX
    gi_wp2
    refine ⟨by simp, .inl ⟨_, _, rfl, run_takeDeferred HKK.out, ?_⟩⟩
    refine ⟨_, results_tmp rfl _ _ _, rfl, HBX.out.grown (grownBy_putObj' W2 D (.deferred none)) HBX.out.size fun k e => by cases e; exact Nat.le_trans HBB.out.size HD.out⟩

end Go.Proofs.Ytdngehfebmaegaa.Sht
