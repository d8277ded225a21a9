/-
  DraftCopies: for every list of writes, every further write and every number at which to stop, the law returns true: a copy has the same, what is written there isn't written here, and All may be left at any time. No condition.
-/
import Derived.Deep.CutRange
import Derived.Deep.CutBlock
import Derived.Deep.RegionLaw
import Derived.Sort.CutIn
import Derived.Test.YtocdnlnhjfigjaaDfBox
namespace Go.Proofs.Ytocdnlnhjfigjaa.draftCopies
open Go.ChangeShapes Go.WideShapes Go.ChangeAt Go.RowKit Go.Deep Go.Shelf Go.Proofs.Ytocdnlnhjfigjaa.Cel Go.Proofs.Ytocdnlnhjfigjaa.Rng Go.Proofs.Ytocdnlnhjfigjaa.Dft Go.Proofs.Ytocdnlnhjfigjaa.Dft.I
attribute [local go_sem] Oper.semAt_some

/-- Two drafts, the boxes, and how many entries were met. -/
structure P3 (B : Nat) (w W : World) (b : Nat) (v : Value) (R : List (Int × Int)) (c : Nat) (u : Value) (Q : List (Int × Int)) (bx : List Bx) (K : Nat) (n : Int) : Prop where
  s : St2 B w W b v R c u Q ((K, #[.int .i64 n], 3) :: bx)
  far : ∀ x ∈ bx, x.1 < K
  lo : B ≤ K

section
variable {B b c K : Nat} {w W W' : World} {v u : Value} {R Q : List (Int × Int)} {bx : List Bx} {n : Int}

theorem P3.grown (h : P3 B w W b v R c u Q bx K n) (hb : Below W.heap.size W W') : P3 B w W' b v R c u Q bx K n := ⟨h.s.grown hb, h.far, h.lo⟩
theorem P3.kept {S : Nat} {row : Option Nat} (h : P3 B w W b v R c u Q bx K n) (hg : W.grownBy W' row) (hr : ∀ r, row = some r → S ≤ r ∧ ∃ o : Obj, W.heap[r]? = some o ∧ o.isCells = false) (hS : B ≤ S) : P3 B w W' b v R c u Q bx K n :=
  ⟨h.s.kept hg hr hS, h.far, h.lo⟩
theorem P3.number (h : P3 B w W b v R c u Q bx K n) (m : Int) : P3 B w (W.setCell ⟨K, 0, none⟩ (.int .i64 m)) b v R c u Q bx K m :=
  ⟨h.s.set (.int .i64 m) (fun z hz => by have := h.far z hz; show z.1 ≠ K; omega) h.lo, h.far, h.lo⟩
theorem P3.kc (h : P3 B w W b v R c u Q bx K n) : W.heap[K]? = some (.cells #[.int .i64 n] 3 (0, 0)) := h.s.s.box
theorem P3.bxs (h : P3 B w W b v R c u Q bx K n) : Boxes W bx := h.s.s.less.bx
end

set_option maxRecDepth 100000 in
set_option maxHeartbeats 16000000 in
theorem walk (a : Option Addr) (la ca : Nat) (l : List (Int × Int)) (pt : Int × Int) (stop : Int) (w : World) (h1 : IsPts w a la ca l) :
    Calls Try.prog 4 #[.slice a la ca, .agg #[.int .i64 pt.1, .int .i64 pt.2], .int .i64 stop] w fun e w' => e = .returned (.bool true) ∧ Below w.heap.size w w' := by
  obtain ⟨pi, pv⟩ := pt
  dsimp only
  have H1 := Hid.mk h1
  have HL := Hid.mk h1.1
  clear h1
  obtain ⟨B, hB⟩ : ∃ B, B = w.heap.size := ⟨_, rfl⟩
  have HB := Hid.mk hB
  refine (callsIn_wide (n := 6)).1 ?_
  refine callsIn_of_wp_marks Try.func4 rfl trivial ?_ rfl
  simp only [Try.ntmps4, List.size_toArray, List.length_cons, List.length_nil, Nat.reduceAdd, Nat.reduceSub, Array.replicate_succ, Array.replicate_zero, List.push_toArray, List.append_toArray, List.nil_append, List.cons_append]
  gi_wp2_with fail
  refine ⟨trivial, (callsIn_wide.2 (alive_any _)).mono ?_⟩
  rintro e w1 ⟨rfl, hb1⟩
  obtain ⟨w0, hw0⟩ : ∃ z, z = ((w.alloc (.cells #[.int .i64 pi, .int .i64 pv] 29)).alloc (.cells #[.int .i64 stop] 3)).alloc (.cells #[.bool false] 4) := ⟨_, rfl⟩
  rw [← hw0] at hb1
  have hb0 : Below w.heap.size w w0 := by rw [hw0]; exact (((Below.refl _ w).alloc (Nat.le_refl _) _).alloc (by simp) _).alloc (by simp; omega) _
  have k0 : w0.heap[B]? = some (.cells #[.int .i64 pi, .int .i64 pv] 29 (0, 0)) := by
    rw [hw0, hB]; exact (Below.heap_alloc _ _ _ (by simp; omega)).trans ((Below.heap_alloc _ _ _ (by simp)).trans (heap_new _ _))
  have k1 : w0.heap[B + 1]? = some (.cells #[.int .i64 stop] 3 (0, 0)) := by
    have h := heap_new (w.alloc (.cells #[.int .i64 pi, .int .i64 pv] 29)) (.cells #[.int .i64 stop] 3)
    rw [World.size_alloc] at h
    rw [hw0, hB]; exact (Below.heap_alloc _ _ _ (by simp)).trans h
  have k2 : w0.heap[B + 1 + 1]? = some (.cells #[.bool false] 4 (0, 0)) := by
    have h := heap_new ((w.alloc (.cells #[.int .i64 pi, .int .i64 pv] 29)).alloc (.cells #[.int .i64 stop] 3)) (.cells #[.bool false] 4)
    rw [World.size_alloc, World.size_alloc] at h
    rw [hw0, hB]; exact h
  have K0 := Hid.mk ((hb1.block _ (Array.getElem?_eq_some_iff.1 k0).1).trans k0)
  have K1 := Hid.mk ((hb1.block _ (Array.getElem?_eq_some_iff.1 k1).1).trans k1)
  have K2 := Hid.mk ((hb1.block _ (Array.getElem?_eq_some_iff.1 k2).1).trans k2)
  have HB1 := Hid.mk (hb0.trans (hb1.mono hb0.size))
  rw [← hB] at HB1
  rw [← hB]
  clear hb0 hb1 k0 k1 k2 hw0 w0
  have c1 : w1.cell? ⟨B + 1 + 1, 0, none⟩ = some (.bool false) := cell_at K2.out rfl
  have f1 : w1.frozen? ⟨B + 1 + 1, 0, none⟩ = false := free_at K2.out
  clear hB
  by_cases hla : 80 < la
  · have hla2 : (80 : Int) < (la : Int) := by omega
    gi_wp2
    have hc5 := World.cell?_setCell_same' w1 ⟨B + 1 + 1, 0, none⟩ (.bool true) (by rw [c1]; rfl)
    refine ⟨.bool true, ?_, rfl, ?_⟩
    · simp [results, Try.f4, go_sem, hc5]
    · rw [← HB.out]
      exact HB1.out.setCell (p := ⟨B + 1 + 1, 0, none⟩) (by show B ≤ B + 1 + 1; omega) _
  have hla2 : ¬ (80 : Int) < (la : Int) := by omega
  clear c1 f1
  gi_upto_region 6 with fail
  obtain ⟨b, hb⟩ : ∃ b, b = w1.heap.size := ⟨_, rfl⟩
  obtain ⟨w2, hw2⟩ : ∃ z, z = (w1.alloc (.cells #[.slice none 0 0] 27)).alloc (.cells #[.pointer (some ⟨b, 0, none⟩)] 24) := ⟨_, rfl⟩
  have hb2 : Below w1.heap.size w1 w2 := by rw [hw2]; exact ((Below.refl _ _).alloc (Nat.le_refl _) _).alloc (by simp) _
  have hsz : B ≤ w1.heap.size := by have := HB1.out.size; have := HB.out; omega
  obtain ⟨bx, hbx⟩ : ∃ bx : List Bx, bx = [(b + 1, #[.pointer (some ⟨b, 0, none⟩)], 24), (B + 1 + 1, #[.bool false], 4), (B + 1, #[.int .i64 stop], 3), (B, #[.int .i64 pi, .int .i64 pv], 29)] := ⟨_, rfl⟩
  have hst : St B w w2 b (.slice none 0 0) [] bx := by
    refine ⟨?_, fun k hk => ?_, ?_, by rw [← HB.out] at *; exact HB1.out.trans (hb2.mono hsz)⟩
    · rw [hw2, hb]
      exact (DraftAt.made w1).grown ((Below.refl _ _).alloc (Nat.le_refl _) _)
    · rcases hk with e | ⟨x, hx, e⟩
      · omega
      · simp at hx
        subst hx
        cases e
    · rw [hbx]
      refine ((((Boxes.nil _).cons ((hb2.block _ (Array.getElem?_eq_some_iff.1 K0.out).1).trans K0.out) ?_ ?_).cons ((hb2.block _ (Array.getElem?_eq_some_iff.1 K1.out).1).trans K1.out) ?_ ?_).cons ((hb2.block _ (Array.getElem?_eq_some_iff.1 K2.out).1).trans K2.out) ?_ ?_).cons ?_ ?_ ?_
      case refine_7 =>
        have h := heap_new (w1.alloc (.cells #[.slice none 0 0] 27)) (.cells #[.pointer (some ⟨b, 0, none⟩)] 24)
        rw [World.size_alloc] at h
        rw [hw2]
        show _ = _
        rw [hb] at h ⊢
        exact h
      all_goals (dsimp only; decide)
  rw [← hb, ← hw2]
  have HFB : Hid (B + 1 + 1 < b) := Hid.mk (by rw [hb]; exact (Array.getElem?_eq_some_iff.1 K2.out).1)
  have HST := Hid.mk hst
  have HBX := Hid.mk hbx
  clear hst hb hw2 hb2 K0 K1 K2 HB1 hsz hbx
  gi_wp2
  gi_loopw [31] (fun idx wr => ∃ (k : Nat) (v : Value), k ≤ la ∧ idx = .int .i64 k ∧ Hid (St B w wr b v (ofL (l.take k)) bx)) (fun idx _ => la - (intOf idx).toNat)
  case atStart => exact ⟨0, _, Nat.zero_le _, rfl, HST⟩
  case round =>
    clear HST
    obtain ⟨k, v, hk, rfl, HS⟩ := hrel
    by_cases hlt : k < la
    · have hkl : k < l.length := by have := HL.out; omega
      have HI := Hid.mk (H1.out.carry (by rw [← HB.out]; exact HS.out.below))
      obtain ⟨g, off, e, hat⟩ := HI.out.at_ (by omega)
      subst e
      have c0 := hat.k k hkl
      have c1 := hat.i k hkl
      have HTK : Hid (l.take (k + 1) = l.take k ++ [(l[k]!.1, l[k]!.2)]) := Hid.mk (by rw [getElem!_pos l k hkl, List.take_succ_eq_append_getElem hkl])
      obtain ⟨qi, hqi⟩ : ∃ y, y = l[k]!.1 := ⟨_, rfl⟩
      obtain ⟨qv, hqv⟩ : ∃ y, y = l[k]!.2 := ⟨_, rfl⟩
      rw [← hqi] at c0 HTK
      rw [← hqv] at c1 HTK
      have hgl : g < wr.heap.size := World.block_lt_of_cell? wr _ c0
      have hbW : Below wr.heap.size wr (wr.alloc (.cells #[.int .i64 qi, .int .i64 qv] 29)) := (Below.refl _ _).alloc (Nat.le_refl _) _
      have HSA := Hid.mk (HS.out.grown hbW)
      have HLN := Hid.mk (length_ofL (l.take k))
      have hbx4 := HS.out.bx
      rw [HBX.out] at hbx4
      have hd0 := (hbx4 _ List.mem_cons_self).1
      have d0 : wr.cell? ⟨b + 1, 0, none⟩ = some (.pointer (some ⟨b, 0, none⟩)) := cell_at hd0 rfl
      have hdl : b + 1 < wr.heap.size := (Array.getElem?_eq_some_iff.1 hd0).1
      clear hat hqi hqv hkl hbW HI hbx4 hd0
      gi_wp2_with fail
      refine ⟨trivial, (callsIn_wide.2 (put_any HSA.out.d (by have := HLN.out; rw [List.length_take] at this; omega) qi qv)).mono ?_⟩
      rintro e w3 ⟨rfl, v3, hd3, hw3⟩
      have hS3 := HSA.out.put hd3 hw3
      rw [show put (ofL (l.take k)) qi qv = ofL (l.take (k + 1)) by rw [HTK.out, ofL_snoc]] at hS3
      have HS3 := Hid.mk hS3
      clear hd3 hw3 hS3 d0 c0 c1
      gi_wp2
      go_roundw
      case rel => exact ⟨k + 1, v3, by omega, by go_num, HS3⟩
      case measure => simp [intOf]; omega
    · have HLT : Hid (l.take k = l) := Hid.mk (by rw [show k = l.length by have := HL.out; omega, List.take_length])
      have hle : (la : Int) ≤ (k : Int) := by omega
      have hS := HS.out
      rw [HLT.out] at hS
      obtain ⟨R, hR⟩ : ∃ R, R = ofL l := ⟨_, rfl⟩
      rw [← hR] at hS
      have hbx4 := hS.bx
      rw [HBX.out] at hbx4
      have d0 : wr.cell? ⟨b + 1, 0, none⟩ = some (.pointer (some ⟨b, 0, none⟩)) := cell_at (hbx4 _ List.mem_cons_self).1 rfl
      have HRR := Hid.mk hR
      have HLE : Hid (R.length ≤ 80) := Hid.mk (by rw [hR]; have := length_ofL l; have := HL.out; omega)
      have HSE := Hid.mk hS
      clear HS hS hbx4 HLT hR
      gi_wp2_with fail
      refine ⟨trivial, (callsIn_wide.2 (copy_yes HSE.out.d (by have := HLE.out; omega))).mono ?_⟩
      rintro e w4 ⟨c, u, rfl, hd4, hf4, hb4⟩
      have HS4 := Hid.mk (HSE.out.beside hb4 hd4 hf4)
      clear hd4 hf4 hb4 HSE d0
      have hbx5 := HS4.out.s.bx
      rw [HBX.out] at hbx5
      have k0 := (hbx5 (B, #[.int .i64 pi, .int .i64 pv], 29) (by simp)).1
      have p0 : w4.cell? ⟨B, 0, none⟩ = some (.int .i64 pi) := cell_at k0 rfl
      have p1 : w4.cell? ⟨B, 1, none⟩ = some (.int .i64 pv) := cell_at k0 rfl
      clear hbx5 k0
      gi_wp2_with fail
      refine ⟨trivial, (callsIn_wide.2 (put_any HS4.out.o (by have := HLE.out; omega) pi pv)).mono ?_⟩
      rintro e w5 ⟨rfl, u5, hd5, hw5⟩
      have HS5 := Hid.mk (HS4.out.swap.put hd5 hw5).swap
      clear hd5 hw5 HS4 p0 p1
      have hcells : ∀ z : World, Boxes z bx → z.cell? ⟨b + 1, 0, none⟩ = some (.pointer (some ⟨b, 0, none⟩)) ∧ z.cell? ⟨B, 0, none⟩ = some (.int .i64 pi) ∧ z.cell? ⟨B, 1, none⟩ = some (.int .i64 pv) ∧ z.cell? ⟨B + 1, 0, none⟩ = some (.int .i64 stop) ∧ z.heap[B + 1 + 1]? = some (.cells #[.bool false] 4 (0, 0)) := fun z hz => by
        rw [HBX.out] at hz
        have k0 := (hz (b + 1, #[.pointer (some ⟨b, 0, none⟩)], 24) (by simp)).1
        have k1 := (hz (B, #[.int .i64 pi, .int .i64 pv], 29) (by simp)).1
        have k2 := (hz (B + 1, #[.int .i64 stop], 3) (by simp)).1
        have k3 := (hz (B + 1 + 1, #[.bool false], 4) (by simp)).1
        exact ⟨cell_at k0 rfl, cell_at k1 rfl, cell_at k1 rfl, cell_at k2 rfl, k3⟩
      have HCELLS := Hid.mk hcells
      obtain ⟨d0, p0, p1, _, _⟩ := hcells w5 HS5.out.s.bx
      obtain ⟨X, hX⟩ : ∃ X, X = (last l pi).getD 0 := ⟨_, rfl⟩
      obtain ⟨Y, hY⟩ : ∃ Y, Y = (last l pi).isSome := ⟨_, rfl⟩
      have hget := get_yes HS5.out.s.d (by have := HLE.out; omega) pi
      rw [show Dft.look R pi = Dft.last l pi by rw [HRR.out, look_ofL], ← hX, ← hY] at hget
      have HGET := Hid.mk hget
      have HX := Hid.mk hX
      have HY := Hid.mk hY
      clear hcells hget hX hY
      gi_wp2_with fail
      refine ⟨trivial, (callsIn_wide.2 HGET.out).mono ?_⟩
      rintro e w6 ⟨rfl, hb6⟩
      have HS6 := Hid.mk (HS5.out.grown hb6)
      clear hb6 d0 p0 p1 HGET HS5
      obtain ⟨d0, p0, p1, _, _⟩ := HCELLS.out w6 HS6.out.s.bx
      have HI6 := Hid.mk (H1.out.carry (w' := w6) (by rw [← HB.out]; exact HS6.out.s.below))
      have href := refGet_any HI6.out (by omega) pi
      rw [← HX.out, ← HY.out] at href
      have HREF := Hid.mk href
      clear href
      gi_wp2_with fail
      refine ⟨trivial, (callsIn_wide.2 HREF.out).mono ?_⟩
      rintro e w7 ⟨rfl, hw7⟩
      rw [hw7]
      clear hw7 w7 HREF
      have hget := get_yes HS6.out.o (by have := length_put_le R pi pv; have := HLE.out; omega) pi
      rw [look_put, if_pos rfl] at hget
      simp only [Option.getD_some, Option.isSome_some] at hget
      have HGET := Hid.mk hget
      clear hget
      gi_wp2_with fail
      refine ⟨trivial, (callsIn_wide.2 HGET.out).mono ?_⟩
      rintro e w7 ⟨rfl, hb7⟩
      have HS7 := Hid.mk (HS6.out.grown hb7)
      clear hb7 d0 p0 p1 HGET HS6 HI6
      obtain ⟨d0, p0, p1, _, _⟩ := HCELLS.out w7 HS7.out.s.bx
      obtain ⟨N, hN⟩ : ∃ N, N = R.length := ⟨_, rfl⟩
      have HNL := Hid.mk hN
      have hlen := len_yes HS7.out.s.d
      rw [← hN] at hlen
      have HLEN := Hid.mk hlen
      have HI7 := Hid.mk (H1.out.carry (w' := w7) (by rw [← HB.out]; exact HS7.out.s.below))
      clear hN hlen
      gi_wp2_with fail
      refine ⟨trivial, (callsIn_wide.2 HLEN.out).mono ?_⟩
      rintro e w8 ⟨rfl, hw8⟩
      rw [hw8]
      clear hw8 w8 HLEN
      gi_wp2_with fail
      refine ⟨trivial, (callsIn_wide.2 (refNumbers_any HI7.out (by omega))).mono ?_⟩
      rintro e w8 ⟨⟨v8, rfl, hown⟩, hb8⟩
      rw [show (nums l).length = N by rw [length_nums, HNL.out, HRR.out]] at hown
      obtain ⟨ua, uc, rfl⟩ := row_shape hown
      have HS8 := Hid.mk (HS7.out.s.grown hb8)
      clear hown hb8 HS7 HI7 d0 p0 p1
      gi_upto_region 19 with fail
      obtain ⟨K, hK⟩ : ∃ K, K = w8.heap.size := ⟨_, rfl⟩
      obtain ⟨w9, hw9⟩ : ∃ z, z = w8.alloc (.cells #[.int .i64 0] 3) := ⟨_, rfl⟩
      have hb9 : Below w8.heap.size w8 w9 := by rw [hw9]; exact (Below.refl _ _).alloc (Nat.le_refl _) _
      have hk9 : w9.heap[K]? = some (.cells #[.int .i64 0] 3 (0, 0)) := by rw [hw9, hK]; exact heap_new _ _
      have HF9 : Hid (∀ x ∈ bx, x.1 < K) := Hid.mk (fun x hx => by rw [hK]; exact (Array.getElem?_eq_some_iff.1 (HS8.out.bx x hx).1).1)
      have HBK : Hid (B ≤ K) := Hid.mk (by rw [hK]; exact HS8.out.size)
      have HS9 := Hid.mk ((HS8.out.grown hb9).more (x := (K, #[.int .i64 0], 3)) hk9 (by dsimp only; decide) (by dsimp only; decide))
      obtain ⟨d0, _⟩ := HCELLS.out w9 HS9.out.less.bx
      rw [← hw9, ← hK]
      clear hk9 hb9 HS8 hw9 hK
      gi_wp2_with fail
      refine ⟨trivial, (callsIn_wide.2 (copy_yes HS9.out.d (by have := HLE.out; omega))).mono ?_⟩
      rintro e wa ⟨cc, u2, rfl, hda, hfa, hba⟩
      have hP := HS9.out.beside hba hda hfa
      have HPA : Hid (P3 B w wa b v R cc u2 R bx K 0) := ⟨hP, HF9.out, HBK.out⟩
      clear hda hfa hba hP HS9 d0
      gi_wp2_with fail
      refine ⟨trivial, (all_in _ _ _).mono ?_⟩
      rintro e wb ⟨rfl, hwb⟩
      obtain ⟨ZS, hZS⟩ : ∃ ZS, ZS = wa.heap.size := ⟨_, rfl⟩
      rw [← hZS]
      have hbb : Below wa.heap.size wa wb := by rw [hwb]; exact (Below.refl _ _).alloc (Nat.le_refl _) _
      have hcb : wb.cell? ⟨ZS, 0, none⟩ = some (.pointer (some ⟨cc, 0, none⟩)) := by rw [hwb, hZS]; exact cell_at (heap_new _ _) rfl
      have HPB := Hid.mk (HPA.out.grown hbb)
      have HCB := Hid.mk hcb
      clear hwb hZS hbb hcb HPA
      gi_wp2
      refine range_over3 (gf := 19) (lb := #[.pointer (some ⟨ZS, 0, none⟩)]) rfl (enters_of Try.func19 (by kernel_rfl) rfl)
        (all_gives 5 (by omega) _ cc u2 R wb HCB.out HPB.out.s.o (by have := HLE.out; omega)) (Below.refl _ _) (fun _ _ _ h k => h.trans k) (fun W l r r' hl hr => KT.put hr) (fun _ => rfl)
        (fun (pre : List (Ix R.length)) X => P3 B w X b v R cc u2 R bx K (pre.length : Nat))
        (fun c (pre : List (Ix R.length)) X => c = .exit 2 ∧ P3 B w X b v R cc u2 R bx K (pre.length : Nat) ∧ ((pre.length : Nat) : Int) = stop)
        (fun s X Y row hs hg hr => hs.kept hg hr HPB.out.s.s.size) (fun c s X Y row hs hg hr => ⟨hs.1, hs.2.1.kept hg hr HPB.out.s.s.size, hs.2.2⟩) HPB.out ?round ?done ?stop
      case round =>
        intro q pre x X r hl hr hI hgood
        unfold encE
        obtain ⟨J, hJ⟩ : ∃ J, J = pre.length := ⟨_, rfl⟩
        have hxJ : x.1 = J := by rw [hJ]; exact hgood
        have hJR : J < R.length := by rw [← hxJ]; exact x.2
        rw [← hJ] at hI
        rw [hxJ]
        have hlk := look_at HPB.out.s.s.d.up J hJR
        obtain ⟨y0, hy0⟩ : ∃ y, y = R[J]!.1 := ⟨_, rfl⟩
        obtain ⟨y1, hy1⟩ : ∃ y, y = R[J]!.2 := ⟨_, rfl⟩
        rw [← hy0, ← hy1] at hlk
        rw [← hy0, ← hy1]
        have HLK := Hid.mk hlk
        have HI := Hid.mk hI
        have HJP : Hid (J = pre.length) := Hid.mk hJ
        have HR := Hid.mk hr
        have hl0 : wb.heap.size ≤ q := hl
        have hJ80 : J < 80 := by have := HLE.out; omega
        clear hy0 hy1 hgood hI hr hJ hxJ hJR hlk
        gi_wp2
        refine ⟨keeps_refl _ _, KT.refl _, fun r' => ?_⟩
        obtain ⟨Z, hZ⟩ : ∃ Z, Z = X.putObj q (.loop r') := ⟨_, rfl⟩
        have hg1 : X.grownBy Z (some q) := by rw [hZ]; exact grownBy_putObj' _ _ _
        have hPZ := HI.out.kept hg1 (fun p e => by cases e; exact ⟨hl0, _, HR.out, rfl⟩) HPB.out.s.s.size
        have HPZ := Hid.mk hPZ
        rw [← hZ]
        obtain ⟨d0, _⟩ := HCELLS.out Z hPZ.bxs
        have hget := get_yes hPZ.s.s.d (by have := HLE.out; omega) y0
        rw [HLK.out] at hget
        simp only [Option.getD_some, Option.isSome_some] at hget
        have HGET := Hid.mk hget
        clear hZ hg1 hPZ hget
        gi_wp2_with fail
        refine ⟨trivial, (callsIn_wide.2 HGET.out).mono ?_⟩
        rintro e z2 ⟨rfl, hb2⟩
        have HP2 := Hid.mk (HPZ.out.grown hb2)
        have HKF := Hid.mk (others_below hb2 wb.heap.size)
        have HKT : Hid (KT Z z2) := Hid.mk (KT.of_below hb2)
        clear hb2 d0 HGET
        obtain ⟨d0, _, _, d3, _⟩ := HCELLS.out z2 HP2.out.bxs
        have hfs : B + 1 < K := HP2.out.far (B + 1, #[.int .i64 stop], 3) (by rw [HBX.out]; simp)
        have m0 : z2.cell? ⟨K, 0, none⟩ = some (.int .i64 (J : Nat)) := cell_at HP2.out.kc rfl
        have m1 : z2.frozen? ⟨K, 0, none⟩ = false := free_at HP2.out.kc
        have HJ1 : Hid ((pre ++ [x]).length = J + 1) := Hid.mk (by simp; exact HJP.out.symm)
        by_cases hst : ((J : Nat) : Int) + 1 = stop
        · have HSTO := Hid.mk hst
          rw [← hst] at d3
          clear hst
          gi_wp2
          refine ⟨HKF.out.trans (others_set _ _ _ _), fun t h => (by cases h), rfl, ?_, ?_⟩
          · rw [HJ1.out]
            have h := HP2.out.number ((J + 1 : Nat) : Int)
            simpa using h
          · rw [HJ1.out]
            have := HSTO.out
            simpa using this
        · gi_wp2
          refine ⟨HKF.out.trans (others_set _ _ _ _), HKT.out.trans (KT.set _ HP2.out.kc (by decide)), ?_⟩
          have h := HP2.out.number ((J + 1 : Nat) : Int)
          dsimp only
          rw [HJ1.out]
          simpa using h
      case done =>
        intro D ys W2 hD hys hI hK2
        have hyl : ys.length = N := by have h := congrArg List.length hys; rw [HNL.out]; simpa using h
        rw [hyl] at hI
        have HPX := Hid.mk hI
        clear hys hI hyl
        by_cases hst : ((N : Nat) : Int) = stop
        · subst hst
          have HDEF := Hid.mk hK2
          obtain ⟨d0, _, _, d3, hres⟩ := HCELLS.out W2 HPX.out.bxs
          have d1 : W2.cell? ⟨K, 0, none⟩ = some (.int .i64 (N : Nat)) := cell_at HPX.out.kc rfl
          have cr : W2.cell? ⟨B + 1 + 1, 0, none⟩ = some (.bool false) := cell_at hres rfl
          have fr : W2.frozen? ⟨B + 1 + 1, 0, none⟩ = false := free_at hres
          have HCR := Hid.mk cr
          have hlen := len_yes (HPX.out.s.s.d.keep (w' := W2.drew) (fun _ _ => rfl))
          rw [← HNL.out] at hlen
          have HLEN := Hid.mk hlen
          have HBW : Hid (Below B w W2) := Hid.mk HPX.out.s.s.below
          clear hres hlen hK2
          gi_wp2_with fail
          refine Code.wpIn_mono NoPanic.imp ?_
          refine wpIn_wide.2 ?_
          go_big_region
          all_goals
            refine NoPanic.normal ?_
            obtain ⟨Wz, hWz⟩ : ∃ z, z = (W2.setCell ⟨B + 1 + 1, 0, none⟩ (.bool true)).drew := ⟨_, rfl⟩
            have HWZ := Hid.mk hWz
            rw [← hWz]
            clear d0 d1 d3 cr fr hWz
            gi_wp2
            have hcz : Wz.cell? ⟨B + 1 + 1, 0, none⟩ = some (.bool true) := by rw [HWZ.out]; exact World.cell?_setCell_same' W2 ⟨B + 1 + 1, 0, none⟩ (.bool true) (by rw [HCR.out]; rfl)
            have hK' : Wz.heap[D]? = some (.deferred (some [])) := by rw [HWZ.out]; exact (KeepsOthers.setCell W2 ⟨B + 1 + 1, 0, none⟩ (.bool true)).same D _ HDEF.out rfl
            refine ⟨by simp, .inl ⟨_, _, rfl, run_takeDeferred hK', ?_⟩⟩
            have hc5 := cell_kept hcz (grownBy_putObj' _ D (.deferred none)) (fun r e => by cases e; exact ⟨_, hK', rfl⟩)
            have hbz : Below w.heap.size w Wz := by
              rw [HWZ.out, ← HB.out]
              exact (HBW.out.setCell (p := ⟨B + 1 + 1, 0, none⟩) (by show B ≤ B + 1 + 1; omega) (.bool true)).drew
            have hwb : w.heap.size ≤ wb.heap.size := by rw [← HB.out]; exact HPB.out.s.s.size
            refine ⟨.bool true, ?_, rfl, hbz.trans (belowK_b (w := w) (Nat.le_refl _) _ D _ (.deferred none) (Nat.le_trans hwb hD) hK' rfl rfl)⟩
            simp [results, Try.f4, go_sem, hc5]
        · skip
          have HDEF := Hid.mk hK2
          obtain ⟨d0, _, _, d3, hres⟩ := HCELLS.out W2 HPX.out.bxs
          have d1 : W2.cell? ⟨K, 0, none⟩ = some (.int .i64 (N : Nat)) := cell_at HPX.out.kc rfl
          have cr : W2.cell? ⟨B + 1 + 1, 0, none⟩ = some (.bool false) := cell_at hres rfl
          have fr : W2.frozen? ⟨B + 1 + 1, 0, none⟩ = false := free_at hres
          have HCR := Hid.mk cr
          have hlen := len_yes (HPX.out.s.s.d.keep (w' := W2.drew) (fun _ _ => rfl))
          rw [← HNL.out] at hlen
          have HLEN := Hid.mk hlen
          have HBW : Hid (Below B w W2) := Hid.mk HPX.out.s.s.below
          have hfar : B + 1 + 1 < K := HPX.out.far (B + 1 + 1, #[.bool false], 4) (by rw [HBX.out]; simp)
          have hfb : B + 1 + 1 < b := HFB.out
          have e1 : (W2.setCell ⟨B + 1 + 1, 0, none⟩ (.bool true)).drew.cell? ⟨K, 0, none⟩ = some (.int .i64 (N : Nat)) := (World.cell?_setCell_far _ _ _ _ (show B + 1 + 1 ≠ K by omega)).trans d1
          have e0 : (W2.setCell ⟨B + 1 + 1, 0, none⟩ (.bool true)).drew.cell? ⟨b + 1, 0, none⟩ = some (.pointer (some ⟨b, 0, none⟩)) := (World.cell?_setCell_far _ _ _ _ (show B + 1 + 1 ≠ b + 1 by omega)).trans d0
          have e3 : (W2.setCell ⟨B + 1 + 1, 0, none⟩ (.bool true)).drew.cell? ⟨B + 1, 0, none⟩ = some (.int .i64 stop) := (World.cell?_setCell_far _ _ _ _ (show B + 1 + 1 ≠ B + 1 by omega)).trans d3
          clear hres hlen hK2
          have hst2 : (((N : Nat) : Int) == stop) = false := by simpa using hst
          gi_wp2_with fail
          refine Code.wpIn_mono NoPanic.imp ?_
          refine wpIn_wide.2 ?_
          go_region_held3 (fun wx => (wx.cell? ⟨K, 0, none⟩ = some (.int .i64 (N : Nat)) ∧ wx.cell? ⟨b + 1, 0, none⟩ = some (.pointer (some ⟨b, 0, none⟩)) ∧ wx.cell? ⟨B + 1, 0, none⟩ = some (.int .i64 stop)))
            (first
              | exact ⟨d1, d0, d3⟩
              | exact ⟨e1, e0, e3⟩)
            ((go_at_call 12; refine HLEN.out.mono ?_; rintro e z1 ⟨rfl, rfl⟩))
          refine NoPanic.normal ?_
          obtain ⟨Wz, hWz⟩ : ∃ z, z = (W2.setCell ⟨B + 1 + 1, 0, none⟩ (.bool true)).drew := ⟨_, rfl⟩
          have HWZ := Hid.mk hWz
          rw [← hWz]
          clear d0 d1 d3 e0 e1 e3 cr fr hfar hfb hWz
          gi_wp2
          have hcz : Wz.cell? ⟨B + 1 + 1, 0, none⟩ = some (.bool true) := by rw [HWZ.out]; exact World.cell?_setCell_same' W2 ⟨B + 1 + 1, 0, none⟩ (.bool true) (by rw [HCR.out]; rfl)
          have hK' : Wz.heap[D]? = some (.deferred (some [])) := by rw [HWZ.out]; exact (KeepsOthers.setCell W2 ⟨B + 1 + 1, 0, none⟩ (.bool true)).same D _ HDEF.out rfl
          refine ⟨by simp, .inl ⟨_, _, rfl, run_takeDeferred hK', ?_⟩⟩
          have hc5 := cell_kept hcz (grownBy_putObj' _ D (.deferred none)) (fun r e => by cases e; exact ⟨_, hK', rfl⟩)
          have hbz : Below w.heap.size w Wz := by
            rw [HWZ.out, ← HB.out]
            exact (HBW.out.setCell (p := ⟨B + 1 + 1, 0, none⟩) (by show B ≤ B + 1 + 1; omega) (.bool true)).drew
          have hwb : w.heap.size ≤ wb.heap.size := by rw [← HB.out]; exact HPB.out.s.s.size
          refine ⟨.bool true, ?_, rfl, hbz.trans (belowK_b (w := w) (Nat.le_refl _) _ D _ (.deferred none) (Nat.le_trans hwb hD) hK' rfl rfl)⟩
          simp [results, Try.f4, go_sem, hc5]
      case stop =>
        rintro cx D pre W2 hD hS ⟨rfl, hI, hst⟩ hK2
        subst hst
        obtain ⟨M, hM⟩ : ∃ M, M = pre.length := ⟨_, rfl⟩
        rw [← hM] at hI HCELLS HBX
        have HPX := Hid.mk hI
        clear hS hI hM
        have HDEF := Hid.mk hK2
        obtain ⟨d0, _, _, d3, hres⟩ := HCELLS.out W2 HPX.out.bxs
        have d1 : W2.cell? ⟨K, 0, none⟩ = some (.int .i64 (M : Nat)) := cell_at HPX.out.kc rfl
        have cr : W2.cell? ⟨B + 1 + 1, 0, none⟩ = some (.bool false) := cell_at hres rfl
        have fr : W2.frozen? ⟨B + 1 + 1, 0, none⟩ = false := free_at hres
        have HCR := Hid.mk cr
        have hlen := len_yes (HPX.out.s.s.d.keep (w' := W2.drew) (fun _ _ => rfl))
        rw [← HNL.out] at hlen
        have HLEN := Hid.mk hlen
        have HBW : Hid (Below B w W2) := Hid.mk HPX.out.s.s.below
        clear hres hlen hK2
        gi_wp2_with fail
        refine Code.wpIn_mono NoPanic.imp ?_
        refine wpIn_wide.2 ?_
        go_big_region
        all_goals
          refine NoPanic.normal ?_
          obtain ⟨Wz, hWz⟩ : ∃ z, z = (W2.setCell ⟨B + 1 + 1, 0, none⟩ (.bool true)).drew := ⟨_, rfl⟩
          have HWZ := Hid.mk hWz
          rw [← hWz]
          clear d0 d1 d3 cr fr hWz
          gi_wp2
          have hcz : Wz.cell? ⟨B + 1 + 1, 0, none⟩ = some (.bool true) := by rw [HWZ.out]; exact World.cell?_setCell_same' W2 ⟨B + 1 + 1, 0, none⟩ (.bool true) (by rw [HCR.out]; rfl)
          have hK' : Wz.heap[D]? = some (.deferred (some [])) := by rw [HWZ.out]; exact (KeepsOthers.setCell W2 ⟨B + 1 + 1, 0, none⟩ (.bool true)).same D _ HDEF.out rfl
          refine ⟨by simp, .inl ⟨_, _, rfl, run_takeDeferred hK', ?_⟩⟩
          have hc5 := cell_kept hcz (grownBy_putObj' _ D (.deferred none)) (fun r e => by cases e; exact ⟨_, hK', rfl⟩)
          have hbz : Below w.heap.size w Wz := by
            rw [HWZ.out, ← HB.out]
            exact (HBW.out.setCell (p := ⟨B + 1 + 1, 0, none⟩) (by show B ≤ B + 1 + 1; omega) (.bool true)).drew
          have hwb : w.heap.size ≤ wb.heap.size := by rw [← HB.out]; exact HPB.out.s.s.size
          refine ⟨.bool true, ?_, rfl, hbz.trans (belowK_b (w := w) (Nat.le_refl _) _ D _ (.deferred none) (Nat.le_trans hwb hD) hK' rfl rfl)⟩
          simp [results, Try.f4, go_sem, hc5]

set_option maxRecDepth 100000 in
theorem lifted (os : Os) (started : os.Started) (H : Type) (enc : TypeId × Value → H) :
    ReturnsInHanded {} Try.checked os 4 .any (Rows.draftCopiesSpec.pre6 enc Try.prog Try.f4 Rows.draftCopiesRow.domain false) (Rows.draftCopiesSpec.post enc Try.prog Try.f4 false true false false) := by
  refine returnsInHanded_of_change (C := Try.checked) own started (by kernel_rfl) Try.func4
    (ChangeSpec.witness6 (enc := enc) (C := Try.checked) false ⟨#[], #[.slice none 0 0, .agg #[.int .i64 0, .int .i64 0], .int .i64 0], []⟩ 8 (by kernel_rfl) (by kernel_rfl) (by kernel_rfl) (by kernel_rfl)) ?_
  intro W base args ds gs before hval0 hW hcnd _
  have hval : ∀ (j : Nat) t v, Try.f4.params[j]? = some t → args[j]? = some v → Value.okWide Try.prog W .any base t v := hval0
  have hW' := hW
  obtain ⟨p, q, hA0, hV, rfl, hfz, hnd⟩ := hW
  have hA : DataW.TrodAll enc Try.prog W 0 (fun _ => true) true Try.f4.params.toList args.toList ds p := hA0
  rw [Try.params4] at hA hval
  obtain ⟨v0, vs0, d0, ds0, p0, q0, hargs, rfl, rfl, h0, r0⟩ := trodAll_cons hA
  obtain ⟨v1, vs1, d1, ds1, p1, q1, rfl, rfl, rfl, h1, r1⟩ := trodAll_cons r0
  obtain ⟨v2, vs2, d2, ds2, p2, q2, rfl, rfl, rfl, h2, r2⟩ := trodAll_cons r1
  obtain ⟨rfl, rfl, rfl⟩ := trodAll_nil r2
  obtain rfl : args = #[v0, v1, v2] := by cases args; simp_all
  obtain ⟨rfl, rfl⟩ := trodVars_none hV
  obtain ⟨a0, len0, cap0, rfl⟩ := okWide_slice Try.underlying22 (hval 0 22 v0 rfl rfl)
  have k0 := h0
  have lt0 : ∀ x ∈ p0, x.block < W.heap.size := by obtain ⟨m, hm⟩ := k0; exact DataW.trod_lt m _ _ _ hm
  obtain ⟨ts0, w0⟩ : ∃ ts, IsPts W a0 len0 cap0 ts := by
    obtain ⟨fuel, hf⟩ := h0
    exact open_pts hf
  obtain ⟨ca1, rfl, hz1⟩ := okWide_struct Try.underlying29 (hval 1 29 v1 rfl rfl)
  have lt1 : ∀ x ∈ p1, x.block < W.heap.size := by obtain ⟨m, hm⟩ := h1; exact DataW.trod_lt m _ _ _ hm
  obtain ⟨th1, e1⟩ : ∃ th : Int × Int, ca1 = #[.int .i64 th.1, .int .i64 th.2] := by
    obtain ⟨fuel, hf⟩ := h1
    obtain ⟨c, hc⟩ := open_pt hf
    exact ⟨c, by simpa [Value.cells] using congrArg List.toArray hc⟩
  subst e1
  have k1 := h1
  obtain ⟨a2, rfl, rfl, rfl, w2⟩ := open_int Try.underlying3 (hval 2 3 v2 rfl rfl) h2
  clear hA0 hval0
  refine (walk a0 len0 cap0 ts0 th1 a2 W w0).mono fun e W' ⟨he, bel⟩ => ?_
  subst he
  exact ⟨_, rfl, _, _, _, [], _, [], hW', trodAll_mk1 (shut_bool Try.underlying4 _), (trodAll_cons_mk (Below.trod laidOut (by kernel_rfl) (of_decide_eq_true (by kernel_rfl)) k0 bel lt0) (trodAll_cons_mk (Below.trod laidOut (by kernel_rfl) (of_decide_eq_true (by kernel_rfl)) k1 bel lt1) (trodAll_cons_mk (shut_int Try.underlying3 w2) trodAll_mk0))), rfl, bel.frame _, fun h => by cases h⟩

set_option maxRecDepth 100000 in
theorem over : Rows.draftCopiesRow.holds Try.pinned (OpenSpec.ofChange Rows.draftCopiesSpec) :=
  OpenClaim.holds_of_wide 4 Try.f4 rfl rfl rfl rfl rfl rfl rfl ⟨rfl, rfl, rfl, rfl, rfl⟩ rfl rfl rfl rfl rfl (by kernel_rfl) Try.func4 (by kernel_rfl)
    (of_decide_eq_true (by kernel_rfl)) (by unfold Func.isWrapper; first | (rw [if_pos (by decide +kernel)]; kernel_rfl) | (rw [if_neg (by decide +kernel)]; exact ⟨rfl, rfl⟩))
    (fun os started H enc _ => lifted os started H enc)

end Go.Proofs.Ytocdnlnhjfigjaa.draftCopies

namespace Go.Proofs.Ytocdnlnhjfigjaa
/-- The statement. -/
theorem draftCopies_holds : Rows.DraftCopiesSaid := draftCopies.over
#print axioms draftCopies_holds
end Go.Proofs.Ytocdnlnhjfigjaa
