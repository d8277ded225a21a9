/-
  Over of a nil sheet: nothing.
-/
import Derived.Test.YtdngehfebmaegaaShOverW
namespace Go.Proofs.Ytdngehfebmaegaa.Sht
open Go.RowKit Go.Shelf Go.Deep Go.Proofs.Ytdngehfebmaegaa.Cel Go.Proofs.Ytdngehfebmaegaa.Rng Go.Proofs.Ytdngehfebmaegaa.Dft Go.Proofs.Ytdngehfebmaegaa.Dft.F
open Tom (CanF TomeAt)
attribute [local go_sem] Oper.semAt_some

set_option maxHeartbeats 8000000 in
set_option maxRecDepth 100000 in
theorem over_nil (t : Option Addr) (ver : Int) (w : World) :
    Calls Try.prog 22 #[.pointer none, .pointer t, .int .i64 ver] w fun e w' => e = .returned (.int .i64 0) ∧ Below w.heap.size w w' := by
  obtain ⟨K, hK⟩ : ∃ K, K = w.heap.size := ⟨_, rfl⟩
  obtain ⟨w0, hw0⟩ : ∃ z, z = ((w.alloc (.cells #[.pointer t] 27)).alloc (.cells #[.int .i64 ver] 3)).alloc (.cells #[.int .i64 0] 3) := ⟨_, rfl⟩
  have hb0 : Below w.heap.size w w0 := by rw [hw0]; exact (((Below.refl _ w).alloc (Nat.le_refl _) _).alloc (by simp) _).alloc (by simp; omega) _
  have k2 : w0.heap[K + 1 + 1]? = some (.cells #[.int .i64 0] 3 (0, 0)) := by
    have h := heap_new ((w.alloc (.cells #[.pointer t] 27)).alloc (.cells #[.int .i64 ver] 3)) (.cells #[.int .i64 0] 3)
    rw [World.size_alloc, World.size_alloc] at h
    rw [hw0, hK]; exact h
  have HB0 := Hid.mk hb0
  have HK2 := Hid.mk k2
  have HK := Hid.mk hK
  clear hb0 k2
  refine (callsIn_wide (n := 8)).1 ?_
  refine callsIn_of_wp_marks Try.func22 rfl trivial ?_ rfl
  simp only [Try.ntmps22, List.size_toArray, List.length_cons, List.length_nil, Nat.reduceAdd, Nat.reduceSub, Array.replicate_succ, Array.replicate_zero, List.push_toArray, List.append_toArray, List.nil_append, List.cons_append]
  gi_wp2_with fail
  rw [← hw0, ← hK]
  clear hw0 hK
  refine ⟨trivial, (callsIn_wide.2 (draft_nil _)).mono ?_⟩
  rintro e w1 ⟨rfl, hw1⟩
  rw [hw1]
  clear hw1 w1
  gi_wp2_with fail
  refine ⟨trivial, (Dft.F.all_in _ _ _).mono ?_⟩
  rintro e wb ⟨rfl, hwb⟩
  obtain ⟨ZS, hZS⟩ : ∃ ZS, ZS = w0.heap.size := ⟨_, rfl⟩
  rw [← hZS]
  have hbb : Below w0.heap.size w0 wb := by rw [hwb]; exact (Below.refl _ _).alloc (Nat.le_refl _) _
  have hcb : wb.cell? ⟨ZS, 0, none⟩ = some (.pointer none) := by rw [hwb, hZS]; exact cell_at (heap_new _ _) rfl
  have HBB : Hid (Below w.heap.size w wb) := Hid.mk (HB0.out.trans (hbb.mono HB0.out.size))
  have HKB := Hid.mk ((hbb.block _ (Array.getElem?_eq_some_iff.1 HK2.out).1).trans HK2.out)
  have HCB := Hid.mk hcb
  clear hwb hZS hbb hcb
  gi_wp2
  refine range_over2 (gf := 37) (lb := #[.pointer (some ⟨ZS, 0, none⟩)]) rfl (enters_of Try.func37 (by kernel_rfl) rfl)
    (Dft.F.nil_gives 7 _ wb HCB.out) (Below.refl _ _) (fun _ _ _ _ _ => trivial) (fun _ _ _ _ _ _ => trivial) (fun _ => rfl)
    (fun (pre : List Unit) X => X.heap[K + 1 + 1]? = some (.cells #[.int .i64 0] 3 (0, 0)) ∧ Below w.heap.size w X) (fun _ _ => False)
    (fun s X Y row hs hg hr => ⟨block_kept hs.1 hg fun r e => (hr r e).2, hs.2.grown hg hs.2.size fun k e => Nat.le_trans HBB.out.size (hr k e).1⟩) (fun _ _ _ _ h _ _ => h) ⟨HKB.out, HBB.out⟩ ?round ?done ?stop
  case stop => intro D pre X hD hS hF; exact hF.elim
  case round => intro l pre x X r hl hr hI hgood; exact hgood.elim
  case done =>
    rintro D ys W2 hD hys ⟨hI, hbX⟩ hK2
    have m0 : W2.cell? ⟨K + 1 + 1, 0, none⟩ = some (.int .i64 0) := cell_at hI rfl
    have HBX := Hid.mk hbX
    have HD := Hid.mk hD
    have HKK := Hid.mk hK2
    clear hys hI hD hK2 hbX
    gi_wp2
    refine ⟨by simp, .inl ⟨_, _, rfl, run_takeDeferred HKK.out, ?_⟩⟩
    refine ⟨_, results_tmp rfl _ _ _, rfl, HBX.out.grown (grownBy_putObj' W2 D (.deferred none)) HBX.out.size fun k e => by cases e; exact Nat.le_trans HBB.out.size HD.out⟩

end Go.Proofs.Ytdngehfebmaegaa.Sht
