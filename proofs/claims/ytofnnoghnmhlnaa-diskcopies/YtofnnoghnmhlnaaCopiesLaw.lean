/-
  DiskCopies: for every script and every call the law returns true: a copy has all the same, and is another one: what is done to it isn't done to the first one. No condition.
-/
import Derived.Test.YtofnnoghnmhlnaaDApart
namespace Go.Proofs.Ytofnnoghnmhlnaa.diskCopies
open Go.ChangeShapes Go.WideShapes Go.ChangeAt Go.RowKit

theorem open_call {H : Type} {enc : TypeId × Value → H} {w : World} {r : Reach} {b0 : Nat} {v : Value} {d : DataW H} {p : List MemPlace} (hv : Value.okWide Try.prog w r b0 32 v) (h : DataW.Trod enc Try.prog w 0 (fun _ => true) true 32 v d p) :
    ∃ c : Cl, v = .agg #[.int .i64 c.kind, .int .i64 c.area, .string c.s, .int .i64 c.keep, .int .i64 c.part] := by
  obtain ⟨cs, rfl, hsz⟩ := okWide_struct Try.underlying32 hv
  obtain ⟨fuel, hf⟩ := h
  obtain ⟨c, hc⟩ := open_cl hf
  refine ⟨c, ?_⟩
  congr 1
  apply Array.toList_inj.1
  simpa [Value.cells] using hc

/-- The cells of the call that came in. -/
def Box (C : Nat) (c : Cl) (w : World) : Prop :=
  w.cell? ⟨C, 0, none⟩ = some (.int .i64 c.kind) ∧ w.cell? ⟨C, 1, none⟩ = some (.int .i64 c.area) ∧ w.cell? ⟨C, 2, none⟩ = some (.string c.s) ∧ w.cell? ⟨C, 3, none⟩ = some (.int .i64 c.keep) ∧ w.cell? ⟨C, 4, none⟩ = some (.int .i64 c.part)

theorem Box.keep {C : Nat} {c : Cl} {w w' : World} {B : Nat} (h : Box C c w) (hb : Below B w w') (hC : C < B) : Box C c w' :=
  ⟨(hb.cell (p := ⟨C, 0, none⟩) hC).trans h.1, (hb.cell (p := ⟨C, 1, none⟩) hC).trans h.2.1, (hb.cell (p := ⟨C, 2, none⟩) hC).trans h.2.2.1, (hb.cell (p := ⟨C, 3, none⟩) hC).trans h.2.2.2.1, (hb.cell (p := ⟨C, 4, none⟩) hC).trans h.2.2.2.2⟩

theorem one_call (w : World) (c : Cl) : IsCls (w.alloc (.cells #[.int .i64 c.kind, .int .i64 c.area, .string c.s, .int .i64 c.keep, .int .i64 c.part] 32)) (some ⟨w.heap.size, 0, none⟩) 1 1 [c] := by
  refine ⟨rfl, .inr ⟨_, _, rfl, by simp, ?_, ?_, ?_, ?_, ?_⟩⟩ <;>
  · intro j hj
    have h0 : j = 0 := by simpa using hj
    subst h0
    rw [World.cell?_alloc_at _ _ _ _ (by simp)]
    rfl

set_option maxHeartbeats 3200000 in
theorem walk (a : Option Addr) (len cap : Nat) (cs : List Cl) (c : Cl) (w : World) (h : IsCls w a len cap cs) :
    Calls Try.prog 6 #[.slice a len cap, .agg #[.int .i64 c.kind, .int .i64 c.area, .string c.s, .int .i64 c.keep, .int .i64 c.part]] w fun e w' => e = .returned (.bool true) ∧ Below w.heap.size w w' := by
  obtain ⟨W1, hW1⟩ : ∃ W1, W1 = w.alloc (.cells #[.int .i64 c.kind, .int .i64 c.area, .string c.s, .int .i64 c.keep, .int .i64 c.part] 32) := ⟨_, rfl⟩
  obtain ⟨C, hC⟩ : ∃ C, C = w.heap.size := ⟨_, rfl⟩
  have hW : Below w.heap.size w W1 := by rw [hW1]; exact (Below.refl _ _).alloc (Nat.le_refl _) _
  have hCW : C < W1.heap.size := by rw [hW1, hC]; simp
  have hbx : Box C c W1 := by
    rw [hW1, hC]
    refine ⟨?_, ?_, ?_, ?_, ?_⟩ <;>
    · rw [World.cell?_alloc_at _ _ _ _ rfl]
      rfl
  have h1 := h.carry hW
  have HW := Hid.mk hW
  have HE1 := Hid.mk hW1
  have HE2 := Hid.mk hC
  clear hW1 hC hW
  go_enter Try.func6, Try.ntmps6
  go_wp2_with fail
  rw [← HE1.out, ← HE2.out]
  clear HE1
  refine (alive_any _).mono ?_
  rintro e w1 ⟨rfl, hb1⟩
  go_wp2_with fail
  refine (great_any (h1.carry hb1)).mono ?_
  rintro e w2 ⟨hb2, rfl | ⟨rfl, h60, hsum⟩⟩
  · have hb := HW.out.trans ((hb1.trans (hb2.mono hb1.size)).mono HW.out.size)
    go_wp2
    go_ret
    exact ⟨rfl, hb⟩
  have hb := hb1.trans (hb2.mono hb1.size)
  have bx2 := hbx.keep hb hCW
  obtain ⟨x0, x1, x2, x3, x4⟩ := bx2
  clear hb1 hb2
  go_wp2_with fail
  refine (great_any (one_call _ c)).mono ?_
  rintro e w3 ⟨hb3, rfl | ⟨rfl, -, hs3⟩⟩
  · have hb' := HW.out.trans (((hb.alloc hb.size _).trans (hb3.mono (by simp; exact Nat.le_succ_of_le hb.size))).mono HW.out.size)
    go_wp2
    go_ret
    exact ⟨rfl, hb'⟩
  have hb' := (hb.alloc hb.size _).trans (hb3.mono (by simp; exact Nat.le_succ_of_le hb.size))
  have hcs : c.s.size ≤ 32768 := by simpa [sumS] using hs3
  clear hb hb3 hs3 x0 x1 x2 x3 x4
  go_wp2_with fail
  refine (new_any _).mono ?_
  rintro e w4 ⟨rfl, rfl⟩
  have hm := Mine.new hb' hb'.size
  have HL := Hid.mk h.1
  have HS := Hid.mk hsum
  obtain ⟨b, hbd⟩ : ∃ b, b = w3.heap.size := ⟨_, rfl⟩
  rw [← hbd] at hm ⊢
  clear hbd hb' hsum
  go_wp2
  go_loopw [7, 25] (fun _ i wr => ∃ (k : Nat) (v : Value), k ≤ len ∧ i = .int .i64 k ∧ Mine W1.heap.size W1 wr b v (runs (cs.take k) [] []).dn (runs (cs.take k) [] []).ws) (fun _ i _ => len - (intOf i).toNat)
  case atStart => exact ⟨0, _, Nat.zero_le _, rfl, hm⟩
  case round =>
    obtain ⟨k, v, hk, rfl, hmr⟩ := hrel
    clear hm
    by_cases hlt : k < len
    · obtain ⟨g, off, rfl, hat⟩ := h1.at_ k hlt
      obtain ⟨c', c0, c1, c2, c3, c4, hcs', -, hd1, hd2⟩ := round_facts hat HL.out hmr.below HS.out k hlt
      have hln := runs_len HL.out h60 k
      have HD1 := Hid.mk (hd1 [] [])
      have HD2 := Hid.mk (hd2 [] [])
      have hmA := hmr.alloc (.cells #[.int .i64 c'.kind, .int .i64 c'.area, .string c'.s, .int .i64 c'.keep, .int .i64 c'.part] 32)
      clear hmr hd1 hd2 hat
      go_wp2_with fail
      refine (does_any c' hmA.has (by omega) (by omega)).mono ?_
      rintro e w4 ⟨rfl, v4, h4, hw4⟩
      have hm4 := hmA.step h4 hw4
      rw [← HD1.out, ← HD2.out] at hm4
      have HM := Hid.mk hm4
      have HK := Hid.mk hlt
      clear hm4 h4 hw4 hmA c0 c1 c2 c3 c4 HD1 HD2
      go_wp2
      go_roundw
      case rel => exact ⟨k + 1, v4, HK.out, by go_num, HM.out⟩
      case measure =>
        have := HK.out
        simp [intOf]
        omega
    · have hln := runs_len HL.out h60 k
      obtain ⟨dn, hdn⟩ : ∃ dn, dn = (runs (cs.take k) [] []).dn := ⟨_, rfl⟩
      obtain ⟨ws, hws⟩ : ∃ ws, ws = (runs (cs.take k) [] []).ws := ⟨_, rfl⟩
      rw [← hdn, ← hws] at hmr
      rw [← hws] at hln
      clear hdn hws
      go_wp2_with fail
      refine (copy_any hmr.has (by omega)).mono ?_
      rintro e w5 ⟨b1, v1, rfl, h5, hb5, hv5, hbel5⟩
      have d5 := hmr.grow hbel5
      have o5 := hmr.copied h5 hb5 hv5 hbel5
      have do5 := hmr.apart_new hb5 hv5
      clear hmr h5 hb5 hv5 hbel5
      go_wp2_with fail
      refine (read_yes false d5.has).mono ?_
      rintro e w6 ⟨rfl, rfl⟩
      go_wp2_with fail
      refine (read_yes true d5.has).mono ?_
      rintro e w7 ⟨rfl, rfl⟩
      go_wp2_with fail
      refine (waits_any d5.has).mono ?_
      rintro e w8 ⟨rfl, rfl⟩
      obtain ⟨x0, x1, x2, x3, x4⟩ := hbx.keep d5.below hCW
      go_wp2_with fail
      refine (does_any c o5.has (by omega) (by omega)).mono ?_
      rintro e w9 ⟨rfl, v9, h9, hw9⟩
      have d9 := d5.other o5 do5 hw9
      have o9 := o5.step h9 hw9
      have do9 := do5.step d5.has hw9
      have hln9 := step_ws c dn ws
      clear d5 o5 do5 h9 hw9 x0 x1 x2 x3 x4
      go_wp2_with fail
      refine (does_any ⟨1, 0, ⟨#[]⟩, 0, 0⟩ o9.has (by decide) (by omega)).mono ?_
      rintro e w10 ⟨rfl, v10, h10, hw10⟩
      have d10 := d9.other o9 do9 hw10
      clear d9 o9 do9 h10 hw10
      go_wp2_with fail
      refine (read_yes false d10.has).mono ?_
      rintro e w11 ⟨rfl, rfl⟩
      go_wp2_with fail
      refine (read_yes true d10.has).mono ?_
      rintro e w12 ⟨rfl, rfl⟩
      go_wp2_with fail
      refine (waits_any d10.has).mono ?_
      rintro e w13 ⟨rfl, rfl⟩
      go_wp2_with fail
      refine (copy_any d10.has (by omega)).mono ?_
      rintro e w14 ⟨b3, v3, rfl, h14, hb14, hv14, hbel14⟩
      have d14 := d10.grow hbel14
      have p14 := d10.copied h14 hb14 hv14 hbel14
      have dp14 := d10.apart_new hb14 hv14
      have bx14 := hbx.keep d14.below hCW
      obtain ⟨x0, x1, x2, x3, x4⟩ := bx14
      have d15 := d14.grow ((Below.refl _ _).drew)
      have p15 := p14.grow ((Below.refl _ _).drew)
      clear d10 h14 hb14 hv14 hbel14 d14 p14
      have hln1 := hln9
      go_wp2_with fail
      go_region_held3 (fun wx => wx.cell? ⟨C, 0, none⟩ = some (.int .i64 c.kind) ∧ wx.cell? ⟨C, 1, none⟩ = some (.int .i64 c.area) ∧ wx.cell? ⟨C, 2, none⟩ = some (.string c.s) ∧ wx.cell? ⟨C, 3, none⟩ = some (.int .i64 c.keep) ∧ wx.cell? ⟨C, 4, none⟩ = some (.int .i64 c.part))
        (first
          | exact hS16
          | exact hS15
          | (simp [x0, x1, x2, x3, x4]))
        ((first
          | (have := m7; go_at_call 16; refine (waits_any p17.has).mono ?_; rintro e w17 ⟨rfl, rfl⟩; have m8 := Hid.mk trivial)
          | (have := m6; go_at_call 16; refine (waits_any d17.has).mono ?_; rintro e w17 ⟨rfl, rfl⟩; have m7 := Hid.mk trivial)
          | (have := m5; go_at_call 19; refine (safe_yes false p17.has).mono ?_; rintro e w17 ⟨rfl, rfl⟩; have m6 := Hid.mk trivial)
          | (have := m4; go_at_call 19; refine (safe_yes false d17.has).mono ?_; rintro e w17 ⟨rfl, rfl⟩; have m5 := Hid.mk trivial)
          | (have := m3; go_at_call 17; refine (read_yes true p17.has).mono ?_; rintro e w17 ⟨rfl, rfl⟩; have m4 := Hid.mk trivial)
          | (have := m2; go_at_call 17; refine (read_yes true d17.has).mono ?_; rintro e w17 ⟨rfl, rfl⟩; have m3 := Hid.mk trivial)
          | (have := m1; go_at_call 17; refine (read_yes false p17.has).mono ?_; rintro e w17 ⟨rfl, rfl⟩; have m2 := Hid.mk trivial)
          | (have := m0; go_at_call 17; refine (read_yes false d17.has).mono ?_; rintro e w17 ⟨rfl, rfl⟩; have m1 := Hid.mk trivial)
          | (have := d16; go_at_call 15; refine (does_any c p16.has (by omega) (by omega)).mono ?_; rintro e w16 ⟨rfl, v16, h16, hw16⟩; have d17 := d16.other p16 dp16 hw16; have p17 := p16.step h16 hw16; have hS16 : Box C c w16 := hbx.keep d17.below hCW; have m0 := Hid.mk trivial; clear h16 hw16 d16 p16 dp16 hS15)
          | (go_at_call 15; refine (does_any c d15.has (by omega) (by omega)).mono ?_; rintro e w15 ⟨rfl, v15, h15, hw15⟩; have p16 := p15.other d15 dp14.symm hw15; have d16 := d15.step h15 hw15; have dp16 := (dp14.symm.step p15.has hw15).symm; have hS15 : Box C c w15 := hbx.keep d16.below hCW; clear h15 hw15 d15 p15 dp14)))
      have HB := Hid.mk (HW.out.trans (d17.below.mono HW.out.size))
      clear d17 p17 hS16
      go_wp2
      go_ret
      exact ⟨rfl, HB.out⟩

set_option maxRecDepth 100000 in
theorem lifted (os : Os) (started : os.Started) (H : Type) (enc : TypeId × Value → H) :
    ReturnsInHanded {} Try.checked os 6 .any (Rows.diskCopiesSpec.pre6 enc Try.prog Try.f6 Rows.diskCopiesRow.domain false) (Rows.diskCopiesSpec.post enc Try.prog Try.f6 false true false false) := by
  refine returnsInHanded_of_change (C := Try.checked) own started (by kernel_rfl) Try.func6
    (ChangeSpec.witness6 (enc := enc) (C := Try.checked) false ⟨#[], #[.slice none 0 0, .agg #[.int .i64 0, .int .i64 0, .string .empty, .int .i64 0, .int .i64 0]], []⟩ 8 (by kernel_rfl) (by kernel_rfl) (by kernel_rfl) (by kernel_rfl)) ?_
  intro W base args ds gs before hval0 hW hcnd _
  have hval : ∀ (j : Nat) t v, Try.f6.params[j]? = some t → args[j]? = some v → Value.okWide Try.prog W .any base t v := hval0
  have hW' := hW
  obtain ⟨p, q, hA0, hV, rfl, hfz, hnd⟩ := hW
  have hA : DataW.TrodAll enc Try.prog W 0 (fun _ => true) true Try.f6.params.toList args.toList ds p := hA0
  rw [Try.params6] at hA hval
  obtain ⟨v0, vs0, d0, ds0, p0, q0, hargs, rfl, rfl, h0, r0⟩ := trodAll_cons hA
  obtain ⟨v1, vs1, d1, ds1, p1, q1, rfl, rfl, rfl, h1, r1⟩ := trodAll_cons r0
  obtain ⟨rfl, rfl, rfl⟩ := trodAll_nil r1
  obtain rfl : args = #[v0, v1] := by cases args; simp_all
  obtain ⟨rfl, rfl⟩ := trodVars_none hV
  obtain ⟨a0, len0, cap0, rfl⟩ := okWide_slice Try.underlying22 (hval 0 22 v0 rfl rfl)
  have k0 := h0
  have lt0 : ∀ x ∈ p0, x.block < W.heap.size := by obtain ⟨m, hm⟩ := k0; exact DataW.trod_lt m _ _ _ hm
  obtain ⟨ts0, w0⟩ : ∃ ts, IsCls W a0 len0 cap0 ts := by
    obtain ⟨fuel, hf⟩ := h0
    exact open_cls hf
  have k1 := h1
  have lt1 : ∀ x ∈ p1, x.block < W.heap.size := by obtain ⟨m, hm⟩ := k1; exact DataW.trod_lt m _ _ _ hm
  obtain ⟨c1, rfl⟩ := open_call (hval 1 32 v1 rfl rfl) h1
  clear hA0 hval0
  refine (walk a0 len0 cap0 ts0 c1 W w0).mono fun e W' ⟨he, bel⟩ => ?_
  subst he
  exact ⟨_, rfl, _, _, _, [], _, [], hW', trodAll_mk1 (shut_bool Try.underlying4 _), (trodAll_cons_mk (Below.trod laidOut (by kernel_rfl) (of_decide_eq_true (by kernel_rfl)) k0 bel lt0) (trodAll_cons_mk (Below.trod laidOut (by kernel_rfl) (of_decide_eq_true (by kernel_rfl)) k1 bel lt1) trodAll_mk0)), rfl, bel.frame _, fun h => by cases h⟩

theorem over : Rows.diskCopiesRow.holds Try.pinned (OpenSpec.ofChange Rows.diskCopiesSpec) :=
  OpenClaim.holds_of_wide 6 Try.f6 rfl rfl rfl rfl rfl rfl rfl ⟨rfl, rfl, rfl, rfl, rfl⟩ rfl rfl rfl rfl rfl (by kernel_rfl) Try.func6 (by kernel_rfl)
    (of_decide_eq_true (by kernel_rfl)) (by unfold Func.isWrapper; first | (rw [if_pos (by decide +kernel)]; kernel_rfl) | (rw [if_neg (by decide +kernel)]; exact ⟨rfl, rfl⟩))
    (fun os started H enc _ => lifted os started H enc)

end Go.Proofs.Ytofnnoghnmhlnaa.diskCopies

namespace Go.Proofs.Ytofnnoghnmhlnaa
/-- The statement. -/
theorem copies_holds : Rows.DiskCopiesSaid := diskCopies.over
#print axioms copies_holds
end Go.Proofs.Ytofnnoghnmhlnaa
