/-
  TomeReads: for every bytes, the law returns true: Read answers what the document says, and what is read has just these bytes. No condition.
-/
import Derived.Test.YtabjjjbopbjbeaaTSame
import Derived.Test.YtabjjjbopbjbeaaTRefRead
namespace Go.Proofs.Ytabjjjbopbjbeaa.tomeReads
open Go.ChangeShapes Go.WideShapes Go.ChangeAt Go.ChangeMaps Go.RowKit Go.Deep Go.Proofs.Ytabjjjbopbjbeaa.Cel Go.Proofs.Ytabjjjbopbjbeaa.Tom

set_option maxRecDepth 100000 in
theorem idx_any {F : List (Bool × ByteArray)} (h : F.length = 6) (k : Nat) (hk : k < 6) (w : World) : (Instr.index 30 (.agg (filesC F).toArray) (.int .i64 (k : Int))).run Try.prog w = .ok (.agg #[.bool F[k]!.1, .string F[k]!.2]) w := by
  obtain ⟨a, b, c, d, e, f, rfl⟩ := six_files h
  have hc : k = 0 ∨ k = 1 ∨ k = 2 ∨ k = 3 ∨ k = 4 ∨ k = 5 := by omega
  rcases hc with rfl | rfl | rfl | rfl | rfl | rfl <;> rfl

set_option maxHeartbeats 4000000 in
set_option maxRecDepth 100000 in
theorem walk (s : ByteArray) (w : World) : Calls Try.prog 4 #[.string s] w fun e w' => e = .returned (.bool true) ∧ Below w.heap.size w w' := by
  go_enter Try.func4, Try.ntmps4
  go_wp2_with fail
  refine (alive_any w).mono ?_
  rintro e w1 ⟨rfl, hb1⟩
  have HB1 := Hid.mk hb1
  clear hb1
  by_cases h300 : 300 < s.size
  · have h1 : (300 : Int) < (s.size : Int) := by omega
    go_wp2
    go_ret
    exact ⟨rfl, HB1.out⟩
  · have h1 : ¬ (300 : Int) < (s.size : Int) := by omega
    go_wp2_with fail
    refine (read_any s w1).mono ?_
    rintro e w2 ⟨hrd, hb2⟩
    have HB2 := Hid.mk (HB1.out.trans (hb2.mono HB1.out.size))
    clear hb2
    rcases hrd with ⟨t, b, g, R, rfl, hT, hTB, hV, _⟩ | ⟨rfl, hno⟩
    · have HT := Hid.mk hT
      have HTB := Hid.mk hTB
      have HV := Hid.mk hV
      clear hT hTB hV
      go_wp2_with fail
      refine (refRead_any s (by omega) w2).mono ?_
      rintro e w3 ⟨hrr, hb3⟩
      have HB3 := Hid.mk (HB2.out.trans (hb3.mono HB2.out.size))
      have HT3 := Hid.mk (HT.out.grown hb3)
      clear hb3 HT
      rcases hrr with ⟨F, h6, hFB, rfl⟩ | ⟨_, hno⟩
      · have hFR : filesOf R = F := HT3.out.six.same h6 (HTB.out.trans hFB.symm)
        have HFR := Hid.mk hFR
        have hidx := idx_any h6.len
        have HI := Hid.mk hidx
        have C1 := bytes_yes (HT3.out.grown ((Below.refl _ w3).alloc (Nat.le_refl _) (.cells (filesC F).toArray 30)))
        rw [HTB.out] at C1
        have es : (⟨s.data.toList.toArray⟩ : ByteArray) = s := rfl
        rw [es] at C1
        have HB4 := Hid.mk (HB3.out.alloc HB3.out.size (.cells (filesC F).toArray 30))
        have hn := heap_new w3 (.cells (filesC F).toArray 30)
        have hT4 := HT3.out.grown ((Below.refl _ w3).alloc (Nat.le_refl _) (.cells (filesC F).toArray 30))
        obtain ⟨w4, hw4⟩ : ∃ w4, w4 = w3.alloc (.cells (filesC F).toArray 30) := ⟨_, rfl⟩
        rw [← hw4] at C1 HB4 hn hT4
        have HC1 := Hid.mk C1
        have HN := Hid.mk hn
        have HT4 := Hid.mk hT4
        obtain ⟨fa, fb, fc, fd, fe, ff, hFe⟩ := six_files h6.len
        have hfe : (filesC F).toArray = #[.bool fa.1, .string fa.2, .bool fb.1, .string fb.2, .bool fc.1, .string fc.2, .bool fd.1, .string fd.2, .bool fe.1, .string fe.2, .bool ff.1, .string ff.2] := by rw [hFe]; rfl
        have HFE := Hid.mk hfe
        rw [hfe] at hw4
        rw [hfe]
        obtain ⟨a0, a1⟩ := fa
        obtain ⟨b0, b1⟩ := fb
        obtain ⟨c0, c1⟩ := fc
        obtain ⟨d0, d1⟩ := fd
        obtain ⟨g0, g1⟩ := fe
        obtain ⟨h0, h1'⟩ := ff
        clear C1 hn hT4 hFe hfe hidx hFR h6 hFB es
        go_wp2_with fail
        rw [← hw4]
        clear hw4
        refine HC1.out.mono ?_
        rintro e w5 ⟨rfl, hb5⟩
        have HB5 := Hid.mk (HB4.out.trans (hb5.mono HB4.out.size))
        have HT5 := Hid.mk (HT4.out.grown hb5)
        have hat := (hb5.block w3.heap.size (Array.getElem?_eq_some_iff.1 HN.out).1).trans HN.out
        rw [HFE.out] at hat
        obtain ⟨A, hA⟩ : ∃ A, A = w3.heap.size := ⟨_, rfl⟩
        rw [← hA] at hat ⊢
        have o0 : w5.cell? ⟨A, 0, none⟩ = some (.bool a0) := cell_at hat rfl
        have o1 : w5.cell? ⟨A, 1, none⟩ = some (.string a1) := cell_at hat rfl
        have o2 : w5.cell? ⟨A, 2, none⟩ = some (.bool b0) := cell_at hat rfl
        have o3 : w5.cell? ⟨A, 3, none⟩ = some (.string b1) := cell_at hat rfl
        have o4 : w5.cell? ⟨A, 4, none⟩ = some (.bool c0) := cell_at hat rfl
        have o5 : w5.cell? ⟨A, 5, none⟩ = some (.string c1) := cell_at hat rfl
        have o6 : w5.cell? ⟨A, 6, none⟩ = some (.bool d0) := cell_at hat rfl
        have o7 : w5.cell? ⟨A, 7, none⟩ = some (.string d1) := cell_at hat rfl
        have o8 : w5.cell? ⟨A, 8, none⟩ = some (.bool g0) := cell_at hat rfl
        have o9 : w5.cell? ⟨A, 9, none⟩ = some (.string g1) := cell_at hat rfl
        have o10 : w5.cell? ⟨A, 10, none⟩ = some (.bool h0) := cell_at hat rfl
        have o11 : w5.cell? ⟨A, 11, none⟩ = some (.string h1') := cell_at hat rfl
        clear hA hat hb5 HC1 HN HT4 HB4
        go_wp2
        go_loopw [7, 8, 9, 10, 43] (fun _ _ _ _ idx wr => ∃ k : Nat, k ≤ 6 ∧ idx = .int .i64 k ∧ TomeAt wr t b g R ∧ Below w.heap.size w wr) (fun _ _ _ _ idx _ => 6 - (intOf idx).toNat)
        case atStart => exact ⟨0, Nat.zero_le _, rfl, HT5.out, HB5.out⟩
        case round =>
          clear o0 o1 o2 o3 o4 o5 o6 o7 o8 o9 o10 o11 HT5 HB5
          obtain ⟨k, hk, rfl, hT, hb⟩ := hrel
          by_cases hlt : k < 6
          · have hx : ∀ z, (Instr.index 30 (.agg #[.bool a0, .string a1, .bool b0, .string b1, .bool c0, .string c1, .bool d0, .string d1, .bool g0, .string g1, .bool h0, .string h1']) (.int .i64 (k : Int))).run Try.prog z = .ok (.agg #[.bool R[k]!.1.1, .string R[k]!.1.2]) z := fun z => by
              have h := HI.out k hlt z
              rw [HFE.out, ← HFR.out, files_get R k (by rw [hT.len]; exact hlt)] at h
              exact h
            have hv0 := HV.out k hlt
            have C2 := get_yes (hT.grown ((Below.refl _ wr).alloc (Nat.le_refl _) (.cells #[.bool R[k]!.1.1, .string R[k]!.1.2] 29))) k hlt
            rw [hv0] at C2
            have hbz := hb.alloc hb.size (.cells #[.bool R[k]!.1.1, .string R[k]!.1.2] 29)
            have hTz := hT.grown ((Below.refl _ wr).alloc (Nat.le_refl _) (.cells #[.bool R[k]!.1.1, .string R[k]!.1.2] 29))
            have hnz := heap_new wr (.cells #[.bool R[k]!.1.1, .string R[k]!.1.2] 29)
            obtain ⟨p, hp⟩ : ∃ p, p = R[k]!.1.1 := ⟨_, rfl⟩
            obtain ⟨q, hq⟩ : ∃ q, q = R[k]!.1.2 := ⟨_, rfl⟩
            rw [← hp, ← hq] at C2 hbz hTz hnz
            rw [← hp, ← hq] at hx
            have HC2 := Hid.mk C2
            have HBZ := Hid.mk hbz
            have HTZ := Hid.mk hTz
            have HNZ := Hid.mk hnz
            clear C2 hbz hTz hnz hp hq hv0 hT hb
            go_wp2_with fail
            refine HC2.out.mono ?_
            rintro e w6 ⟨rfl, hb6⟩
            have HB6 := Hid.mk (HBZ.out.trans (hb6.mono HBZ.out.size))
            have HT6 := Hid.mk (HTZ.out.grown hb6)
            have hn6 := (hb6.block wr.heap.size (by simp)).trans HNZ.out
            obtain ⟨B, hB⟩ : ∃ B, B = wr.heap.size := ⟨_, rfl⟩
            rw [← hB] at hn6 ⊢
            have y0 : (w6.alloc (.cells #[.bool p, .string q] 34)).cell? ⟨B, 0, none⟩ = some (.bool p) := cell_at ((Below.heap_alloc _ _ _ (Array.getElem?_eq_some_iff.1 hn6).1).trans hn6) rfl
            have y1 : (w6.alloc (.cells #[.bool p, .string q] 34)).cell? ⟨B, 1, none⟩ = some (.string q) := cell_at ((Below.heap_alloc _ _ _ (Array.getElem?_eq_some_iff.1 hn6).1).trans hn6) rfl
            have HB7 := Hid.mk (HB6.out.alloc HB6.out.size (.cells #[.bool p, .string q] 34))
            have HT7 := Hid.mk (HT6.out.grown ((Below.refl _ w6).alloc (Nat.le_refl _) (.cells #[.bool p, .string q] 34)))
            clear hB hn6 hb6 HC2 HBZ HTZ HNZ HB6 HT6 hx
            go_wp2
            go_roundw
            case rel => exact ⟨k + 1, by omega, by go_num, HT7.out, HB7.out⟩
            case measure => simp [intOf]; omega
          · have hge : (6 : Int) ≤ (k : Int) := by omega
            have HBE := Hid.mk hb
            clear hT hb
            go_wp2
            go_ret
            exact ⟨rfl, HBE.out⟩
      · exact absurd HTB.out (hno _ HT3.out.six)
    · have HNO := Hid.mk hno
      clear hno
      go_wp2_with fail
      refine (refRead_any s (by omega) w2).mono ?_
      rintro e w3 ⟨hrr, hb3⟩
      have HB3 := Hid.mk (HB2.out.trans (hb3.mono HB2.out.size))
      clear hb3
      rcases hrr with ⟨F, h6, hFB, rfl⟩ | ⟨rfl, _⟩
      · exact absurd hFB (HNO.out F h6)
      · have HB4 := Hid.mk (HB3.out.alloc HB3.out.size (.cells (filesC noF).toArray 30))
        rw [noC]
        go_wp2
        go_ret
        exact ⟨rfl, HB4.out⟩

set_option maxRecDepth 100000 in
theorem lifted (os : Os) (started : os.Started) (H : Type) (enc : TypeId × Value → H) :
    ReturnsInHanded {} Try.checked os 4 .any (Rows.tomeReadsSpec.pre6 enc Try.prog Try.f4 Rows.tomeReadsRow.domain false) (Rows.tomeReadsSpec.post enc Try.prog Try.f4 false true false false) := by
  refine returnsInHanded_of_change (C := Try.checked) own started (by kernel_rfl) Try.func4
    (ChangeSpec.witness6 (enc := enc) (C := Try.checked) false ⟨#[], #[.string .empty], []⟩ 8 (by kernel_rfl) (by kernel_rfl) (by kernel_rfl) (by kernel_rfl)) ?_
  intro W base args ds gs before hval0 hW hcnd _
  have hval : ∀ (j : Nat) t v, Try.f4.params[j]? = some t → args[j]? = some v → Value.okWide Try.prog W .any base t v := hval0
  have hW' := hW
  obtain ⟨p, q, hA0, hV, rfl, hfz, hnd⟩ := hW
  have hA : DataW.TrodAll enc Try.prog W 0 (fun _ => true) true Try.f4.params.toList args.toList ds p := hA0
  rw [Try.params4] at hA hval
  obtain ⟨v0, vs0, d0, ds0, p0, q0, hargs, rfl, rfl, h0, r0⟩ := trodAll_cons hA
  obtain ⟨rfl, rfl, rfl⟩ := trodAll_nil r0
  obtain rfl : args = #[v0] := by cases args; simp_all
  obtain ⟨rfl, rfl⟩ := trodVars_none hV
  obtain ⟨s0, rfl, rfl, rfl, w0⟩ := open_string Try.underlying9 (hval 0 9 v0 rfl rfl) h0
  clear hA0 hval0
  refine (walk s0 W ).mono fun e W' ⟨he, bel⟩ => ?_
  subst he
  exact ⟨_, rfl, _, _, _, [], _, [], hW', trodAll_mk1 (shut_bool Try.underlying4 _), (trodAll_cons_mk (shut_string Try.underlying9 w0) trodAll_mk0), rfl, bel.frame _, fun h => by cases h⟩

set_option maxRecDepth 100000 in
theorem over : Rows.tomeReadsRow.holds Try.pinned (OpenSpec.ofChange Rows.tomeReadsSpec) :=
  OpenClaim.holds_of_wide 4 Try.f4 rfl rfl rfl rfl rfl rfl rfl ⟨rfl, rfl, rfl, rfl, rfl⟩ rfl rfl rfl rfl rfl (by kernel_rfl) Try.func4 (by kernel_rfl)
    (of_decide_eq_true (by kernel_rfl)) (by unfold Func.isWrapper; first | (rw [if_pos (by decide +kernel)]; kernel_rfl) | (rw [if_neg (by decide +kernel)]; exact ⟨rfl, rfl⟩))
    (fun os started H enc _ => lifted os started H enc)

end Go.Proofs.Ytabjjjbopbjbeaa.tomeReads

namespace Go.Proofs.Ytabjjjbopbjbeaa
/-- The statement. -/
theorem tomeReads_holds : Rows.TomeReadsSaid := tomeReads.over
#print axioms tomeReads_holds
end Go.Proofs.Ytabjjjbopbjbeaa
