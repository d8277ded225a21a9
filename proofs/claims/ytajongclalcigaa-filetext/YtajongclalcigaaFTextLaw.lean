/-
  FileText: for every file, the law returns true: its bytes, told place by place, are its text. No condition.
-/
import Derived.Test.YtajongclalcigaaFOne
namespace Go.Proofs.Ytajongclalcigaa.fileText
open Go.ChangeShapes Go.WideShapes Go.ChangeAt Go.RowKit Go.Deep Go.Proofs.Ytajongclalcigaa.Fil

set_option maxRecDepth 100000 in
set_option maxHeartbeats 4000000 in
theorem walk (is : Bool) (s : ByteArray) (w : World) :
    Calls Try.prog 6 #[.agg #[.bool is, .string s]] w fun e w' => e = .returned (.bool true) ∧ Below w.heap.size w w' := by
  have HB := Hid.mk ((Below.refl w.heap.size w).alloc (Nat.le_refl _) (.cells #[.bool is, .string s] 23))
  have HN := Hid.mk (heap_new w (.cells #[.bool is, .string s] 23))
  go_enter Try.func6, Try.ntmps6
  go_wp2_with fail
  refine (alive_any _).mono ?_
  rintro e w1 ⟨rfl, hb1⟩
  have r1 := (hb1.block w.heap.size (by simp)).trans HN.out
  have c0 : w1.cell? ⟨w.heap.size, 0, none⟩ = some (.bool is) := cell_at r1 rfl
  have c1 : w1.cell? ⟨w.heap.size, 1, none⟩ = some (.string s) := cell_at r1 rfl
  have HB1 := Hid.mk (HB.out.trans (hb1.mono (by simp)))
  have HR1 := Hid.mk r1
  have HL1 : Hid (w.heap.size + 1 ≤ w1.heap.size) := Hid.mk (by have := hb1.size; simpa using this)
  clear hb1 r1 HB HN
  by_cases hc : CanBe is s
  case neg =>
    have HC := Hid.mk hc
    clear hc
    go_wp2_with fail
    refine (good_no HC.out _).mono ?_
    rintro e w2 ⟨rfl, hb2⟩
    have HB2 := Hid.mk (HB1.out.trans (hb2.mono HB1.out.size))
    clear hb2
    go_wp2
    go_ret
    exact ⟨rfl, HB2.out⟩
  have HC := Hid.mk hc
  clear hc
  go_wp2_with fail
  refine (good_yes HC.out _).mono ?_
  rintro e w2 ⟨rfl, hb2⟩
  have HB2 := Hid.mk (HB1.out.trans (hb2.mono HB1.out.size))
  have r2 := (hb2.block w.heap.size (by have := HL1.out; omega)).trans HR1.out
  have HR2 := Hid.mk r2
  have HL2 : Hid (w.heap.size + 1 ≤ w2.heap.size) := Hid.mk (Nat.le_trans HL1.out hb2.size)
  clear hb2 HR1 HL1 c0 c1
  obtain ⟨A, hA⟩ : ∃ A, A = w.heap.size := ⟨_, rfl⟩
  have lay : ∀ z, Below (A + 1) w2 z → z.cell? ⟨A, 0, none⟩ = some (.bool is) ∧ z.cell? ⟨A, 1, none⟩ = some (.string s) := by
    intro z hz
    rw [← hA] at r2
    have e1 := (hz.block A (by omega)).trans r2
    exact ⟨cell_at e1 rfl, cell_at e1 rfl⟩
  have LAY := Hid.mk lay
  have HZB : Hid (A + 1 ≤ w2.heap.size) := Hid.mk (by rw [hA]; exact HL2.out)
  have HSZ := Hid.mk HC.out.le
  clear r2 lay
  go_wp2_with fail
  rw [← hA]
  have HA := Hid.mk hA
  clear hA
  go_loopw [3, 4] (fun sv iv wr => ∃ k : Nat, k ≤ s.size ∧ iv = .int .i64 k ∧ sv = .string (txt (s.data.toList.take k)) ∧ Below (A + 1) w2 wr) (fun _ iv _ => s.size - (intOf iv).toNat)
  case atStart => exact ⟨0, Nat.zero_le _, rfl, rfl, Below.refl _ _⟩
  case round =>
    obtain ⟨k, hk, rfl, hsv, hb⟩ := hrel
    obtain ⟨t, ht⟩ : ∃ t, t = txt (s.data.toList.take k) := ⟨_, rfl⟩
    rw [← ht] at hsv
    rw [hsv]
    have hsl : t.size ≤ 100 := by rw [ht, txt_size, List.length_take, list_size]; have := HSZ.out; omega
    clear hsv
    have hk40 : (k : Int) < 40 := by have := HSZ.out; omega
    have hk40n : k < 40 := by omega
    obtain ⟨x0, x1⟩ := LAY.out _ hb
    have HB := Hid.mk hb
    by_cases hlt : k < s.size
    · have c := at_any HC.out k wr
      rw [atI_yes s k hlt] at c
      obtain ⟨v, hv⟩ : ∃ v, v = atz s.data.toList k := ⟨_, rfl⟩
      rw [← hv] at c
      have q1 : (0 : Int) ≤ (v.toNat : Int) := Int.natCast_nonneg _
      have HV := Hid.mk hv
      have HT := Hid.mk ht
      have HLT := Hid.mk hlt
      clear hb hv hlt hk ht
      go_wp2_with fail
      refine c.mono ?_
      rintro e w3 ⟨rfl, hz3⟩
      have hb3 := farther HZB.out HB.out hz3
      obtain ⟨y0, y1⟩ := LAY.out _ hb3
      have HB3 := Hid.mk hb3
      have c := at_any HC.out k w3
      rw [atI_yes s k HLT.out, ← HV.out] at c
      clear hz3 hb3 x0 x1
      go_wp2_with fail
      refine c.mono ?_
      rintro e w4 ⟨rfl, hz4⟩
      have hb4 := farther HZB.out HB3.out hz4
      have HB4 := Hid.mk hb4
      have cv := conv_one w4 v
      have q8 := wrap8 v
      have hs1 : (txt [v]).size = 1 := rfl
      clear c hz4 hb4 y0 y1
      go_wp2
      go_roundw
      case rel =>
        refine ⟨k + 1, HLT.out, by go_num, ?_, HB4.out.alloc (Nat.le_trans HZB.out HB4.out.size) _⟩
        rw [HT.out, add_one, HV.out, take_one _ _ (by rw [list_size]; exact HLT.out)]
      case measure => have := HLT.out; simp [intOf]; omega
    · have ek : k = s.size := by omega
      have ets : t = s := by rw [ht, ek, ← list_size, List.take_length, txt_list]
      have c := at_any HC.out k wr
      rw [atI_no s k (by omega)] at c
      have HE := Hid.mk ek
      rw [ets]
      clear hb hlt hk ht hsl ets ek
      clear t
      go_wp2_with fail
      refine c.mono ?_
      rintro e w3 ⟨rfl, hz3⟩
      have hb3 := farther HZB.out HB.out hz3
      obtain ⟨y0, y1⟩ := LAY.out _ hb3
      have HB3 := Hid.mk hb3
      have c := at_any HC.out (s.size : Int) w3
      rw [atI_no s s.size (.inr (Int.le_refl _))] at c
      clear hz3 hb3 x0 x1
      go_wp2_with fail
      refine c.mono ?_
      rintro e w4 ⟨rfl, hz4⟩
      have hb4 := farther HZB.out HB3.out hz4
      obtain ⟨x0, x1⟩ := LAY.out _ hb4
      have HB4 := Hid.mk hb4
      have c := at_any HC.out (-1) w4
      rw [atI_no s (-1) (.inl (by omega))] at c
      clear hz4 hb4 y0 y1
      go_wp2_with fail
      refine c.mono ?_
      rintro e w5 ⟨rfl, hz5⟩
      have hb5 := farther HZB.out HB4.out hz5
      have hb : Below w.heap.size w w5 := HB2.out.trans (hb5.mono (by rw [HA.out]; omega))
      have HB5 := Hid.mk hb
      clear c hz5 hb5 x0 x1 hb
      go_wp2
      go_ret
      exact ⟨rfl, HB5.out⟩

set_option maxRecDepth 100000 in
theorem lifted (os : Os) (started : os.Started) (H : Type) (enc : TypeId × Value → H) :
    ReturnsInHanded {} Try.checked os 6 .any (Rows.fileTextSpec.pre6 enc Try.prog Try.f6 Rows.fileTextRow.domain false) (Rows.fileTextSpec.post enc Try.prog Try.f6 false true false false) := by
  refine returnsInHanded_of_change (C := Try.checked) own started (by kernel_rfl) Try.func6
    (ChangeSpec.witness6 (enc := enc) (C := Try.checked) false ⟨#[], #[.agg #[.bool false, .string .empty]], []⟩ 8 (by kernel_rfl) (by kernel_rfl) (by kernel_rfl) (by kernel_rfl)) ?_
  intro W base args ds gs before hval0 hW hcnd _
  have hval : ∀ (j : Nat) t v, Try.f6.params[j]? = some t → args[j]? = some v → Value.okWide Try.prog W .any base t v := hval0
  have hW' := hW
  obtain ⟨p, q, hA0, hV, rfl, hfz, hnd⟩ := hW
  have hA : DataW.TrodAll enc Try.prog W 0 (fun _ => true) true Try.f6.params.toList args.toList ds p := hA0
  rw [Try.params6] at hA hval
  obtain ⟨v0, vs0, d0, ds0, p0, q0, hargs, rfl, rfl, h0, r0⟩ := trodAll_cons hA
  obtain ⟨rfl, rfl, rfl⟩ := trodAll_nil r0
  obtain rfl : args = #[v0] := by cases args; simp_all
  obtain ⟨rfl, rfl⟩ := trodVars_none hV
  obtain ⟨ca0, rfl, hz0⟩ := okWide_struct Try.underlying23 (hval 0 23 v0 rfl rfl)
  have lt0 : ∀ x ∈ p0, x.block < W.heap.size := by obtain ⟨m, hm⟩ := h0; exact DataW.trod_lt m _ _ _ hm
  obtain ⟨is0, s0, e0⟩ : ∃ (is : Bool) (s : ByteArray), ca0 = #[.bool is, .string s] := by
    obtain ⟨fuel, hf⟩ := h0
    obtain ⟨is, s, hc, _⟩ := open_fl hf
    exact ⟨is, s, by simpa [Value.cells] using congrArg List.toArray hc⟩
  subst e0
  have k0 := h0
  clear hA0 hval0
  refine (walk is0 s0 W ).mono fun e W' ⟨he, bel⟩ => ?_
  subst he
  exact ⟨_, rfl, _, _, _, [], _, [], hW', trodAll_mk1 (shut_bool Try.underlying4 _), (trodAll_cons_mk (Below.trod laidOut (by kernel_rfl) (of_decide_eq_true (by kernel_rfl)) k0 bel lt0) trodAll_mk0), rfl, bel.frame _, fun h => by cases h⟩

set_option maxRecDepth 100000 in
theorem over : Rows.fileTextRow.holds Try.pinned (OpenSpec.ofChange Rows.fileTextSpec) :=
  OpenClaim.holds_of_wide 6 Try.f6 rfl rfl rfl rfl rfl rfl rfl ⟨rfl, rfl, rfl, rfl, rfl⟩ rfl rfl rfl rfl rfl (by kernel_rfl) Try.func6 (by kernel_rfl)
    (of_decide_eq_true (by kernel_rfl)) (by unfold Func.isWrapper; first | (rw [if_pos (by decide +kernel)]; kernel_rfl) | (rw [if_neg (by decide +kernel)]; exact ⟨rfl, rfl⟩))
    (fun os started H enc _ => lifted os started H enc)

end Go.Proofs.Ytajongclalcigaa.fileText

namespace Go.Proofs.Ytajongclalcigaa
/-- The statement. -/
theorem fileText_holds : Rows.FileTextSaid := fileText.over
#print axioms fileText_holds
end Go.Proofs.Ytajongclalcigaa
