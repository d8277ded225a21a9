/-
  FileWrites: for every text and every list of places, the law returns true: a text that is put byte by byte in an empty file is there. No condition.
-/
import Derived.Test.YtajongclalcigaaFInts
namespace Go.Proofs.Ytajongclalcigaa.fileWrites
open Go.ChangeShapes Go.ChangeMaps Go.WideShapes Go.ChangeAt Go.RowKit Go.Deep Go.Proofs.Ytajongclalcigaa.Fil

set_option maxRecDepth 100000 in
set_option maxHeartbeats 4000000 in
theorem walk (s : ByteArray) (a : Option Addr) (len cap : Nat) (zs : List Int) (w : World) (hz : IsInts w a len zs) :
    Calls Try.prog 7 #[.string s, .slice a len cap] w fun e w' => e = .returned (.bool true) ∧ Below w.heap.size w w' := by
  have HZ := Hid.mk hz
  clear hz
  go_enter Try.func7, Try.ntmps7
  go_wp2_with fail
  refine (alive_any _).mono ?_
  rintro e w1 ⟨rfl, hb1⟩
  have HB1 := Hid.mk hb1
  clear hb1
  by_cases h0 : (32 : Int) < (s.size : Int)
  · have h0' : 32 < s.size := by omega
    go_wp2
    go_ret
    exact ⟨rfl, HB1.out⟩
  by_cases h1 : (100 : Int) < (len : Int)
  · have h1' : 100 < len := by omega
    go_wp2
    go_ret
    exact ⟨rfl, HB1.out⟩
  have h0' : ¬ 32 < s.size := by omega
  have h1' : ¬ 100 < len := by omega
  have hs : s.size ≤ 32 := by omega
  have hsl : s.data.toList.length ≤ 32 := by rw [list_size]; exact hs
  have mk := run_mkb (w1.alloc (.cells #[.bool false, .string ⟨#[]⟩] 23)) s.size hs
  rw [World.size_alloc] at mk
  obtain ⟨W, hW⟩ : ∃ W, W = (w1.alloc (.cells #[.bool false, .string ⟨#[]⟩] 23)).alloc (.cells (boolC (List.replicate s.size false)).toArray 4) := ⟨_, rfl⟩
  have hlie : Lie w W w1.heap.size (w1.heap.size + 1) (List.replicate s.size false) false [] := by
    rw [hW]
    refine ⟨(Below.heap_alloc _ _ _ (by simp)).trans (heap_new w1 _), ?_, (HB1.out.alloc HB1.out.size _).alloc ?_ _, by omega, HB1.out.size, Nat.le_succ_of_le HB1.out.size⟩
    · have h := heap_new (w1.alloc (.cells #[.bool false, .string ⟨#[]⟩] 23)) (.cells (boolC (List.replicate s.size false)).toArray 4)
      rw [World.size_alloc] at h
      exact h
    · have := HB1.out.size
      simp
      omega
  rw [← hW] at mk
  have HL := Hid.mk hlie
  have HW := Hid.mk hW
  clear hlie hW
  go_wp2_with fail
  obtain ⟨M, hM⟩ : ∃ M, M = w1.heap.size := ⟨_, rfl⟩
  rw [← hM] at HL ⊢
  have HM := Hid.mk hM
  clear hM mk HW
  go_loopw [8, 26] (fun _ iv wr => ∃ (k : Nat) (D : List Bool) (is : Bool) (l : List UInt8), k ≤ len ∧ iv = .int .i64 k ∧ Lie w wr M (M + 1) D is l ∧ Done s.data.toList D is l) (fun _ iv _ => len - (intOf iv).toNat)
  case atStart => exact ⟨0, _, _, _, Nat.zero_le _, rfl, HL.out, by rw [← list_size]; exact Done.none _⟩
  case round =>
    obtain ⟨k, D, is, l, hk, rfl, hlie, hd⟩ := hrel
    clear HL
    by_cases hlt : k < len
    · obtain ⟨g, off, ea, z, cz⟩ := HZ.out.at_ hlie.bel k hlt
      subst ea
      have c0 : wr.cell? ⟨M, 0, none⟩ = some (.bool is) := cell_at hlie.file rfl
      have c1 : wr.cell? ⟨M, 1, none⟩ = some (.string (txt l)) := cell_at hlie.file rfl
      have HLI := Hid.mk hlie
      have HD := Hid.mk hd
      clear hlie hd
      by_cases hin : 0 ≤ z ∧ z < (s.size : Int)
      · obtain ⟨i, rfl⟩ : ∃ i : Nat, z = (i : Int) := ⟨z.toNat, by omega⟩
        have hi : i < s.size := by omega
        have hi0 : (0 : Int) ≤ (i : Int) := by omega
        have hil : i < s.data.toList.length := by rw [list_size]; exact hi
        have P := fun z => put_yes (HD.out.can hsl) i (by omega) s.data.toList[i] z
        rw [txt_toList] at P
        have el : s.data.toList[i] = s[i] := by rw [Array.getElem_toList]; rfl
        have HEL := Hid.mk el
        obtain ⟨l', hl'⟩ : ∃ l', l' = put l i s.data.toList[i] := ⟨_, rfl⟩
        rw [← hl', el] at P
        have HP := Hid.mk P
        have HL' := Hid.mk hl'
        clear P el hl' hin
        go_wp2_with fail
        go_region_with ((go_at_call 10; refine (HP.out _).mono ?_; rintro e w3 ⟨rfl, hz3⟩; have hl3 : Lie w w3 M (M + 1) D is l := (by first | exact HLI.out.drew.grow hz3 | exact HLI.out.drew.drew.grow hz3); have d0 : w3.cell? ⟨M, 0, none⟩ = some (.bool is) := cell_at hl3.file rfl; have d1 : w3.cell? ⟨M, 1, none⟩ = some (.string (txt l)) := cell_at hl3.file rfl; have f0 : w3.frozen? ⟨M, 0, none⟩ = false := free_at hl3.file; have f1 : w3.frozen? ⟨M, 1, none⟩ = false := free_at hl3.file; have HL3 := Hid.mk hl3; clear hz3 hl3))
        all_goals
          have hl4 := HL3.out.setFile true l'
          obtain ⟨w4, hw4⟩ : ∃ w4, w4 = (w3.setCell ⟨M, 0, none⟩ (.bool true)).setCell ⟨M, 1, none⟩ (.string (txt l')) := ⟨_, rfl⟩
          rw [← hw4] at hl4 ⊢
          have hiD : i < D.length := by rw [HD.out.len]; exact hil
          have e0 : w4.cell? ⟨M + 1, i, none⟩ = some (.bool D[i]) := cell_at hl4.row (by simpa using boolC_get D i hiD)
          have g0 : w4.frozen? ⟨M + 1, i, none⟩ = false := free_at hl4.row
          have HL5 := Hid.mk (hl4.setRow i)
          clear hl4 hw4 d0 d1 f0 f1 HL3 c0 c1
          go_wp2
          go_roundw
          case rel =>
            refine ⟨k + 1, D.set i true, true, l', by omega, by go_num, HL5.out, ?_⟩
            rw [HL'.out]
            exact HD.out.put i hil
          case measure => simp [intOf]; omega
      · by_cases hz0 : 0 ≤ z
        · have hz1 : ¬ z < (s.size : Int) := fun x => hin ⟨hz0, x⟩
          clear hin
          go_wp2
          go_roundw
          case rel => exact ⟨k + 1, D, is, l, by omega, by go_num, HLI.out, HD.out⟩
          case measure => simp [intOf]; omega
        · clear hin
          go_wp2
          go_roundw
          case rel => exact ⟨k + 1, D, is, l, by omega, by go_num, HLI.out, HD.out⟩
          case measure => simp [intOf]; omega
    · have hkl : ¬ (k : Int) < (len : Int) := by omega
      have HLI := Hid.mk hlie
      have HD := Hid.mk hd
      clear hlie hd
      go_wp2_with fail
      go_loopw [9, 50] (fun _ jv wi => ∃ (j : Nat) (is' : Bool) (l' : List UInt8), j ≤ s.size ∧ jv = .int .i64 j ∧ Lie w wi M (M + 1) D is' l' ∧ DoneTo s.data.toList D is' l' j) (fun _ jv _ => s.size - (intOf jv).toNat)
      case atStart => exact ⟨0, _, _, Nat.zero_le _, rfl, HLI.out, HD.out.start⟩
      case round =>
        obtain ⟨j, is', l', hj, rfl, hlie, hd⟩ := hrel
        clear HLI HD
        by_cases hjs : j < s.size
        · have hjl : j < s.data.toList.length := by rw [list_size]; exact hjs
          have hjD : j < D.length := by rw [hd.len]; exact hjl
          have hj1 : (j : Int) < (s.size : Int) := by omega
          have hj0 : (0 : Int) ≤ (j : Int) := by omega
          have c0 : wr.cell? ⟨M, 0, none⟩ = some (.bool is') := cell_at hlie.file rfl
          have c1 : wr.cell? ⟨M, 1, none⟩ = some (.string (txt l')) := cell_at hlie.file rfl
          have e0 : wr.cell? ⟨M + 1, j, none⟩ = some (.bool D[j]) := cell_at hlie.row (by simpa using boolC_get D j hjD)
          have HLI := Hid.mk hlie
          have HD := Hid.mk hd
          clear hlie hd
          cases hDj : D[j] with
          | true =>
            rw [hDj] at e0
            have HDJ : Hid (D[j]? = some true) := Hid.mk (by rw [List.getElem?_eq_getElem hjD, hDj])
            clear hDj
            go_wp2
            go_roundw
            case rel => exact ⟨j + 1, is', l', by omega, by go_num, HLI.out, HD.out.skip HDJ.out⟩
            case measure => simp [intOf]; omega
          | false =>
            rw [hDj] at e0
            clear hDj
            have P := fun z => put_yes (HD.out.toDone.can hsl) j (by omega) s.data.toList[j] z
            rw [txt_toList] at P
            have el : s.data.toList[j] = s[j] := by rw [Array.getElem_toList]; rfl
            obtain ⟨l2, hl2⟩ : ∃ l2, l2 = put l' j s.data.toList[j] := ⟨_, rfl⟩
            rw [← hl2, el] at P
            have HP := Hid.mk P
            have HL2 := Hid.mk hl2
            clear P el hl2
            go_wp2_with fail
            go_region_with ((go_at_call 10; refine (HP.out _).mono ?_; rintro e w3 ⟨rfl, hz3⟩; have hl3 : Lie w w3 M (M + 1) D is' l' := (by first | exact HLI.out.drew.grow hz3 | exact HLI.out.drew.drew.grow hz3); have d0 : w3.cell? ⟨M, 0, none⟩ = some (.bool is') := cell_at hl3.file rfl; have d1 : w3.cell? ⟨M, 1, none⟩ = some (.string (txt l')) := cell_at hl3.file rfl; have f0 : w3.frozen? ⟨M, 0, none⟩ = false := free_at hl3.file; have f1 : w3.frozen? ⟨M, 1, none⟩ = false := free_at hl3.file; have HL3 := Hid.mk hl3; clear hz3 hl3))
            all_goals
              have HL5 := Hid.mk (HL3.out.setFile true l2)
              go_wp2
              go_roundw
              case rel =>
                refine ⟨j + 1, true, l2, by omega, by go_num, HL5.out, ?_⟩
                rw [HL2.out]
                exact HD.out.next hjl
              case measure => simp [intOf]; omega
        · have hj1 : ¬ (j : Int) < (s.size : Int) := by omega
          obtain ⟨el, eis⟩ := hd.end_ (by rw [list_size]; omega)
          have hfile := hlie.file
          rw [el, txt_list] at hfile
          have c0 : wr.cell? ⟨M, 0, none⟩ = some (.bool is') := cell_at hfile rfl
          have c1 : wr.cell? ⟨M, 1, none⟩ = some (.string s) := cell_at hfile rfl
          have HBL := Hid.mk hlie.bel
          rw [list_size] at eis
          clear hd hlie hfile el
          by_cases hp : 0 < s.size
          · have e1 : is' = true := by rw [eis]; exact decide_eq_true hp
            have e2 : s.toList.isEmpty = false := isEmpty_no fun k => by rw [k] at hp; exact absurd hp (by decide)
            rw [e1] at c0
            clear e1 eis
            go_wp2
            go_ret
            exact ⟨rfl, HBL.out⟩
          · have e1 : is' = false := by rw [eis]; exact decide_eq_false hp
            have e2 : s.toList.isEmpty = true := by
              rw [toList_txt]
              have : s.data.toList.length = 0 := by rw [list_size]; omega
              rw [List.eq_nil_of_length_eq_zero this]
              rfl
            rw [e1] at c0
            clear e1 eis
            go_wp2
            go_ret
            exact ⟨rfl, HBL.out⟩

set_option maxRecDepth 100000 in
theorem lifted (os : Os) (started : os.Started) (H : Type) (enc : TypeId × Value → H) :
    ReturnsInHanded {} Try.checked os 7 .any (Rows.fileWritesSpec.pre6 enc Try.prog Try.f7 Rows.fileWritesRow.domain false) (Rows.fileWritesSpec.post enc Try.prog Try.f7 false true false false) := by
  refine returnsInHanded_of_change (C := Try.checked) own started (by kernel_rfl) Try.func7
    (ChangeSpec.witness6 (enc := enc) (C := Try.checked) false ⟨#[], #[.string .empty, .slice none 0 0], []⟩ 8 (by kernel_rfl) (by kernel_rfl) (by kernel_rfl) (by kernel_rfl)) ?_
  intro W base args ds gs before hval0 hW hcnd _
  have hval : ∀ (j : Nat) t v, Try.f7.params[j]? = some t → args[j]? = some v → Value.okWide Try.prog W .any base t v := hval0
  have hW' := hW
  obtain ⟨p, q, hA0, hV, rfl, hfz, hnd⟩ := hW
  have hA : DataW.TrodAll enc Try.prog W 0 (fun _ => true) true Try.f7.params.toList args.toList ds p := hA0
  rw [Try.params7] at hA hval
  obtain ⟨v0, vs0, d0, ds0, p0, q0, hargs, rfl, rfl, h0, r0⟩ := trodAll_cons hA
  obtain ⟨v1, vs1, d1, ds1, p1, q1, rfl, rfl, rfl, h1, r1⟩ := trodAll_cons r0
  obtain ⟨rfl, rfl, rfl⟩ := trodAll_nil r1
  obtain rfl : args = #[v0, v1] := by cases args; simp_all
  obtain ⟨rfl, rfl⟩ := trodVars_none hV
  obtain ⟨s0, rfl, rfl, rfl, w0⟩ := open_string Try.underlying9 (hval 0 9 v0 rfl rfl) h0
  obtain ⟨a1, len1, cap1, rfl⟩ := okWide_slice Try.underlying38 (hval 1 38 v1 rfl rfl)
  have k1 := h1
  have lt1 : ∀ x ∈ p1, x.block < W.heap.size := by obtain ⟨m, hm⟩ := k1; exact DataW.trod_lt m _ _ _ hm
  obtain ⟨ts1, w1⟩ : ∃ ts, IsInts W a1 len1 ts := by
    obtain ⟨fuel, hf⟩ := h1
    exact open_nums hf
  clear hA0 hval0
  refine (walk s0 a1 len1 cap1 ts1 W w1).mono fun e W' ⟨he, bel⟩ => ?_
  subst he
  exact ⟨_, rfl, _, _, _, [], _, [], hW', trodAll_mk1 (shut_bool Try.underlying4 _), (trodAll_cons_mk (shut_string Try.underlying9 w0) (trodAll_cons_mk (Below.trod laidOut (by kernel_rfl) (of_decide_eq_true (by kernel_rfl)) k1 bel lt1) trodAll_mk0)), rfl, bel.frame _, fun h => by cases h⟩

set_option maxRecDepth 100000 in
theorem over : Rows.fileWritesRow.holds Try.pinned (OpenSpec.ofChange Rows.fileWritesSpec) :=
  OpenClaim.holds_of_wide 7 Try.f7 rfl rfl rfl rfl rfl rfl rfl ⟨rfl, rfl, rfl, rfl, rfl⟩ rfl rfl rfl rfl rfl (by kernel_rfl) Try.func7 (by kernel_rfl)
    (of_decide_eq_true (by kernel_rfl)) (by unfold Func.isWrapper; first | (rw [if_pos (by decide +kernel)]; kernel_rfl) | (rw [if_neg (by decide +kernel)]; exact ⟨rfl, rfl⟩))
    (fun os started H enc _ => lifted os started H enc)

end Go.Proofs.Ytajongclalcigaa.fileWrites

namespace Go.Proofs.Ytajongclalcigaa
/-- The statement. -/
theorem fileWrites_holds : Rows.FileWritesSaid := fileWrites.over
#print axioms fileWrites_holds
end Go.Proofs.Ytajongclalcigaa
