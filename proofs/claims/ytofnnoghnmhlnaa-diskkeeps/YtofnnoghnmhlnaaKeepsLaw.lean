/-
  DiskKeeps: for every script and every two numbers the law returns true: what a crash leaves is what was safe, and some first ones of the changes that waited. No condition.
-/
import Derived.Test.YtofnnoghnmhlnaaDTwo
namespace Go.Proofs.Ytofnnoghnmhlnaa.diskKeeps
open Go.ChangeShapes Go.WideShapes Go.ChangeAt Go.RowKit

set_option maxHeartbeats 1600000 in
theorem walk (a : Option Addr) (len cap : Nat) (cs : List Cl) (kp pt : Int) (w : World) (h : IsCls w a len cap cs) :
    Calls Try.prog 4 #[.slice a len cap, .int .i64 kp, .int .i64 pt] w fun e w' => e = .returned (.bool true) ∧ Below w.heap.size w w' := by
  go_enter Try.func4, Try.ntmps4
  go_wp2_with fail
  refine (alive_any _).mono ?_
  rintro e w1 ⟨rfl, hb1⟩
  go_wp2_with fail
  refine (great_any (h.carry hb1)).mono ?_
  rintro e w2 ⟨hb2, rfl | ⟨rfl, h60, hsum⟩⟩
  · have hb := hb1.trans (hb2.mono hb1.size)
    go_wp2
    go_ret
    exact ⟨rfl, hb⟩
  have hb := hb1.trans (hb2.mono hb1.size)
  clear hb1 hb2
  go_wp2_with fail
  refine (new_any _).mono ?_
  rintro e w3 ⟨rfl, rfl⟩
  have hm := Mine.new hb hb.size
  have HL := Hid.mk h.1
  have HS := Hid.mk hsum
  obtain ⟨b, hbd⟩ : ∃ b, b = w2.heap.size := ⟨_, rfl⟩
  rw [← hbd] at hm ⊢
  clear hbd hb hsum
  go_wp2
  go_loopw [9, 21] (fun _ i wr => ∃ (k : Nat) (v : Value), k ≤ len ∧ i = .int .i64 k ∧ Mine w.heap.size w wr b v (runs (cs.take k) [] []).dn (runs (cs.take k) [] []).ws) (fun _ i _ => len - (intOf i).toNat)
  case atStart => exact ⟨0, _, Nat.zero_le _, rfl, hm⟩
  case round =>
    obtain ⟨k, v, hk, rfl, hmr⟩ := hrel
    clear hm
    by_cases hlt : k < len
    · obtain ⟨g, off, rfl, hat⟩ := h.at_ k hlt
      obtain ⟨c, c0, c1, c2, c3, c4, hcs, -, hd1, hd2⟩ := round_facts hat HL.out hmr.below HS.out k hlt
      have hln := runs_len HL.out h60 k
      have HD1 := Hid.mk (hd1 [] [])
      have HD2 := Hid.mk (hd2 [] [])
      have hmA := hmr.alloc (.cells #[.int .i64 c.kind, .int .i64 c.area, .string c.s, .int .i64 c.keep, .int .i64 c.part] 32)
      clear hmr hd1 hd2 hat
      go_wp2_with fail
      refine (does_any c hmA.has (by omega) (by omega)).mono ?_
      rintro e w4 ⟨rfl, v4, h4, hw4⟩
      have hm4 := hmA.step h4 hw4
      rw [← HD1.out, ← HD2.out] at hm4
      have HM := Hid.mk hm4
      have HK := Hid.mk hlt
      clear hm4 h4 hw4 hmA c0 c1 c2 c3 c4 HD1 HD2
      go_wp2
      go_roundw
      case rel => exact ⟨k + 1, v4, HK.out, by go_num, HM.out⟩
      case measure =>
        have := HK.out
        simp [intOf]
        omega
    · have hln := runs_len HL.out h60 k
      obtain ⟨dn, hdn⟩ : ∃ dn, dn = (runs (cs.take k) [] []).dn := ⟨_, rfl⟩
      obtain ⟨ws, hws⟩ : ∃ ws, ws = (runs (cs.take k) [] []).ws := ⟨_, rfl⟩
      rw [← hdn, ← hws] at hmr
      rw [← hws] at hln
      clear hdn hws
      go_wp2_with fail
      refine (copy_any hmr.has (by omega)).mono ?_
      rintro e w4 ⟨b1, v1, rfl, h4, hb4, hv4, hbel4⟩
      have d4 := hmr.grow hbel4
      have l4 := hmr.copied h4 hb4 hv4 hbel4
      have dl4 := hmr.apart_new hb4 hv4
      clear hmr h4 hb4 hv4 hbel4
      go_wp2_with fail
      refine (copy_any d4.has (by omega)).mono ?_
      rintro e w5 ⟨b2, v2, rfl, h5, hb5, hv5, hbel5⟩
      have d5 := d4.grow hbel5
      have l5 := l4.grow hbel5
      have a5 := d4.copied h5 hb5 hv5 hbel5
      have da5 := d4.apart_new hb5 hv5
      have la5 := l4.apart_new hb5 hv5
      clear d4 l4 h5 hb5 hv5 hbel5
      go_wp2_with fail
      refine (crash_any l5.has (by omega) 0 0).mono ?_
      rintro e w6 ⟨rfl, h6, hw6⟩
      have d6 := d5.other l5 dl4 hw6
      have a6 := a5.other l5 la5.symm hw6
      have l6 := l5.step h6 hw6
      have la6 := (la5.symm.step a5.has hw6).symm
      clear d5 a5 l5 dl4 la5 h6 hw6
      go_wp2_with fail
      refine (crash_any a6.has (by omega) 1048576 0).mono ?_
      rintro e w7 ⟨rfl, h7, hw7⟩
      have d7 := d6.other a6 da5 hw7
      have l7 := l6.other a6 la6 hw7
      have a7 := a6.step h7 hw7
      rw [kept_many ws (by omega)] at a7
      clear d6 l6 a6 da5 la6 h7 hw7
      have e1 : ∀ o, txt o (dn ++ kept ws 0 0 ++ []) = txt o dn := fun o => by rw [List.append_nil, txt_lost]
      have e2 : ∀ o, txt o (dn ++ ws ++ []) = txt o (dn ++ ws) := fun o => by rw [List.append_nil]
      have rl : ∀ o, Calls Try.prog 17 #[.pointer (some ⟨b1, 0, none⟩), .int .i64 (ar o)] w7 fun e w' => e = .returned (.string (txt o dn)) ∧ w' = w7 := fun o => by
        have := read_yes o l7.has
        rw [e1 o] at this
        exact this
      have ra : ∀ o, Calls Try.prog 17 #[.pointer (some ⟨b2, 0, none⟩), .int .i64 (ar o)] w7 fun e w' => e = .returned (.string (txt o (dn ++ ws))) ∧ w' = w7 := fun o => by
        have := read_yes o a7.has
        rw [e2 o] at this
        exact this
      have HRL := Hid.mk rl
      have HRA := Hid.mk ra
      have D := Hid.mk d7
      clear e1 e2 rl ra l7 a7 d7
      go_wp2
      go_loop [12] (fun i => i = .int .i64 0 ∨ i = .int .i64 1 ∨ i = .int .i64 2) (fun i => 2 - (intOf i).toNat)
      case atStart => exact .inl rfl
      case round =>
        rcases hrel with rfl | rfl | rfl
        · go_wp2_with fail
          refine (HRL.out false).mono ?_
          rintro e w8 ⟨rfl, rfl⟩
          go_wp2_with fail
          refine (safe_yes false D.out.has).mono ?_
          rintro e w9 ⟨rfl, rfl⟩
          go_wp2_with fail
          refine (HRA.out false).mono ?_
          rintro e w10 ⟨rfl, rfl⟩
          go_wp2_with fail
          refine (read_yes false D.out.has).mono ?_
          rintro e w11 ⟨rfl, rfl⟩
          go_wp2
          go_round
          case rel => exact .inr (.inl rfl)
          case measure => simp [intOf]
        · go_wp2_with fail
          refine (HRL.out true).mono ?_
          rintro e w8 ⟨rfl, rfl⟩
          go_wp2_with fail
          refine (safe_yes true D.out.has).mono ?_
          rintro e w9 ⟨rfl, rfl⟩
          go_wp2_with fail
          refine (HRA.out true).mono ?_
          rintro e w10 ⟨rfl, rfl⟩
          go_wp2_with fail
          refine (read_yes true D.out.has).mono ?_
          rintro e w11 ⟨rfl, rfl⟩
          go_wp2
          go_round
          case rel => exact .inr (.inr rfl)
          case measure => simp [intOf]
        · go_wp2_with fail
          refine (copy_any D.out.has (by omega)).mono ?_
          rintro e w8 ⟨b3, v3, rfl, h8, hb8, hv8, hbel8⟩
          have s8 := D.out.copied h8 hb8 hv8 hbel8
          clear h8 hb8 hv8 hbel8
          go_wp2_with fail
          refine (crash_any s8.has (by omega) kp pt).mono ?_
          rintro e w9 ⟨rfl, h9, hw9⟩
          have s9 := s8.step h9 hw9
          obtain ⟨l, hl⟩ : ∃ l, l = dn ++ kept ws kp pt := ⟨_, rfl⟩
          rw [← hl] at s9
          clear hl s8 h9 hw9
          go_wp2_with fail
          refine (waits_any s9.has).mono ?_
          rintro e w10 ⟨rfl, rfl⟩
          go_wp2_with fail
          refine (read_yes false s9.has).mono ?_
          rintro e w11 ⟨rfl, rfl⟩
          rw [List.append_nil]
          go_wp2_with fail
          refine (safe_yes false s9.has).mono ?_
          rintro e w12 ⟨rfl, rfl⟩
          go_wp2_with fail
          refine (read_yes true s9.has).mono ?_
          rintro e w13 ⟨rfl, rfl⟩
          rw [List.append_nil]
          go_wp2_with fail
          refine (safe_yes true s9.has).mono ?_
          rintro e w14 ⟨rfl, rfl⟩
          go_wp2
          go_ret
          exact ⟨rfl, s9.below⟩

set_option maxRecDepth 100000 in
theorem lifted (os : Os) (started : os.Started) (H : Type) (enc : TypeId × Value → H) :
    ReturnsInHanded {} Try.checked os 4 .any (Rows.diskKeepsSpec.pre6 enc Try.prog Try.f4 Rows.diskKeepsRow.domain false) (Rows.diskKeepsSpec.post enc Try.prog Try.f4 false true false false) := by
  refine returnsInHanded_of_change (C := Try.checked) own started (by kernel_rfl) Try.func4
    (ChangeSpec.witness6 (enc := enc) (C := Try.checked) false ⟨#[], #[.slice none 0 0, .int .i64 0, .int .i64 0], []⟩ 8 (by kernel_rfl) (by kernel_rfl) (by kernel_rfl) (by kernel_rfl)) ?_
  intro W base args ds gs before hval0 hW hcnd _
  have hval : ∀ (j : Nat) t v, Try.f4.params[j]? = some t → args[j]? = some v → Value.okWide Try.prog W .any base t v := hval0
  have hW' := hW
  obtain ⟨p, q, hA0, hV, rfl, hfz, hnd⟩ := hW
  have hA : DataW.TrodAll enc Try.prog W 0 (fun _ => true) true Try.f4.params.toList args.toList ds p := hA0
  rw [Try.params4] at hA hval
  obtain ⟨v0, vs0, d0, ds0, p0, q0, hargs, rfl, rfl, h0, r0⟩ := trodAll_cons hA
  obtain ⟨v1, vs1, d1, ds1, p1, q1, rfl, rfl, rfl, h1, r1⟩ := trodAll_cons r0
  obtain ⟨v2, vs2, d2, ds2, p2, q2, rfl, rfl, rfl, h2, r2⟩ := trodAll_cons r1
  obtain ⟨rfl, rfl, rfl⟩ := trodAll_nil r2
  obtain rfl : args = #[v0, v1, v2] := by cases args; simp_all
  obtain ⟨rfl, rfl⟩ := trodVars_none hV
  obtain ⟨a0, len0, cap0, rfl⟩ := okWide_slice Try.underlying22 (hval 0 22 v0 rfl rfl)
  have k0 := h0
  have lt0 : ∀ x ∈ p0, x.block < W.heap.size := by obtain ⟨m, hm⟩ := k0; exact DataW.trod_lt m _ _ _ hm
  obtain ⟨ts0, w0⟩ : ∃ ts, IsCls W a0 len0 cap0 ts := by
    obtain ⟨fuel, hf⟩ := h0
    exact open_cls hf
  obtain ⟨a1, rfl, rfl, rfl, w1⟩ := open_int Try.underlying3 (hval 1 3 v1 rfl rfl) h1
  obtain ⟨a2, rfl, rfl, rfl, w2⟩ := open_int Try.underlying3 (hval 2 3 v2 rfl rfl) h2
  clear hA0 hval0
  refine (walk a0 len0 cap0 ts0 a1 a2 W w0).mono fun e W' ⟨he, bel⟩ => ?_
  subst he
  exact ⟨_, rfl, _, _, _, [], _, [], hW', trodAll_mk1 (shut_bool Try.underlying4 _), (trodAll_cons_mk (Below.trod laidOut (by kernel_rfl) (of_decide_eq_true (by kernel_rfl)) k0 bel lt0) (trodAll_cons_mk (shut_int Try.underlying3 w1) (trodAll_cons_mk (shut_int Try.underlying3 w2) trodAll_mk0))), rfl, bel.frame _, fun h => by cases h⟩

theorem over : Rows.diskKeepsRow.holds Try.pinned (OpenSpec.ofChange Rows.diskKeepsSpec) :=
  OpenClaim.holds_of_wide 4 Try.f4 rfl rfl rfl rfl rfl rfl rfl ⟨rfl, rfl, rfl, rfl, rfl⟩ rfl rfl rfl rfl rfl (by kernel_rfl) Try.func4 (by kernel_rfl)
    (of_decide_eq_true (by kernel_rfl)) (by unfold Func.isWrapper; first | (rw [if_pos (by decide +kernel)]; kernel_rfl) | (rw [if_neg (by decide +kernel)]; exact ⟨rfl, rfl⟩))
    (fun os started H enc _ => lifted os started H enc)

end Go.Proofs.Ytofnnoghnmhlnaa.diskKeeps

namespace Go.Proofs.Ytofnnoghnmhlnaa
/-- The statement. -/
theorem keeps_holds : Rows.DiskKeepsSaid := diskKeeps.over
#print axioms keeps_holds
end Go.Proofs.Ytofnnoghnmhlnaa
