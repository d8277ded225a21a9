/-
  DiskSynced: for every script and every two numbers the law returns true: behind a Sync a crash changes nothing, however little is kept. No condition.
-/
import Derived.Test.YtofnnoghnmhlnaaDMine
namespace Go.Proofs.Ytofnnoghnmhlnaa.diskSynced
open Go.ChangeShapes Go.WideShapes Go.ChangeAt Go.RowKit

set_option maxHeartbeats 1600000 in
theorem walk (a : Option Addr) (len cap : Nat) (cs : List Cl) (kp pt : Int) (w : World) (h : IsCls w a len cap cs) :
    Calls Try.prog 5 #[.slice a len cap, .int .i64 kp, .int .i64 pt] w fun e w' => e = .returned (.bool true) ∧ Below w.heap.size w w' := by
  go_enter Try.func5, Try.ntmps5
  go_wp2_with fail
  refine (alive_any _).mono ?_
  rintro e w1 ⟨rfl, hb1⟩
  go_wp2_with fail
  refine (great_any (h.carry hb1)).mono ?_
  rintro e w2 ⟨hb2, rfl | ⟨rfl, h60, hsum⟩⟩
  · have hb := hb1.trans (hb2.mono hb1.size)
    go_wp2
    go_ret
    exact ⟨rfl, hb⟩
  have hb := hb1.trans (hb2.mono hb1.size)
  clear hb1 hb2
  go_wp2_with fail
  refine (new_any _).mono ?_
  rintro e w3 ⟨rfl, rfl⟩
  have hm := Mine.new hb hb.size
  have HL := Hid.mk h.1
  have HS := Hid.mk hsum
  obtain ⟨b, hbd⟩ : ∃ b, b = w2.heap.size := ⟨_, rfl⟩
  rw [← hbd] at hm ⊢
  clear hbd hb hsum
  go_wp2
  go_loopw [9, 19] (fun _ i wr => ∃ (k : Nat) (v : Value), k ≤ len ∧ i = .int .i64 k ∧ Mine w.heap.size w wr b v (runs (cs.take k) [] []).dn (runs (cs.take k) [] []).ws) (fun _ i _ => len - (intOf i).toNat)
  case atStart => exact ⟨0, _, Nat.zero_le _, rfl, hm⟩
  case round =>
    obtain ⟨k, v, hk, rfl, hmr⟩ := hrel
    clear hm
    by_cases hlt : k < len
    · obtain ⟨g, off, rfl, hat⟩ := h.at_ k hlt
      obtain ⟨c, c0, c1, c2, c3, c4, hcs, -, hd1, hd2⟩ := round_facts hat HL.out hmr.below HS.out k hlt
      have hln := runs_len HL.out h60 k
      have HD1 := Hid.mk (hd1 [] [])
      have HD2 := Hid.mk (hd2 [] [])
      have hmA := hmr.alloc (.cells #[.int .i64 c.kind, .int .i64 c.area, .string c.s, .int .i64 c.keep, .int .i64 c.part] 32)
      clear hmr hd1 hd2 hat
      go_wp2_with fail
      refine (does_any c hmA.has (by omega) (by omega)).mono ?_
      rintro e w4 ⟨rfl, v4, h4, hw4⟩
      have hm4 := hmA.step h4 hw4
      rw [← HD1.out, ← HD2.out] at hm4
      have HM := Hid.mk hm4
      have HK := Hid.mk hlt
      clear hm4 h4 hw4 hmA c0 c1 c2 c3 c4 HD1 HD2
      go_wp2
      go_roundw
      case rel => exact ⟨k + 1, v4, HK.out, by go_num, HM.out⟩
      case measure =>
        have := HK.out
        simp [intOf]
        omega
    · have hln := runs_len HL.out h60 k
      obtain ⟨dn, hdn⟩ : ∃ dn, dn = (runs (cs.take k) [] []).dn := ⟨_, rfl⟩
      obtain ⟨ws, hws⟩ : ∃ ws, ws = (runs (cs.take k) [] []).ws := ⟨_, rfl⟩
      rw [← hdn, ← hws] at hmr
      rw [← hws] at hln
      clear hdn hws
      go_wp2_with fail
      refine (sync_any hmr.has).mono ?_
      rintro e w4 ⟨rfl, h4, hw4⟩
      have hm4 := hmr.step h4 hw4
      clear h4 hw4 hmr
      go_wp2_with fail
      refine (read_yes false hm4.has).mono ?_
      rintro e w5 ⟨rfl, rfl⟩
      go_wp2_with fail
      refine (read_yes true hm4.has).mono ?_
      rintro e w6 ⟨rfl, rfl⟩
      go_wp2_with fail
      refine (crash_any hm4.has (by decide) kp pt).mono ?_
      rintro e w7 ⟨rfl, h7, hw7⟩
      have hm7 := hm4.step h7 hw7
      have e1 : kept [] kp pt = [] := kept_all (by unfold near; simp)
      rw [e1, List.append_nil] at hm7
      obtain ⟨l, hl⟩ : ∃ l, l = dn ++ ws := ⟨_, rfl⟩
      rw [← hl] at hm7 ⊢
      clear h7 hw7 hm4 e1 hl
      go_wp2_with fail
      refine (read_yes false hm7.has).mono ?_
      rintro e w8 ⟨rfl, rfl⟩
      rw [List.append_nil]
      go_wp2_with fail
      refine (read_yes true hm7.has).mono ?_
      rintro e w9 ⟨rfl, rfl⟩
      rw [List.append_nil]
      go_wp2_with fail
      refine (safe_yes false hm7.has).mono ?_
      rintro e w10 ⟨rfl, rfl⟩
      go_wp2_with fail
      refine (safe_yes true hm7.has).mono ?_
      rintro e w11 ⟨rfl, rfl⟩
      go_wp2
      go_ret
      exact ⟨rfl, hm7.below⟩

set_option maxRecDepth 100000 in
theorem lifted (os : Os) (started : os.Started) (H : Type) (enc : TypeId × Value → H) :
    ReturnsInHanded {} Try.checked os 5 .any (Rows.diskSyncedSpec.pre6 enc Try.prog Try.f5 Rows.diskSyncedRow.domain false) (Rows.diskSyncedSpec.post enc Try.prog Try.f5 false true false false) := by
  refine returnsInHanded_of_change (C := Try.checked) own started (by kernel_rfl) Try.func5
    (ChangeSpec.witness6 (enc := enc) (C := Try.checked) false ⟨#[], #[.slice none 0 0, .int .i64 0, .int .i64 0], []⟩ 8 (by kernel_rfl) (by kernel_rfl) (by kernel_rfl) (by kernel_rfl)) ?_
  intro W base args ds gs before hval0 hW hcnd _
  have hval : ∀ (j : Nat) t v, Try.f5.params[j]? = some t → args[j]? = some v → Value.okWide Try.prog W .any base t v := hval0
  have hW' := hW
  obtain ⟨p, q, hA0, hV, rfl, hfz, hnd⟩ := hW
  have hA : DataW.TrodAll enc Try.prog W 0 (fun _ => true) true Try.f5.params.toList args.toList ds p := hA0
  rw [Try.params5] at hA hval
  obtain ⟨v0, vs0, d0, ds0, p0, q0, hargs, rfl, rfl, h0, r0⟩ := trodAll_cons hA
  obtain ⟨v1, vs1, d1, ds1, p1, q1, rfl, rfl, rfl, h1, r1⟩ := trodAll_cons r0
  obtain ⟨v2, vs2, d2, ds2, p2, q2, rfl, rfl, rfl, h2, r2⟩ := trodAll_cons r1
  obtain ⟨rfl, rfl, rfl⟩ := trodAll_nil r2
  obtain rfl : args = #[v0, v1, v2] := by cases args; simp_all
  obtain ⟨rfl, rfl⟩ := trodVars_none hV
  obtain ⟨a0, len0, cap0, rfl⟩ := okWide_slice Try.underlying22 (hval 0 22 v0 rfl rfl)
  have k0 := h0
  have lt0 : ∀ x ∈ p0, x.block < W.heap.size := by obtain ⟨m, hm⟩ := k0; exact DataW.trod_lt m _ _ _ hm
  obtain ⟨ts0, w0⟩ : ∃ ts, IsCls W a0 len0 cap0 ts := by
    obtain ⟨fuel, hf⟩ := h0
    exact open_cls hf
  obtain ⟨a1, rfl, rfl, rfl, w1⟩ := open_int Try.underlying3 (hval 1 3 v1 rfl rfl) h1
  obtain ⟨a2, rfl, rfl, rfl, w2⟩ := open_int Try.underlying3 (hval 2 3 v2 rfl rfl) h2
  clear hA0 hval0
  refine (walk a0 len0 cap0 ts0 a1 a2 W w0).mono fun e W' ⟨he, bel⟩ => ?_
  subst he
  exact ⟨_, rfl, _, _, _, [], _, [], hW', trodAll_mk1 (shut_bool Try.underlying4 _), (trodAll_cons_mk (Below.trod laidOut (by kernel_rfl) (of_decide_eq_true (by kernel_rfl)) k0 bel lt0) (trodAll_cons_mk (shut_int Try.underlying3 w1) (trodAll_cons_mk (shut_int Try.underlying3 w2) trodAll_mk0))), rfl, bel.frame _, fun h => by cases h⟩

theorem over : Rows.diskSyncedRow.holds Try.pinned (OpenSpec.ofChange Rows.diskSyncedSpec) :=
  OpenClaim.holds_of_wide 5 Try.f5 rfl rfl rfl rfl rfl rfl rfl ⟨rfl, rfl, rfl, rfl, rfl⟩ rfl rfl rfl rfl rfl (by kernel_rfl) Try.func5 (by kernel_rfl)
    (of_decide_eq_true (by kernel_rfl)) (by unfold Func.isWrapper; first | (rw [if_pos (by decide +kernel)]; kernel_rfl) | (rw [if_neg (by decide +kernel)]; exact ⟨rfl, rfl⟩))
    (fun os started H enc _ => lifted os started H enc)

end Go.Proofs.Ytofnnoghnmhlnaa.diskSynced

namespace Go.Proofs.Ytofnnoghnmhlnaa
/-- The statement. -/
theorem synced_holds : Rows.DiskSyncedSaid := diskSynced.over
#print axioms synced_holds
end Go.Proofs.Ytofnnoghnmhlnaa
