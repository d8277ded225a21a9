/-
  WalClears: for every script of calls and every load, the law returns true: cleared, and forced, a log has nothing, whatever stood there; what is appended behind that is all that it has. No condition.
-/
import Derived.Test.YtejmameebhbcbaaLDoes
namespace Go.Proofs.Ytejmameebhbcbaa.walClears
open Go.ChangeShapes Go.WideShapes Go.ChangeAt Go.RowKit Go.Deep
open Go.ChangeMaps (open_string shut_string)

theorem txt_reset (l : List Ch) : txt false (l ++ [⟨false, true, ⟨#[]⟩⟩]) = ⟨#[]⟩ := by
  rw [txt_one]
  simp [Ch.on]

theorem txt_rec (l : List Ch) (s : ByteArray) (h : txt false l = ⟨#[]⟩) : txt false (l ++ [⟨false, false, recOf s⟩]) = recOf s := by
  rw [txt_one, h]
  show (⟨#[]⟩ : ByteArray) ++ recOf s = recOf s
  exact ByteArray.empty_append

theorem all_one (s : ByteArray) (h : s.size ≤ 1024) : AllOf (recOf s).data.toList [s] := by
  rw [recOf_list]
  have := all_row_nil [s] (fun t ht => by simp at ht; rw [ht]; exact h)
  simpa [rowB] using this

set_option maxHeartbeats 3200000 in
theorem walk (a : Option Addr) (len cap : Nat) (cs : List Cl) (s : ByteArray) (w : World) (ha : IsCls w a len cap cs) :
    Calls Try.prog 7 #[.slice a len cap, .string s] w fun e w' => e = .returned (.bool true) ∧ Below w.heap.size w w' := by
  go_enter Try.func7, Try.ntmps7
  go_wp2_with fail
  refine (alive_any w).mono ?_
  rintro e w1 ⟨rfl, hb1⟩
  go_wp2_with fail
  refine (great_any (ha.carry hb1)).mono ?_
  rintro e w2 ⟨hb2, rfl | ⟨rfl, hl50, hsum⟩⟩
  · go_wp2
    go_ret
    exact ⟨rfl, hb1.trans (hb2.mono hb1.size)⟩
  have hb := hb1.trans (hb2.mono hb1.size)
  clear hb1 hb2
  by_cases hot : 1024 < s.size
  · go_wp2
    go_ret
    exact ⟨rfl, hb⟩
  have hss : s.size ≤ 1024 := by omega
  go_wp2_with fail
  refine (start_any false w w2 hb).mono ?_
  rintro e w3 ⟨bb, b, lb, m, rl, v, vm, tn, rfl, t⟩
  have al : Alike w bb b m false 0 w3 := ⟨lb, rl, v, vm, tn, [], [], t, Nat.le_refl _⟩
  have HS := Hid.mk hsum
  have AL := Hid.mk al
  clear hsum hb t al
  go_wp2
  go_loopw [7, 22] (fun _ i wr => ∃ (k : Nat), k ≤ len ∧ i = .int .i64 k ∧ Hid (Alike w bb b m false k wr)) (fun _ i _ => len - (intOf i).toNat)
  case atStart => exact ⟨0, Nat.zero_le _, rfl, AL⟩
  case round =>
    clear AL
    obtain ⟨k, hk, rfl, al⟩ := hrel
    obtain ⟨lb, rl, v, vm, tn, dn, ws, t, hn⟩ := al.out
    clear al
    by_cases hlt : k < len
    · obtain ⟨g, off, rfl, hat⟩ := ha.at_ k hlt
      obtain ⟨c, c0, c1, c2, c3, hsz, -⟩ := round_facts hat ha.1 t.l.d.below HS.out k hlt
      have HK := Hid.mk hlt
      obtain ⟨q, s1, kp, pt⟩ := c
      dsimp only at c0 c1 c2 c3 hsz
      have hA := t.grow ((Below.refl _ _).alloc (Nat.le_refl _) (.cells #[.int .i64 q, .string s1, .int .i64 kp, .int .i64 pt] 38))
      have hD := does_any ⟨q, s1, kp, pt⟩ hA (by omega) hsz
      have HD := Hid.mk hD
      clear hat t hA hD
      go_wp2_with fail
      refine HD.out.mono ?_
      rintro e w7 ⟨rfl, al7⟩
      have AL7 : Hid (Alike w bb b m false (k + 1) w7) := Hid.mk (by
        obtain ⟨lb, rl, v, vm, tn, dn2, ws2, t, hn2⟩ := al7
        exact ⟨lb, rl, v, vm, tn, dn2, ws2, t, by omega⟩)
      clear al7 HD c0 c1 c2 c3
      go_wp2
      go_roundw
      case rel => exact ⟨k + 1, HK.out, by go_num, AL7⟩
      case measure =>
        have := HK.out
        simp [intOf]
        omega
    · have hwn : ws.length ≤ 1000 ∧ dn.length ≤ 1000 := by rw [List.length_append] at hn; omega
      obtain ⟨hwn, hdn⟩ := hwn
      have x1 := t.x1
      go_wp2_with fail
      refine (clear_any t.l.l t.l.d.has (by omega)).mono ?_
      rintro e w4 ⟨rfl, v4, hh4, hl4, hw4⟩
      have t4 := t.prog hh4 hl4 hw4
      obtain ⟨W4, hW4⟩ : ∃ W, W = ws ++ [(⟨false, true, ⟨#[]⟩⟩ : Ch)] := ⟨_, rfl⟩
      rw [← hW4] at t4
      have hT4 : txt false (dn ++ W4) = ⟨#[]⟩ := by rw [hW4, ← List.append_assoc]; exact txt_reset _
      have hWl : W4.length ≤ 1001 := by rw [hW4]; simp; omega
      have hA4 : AllOf (txt false (dn ++ W4)).data.toList [] := by rw [hT4]; exact none_empty
      have hst := stepL_ok false s dn W4 hss (by rw [hT4]; show 0 + s.size + 6 ≤ 16384; omega)
      obtain ⟨W5, hW5⟩ : ∃ W, W = W4 ++ [(⟨false, false, recOf s⟩ : Ch)] := ⟨_, rfl⟩
      rw [← hW5] at hst
      have hW5l : W5.length ≤ 1002 := by rw [hW5]; simp; omega
      have hT5 : txt false (dn ++ W5) = recOf s := by rw [hW5, ← List.append_assoc]; exact txt_rec _ s hT4
      obtain ⟨D, hD⟩ : ∃ D, D = dn ++ W5 := ⟨_, rfl⟩
      have hTD : txt false D = recOf s := by rw [hD]; exact hT5
      have hkn : D ++ kept [] 0 0 = D := by rw [kept_all (by unfold near; simp), List.append_nil]
      have hA5 : AllOf (txt false (D ++ [])).data.toList [s] := by rw [List.append_nil, hTD]; exact all_one s hss
      have hA6 : AllOf (txt false D).data.toList [s] := by rw [hTD]; exact all_one s hss
      have HA4 := Hid.mk hA4
      have HST := Hid.mk hst
      have HD := Hid.mk hD
      have HKN := Hid.mk hkn
      have HA5 := Hid.mk hA5
      have HA6 := Hid.mk hA6
      have ew : ((wholeN [] : Nat) : Int) = 0 := rfl
      have y1 := t4.x1
      clear hh4 hl4 hw4 t x1 hW4 hT4 hA4 hst hW5 hT5 hD hTD hkn hA5 hA6
      go_wp2_with fail
      refine (size_any t4.l.l t4.l.d.has [] HA4.out).mono ?_
      rintro e w5 ⟨rfl, hb5⟩
      rw [ew]
      have t5 := t4.grow hb5
      have y2 := t5.x1
      clear hb5 t4 y1 ew
      go_wp2_with fail
      refine (torn_any t5.l.l).mono ?_
      rintro e w6 ⟨rfl, hw6⟩
      rw [hw6]
      clear hw6 w6
      go_wp2_with fail
      refine (loads_any t5.l.l t5.l.d.has [] HA4.out).mono ?_
      rintro e w6 ⟨gv, rfl, rowg, hb6⟩
      obtain ⟨ga, gc, rfl, _⟩ := texts_of_row rowg
      have t6 := t5.grow hb6
      have y3 := t6.x1
      clear hb6 t5 y2 rowg
      go_wp2_with fail
      refine (logAppend_any s t6.l.l t6.l.d.has (by omega) (by omega)).mono ?_
      rw [HST.out]
      rintro e w7 ⟨rfl, v7, hh7, hw7⟩
      have t7 := t6.prog hh7 (t6.l.l.disk t6.l.d.has hw7) (hw7.log lb)
      have y4 := t7.x1
      clear hh7 hw7 t6 y3
      go_wp2_with fail
      refine (force_any t7.l.l t7.l.d.has).mono ?_
      rintro e w8 ⟨rfl, hh8, hw8⟩
      have t8 := t7.prog hh8 (t7.l.l.disk t7.l.d.has hw8) (hw8.log lb)
      rw [← HD.out] at t8
      have y5 := t8.x0
      clear hh8 hw8 t7 y4
      go_wp2_with fail
      refine (crash_any t8.l.d.has (by simp) 0 0).mono ?_
      rintro e w9 ⟨rfl, hh9, hw9⟩
      rw [HKN.out] at hh9
      have t9 := t8.prog hh9 (t8.l.l.disk t8.l.d.has hw9) (hw9.log lb)
      have y6 := t9.x0
      clear hh9 hw9 t8 y5
      go_wp2_with fail
      refine (walOpen_yes false t9.l.d.has [s] HA5.out).mono ?_
      rintro e w10 ⟨rfl, hl10, hb10⟩
      have m10 := t9.l.d.opened hl10 hb10
      clear hl10 hb10 t9 y6
      go_wp2_with fail
      refine (loads_any m10.l m10.d.has [s] HA5.out).mono ?_
      rintro e w11 ⟨gv2, rfl, rowg2, hb11⟩
      obtain ⟨ga2, gc2, rfl, ht11⟩ := texts_of_row rowg2
      have m11 := m10.grow hb11
      clear hb11 m10 rowg2
      have m12 := m11.grow ((Below.refl _ _).alloc (Nat.le_refl _) (.cells #[.string s] 9))
      have ht12 : IsTexts (w11.alloc (.cells #[.string s] 9)) ga2 1 gc2 [s] := ht11.carry ((Below.refl _ _).alloc (Nat.le_refl _) _)
      have ht13 := texts_one w11 s
      clear m11 ht11
      go_wp2_with fail
      refine (same_yes (by decide) ht12 ht13).mono ?_
      rintro e w13 ⟨rfl, hb13⟩
      have m13 := m12.grow hb13
      clear hb13 m12 ht12 ht13
      go_wp2_with fail
      refine (lasting_any m13.l m13.d.has [s] HA6.out).mono ?_
      rintro e w14 ⟨rfl, hb14⟩
      have HB := Hid.mk (m13.grow hb14).d.below
      clear m13 hb14
      go_wp2
      go_ret
      exact ⟨rfl, HB.out⟩

set_option maxRecDepth 100000 in
theorem lifted (os : Os) (started : os.Started) (H : Type) (enc : TypeId × Value → H) :
    ReturnsInHanded {} Try.checked os 7 .any (Rows.walClearsSpec.pre6 enc Try.prog Try.f7 Rows.walClearsRow.domain false) (Rows.walClearsSpec.post enc Try.prog Try.f7 false true false false) := by
  refine returnsInHanded_of_change (C := Try.checked) own started (by kernel_rfl) Try.func7
    (ChangeSpec.witness6 (enc := enc) (C := Try.checked) false ⟨#[], #[.slice none 0 0, .string .empty], []⟩ 8 (by kernel_rfl) (by kernel_rfl) (by kernel_rfl) (by kernel_rfl)) ?_
  intro W base args ds gs before hval0 hW hcnd _
  have hval : ∀ (j : Nat) t v, Try.f7.params[j]? = some t → args[j]? = some v → Value.okWide Try.prog W .any base t v := hval0
  have hW' := hW
  obtain ⟨p, q, hA0, hV, rfl, hfz, hnd⟩ := hW
  have hA : DataW.TrodAll enc Try.prog W 0 (fun _ => true) true Try.f7.params.toList args.toList ds p := hA0
  rw [Try.params7] at hA hval
  obtain ⟨v0, vs0, d0, ds0, p0, q0, hargs, rfl, rfl, h0, r0⟩ := trodAll_cons hA
  obtain ⟨v1, vs1, d1, ds1, p1, q1, rfl, rfl, rfl, h1, r1⟩ := trodAll_cons r0
  obtain ⟨rfl, rfl, rfl⟩ := trodAll_nil r1
  obtain rfl : args = #[v0, v1] := by cases args; simp_all
  obtain ⟨rfl, rfl⟩ := trodVars_none hV
  obtain ⟨a0, len0, cap0, rfl⟩ := okWide_slice Try.underlying22 (hval 0 22 v0 rfl rfl)
  have k0 := h0
  have lt0 : ∀ x ∈ p0, x.block < W.heap.size := by obtain ⟨m, hm⟩ := k0; exact DataW.trod_lt m _ _ _ hm
  obtain ⟨ts0, w0⟩ : ∃ ts, IsCls W a0 len0 cap0 ts := by
    obtain ⟨fuel, hf⟩ := h0
    exact open_cls hf
  obtain ⟨s1, rfl, rfl, rfl, w1⟩ := open_string Try.underlying9 (hval 1 9 v1 rfl rfl) h1
  clear hA0 hval0
  refine (walk a0 len0 cap0 ts0 s1 W w0).mono fun e W' ⟨he, bel⟩ => ?_
  subst he
  exact ⟨_, rfl, _, _, _, [], _, [], hW', trodAll_mk1 (shut_bool Try.underlying4 _), (trodAll_cons_mk (Below.trod laidOut (by kernel_rfl) (of_decide_eq_true (by kernel_rfl)) k0 bel lt0) (trodAll_cons_mk (shut_string Try.underlying9 w1) trodAll_mk0)), rfl, bel.frame _, fun h => by cases h⟩

theorem over : Rows.walClearsRow.holds Try.pinned (OpenSpec.ofChange Rows.walClearsSpec) :=
  OpenClaim.holds_of_wide 7 Try.f7 rfl rfl rfl rfl rfl rfl rfl ⟨rfl, rfl, rfl, rfl, rfl⟩ rfl rfl rfl rfl rfl (by kernel_rfl) Try.func7 (by kernel_rfl)
    (of_decide_eq_true (by kernel_rfl)) (by unfold Func.isWrapper; first | (rw [if_pos (by decide +kernel)]; kernel_rfl) | (rw [if_neg (by decide +kernel)]; exact ⟨rfl, rfl⟩))
    (fun os started H enc _ => lifted os started H enc)

end Go.Proofs.Ytejmameebhbcbaa.walClears

namespace Go.Proofs.Ytejmameebhbcbaa
/-- The statement. -/
theorem walClears_holds : Rows.WalClearsSaid := walClears.over
#print axioms walClears_holds
end Go.Proofs.Ytejmameebhbcbaa
