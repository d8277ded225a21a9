/-
  DiskApart: for every script the law returns true: what is done to one area plays no part in the other one, however the power goes. No condition.
-/
import Derived.Test.YtofnnoghnmhlnaaDApart
namespace Go.Proofs.Ytofnnoghnmhlnaa.diskApart
open Go.ChangeShapes Go.WideShapes Go.ChangeAt Go.RowKit

/-- The two disks, behind k calls. -/
structure Two (w wr : World) (b b2 : Nat) (k : Nat) (v v2 : Value) (dn ws : List Ch) : Prop where
  d : Mine w.heap.size w wr b v dn ws
  o : Mine w.heap.size w wr b2 v2 (flt dn) (flt ws)
  ap : Apart b v b2 v2
  len : ws.length ≤ k

set_option maxHeartbeats 3200000 in
theorem walk (a : Option Addr) (len cap : Nat) (cs : List Cl) (w : World) (h : IsCls w a len cap cs) :
    Calls Try.prog 7 #[.slice a len cap] w fun e w' => e = .returned (.bool true) ∧ Below w.heap.size w w' := by
  go_enter Try.func7, Try.ntmps7
  go_wp2_with fail
  refine (alive_any _).mono ?_
  rintro e w1 ⟨rfl, hb1⟩
  go_wp2_with fail
  refine (great_any (h.carry hb1)).mono ?_
  rintro e w2 ⟨hb2, rfl | ⟨rfl, h60, hsum⟩⟩
  · have hb := hb1.trans (hb2.mono hb1.size)
    go_wp2
    go_ret
    exact ⟨rfl, hb⟩
  have hb := hb1.trans (hb2.mono hb1.size)
  clear hb1 hb2
  go_wp2_with fail
  refine (new_any _).mono ?_
  rintro e w3 ⟨rfl, rfl⟩
  have hm := Mine.new hb hb.size
  obtain ⟨b, hbd⟩ : ∃ b, b = w2.heap.size := ⟨_, rfl⟩
  rw [← hbd] at hm ⊢
  obtain ⟨w3, hw3⟩ : ∃ w3, w3 = (w2.alloc (.cells #[.string ⟨#[]⟩, .string ⟨#[]⟩, .string ⟨#[]⟩, .string ⟨#[]⟩, .slice none 0 0] 52)) := ⟨_, rfl⟩
  rw [← hw3] at hm ⊢
  clear hbd hb hw3
  go_wp2_with fail
  refine (new_any _).mono ?_
  rintro e w4 ⟨rfl, rfl⟩
  have hm2 := Mine.new hm.below hm.below.size
  have hap : Apart b (.slice none 0 0) w3.heap.size (.slice none 0 0) := hm.apart_new (Nat.le_refl _) (by simp [Value.ownBlock])
  have hm1 := hm.alloc (.cells #[.string ⟨#[]⟩, .string ⟨#[]⟩, .string ⟨#[]⟩, .string ⟨#[]⟩, .slice none 0 0] 52)
  obtain ⟨b2, hbd2⟩ : ∃ b2, b2 = w3.heap.size := ⟨_, rfl⟩
  rw [← hbd2] at hm2 hap ⊢
  have HT := Hid.mk (Two.mk (k := 0) hm1 hm2 hap (by simp))
  have HL := Hid.mk h.1
  have HS := Hid.mk hsum
  clear hbd2 hsum hm hm1 hm2 hap
  go_wp2
  go_loopw [6, 15] (fun _ i wr => ∃ (k : Nat) (v v2 : Value) (dn ws : List Ch), k ≤ len ∧ i = .int .i64 k ∧ Two w wr b b2 k v v2 dn ws) (fun _ i _ => len - (intOf i).toNat)
  case atStart => exact ⟨0, _, _, _, _, Nat.zero_le _, rfl, HT.out⟩
  case round =>
    obtain ⟨k, v, v2, dn, ws, hk, rfl, ht⟩ := hrel
    clear HT
    by_cases hlt : k < len
    · obtain ⟨g, off, rfl, hat⟩ := h.at_ k hlt
      obtain ⟨c, c0, c1, c2, c3, c4, hcs, -, -, -⟩ := round_facts hat HL.out ht.d.below HS.out k hlt
      have HK := Hid.mk hlt
      have hlen := ht.len
      have hfl := flt_length ws
      obtain ⟨q, ar', s, kp, pt⟩ := c
      dsimp only at c0 c1 c2 c3 c4 hcs
      clear hat
      by_cases q3 : q = 3
      · subst q3
        have hA := ht.d.alloc (.cells #[.int .i64 3, .int .i64 ar', .string s, .int .i64 1048576, .int .i64 pt] 32)
        have oA := ht.o.alloc (.cells #[.int .i64 3, .int .i64 ar', .string s, .int .i64 1048576, .int .i64 pt] 32)
        go_wp2_with fail
        refine (does_any ⟨3, ar', s, 1048576, pt⟩ hA.has (by dsimp only; omega) (by omega)).mono ?_
        rintro e w4 ⟨rfl, v4, h4, hw4⟩
        have d4 := hA.step h4 hw4
        have o4 := oA.other hA ht.ap.symm hw4
        have ap4 := ht.ap.symm.step oA.has hw4
        have bx := box_cells ht.d hw4
        have x0 : w4.cell? ⟨wr.heap.size, 0, none⟩ = some (.int .i64 3) := by simp [World.cell?, bx]
        have x1 : w4.cell? ⟨wr.heap.size, 1, none⟩ = some (.int .i64 ar') := by simp [World.cell?, bx]
        have x2 : w4.cell? ⟨wr.heap.size, 2, none⟩ = some (.string s) := by simp [World.cell?, bx]
        have x3 : w4.cell? ⟨wr.heap.size, 3, none⟩ = some (.int .i64 1048576) := by simp [World.cell?, bx]
        have x4 : w4.cell? ⟨wr.heap.size, 4, none⟩ = some (.int .i64 pt) := by simp [World.cell?, bx]
        have HB := Hid.mk (apart_both ⟨3, ar', s, 1048576, pt⟩ dn ws (fun _ => rfl) (by omega) (.inl (show (1 : Int) < 3 by decide)))
        have HN := Hid.mk (step_ws ⟨3, ar', s, 1048576, pt⟩ dn ws)
        clear ht hA oA h4 hw4 bx c0 c1 c2 c3 c4
        go_wp2_with fail
        refine (does_any ⟨3, ar', s, 1048576, pt⟩ o4.has (by dsimp only; omega) (by omega)).mono ?_
        rintro e w5 ⟨rfl, v5, h5, hw5⟩
        have o5 := o4.step h5 hw5
        have d5 := d4.other o4 ap4.symm hw5
        have ap5 := ap4.symm.step d4.has hw5
        rw [← HB.out.1, ← HB.out.2] at o5
        have HT := Hid.mk (Two.mk (k := k + 1) d5 o5 ap5 (by have := HN.out; omega))
        clear o5 d5 ap5 h5 hw5 o4 d4 ap4 HB HN x0 x1 x2 x3 x4
        go_wp2
        go_roundw
        case rel => exact ⟨k + 1, _, _, _, _, HK.out, by go_num, HT.out⟩
        case measure =>
          have := HK.out
          simp [intOf]
          omega
      · have hA := ht.d.alloc (.cells #[.int .i64 q, .int .i64 ar', .string s, .int .i64 kp, .int .i64 pt] 32)
        have oA := ht.o.alloc (.cells #[.int .i64 q, .int .i64 ar', .string s, .int .i64 kp, .int .i64 pt] 32)
        have z3 : (q == 3) = false := by simp [q3]
        go_wp2_with fail
        refine (does_any ⟨q, ar', s, kp, pt⟩ hA.has (by dsimp only; omega) (by omega)).mono ?_
        rintro e w4 ⟨rfl, v4, h4, hw4⟩
        have d4 := hA.step h4 hw4
        have o4 := oA.other hA ht.ap.symm hw4
        have ap4 := ht.ap.symm.step oA.has hw4
        have bx := box_cells ht.d hw4
        have x0 : w4.cell? ⟨wr.heap.size, 0, none⟩ = some (.int .i64 q) := by simp [World.cell?, bx]
        have x1 : w4.cell? ⟨wr.heap.size, 1, none⟩ = some (.int .i64 ar') := by simp [World.cell?, bx]
        have x2 : w4.cell? ⟨wr.heap.size, 2, none⟩ = some (.string s) := by simp [World.cell?, bx]
        have x3 : w4.cell? ⟨wr.heap.size, 3, none⟩ = some (.int .i64 kp) := by simp [World.cell?, bx]
        have x4 : w4.cell? ⟨wr.heap.size, 4, none⟩ = some (.int .i64 pt) := by simp [World.cell?, bx]
        have HN := Hid.mk (step_ws ⟨q, ar', s, kp, pt⟩ dn ws)
        clear ht hA oA h4 hw4 bx c0 c1 c2 c3 c4
        by_cases hboth : 1 < q ∨ ar' = 0
        · have HB := Hid.mk (apart_both ⟨q, ar', s, kp, pt⟩ dn ws (fun e => absurd e q3) (by omega) hboth)
          by_cases hq : 1 < q
          · go_wp2_with fail
            refine (does_any ⟨q, ar', s, kp, pt⟩ o4.has (by dsimp only; omega) (by omega)).mono ?_
            rintro e w5 ⟨rfl, v5, h5, hw5⟩
            have o5 := o4.step h5 hw5
            have d5 := d4.other o4 ap4.symm hw5
            have ap5 := ap4.symm.step d4.has hw5
            rw [← HB.out.1, ← HB.out.2] at o5
            have HT := Hid.mk (Two.mk (k := k + 1) d5 o5 ap5 (by have := HN.out; omega))
            clear o5 d5 ap5 h5 hw5 o4 d4 ap4 HB HN x0 x1 x2 x3 x4
            go_wp2
            go_roundw
            case rel => exact ⟨k + 1, _, _, _, _, HK.out, by go_num, HT.out⟩
            case measure =>
              have := HK.out
              simp [intOf]
              omega
          · have ha0 : ar' = 0 := hboth.resolve_left hq
            subst ha0
            go_wp2_with fail
            refine (does_any ⟨q, 0, s, kp, pt⟩ o4.has (by dsimp only; omega) (by omega)).mono ?_
            rintro e w5 ⟨rfl, v5, h5, hw5⟩
            have o5 := o4.step h5 hw5
            have d5 := d4.other o4 ap4.symm hw5
            have ap5 := ap4.symm.step d4.has hw5
            rw [← HB.out.1, ← HB.out.2] at o5
            have HT := Hid.mk (Two.mk (k := k + 1) d5 o5 ap5 (by have := HN.out; omega))
            clear o5 d5 ap5 h5 hw5 o4 d4 ap4 HB HN x0 x1 x2 x3 x4
            go_wp2
            go_roundw
            case rel => exact ⟨k + 1, _, _, _, _, HK.out, by go_num, HT.out⟩
            case measure =>
              have := HK.out
              simp [intOf]
              omega
        · have hq : ¬ 1 < q := fun e => hboth (.inl e)
          have ha0 : ar' ≠ 0 := fun e => hboth (.inr e)
          have za : (ar' == 0) = false := by simp [ha0]
          have HB := Hid.mk (apart_one ⟨q, ar', s, kp, pt⟩ dn ws hq ha0)
          have o5 := o4
          rw [← HB.out.1, ← HB.out.2] at o5
          have HT := Hid.mk (Two.mk (k := k + 1) d4 o5 ap4.symm (by have := HN.out; omega))
          clear o5 o4 d4 ap4 HB HN
          go_wp2
          go_roundw
          case rel => exact ⟨k + 1, _, _, _, _, HK.out, by go_num, HT.out⟩
          case measure =>
            have := HK.out
            simp [intOf]
            omega
    · have e1 : txt false (flt dn ++ flt ws) = txt false (dn ++ ws) := by rw [← flt_append, txt_flt]
      have e2 : txt true (flt dn ++ flt ws) = ⟨#[]⟩ := by rw [← flt_append, txt_other]
      have e3 : txt false (flt dn) = txt false dn := txt_flt dn
      have E1 := Hid.mk e1
      have E2 := Hid.mk e2
      have E3 := Hid.mk e3
      clear e1 e2 e3
      go_wp2_with fail
      refine (read_yes false ht.d.has).mono ?_
      rintro e w4 ⟨rfl, rfl⟩
      go_wp2_with fail
      refine (read_yes false ht.o.has).mono ?_
      rintro e w5 ⟨rfl, rfl⟩
      rw [E1.out]
      go_wp2_with fail
      refine (safe_yes false ht.d.has).mono ?_
      rintro e w6 ⟨rfl, rfl⟩
      go_wp2_with fail
      refine (safe_yes false ht.o.has).mono ?_
      rintro e w7 ⟨rfl, rfl⟩
      rw [E3.out]
      go_wp2_with fail
      refine (read_yes true ht.o.has).mono ?_
      rintro e w8 ⟨rfl, rfl⟩
      rw [E2.out]
      go_wp2
      go_ret
      exact ⟨rfl, ht.d.below⟩

set_option maxRecDepth 100000 in
theorem lifted (os : Os) (started : os.Started) (H : Type) (enc : TypeId × Value → H) :
    ReturnsInHanded {} Try.checked os 7 .any (Rows.diskApartSpec.pre6 enc Try.prog Try.f7 Rows.diskApartRow.domain false) (Rows.diskApartSpec.post enc Try.prog Try.f7 false true false false) := by
  refine returnsInHanded_of_change (C := Try.checked) own started (by kernel_rfl) Try.func7
    (ChangeSpec.witness6 (enc := enc) (C := Try.checked) false ⟨#[], #[.slice none 0 0], []⟩ 8 (by kernel_rfl) (by kernel_rfl) (by kernel_rfl) (by kernel_rfl)) ?_
  intro W base args ds gs before hval0 hW hcnd _
  have hval : ∀ (j : Nat) t v, Try.f7.params[j]? = some t → args[j]? = some v → Value.okWide Try.prog W .any base t v := hval0
  have hW' := hW
  obtain ⟨p, q, hA0, hV, rfl, hfz, hnd⟩ := hW
  have hA : DataW.TrodAll enc Try.prog W 0 (fun _ => true) true Try.f7.params.toList args.toList ds p := hA0
  rw [Try.params7] at hA hval
  obtain ⟨v0, vs0, d0, ds0, p0, q0, hargs, rfl, rfl, h0, r0⟩ := trodAll_cons hA
  obtain ⟨rfl, rfl, rfl⟩ := trodAll_nil r0
  obtain rfl : args = #[v0] := by cases args; simp_all
  obtain ⟨rfl, rfl⟩ := trodVars_none hV
  obtain ⟨a0, len0, cap0, rfl⟩ := okWide_slice Try.underlying22 (hval 0 22 v0 rfl rfl)
  have k0 := h0
  have lt0 : ∀ x ∈ p0, x.block < W.heap.size := by obtain ⟨m, hm⟩ := k0; exact DataW.trod_lt m _ _ _ hm
  obtain ⟨ts0, w0⟩ : ∃ ts, IsCls W a0 len0 cap0 ts := by
    obtain ⟨fuel, hf⟩ := h0
    exact open_cls hf
  clear hA0 hval0
  refine (walk a0 len0 cap0 ts0 W w0).mono fun e W' ⟨he, bel⟩ => ?_
  subst he
  exact ⟨_, rfl, _, _, _, [], _, [], hW', trodAll_mk1 (shut_bool Try.underlying4 _), (trodAll_cons_mk (Below.trod laidOut (by kernel_rfl) (of_decide_eq_true (by kernel_rfl)) k0 bel lt0) trodAll_mk0), rfl, bel.frame _, fun h => by cases h⟩

theorem over : Rows.diskApartRow.holds Try.pinned (OpenSpec.ofChange Rows.diskApartSpec) :=
  OpenClaim.holds_of_wide 7 Try.f7 rfl rfl rfl rfl rfl rfl rfl ⟨rfl, rfl, rfl, rfl, rfl⟩ rfl rfl rfl rfl rfl (by kernel_rfl) Try.func7 (by kernel_rfl)
    (of_decide_eq_true (by kernel_rfl)) (by unfold Func.isWrapper; first | (rw [if_pos (by decide +kernel)]; kernel_rfl) | (rw [if_neg (by decide +kernel)]; exact ⟨rfl, rfl⟩))
    (fun os started H enc _ => lifted os started H enc)

end Go.Proofs.Ytofnnoghnmhlnaa.diskApart

namespace Go.Proofs.Ytofnnoghnmhlnaa
/-- The statement. -/
theorem apart_holds : Rows.DiskApartSaid := diskApart.over
#print axioms apart_holds
end Go.Proofs.Ytofnnoghnmhlnaa
