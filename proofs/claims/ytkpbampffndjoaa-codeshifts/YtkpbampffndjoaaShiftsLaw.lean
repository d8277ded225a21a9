/-
  CodeShifts: for every program and numbers r and n the law returns true: with a Const ahead of it, and all places one further, a program that can be can be, too, and has as many blocks. No condition.
-/
import Derived.Test.YtkpbampffndjoaaCApp
namespace Go.Proofs.Ytkpbampffndjoaa.codeShifts
open Go.ChangeShapes Go.WideShapes Go.ChangeAt Go.RowKit Go.Deep
open Go.ChangeMaps (open_string shut_string)

set_option maxHeartbeats 3200000 in
set_option maxRecDepth 100000 in
theorem walk (a : Option Addr) (len cap : Nat) (ps : List Ins) (r n : Int) (w : World) (hp : IsIns w a len cap ps) (_hw : Wf ps) (_w1 : (Lit.int .i64 r).wf = true) (_w2 : (Lit.int .i64 n).wf = true) :
    Calls Try.prog 7 #[.slice a len cap, .int .i64 r, .int .i64 n] w fun e w' => e = .returned (.bool true) ∧ Below w.heap.size w w' := by
  clear _hw _w1 _w2
  have HP := Hid.mk hp
  have HL := Hid.mk hp.1
  clear hp
  go_enter Try.func7, Try.ntmps7
  go_wp2_with fail
  refine (alive_any w).mono ?_
  rintro e w1 ⟨rfl, hb1⟩
  go_wp2_with fail
  refine (check_any (HP.out.carry hb1)).mono ?_
  rintro e w2 ⟨i, er, rfl, hc, hb2⟩
  have hb : Below w.heap.size w w2 := hb1.trans (hb2.mono hb1.size)
  clear hb1 hb2
  by_cases he : er = 0
  · subst he
    have F := hc.fine
    have HF := Hid.mk F
    have hl48 : len ≤ 48 := by have := F.len; rw [HL.out] at this; exact this
    clear F hc
    by_cases hl : len > 47
    · have z : decide ((len : Int) > 47) = true := by simp; omega
      go_wp2
      go_ret
      exact ⟨rfl, hb⟩
    have zl : decide ((len : Int) > 47) = false := by simp; omega
    by_cases h0 : r < 0
    · have z : decide (r < 0) = true := by simpa using h0
      go_wp2
      go_ret
      exact ⟨rfl, hb⟩
    have z0 : decide (r < 0) = false := by simpa using h0
    by_cases h3 : r > 3
    · have z : decide (r > 3) = true := by simpa using h3
      go_wp2
      go_ret
      exact ⟨rfl, hb⟩
    have z3 : decide (r > 3) = false := by simpa using h3
    have HR0 := Hid.mk h0
    have HR3 := Hid.mk h3
    go_wp2
    go_loopw [9, 11, 42] (fun v _x idx wr => ∃ k : Nat, k ≤ len ∧ idx = .int .i64 k ∧ wr.ownsRow w.heap.size 31 4 v (k + 1) (insC (⟨1, r, n, 0⟩ :: mv 1 ps 0 k)) ∧ Below w.heap.size w wr) (fun _ _ idx _ => len - (intOf idx).toNat)
    case atStart =>
      refine ⟨0, Nat.zero_le _, rfl, ?_, hb.alloc hb.size _⟩
      exact ⟨rfl, .inr ⟨_, _, _, rfl, hb.size, heap_alloc_at _ _, Nat.le_refl _, by decide, rfl, rfl⟩⟩
    case round =>
      obtain ⟨k, hk, rfl, hown, hbr⟩ := hrel
      have HO := Hid.mk hown
      clear hown
      by_cases hlt : k < len
      · obtain ⟨g, off, hae, hat⟩ := (HP.out.carry hbr).at_ (by omega)
        have hkt : k < ps.length := by rw [HL.out]; exact hlt
        have c0 := hat.op k hkt
        have c1 := hat.a k hkt
        have c2 := hat.b k hkt
        have c3 := hat.c k hkt
        have hpl := HF.out.leads hkt
        have hms := mv_succ (d := 1) (ps := ps) (t := 0) (j := k) (by omega)
        rw [Nat.zero_add] at hms
        obtain ⟨x, hx⟩ : ∃ x, x = ps[k]! := ⟨_, rfl⟩
        rw [← hx] at c0 c1 c2 c3 hpl hms
        obtain ⟨op, xa, xb, xc⟩ := x
        dsimp only at c0 c1 c2 c3 hpl
        have HMS := Hid.mk hms
        have HPL := Hid.mk hpl
        have HLT := Hid.mk hlt
        clear hx hat hkt hpl hms
        subst hae
        by_cases h3 : op = 3
        · subst h3
          obtain ⟨A, rfl, hA1, hA2, _⟩ := HPL.out (.inl rfl)
          have hA48 : A ≤ 48 := by have := HL.out; omega
          clear HPL
          go_wp2_with (at_builtin; refine wpList_append_ins _ rfl (.tmp 58) (.tmp 60) rfl w.heap.size _ (k + 1) (⟨1, r, n, 0⟩ :: mv 1 ps 0 k) rfl ((HO.out.alloc _).alloc _) ⟨3, (A : Int) + 1, xb, xc⟩ _ rfl (heap_alloc2 _ _ _) (by omega) (by have := hbr.size; simp; omega) ?_; intro v3 w3 hown3 hg3)
          go_wp2
          go_roundw
          case rel =>
            refine ⟨k + 1, HLT.out, by go_num, ?_, ((hbr.alloc hbr.size _).alloc (by have := hbr.size; simp; omega) _).grown hg3 (by have := hbr.size; simp; omega) (fun q e => (HO.out.lt q e).1)⟩
            rw [HMS.out, sh1_yes (.inl rfl)]
            exact hown3
          case measure => have := HLT.out; simp [intOf]; omega
        by_cases h20 : op = 20
        · subst h20
          obtain ⟨A, rfl, hA1, hA2, _⟩ := HPL.out (.inr rfl)
          have hA48 : A ≤ 48 := by have := HL.out; omega
          clear HPL
          go_wp2_with (at_builtin; refine wpList_append_ins _ rfl (.tmp 58) (.tmp 60) rfl w.heap.size _ (k + 1) (⟨1, r, n, 0⟩ :: mv 1 ps 0 k) rfl ((HO.out.alloc _).alloc _) ⟨20, (A : Int) + 1, xb, xc⟩ _ rfl (heap_alloc2 _ _ _) (by omega) (by have := hbr.size; simp; omega) ?_; intro v3 w3 hown3 hg3)
          go_wp2
          go_roundw
          case rel =>
            refine ⟨k + 1, HLT.out, by go_num, ?_, ((hbr.alloc hbr.size _).alloc (by have := hbr.size; simp; omega) _).grown hg3 (by have := hbr.size; simp; omega) (fun q e => (HO.out.lt q e).1)⟩
            rw [HMS.out, sh1_yes (.inr rfl)]
            exact hown3
          case measure => have := HLT.out; simp [intOf]; omega
        have z3 : (op == 3) = false := by simpa using h3
        have z20 : (op == 20) = false := by simpa using h20
        go_wp2_with (at_builtin; refine wpList_append_ins _ rfl (.tmp 58) (.tmp 60) rfl w.heap.size _ (k + 1) (⟨1, r, n, 0⟩ :: mv 1 ps 0 k) rfl ((HO.out.alloc _).alloc _) ⟨op, xa, xb, xc⟩ _ rfl (heap_alloc2 _ _ _) (by omega) (by have := hbr.size; simp; omega) ?_; intro v3 w3 hown3 hg3)
        go_wp2
        go_roundw
        case rel =>
          refine ⟨k + 1, HLT.out, by go_num, ?_, ((hbr.alloc hbr.size _).alloc (by have := hbr.size; simp; omega) _).grown hg3 (by have := hbr.size; simp; omega) (fun q e => (HO.out.lt q e).1)⟩
          rw [HMS.out, sh1_no (fun e => by rcases e with e | e; exact h3 e; exact h20 e)]
          exact hown3
        case measure => have := HLT.out; simp [intOf]; omega
      · obtain rfl : k = len := by omega
        have hfs := fine_shift HF.out (by rw [HL.out]; omega) (r := r) (n := n) (by have := HR0.out; omega) (by have := HR3.out; omega)
        rw [HL.out] at hfs
        obtain ⟨hf, hbq⟩ := hfs
        obtain ⟨a3, cap3, rfl, hi3⟩ := isIns_row HO.out
        have HI3 := Hid.mk hi3
        have HFS := Hid.mk hf
        have HBQ := Hid.mk hbq
        have HB := Hid.mk hbr
        clear hi3 hf hbq hbr
        go_wp2_with fail
        refine (check_any HI3.out).mono ?_
        rintro e w4 ⟨i4, e4, rfl, hc4, hb4⟩
        obtain ⟨rfl, rfl⟩ := hc4.one (.inr (.inr (.inr ⟨HFS.out.len, HFS.out.sh, HFS.out.all, rfl, rfl⟩)))
        have HI4 := Hid.mk (HI3.out.carry hb4)
        have HB4 := Hid.mk (HB.out.trans (hb4.mono HB.out.size))
        clear hb4 hc4
        go_wp2_with fail
        refine (blocks_any HI4.out (by omega)).mono ?_
        rintro e w5 ⟨rfl, hb5⟩
        have HB5 := Hid.mk (HB4.out.trans (hb5.mono HB4.out.size))
        rw [HBQ.out]
        clear hb5
        go_wp2_with fail
        refine (blocks_any (HP.out.carry HB5.out) (by omega)).mono ?_
        rintro e w6 ⟨rfl, hb6⟩
        have HB6 := Hid.mk (HB5.out.trans (hb6.mono HB5.out.size))
        clear hb6
        go_wp2
        go_ret
        exact ⟨rfl, HB6.out⟩
  · have z : (er != 0) = true := by simpa using he
    clear hc
    go_wp2
    go_ret
    exact ⟨rfl, hb⟩

set_option maxRecDepth 100000 in
theorem lifted (os : Os) (started : os.Started) (H : Type) (enc : TypeId × Value → H) :
    ReturnsInHanded {} Try.checked os 7 .any (Rows.codeShiftsSpec.pre6 enc Try.prog Try.f7 Rows.codeShiftsRow.domain false) (Rows.codeShiftsSpec.post enc Try.prog Try.f7 false true false false) := by
  refine returnsInHanded_of_change (C := Try.checked) own started (by kernel_rfl) Try.func7
    (ChangeSpec.witness6 (enc := enc) (C := Try.checked) false ⟨#[], #[.slice none 0 0, .int .i64 0, .int .i64 0], []⟩ 8 (by kernel_rfl) (by kernel_rfl) (by kernel_rfl) (by kernel_rfl)) ?_
  intro W base args ds gs before hval0 hW hcnd _
  have hval : ∀ (j : Nat) t v, Try.f7.params[j]? = some t → args[j]? = some v → Value.okWide Try.prog W .any base t v := hval0
  have hW' := hW
  obtain ⟨p, q, hA0, hV, rfl, hfz, hnd⟩ := hW
  have hA : DataW.TrodAll enc Try.prog W 0 (fun _ => true) true Try.f7.params.toList args.toList ds p := hA0
  rw [Try.params7] at hA hval
  obtain ⟨v0, vs0, d0, ds0, p0, q0, hargs, rfl, rfl, h0, r0⟩ := trodAll_cons hA
  obtain ⟨v1, vs1, d1, ds1, p1, q1, rfl, rfl, rfl, h1, r1⟩ := trodAll_cons r0
  obtain ⟨v2, vs2, d2, ds2, p2, q2, rfl, rfl, rfl, h2, r2⟩ := trodAll_cons r1
  obtain ⟨rfl, rfl, rfl⟩ := trodAll_nil r2
  obtain rfl : args = #[v0, v1, v2] := by cases args; simp_all
  obtain ⟨rfl, rfl⟩ := trodVars_none hV
  obtain ⟨a0, len0, cap0, rfl⟩ := okWide_slice Try.underlying22 (hval 0 22 v0 rfl rfl)
  have k0 := h0
  have lt0 : ∀ x ∈ p0, x.block < W.heap.size := by obtain ⟨m, hm⟩ := k0; exact DataW.trod_lt m _ _ _ hm
  obtain ⟨ts0, w0, f0⟩ : ∃ ts, IsIns W a0 len0 cap0 ts ∧ Wf ts := by
    obtain ⟨fuel, hf⟩ := h0
    exact open_ins hf
  obtain ⟨a1, rfl, rfl, rfl, w1⟩ := open_int Try.underlying3 (hval 1 3 v1 rfl rfl) h1
  obtain ⟨a2, rfl, rfl, rfl, w2⟩ := open_int Try.underlying3 (hval 2 3 v2 rfl rfl) h2
  clear hA0 hval0
  refine (walk a0 len0 cap0 ts0 a1 a2 W w0 f0 w1 w2).mono fun e W' ⟨he, bel⟩ => ?_
  subst he
  exact ⟨_, rfl, _, _, _, [], _, [], hW', trodAll_mk1 (shut_bool Try.underlying4 _), (trodAll_cons_mk (Below.trod laidOut (by kernel_rfl) (of_decide_eq_true (by kernel_rfl)) k0 bel lt0) (trodAll_cons_mk (shut_int Try.underlying3 w1) (trodAll_cons_mk (shut_int Try.underlying3 w2) trodAll_mk0))), rfl, bel.frame _, fun h => by cases h⟩

set_option maxRecDepth 100000 in
theorem over : Rows.codeShiftsRow.holds Try.pinned (OpenSpec.ofChange Rows.codeShiftsSpec) :=
  OpenClaim.holds_of_wide 7 Try.f7 rfl rfl rfl rfl rfl rfl rfl ⟨rfl, rfl, rfl, rfl, rfl⟩ rfl rfl rfl rfl rfl (by kernel_rfl) Try.func7 (by kernel_rfl)
    (of_decide_eq_true (by kernel_rfl)) (by unfold Func.isWrapper; first | (rw [if_pos (by decide +kernel)]; kernel_rfl) | (rw [if_neg (by decide +kernel)]; exact ⟨rfl, rfl⟩))
    (fun os started H enc _ => lifted os started H enc)

end Go.Proofs.Ytkpbampffndjoaa.codeShifts

namespace Go.Proofs.Ytkpbampffndjoaa
/-- The statement. -/
theorem codeShifts_holds : Rows.CodeShiftsSaid := codeShifts.over
#print axioms codeShifts_holds
end Go.Proofs.Ytkpbampffndjoaa
