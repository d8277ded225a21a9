/-
  CodeChecks: for every program the law returns true: Check answers what the document says, and Blocks counts the Begins. No condition.
-/
import Derived.Test.YtkpbampffndjoaaCRefC
namespace Go.Proofs.Ytkpbampffndjoaa.codeChecks
open Go.ChangeShapes Go.WideShapes Go.ChangeAt Go.RowKit Go.Deep
open Go.ChangeMaps (open_string shut_string)

set_option maxHeartbeats 3200000 in
set_option maxRecDepth 100000 in
theorem walk (a : Option Addr) (len cap : Nat) (ps : List Ins) (w : World) (hp : IsIns w a len cap ps) (hwf : Wf ps) :
    Calls Try.prog 3 #[.slice a len cap] w fun e w' => e = .returned (.bool true) ∧ Below w.heap.size w w' := by
  have HP := Hid.mk hp
  have HL := Hid.mk hp.1
  have HW := Hid.mk hwf
  clear hp hwf
  go_enter Try.func3, Try.ntmps3
  go_wp2_with fail
  refine (alive_any w).mono ?_
  rintro e w1 ⟨rfl, hb1⟩
  by_cases hl : len > 100
  · have z : decide ((len : Int) > 100) = true := by simp; omega
    go_wp2
    go_ret
    exact ⟨rfl, hb1⟩
  have z : decide ((len : Int) > 100) = false := by simp; omega
  have hl100 : len ≤ 100 := by omega
  clear hl
  go_wp2_with fail
  refine (check_any (HP.out.carry hb1)).mono ?_
  rintro e w2 ⟨i, er, rfl, hc, hb2⟩
  have hb : Below w.heap.size w w2 := hb1.trans (hb2.mono hb1.size)
  clear hb1 hb2
  go_wp2_with fail
  refine (refCheck_any (HP.out.carry hb) HW.out hl100).mono ?_
  rintro e w3 ⟨i', er', rfl, hc', hb3⟩
  have hb4 : Below w.heap.size w w3 := hb.trans (hb3.mono hb.size)
  obtain ⟨rfl, rfl⟩ := hc.one hc'
  clear hb3 hb hc hc'
  go_wp2
  go_loopw [7, 9, 27] (fun nv _x idx wr => ∃ k : Nat, k ≤ len ∧ idx = .int .i64 k ∧ nv = .int .i64 (bg ps k : Nat) ∧ Below w.heap.size w wr) (fun _ _ idx _ => len - (intOf idx).toNat)
  case atStart => exact ⟨0, Nat.zero_le _, rfl, rfl, hb4⟩
  case round =>
    obtain ⟨k, hk, rfl, rfl, hbr⟩ := hrel
    have hB := bg_le ps k
    by_cases hlt : k < len
    · obtain ⟨g, off, hae, hat⟩ := (HP.out.carry hbr).at_ (by omega)
      subst hae
      have hkt : k < ps.length := by rw [HL.out]; exact hlt
      have c0 := hat.op k hkt
      have c1 := hat.a k hkt
      have c2 := hat.b k hkt
      have c3 := hat.c k hkt
      have nb : bg ps (k + 1) = bg ps k + if ps[k]!.op = 4 then 1 else 0 := rfl
      obtain ⟨x, hx⟩ : ∃ x, x = ps[k]! := ⟨_, rfl⟩
      rw [← hx] at c0 c1 c2 c3 nb
      obtain ⟨op, xa, xb, xc⟩ := x
      dsimp only at c0 c1 c2 c3 nb
      obtain ⟨N, hN⟩ : ∃ N, N = bg ps k := ⟨_, rfl⟩
      rw [← hN] at nb hB
      rw [← hN]
      have NB := Hid.mk nb
      have HLT := Hid.mk hlt
      clear hx hat hkt nb hN
      by_cases h4 : op = 4
      · subst h4
        go_wp2
        go_roundw
        case rel => exact ⟨k + 1, HLT.out, by go_num, by rw [NB.out]; go_num, hbr.alloc hbr.size _⟩
        case measure => have := HLT.out; simp [intOf]; omega
      have z4 : (op == 4) = false := by simpa using h4
      go_wp2
      go_roundw
      case rel => exact ⟨k + 1, HLT.out, by go_num, by rw [NB.out, if_neg h4]; rfl, hbr.alloc hbr.size _⟩
      case measure => have := HLT.out; simp [intOf]; omega
    · obtain rfl : k = len := by omega
      go_wp2_with fail
      refine (blocks_any (HP.out.carry hbr) hl100).mono ?_
      rintro e w5 ⟨rfl, hb5⟩
      have hb6 : Below w.heap.size w w5 := hbr.trans (hb5.mono hbr.size)
      clear hb5
      go_wp2
      go_ret
      exact ⟨rfl, hb6⟩

set_option maxRecDepth 100000 in
theorem lifted (os : Os) (started : os.Started) (H : Type) (enc : TypeId × Value → H) :
    ReturnsInHanded {} Try.checked os 3 .any (Rows.codeChecksSpec.pre6 enc Try.prog Try.f3 Rows.codeChecksRow.domain false) (Rows.codeChecksSpec.post enc Try.prog Try.f3 false true false false) := by
  refine returnsInHanded_of_change (C := Try.checked) own started (by kernel_rfl) Try.func3
    (ChangeSpec.witness6 (enc := enc) (C := Try.checked) false ⟨#[], #[.slice none 0 0], []⟩ 8 (by kernel_rfl) (by kernel_rfl) (by kernel_rfl) (by kernel_rfl)) ?_
  intro W base args ds gs before hval0 hW hcnd _
  have hval : ∀ (j : Nat) t v, Try.f3.params[j]? = some t → args[j]? = some v → Value.okWide Try.prog W .any base t v := hval0
  have hW' := hW
  obtain ⟨p, q, hA0, hV, rfl, hfz, hnd⟩ := hW
  have hA : DataW.TrodAll enc Try.prog W 0 (fun _ => true) true Try.f3.params.toList args.toList ds p := hA0
  rw [Try.params3] at hA hval
  obtain ⟨v0, vs0, d0, ds0, p0, q0, hargs, rfl, rfl, h0, r0⟩ := trodAll_cons hA
  obtain ⟨rfl, rfl, rfl⟩ := trodAll_nil r0
  obtain rfl : args = #[v0] := by cases args; simp_all
  obtain ⟨rfl, rfl⟩ := trodVars_none hV
  obtain ⟨a0, len0, cap0, rfl⟩ := okWide_slice Try.underlying22 (hval 0 22 v0 rfl rfl)
  have k0 := h0
  have lt0 : ∀ x ∈ p0, x.block < W.heap.size := by obtain ⟨m, hm⟩ := k0; exact DataW.trod_lt m _ _ _ hm
  obtain ⟨ts0, w0, f0⟩ : ∃ ts, IsIns W a0 len0 cap0 ts ∧ Wf ts := by
    obtain ⟨fuel, hf⟩ := h0
    exact open_ins hf
  clear hA0 hval0
  refine (walk a0 len0 cap0 ts0 W w0 f0).mono fun e W' ⟨he, bel⟩ => ?_
  subst he
  exact ⟨_, rfl, _, _, _, [], _, [], hW', trodAll_mk1 (shut_bool Try.underlying4 _), (trodAll_cons_mk (Below.trod laidOut (by kernel_rfl) (of_decide_eq_true (by kernel_rfl)) k0 bel lt0) trodAll_mk0), rfl, bel.frame _, fun h => by cases h⟩

set_option maxRecDepth 100000 in
theorem over : Rows.codeChecksRow.holds Try.pinned (OpenSpec.ofChange Rows.codeChecksSpec) :=
  OpenClaim.holds_of_wide 3 Try.f3 rfl rfl rfl rfl rfl rfl rfl ⟨rfl, rfl, rfl, rfl, rfl⟩ rfl rfl rfl rfl rfl (by kernel_rfl) Try.func3 (by kernel_rfl)
    (of_decide_eq_true (by kernel_rfl)) (by unfold Func.isWrapper; first | (rw [if_pos (by decide +kernel)]; kernel_rfl) | (rw [if_neg (by decide +kernel)]; exact ⟨rfl, rfl⟩))
    (fun os started H enc _ => lifted os started H enc)

end Go.Proofs.Ytkpbampffndjoaa.codeChecks

namespace Go.Proofs.Ytkpbampffndjoaa
/-- The statement. -/
theorem codeChecks_holds : Rows.CodeChecksSaid := codeChecks.over
#print axioms codeChecks_holds
end Go.Proofs.Ytkpbampffndjoaa
