/-
  CodeInev: for every program the law returns true: behind an Inev nothing of a program that can be waits, or goes another way, and no block has more than three other ways. No condition.
-/
import Derived.Test.YtkpbampffndjoaaCAlive
namespace Go.Proofs.Ytkpbampffndjoaa.codeInev
open Go.ChangeShapes Go.WideShapes Go.ChangeAt Go.RowKit Go.Deep
open Go.ChangeMaps (open_string shut_string)

theorem lets_sure {E : Nat} {S : Bool} {op : Int} (h : letsB E S op = true) (ho : op = 14 ∨ op = 19 ∨ op = 20 ∨ op = 21) : S = false := by
  unfold letsB at h
  rcases ho with rfl | rfl | rfl | rfl <;> simp at h
  · exact h
  · exact h
  · exact h.1
  · exact h
theorem lets_else {E : Nat} {S : Bool} {op : Int} (h : letsB E S op = true) (ho : op = 20) : E + 1 ≤ 3 := by
  subst ho
  simp [letsB] at h
  omega

set_option maxHeartbeats 3200000 in
set_option maxRecDepth 100000 in
theorem walk (a : Option Addr) (len cap : Nat) (ps : List Ins) (w : World) (hp : IsIns w a len cap ps) (_hw : Wf ps) :
    Calls Try.prog 6 #[.slice a len cap] w fun e w' => e = .returned (.bool true) ∧ Below w.heap.size w w' := by
  clear _hw
  have HP := Hid.mk hp
  have HL := Hid.mk hp.1
  clear hp
  go_enter Try.func6, Try.ntmps6
  go_wp2_with fail
  refine (alive_any w).mono ?_
  rintro e w1 ⟨rfl, hb1⟩
  go_wp2_with fail
  refine (check_any (HP.out.carry hb1)).mono ?_
  rintro e w2 ⟨i, er, rfl, hc, hb2⟩
  have hb : Below w.heap.size w w2 := hb1.trans (hb2.mono hb1.size)
  clear hb1 hb2
  by_cases he : er = 0
  · subst he
    have F := hc.fine
    have HF := Hid.mk F
    have hl48 : len ≤ 48 := by have := F.len; rw [HL.out] at this; exact this
    clear F hc
    go_wp2
    go_loopw [5, 6, 8, 20] (fun su wy _x idx wr => ∃ k : Nat, k ≤ len ∧ idx = .int .i64 k ∧ su = .bool (suB ps k) ∧ wy = .int .i64 (elB ps k : Nat) ∧ elB ps k ≤ 3 ∧ Below w.heap.size w wr) (fun _ _ _ idx _ => len - (intOf idx).toNat)
    case atStart => exact ⟨0, Nat.zero_le _, rfl, rfl, rfl, Nat.zero_le _, hb⟩
    case round =>
      obtain ⟨k, hk, rfl, rfl, rfl, hE3, hbr⟩ := hrel
      by_cases hlt : k < len
      · obtain ⟨g, off, hae, hat⟩ := (HP.out.carry hbr).at_ (by omega)
        subst hae
        have hkt : k < ps.length := by rw [HL.out]; exact hlt
        have c0 := hat.op k hkt
        have c1 := hat.a k hkt
        have c2 := hat.b k hkt
        have c3 := hat.c k hkt
        have hlets := (oneB_parts (HF.out.one k hkt)).2.2.1
        have n1 : elB ps (k + 1) = nextE (elB ps k) ps[k]!.op := rfl
        have n2 : suB ps (k + 1) = nextS (suB ps k) ps[k]!.op := rfl
        obtain ⟨x, hx⟩ : ∃ x, x = ps[k]! := ⟨_, rfl⟩
        rw [← hx] at c0 c1 c2 c3 hlets n1 n2
        obtain ⟨op, xa, xb, xc⟩ := x
        dsimp only at c0 c1 c2 c3 hlets n1 n2
        obtain ⟨E, hE⟩ : ∃ E, E = elB ps k := ⟨_, rfl⟩
        obtain ⟨S, hS⟩ : ∃ S, S = suB ps k := ⟨_, rfl⟩
        rw [← hE, ← hS] at hlets
        rw [← hE] at n1 hE3
        rw [← hS] at n2
        rw [← hE, ← hS]
        have N1 := Hid.mk n1
        have N2 := Hid.mk n2
        have HT := Hid.mk hlets
        have HLT := Hid.mk hlt
        clear n1 n2 hlets hE hS hx hat hkt
        by_cases h4 : op = 4
        · subst h4
          have e1 : elB ps (k + 1) = 0 := by rw [N1.out]; rfl
          have e2 : suB ps (k + 1) = false := by rw [N2.out]; rfl
          have E1 := Hid.mk e1
          have E2 := Hid.mk e2
          clear e1 e2
          go_wp2
          go_roundw
          case rel => exact ⟨k + 1, HLT.out, by go_num, by rw [E2.out], by rw [E1.out]; rfl, by rw [E1.out]; omega, hbr.alloc hbr.size _⟩
          case measure => have := HLT.out; simp [intOf]; omega
        by_cases h20 : op = 20
        · subst h20
          obtain rfl := lets_sure HT.out (.inr (.inr (.inl rfl)))
          have e0 := lets_else HT.out rfl
          have e1 : elB ps (k + 1) = E + 1 := by rw [N1.out]; rfl
          have e2 : suB ps (k + 1) = false := by rw [N2.out]; rfl
          have E1 := Hid.mk e1
          have E2 := Hid.mk e2
          clear e1 e2
          go_wp2
          go_roundw
          case rel => exact ⟨k + 1, HLT.out, by go_num, by rw [E2.out], by rw [E1.out]; go_num, by rw [E1.out]; omega, hbr.alloc hbr.size _⟩
          case measure => have := HLT.out; simp [intOf]; omega
        have e1 : elB ps (k + 1) = E := by rw [N1.out]; unfold nextE; rw [if_neg h4, if_neg h20]
        have E1 := Hid.mk e1
        clear e1
        by_cases h21 : op = 21
        · subst h21
          obtain rfl := lets_sure HT.out (.inr (.inr (.inr rfl)))
          have e2 : suB ps (k + 1) = true := by rw [N2.out]; rfl
          have E2 := Hid.mk e2
          clear e2
          go_wp2
          go_roundw
          case rel => exact ⟨k + 1, HLT.out, by go_num, by rw [E2.out], by rw [E1.out], by rw [E1.out]; omega, hbr.alloc hbr.size _⟩
          case measure => have := HLT.out; simp [intOf]; omega
        have e2 : suB ps (k + 1) = S := by rw [N2.out]; unfold nextS; rw [if_neg h4, if_neg h21]
        have E2 := Hid.mk e2
        clear e2
        cases S with
        | false =>
          have z21 : (op == 21) = false := by simpa using h21
          go_wp2
          go_roundw
          case rel => exact ⟨k + 1, HLT.out, by go_num, by rw [E2.out], by rw [E1.out], by rw [E1.out]; omega, hbr.alloc hbr.size _⟩
          case measure => have := HLT.out; simp [intOf]; omega
        | true =>
          have h14 : ¬ op = 14 := fun e => by have := lets_sure HT.out (.inl e); cases this
          have h19 : ¬ op = 19 := fun e => by have := lets_sure HT.out (.inr (.inl e)); cases this
          have z14 : (op == 14) = false := by simpa using h14
          have z19 : (op == 19) = false := by simpa using h19
          have z20 : (op == 20) = false := by simpa using h20
          have z21 : (op == 21) = false := by simpa using h21
          go_wp2
          go_roundw
          case rel => exact ⟨k + 1, HLT.out, by go_num, by rw [E2.out], by rw [E1.out], by rw [E1.out]; omega, hbr.alloc hbr.size _⟩
          case measure => have := HLT.out; simp [intOf]; omega
      · go_wp2
        go_ret
        exact ⟨rfl, hbr⟩
  · have z : (er != 0) = true := by simpa using he
    clear hc
    go_wp2
    go_ret
    exact ⟨rfl, hb⟩

set_option maxRecDepth 100000 in
theorem lifted (os : Os) (started : os.Started) (H : Type) (enc : TypeId × Value → H) :
    ReturnsInHanded {} Try.checked os 6 .any (Rows.codeInevSpec.pre6 enc Try.prog Try.f6 Rows.codeInevRow.domain false) (Rows.codeInevSpec.post enc Try.prog Try.f6 false true false false) := by
  refine returnsInHanded_of_change (C := Try.checked) own started (by kernel_rfl) Try.func6
    (ChangeSpec.witness6 (enc := enc) (C := Try.checked) false ⟨#[], #[.slice none 0 0], []⟩ 8 (by kernel_rfl) (by kernel_rfl) (by kernel_rfl) (by kernel_rfl)) ?_
  intro W base args ds gs before hval0 hW hcnd _
  have hval : ∀ (j : Nat) t v, Try.f6.params[j]? = some t → args[j]? = some v → Value.okWide Try.prog W .any base t v := hval0
  have hW' := hW
  obtain ⟨p, q, hA0, hV, rfl, hfz, hnd⟩ := hW
  have hA : DataW.TrodAll enc Try.prog W 0 (fun _ => true) true Try.f6.params.toList args.toList ds p := hA0
  rw [Try.params6] at hA hval
  obtain ⟨v0, vs0, d0, ds0, p0, q0, hargs, rfl, rfl, h0, r0⟩ := trodAll_cons hA
  obtain ⟨rfl, rfl, rfl⟩ := trodAll_nil r0
  obtain rfl : args = #[v0] := by cases args; simp_all
  obtain ⟨rfl, rfl⟩ := trodVars_none hV
  obtain ⟨a0, len0, cap0, rfl⟩ := okWide_slice Try.underlying22 (hval 0 22 v0 rfl rfl)
  have k0 := h0
  have lt0 : ∀ x ∈ p0, x.block < W.heap.size := by obtain ⟨m, hm⟩ := k0; exact DataW.trod_lt m _ _ _ hm
  obtain ⟨ts0, w0, f0⟩ : ∃ ts, IsIns W a0 len0 cap0 ts ∧ Wf ts := by
    obtain ⟨fuel, hf⟩ := h0
    exact open_ins hf
  clear hA0 hval0
  refine (walk a0 len0 cap0 ts0 W w0 f0).mono fun e W' ⟨he, bel⟩ => ?_
  subst he
  exact ⟨_, rfl, _, _, _, [], _, [], hW', trodAll_mk1 (shut_bool Try.underlying4 _), (trodAll_cons_mk (Below.trod laidOut (by kernel_rfl) (of_decide_eq_true (by kernel_rfl)) k0 bel lt0) trodAll_mk0), rfl, bel.frame _, fun h => by cases h⟩

set_option maxRecDepth 100000 in
theorem over : Rows.codeInevRow.holds Try.pinned (OpenSpec.ofChange Rows.codeInevSpec) :=
  OpenClaim.holds_of_wide 6 Try.f6 rfl rfl rfl rfl rfl rfl rfl ⟨rfl, rfl, rfl, rfl, rfl⟩ rfl rfl rfl rfl rfl (by kernel_rfl) Try.func6 (by kernel_rfl)
    (of_decide_eq_true (by kernel_rfl)) (by unfold Func.isWrapper; first | (rw [if_pos (by decide +kernel)]; kernel_rfl) | (rw [if_neg (by decide +kernel)]; exact ⟨rfl, rfl⟩))
    (fun os started H enc _ => lifted os started H enc)

end Go.Proofs.Ytkpbampffndjoaa.codeInev

namespace Go.Proofs.Ytkpbampffndjoaa
/-- The statement. -/
theorem codeInev_holds : Rows.CodeInevSaid := codeInev.over
#print axioms codeInev_holds
end Go.Proofs.Ytkpbampffndjoaa
