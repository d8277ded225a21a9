/-
  CodeBlocks: for every program and number the law returns true: a block taken out of a program that can be, its places moved along, is a program that can be, too, of one block. No condition.
-/
import Derived.Test.YtkpbampffndjoaaCApp
namespace Go.Proofs.Ytkpbampffndjoaa.codeBlocks
open Go.ChangeShapes Go.WideShapes Go.ChangeAt Go.RowKit Go.Deep
open Go.ChangeMaps (open_string shut_string)

theorem no_next {ps : List Ins} {T j : Nat} {op : Int} (h : ∀ i, i < j → opA ps (T + i) ≠ 5) (he : opA ps (T + j) = op) (h5 : ¬ op = 5) : ∀ i, i < j + 1 → opA ps (T + i) ≠ 5 := by
  intro i hi
  by_cases e : i = j
  · rw [e, he]; exact h5
  · exact h i (by omega)

set_option maxHeartbeats 3200000 in
set_option maxRecDepth 100000 in
theorem walk (a : Option Addr) (len cap : Nat) (ps : List Ins) (t : Int) (w : World) (hp : IsIns w a len cap ps) (_hw : Wf ps) (_w1 : (Lit.int .i64 t).wf = true) :
    Calls Try.prog 5 #[.slice a len cap, .int .i64 t] w fun e w' => e = .returned (.bool true) ∧ Below w.heap.size w w' := by
  clear _hw _w1
  have HP := Hid.mk hp
  have HL := Hid.mk hp.1
  have hlc := hp.2.1
  clear hp
  go_enter Try.func5, Try.ntmps5
  go_wp2_with fail
  refine (alive_any w).mono ?_
  rintro e w1 ⟨rfl, hb1⟩
  go_wp2_with fail
  refine (check_any (HP.out.carry hb1)).mono ?_
  rintro e w2 ⟨i, er, rfl, hc, hb2⟩
  have hb : Below w.heap.size w w2 := hb1.trans (hb2.mono hb1.size)
  clear hb1 hb2
  by_cases he : er = 0
  · subst he
    have F := hc.fine
    have HF := Hid.mk F
    have hl48 : len ≤ 48 := by have := F.len; rw [HL.out] at this; exact this
    clear F hc
    by_cases h0 : t < 0
    · have z : decide (t < 0) = true := by simpa using h0
      go_wp2
      go_ret
      exact ⟨rfl, hb⟩
    obtain ⟨T, rfl⟩ : ∃ T : Nat, t = T := ⟨t.toNat, by omega⟩
    clear h0
    have z0 : decide ((T : Int) < 0) = false := by simp
    by_cases hT : len ≤ T
    · have z : decide ((T : Int) ≥ (len : Int)) = true := by simp; omega
      go_wp2
      go_ret
      exact ⟨rfl, hb⟩
    have zl : decide ((T : Int) ≥ (len : Int)) = false := by simp; omega
    have hTl : T < len := by omega
    clear hT
    obtain ⟨g, off, hae, hat⟩ := (HP.out.carry hb).at_ (by omega)
    have c0 := hat.op T (by rw [HL.out]; exact hTl)
    obtain ⟨y, hy⟩ : ∃ y, y = ps[T]!.op := ⟨_, rfl⟩
    rw [← hy] at c0
    clear hat
    subst hae
    by_cases y4 : y = 4
    · subst y4
      have HY := Hid.mk (show opA ps T = 4 from hy.symm)
      have HTL := Hid.mk hTl
      clear hy
      have q0 : (0 : Int) ≤ (T : Int) := Int.natCast_nonneg _
      have q1 : (T : Int) ≤ (len : Int) := by omega
      have q2 : (len : Int) ≤ (cap : Int) := by omega
      have q3 : ¬ cap = T := by omega
      obtain ⟨D, hD⟩ : ∃ D, len = T + D := ⟨len - T, by omega⟩
      subst hD

      have zl' : decide ((T : Int) + (D : Int) ≤ (T : Int)) = false := by simp; omega
      go_wp2
      clear c0
      go_loopw [7, 9, 43] (fun v _x idx wr => ∃ j : Nat, j ≤ D ∧ idx = .int .i64 j ∧ wr.ownsRow w.heap.size 31 4 v j (insC (mv (-(T : Int)) ps T j)) ∧ (∀ i, i < j → opA ps (T + i) ≠ 5) ∧ Below w.heap.size w wr) (fun _ _ idx _ => D - (intOf idx).toNat)
      case atStart => exact ⟨0, Nat.zero_le _, rfl, ⟨rfl, .inl ⟨rfl, rfl⟩⟩, fun i hi => by omega, hb⟩
      case round =>
        obtain ⟨j, hj, rfl, hown, hno, hbr⟩ := hrel
        have HO := Hid.mk hown
        have HNO := Hid.mk hno
        clear hown hno
        by_cases hlt : j < D
        · obtain ⟨g', off', hae, hat⟩ := (HP.out.carry hbr).at_ (by omega)
          cases hae
          have hkt : T + j < ps.length := by rw [HL.out]; omega
          have ea : off + (T + j) * 4 = off + T * 4 + j * 4 := by omega
          have c0 := hat.op (T + j) hkt
          have c1 := hat.a (T + j) hkt
          have c2 := hat.b (T + j) hkt
          have c3 := hat.c (T + j) hkt
          rw [ea] at c0 c1 c2 c3
          have hpl := HF.out.leads hkt
          have hms := mv_succ (d := -(T : Int)) hkt
          have hop : opA ps (T + j) = ps[T + j]!.op := rfl
          obtain ⟨x, hx⟩ : ∃ x, x = ps[T + j]! := ⟨_, rfl⟩
          rw [← hx] at c0 c1 c2 c3 hpl hms hop
          obtain ⟨op, xa, xb, xc⟩ := x
          dsimp only at c0 c1 c2 c3 hpl hop
          have HMS := Hid.mk hms
          have HPL := Hid.mk hpl
          have HOP := Hid.mk hop
          have HLT := Hid.mk hlt
          clear hx hat hkt hpl hms hop ea
          by_cases h3 : op = 3
          · subst h3
            obtain ⟨A, rfl, hA1, hA2, _⟩ := HPL.out (.inl rfl)
            have hA48 : A ≤ 48 := by have := HL.out; omega
            clear HPL
            go_wp2_with (at_builtin; refine wpList_append_ins _ rfl (.tmp 60) (.tmp 62) rfl w.heap.size _ j (mv (-(T : Int)) ps T j) rfl ((HO.out.alloc _).alloc _) ⟨3, (A : Int) - (T : Int), xb, xc⟩ _ rfl (heap_alloc2 _ _ _) (by omega) (by have := hbr.size; simp; omega) ?_; intro v3 w3 hown3 hg3; have cb := box_kept HO.out hg3)
            go_wp2
            go_roundw
            case rel =>
              refine ⟨j + 1, HLT.out, by go_num, ?_, ?_, ((hbr.alloc hbr.size _).alloc (by have := hbr.size; simp; omega) _).grown hg3 (by have := hbr.size; simp; omega) (fun q e => (HO.out.lt q e).1)⟩
              · rw [HMS.out, sh1_yes (.inl rfl)]
                exact hown3
              · exact no_next HNO.out HOP.out (by decide)
            case measure => have := HLT.out; simp [intOf]; omega
          by_cases h20 : op = 20
          · subst h20
            obtain ⟨A, rfl, hA1, hA2, _⟩ := HPL.out (.inr rfl)
            have hA48 : A ≤ 48 := by have := HL.out; omega
            clear HPL
            go_wp2_with (at_builtin; refine wpList_append_ins _ rfl (.tmp 60) (.tmp 62) rfl w.heap.size _ j (mv (-(T : Int)) ps T j) rfl ((HO.out.alloc _).alloc _) ⟨20, (A : Int) - (T : Int), xb, xc⟩ _ rfl (heap_alloc2 _ _ _) (by omega) (by have := hbr.size; simp; omega) ?_; intro v3 w3 hown3 hg3; have cb := box_kept HO.out hg3)
            go_wp2
            go_roundw
            case rel =>
              refine ⟨j + 1, HLT.out, by go_num, ?_, ?_, ((hbr.alloc hbr.size _).alloc (by have := hbr.size; simp; omega) _).grown hg3 (by have := hbr.size; simp; omega) (fun q e => (HO.out.lt q e).1)⟩
              · rw [HMS.out, sh1_yes (.inr rfl)]
                exact hown3
              · exact no_next HNO.out HOP.out (by decide)
            case measure => have := HLT.out; simp [intOf]; omega
          have z3 : (op == 3) = false := by simpa using h3
          have z20 : (op == 20) = false := by simpa using h20
          have hsn : sh1 (-(T : Int)) ⟨op, xa, xb, xc⟩ = ⟨op, xa, xb, xc⟩ := sh1_no (fun e => by rcases e with e | e; exact h3 e; exact h20 e)
          have HSN := Hid.mk hsn
          clear hsn
          by_cases h5 : op = 5
          · subst h5
            go_wp2_with (at_builtin; refine wpList_append_ins _ rfl (.tmp 60) (.tmp 62) rfl w.heap.size _ j (mv (-(T : Int)) ps T j) rfl ((HO.out.alloc _).alloc _) ⟨5, xa, xb, xc⟩ _ rfl (heap_alloc2 _ _ _) (by omega) (by have := hbr.size; simp; omega) ?_; intro v3 w3 hown3 hg3; have cb := box_kept HO.out hg3; have hB3 := ((hbr.alloc hbr.size _).alloc (by have := hbr.size; simp; omega) _).grown hg3 (by have := hbr.size; simp; omega) (fun q e => (HO.out.lt q e).1); have hi3 := isIns_row hown3; obtain ⟨a3, cap3, rfl, hi3⟩ := hi3; have HI3 := Hid.mk hi3; have HB := Hid.mk hB3; clear hi3 hB3 hown3)
            refine (check_any HI3.out).mono ?_
            rintro e w4 ⟨i4, e4, rfl, hc4, hb4⟩
            have hfs := fine_block HF.out (t := T) (m := j) (by rw [HL.out]; have := HLT.out; omega) HY.out HNO.out HOP.out
            rw [HMS.out, HSN.out] at hfs
            obtain ⟨hf, hbq⟩ := hfs
            obtain ⟨rfl, rfl⟩ := hc4.one (.inr (.inr (.inr ⟨hf.len, hf.sh, hf.all, rfl, rfl⟩)))
            have HI4 := Hid.mk (HI3.out.carry hb4)
            have HB4 := Hid.mk (HB.out.trans (hb4.mono HB.out.size))
            have HBQ := Hid.mk hbq
            clear hb4 hc4 hf hbq
            go_wp2_with fail
            refine (blocks_any HI4.out (by omega)).mono ?_
            rintro e w5 ⟨rfl, hb5⟩
            have HB5 := Hid.mk (HB4.out.trans (hb5.mono HB4.out.size))
            rw [HBQ.out]
            clear hb5
            go_wp2
            go_ret
            exact ⟨rfl, HB5.out⟩
          have z5 : (op == 5) = false := by simpa using h5
          go_wp2_with (at_builtin; refine wpList_append_ins _ rfl (.tmp 60) (.tmp 62) rfl w.heap.size _ j (mv (-(T : Int)) ps T j) rfl ((HO.out.alloc _).alloc _) ⟨op, xa, xb, xc⟩ _ rfl (heap_alloc2 _ _ _) (by omega) (by have := hbr.size; simp; omega) ?_; intro v3 w3 hown3 hg3; have cb := box_kept HO.out hg3)
          go_wp2
          go_roundw
          case rel =>
            refine ⟨j + 1, HLT.out, by go_num, ?_, ?_, ((hbr.alloc hbr.size _).alloc (by have := hbr.size; simp; omega) _).grown hg3 (by have := hbr.size; simp; omega) (fun q e => (HO.out.lt q e).1)⟩
            · rw [HMS.out, HSN.out]
              exact hown3
            · exact no_next HNO.out HOP.out h5
          case measure => have := HLT.out; simp [intOf]; omega
        · obtain rfl : j = D := by omega
          exact absurd (block_ends HF.out (by rw [HL.out]; exact HTL.out) HY.out (by rw [HL.out]; intro i hi; exact HNO.out i (by omega))) id
    · clear hy
      have z4 : (y != 4) = true := by simpa using y4
      go_wp2
      go_ret
      exact ⟨rfl, hb⟩
  · have z : (er != 0) = true := by simpa using he
    clear hc
    go_wp2
    go_ret
    exact ⟨rfl, hb⟩

set_option maxRecDepth 100000 in
theorem lifted (os : Os) (started : os.Started) (H : Type) (enc : TypeId × Value → H) :
    ReturnsInHanded {} Try.checked os 5 .any (Rows.codeBlocksSpec.pre6 enc Try.prog Try.f5 Rows.codeBlocksRow.domain false) (Rows.codeBlocksSpec.post enc Try.prog Try.f5 false true false false) := by
  refine returnsInHanded_of_change (C := Try.checked) own started (by kernel_rfl) Try.func5
    (ChangeSpec.witness6 (enc := enc) (C := Try.checked) false ⟨#[], #[.slice none 0 0, .int .i64 0], []⟩ 8 (by kernel_rfl) (by kernel_rfl) (by kernel_rfl) (by kernel_rfl)) ?_
  intro W base args ds gs before hval0 hW hcnd _
  have hval : ∀ (j : Nat) t v, Try.f5.params[j]? = some t → args[j]? = some v → Value.okWide Try.prog W .any base t v := hval0
  have hW' := hW
  obtain ⟨p, q, hA0, hV, rfl, hfz, hnd⟩ := hW
  have hA : DataW.TrodAll enc Try.prog W 0 (fun _ => true) true Try.f5.params.toList args.toList ds p := hA0
  rw [Try.params5] at hA hval
  obtain ⟨v0, vs0, d0, ds0, p0, q0, hargs, rfl, rfl, h0, r0⟩ := trodAll_cons hA
  obtain ⟨v1, vs1, d1, ds1, p1, q1, rfl, rfl, rfl, h1, r1⟩ := trodAll_cons r0
  obtain ⟨rfl, rfl, rfl⟩ := trodAll_nil r1
  obtain rfl : args = #[v0, v1] := by cases args; simp_all
  obtain ⟨rfl, rfl⟩ := trodVars_none hV
  obtain ⟨a0, len0, cap0, rfl⟩ := okWide_slice Try.underlying22 (hval 0 22 v0 rfl rfl)
  have k0 := h0
  have lt0 : ∀ x ∈ p0, x.block < W.heap.size := by obtain ⟨m, hm⟩ := k0; exact DataW.trod_lt m _ _ _ hm
  obtain ⟨ts0, w0, f0⟩ : ∃ ts, IsIns W a0 len0 cap0 ts ∧ Wf ts := by
    obtain ⟨fuel, hf⟩ := h0
    exact open_ins hf
  obtain ⟨a1, rfl, rfl, rfl, w1⟩ := open_int Try.underlying3 (hval 1 3 v1 rfl rfl) h1
  clear hA0 hval0
  refine (walk a0 len0 cap0 ts0 a1 W w0 f0 w1).mono fun e W' ⟨he, bel⟩ => ?_
  subst he
  exact ⟨_, rfl, _, _, _, [], _, [], hW', trodAll_mk1 (shut_bool Try.underlying4 _), (trodAll_cons_mk (Below.trod laidOut (by kernel_rfl) (of_decide_eq_true (by kernel_rfl)) k0 bel lt0) (trodAll_cons_mk (shut_int Try.underlying3 w1) trodAll_mk0)), rfl, bel.frame _, fun h => by cases h⟩

set_option maxRecDepth 100000 in
theorem over : Rows.codeBlocksRow.holds Try.pinned (OpenSpec.ofChange Rows.codeBlocksSpec) :=
  OpenClaim.holds_of_wide 5 Try.f5 rfl rfl rfl rfl rfl rfl rfl ⟨rfl, rfl, rfl, rfl, rfl⟩ rfl rfl rfl rfl rfl (by kernel_rfl) Try.func5 (by kernel_rfl)
    (of_decide_eq_true (by kernel_rfl)) (by unfold Func.isWrapper; first | (rw [if_pos (by decide +kernel)]; kernel_rfl) | (rw [if_neg (by decide +kernel)]; exact ⟨rfl, rfl⟩))
    (fun os started H enc _ => lifted os started H enc)

end Go.Proofs.Ytkpbampffndjoaa.codeBlocks

namespace Go.Proofs.Ytkpbampffndjoaa
/-- The statement. -/
theorem codeBlocks_holds : Rows.CodeBlocksSaid := codeBlocks.over
#print axioms codeBlocks_holds
end Go.Proofs.Ytkpbampffndjoaa
