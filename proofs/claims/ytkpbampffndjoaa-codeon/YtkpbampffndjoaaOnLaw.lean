/-
  CodeOn: for every program the law returns true: each place of a program that can be lies behind the instruction that names it, with as many Begins as Ends between. No condition.
-/
import Derived.Test.YtkpbampffndjoaaCAlive
namespace Go.Proofs.Ytkpbampffndjoaa.codeOn
open Go.ChangeShapes Go.WideShapes Go.ChangeAt Go.RowKit Go.Deep
open Go.ChangeMaps (open_string shut_string)

theorem bg_mono (ps : List Ins) (k d : Nat) : bg ps k ≤ bg ps (k + d) := by
  induction d with
  | zero => exact Nat.le_refl _
  | succ d ih => rw [← Nat.add_assoc]; simp only [bg]; omega
theorem en_mono (ps : List Ins) (k d : Nat) : en ps k ≤ en ps (k + d) := by
  induction d with
  | zero => exact Nat.le_refl _
  | succ d ih => rw [← Nat.add_assoc]; simp only [en]; omega

theorem en_le (ps : List Ins) (k : Nat) : en ps k ≤ k := by
  induction k with
  | zero => simp [en]
  | succ k ih => simp only [en]; split <;> omega

theorem place {ps : List Ins} (F : Fine ps) {k : Nat} (hk : k < ps.length) (ho : ps[k]!.op = 3 ∨ ps[k]!.op = 20) :
    ∃ A : Nat, ps[k]!.a = A ∧ k < A ∧ A ≤ ps.length ∧ bg ps A - bg ps k = en ps A - en ps k := by
  have h := (oneB_parts (F.one k hk)).2.2.2
  unfold leadsB at h
  rw [if_neg (fun q => by rcases ho with h' | h'; exact q.1 h'; exact q.2 h')] at h
  simp only [Bool.and_eq_true, decide_eq_true_eq] at h
  obtain ⟨⟨h1, h2⟩, h3⟩ := h
  obtain ⟨A, hA⟩ : ∃ A : Nat, A = ps[k]!.a.toNat := ⟨_, rfl⟩
  rw [← hA] at h3
  refine ⟨A, by omega, by omega, by omega, ?_⟩
  have S := shB_iff.1 F.sh
  have u1 := S.up k (by omega)
  have u2 := S.up A (by omega)
  have m1 := bg_mono ps k (A - k)
  have m2 := en_mono ps k (A - k)
  rw [show k + (A - k) = A by omega] at m1 m2
  unfold inB at h3
  split at h3 <;> split at h3 <;> omega

set_option maxHeartbeats 3200000 in
set_option maxRecDepth 100000 in
theorem walk (a : Option Addr) (len cap : Nat) (ps : List Ins) (w : World) (hp : IsIns w a len cap ps) (_hw : Wf ps) :
    Calls Try.prog 4 #[.slice a len cap] w fun e w' => e = .returned (.bool true) ∧ Below w.heap.size w w' := by
  clear _hw
  have HP := Hid.mk hp
  have HL := Hid.mk hp.1
  clear hp
  go_enter Try.func4, Try.ntmps4
  go_wp2_with fail
  refine (alive_any w).mono ?_
  rintro e w1 ⟨rfl, hb1⟩
  go_wp2_with fail
  refine (check_any (HP.out.carry hb1)).mono ?_
  rintro e w2 ⟨i, er, rfl, hc, hb2⟩
  have hb : Below w.heap.size w w2 := hb1.trans (hb2.mono hb1.size)
  clear hb1 hb2
  by_cases he : er = 0
  · subst he
    have F := hc.fine
    have HF := Hid.mk F
    have hl48 : len ≤ 48 := by have := F.len; rw [HL.out] at this; exact this
    clear F hc
    go_wp2
    go_loopw [5, 6, 7, 8, 9, 21] (fun _ _ _ _ _ idx wr => ∃ k : Nat, k ≤ len ∧ idx = .int .i64 k ∧ Below w.heap.size w wr) (fun _ _ _ _ _ idx _ => len - (intOf idx).toNat)
    case atStart => exact ⟨0, Nat.zero_le _, rfl, hb⟩
    case round =>
      obtain ⟨k, hk, rfl, hbr⟩ := hrel
      by_cases hlt : k < len
      · obtain ⟨g, off, hae, hat⟩ := (HP.out.carry hbr).at_ (by omega)
        have hkt : k < ps.length := by rw [HL.out]; exact hlt
        have c0 := hat.op k hkt
        have c1 := hat.a k hkt
        have c2 := hat.b k hkt
        have c3 := hat.c k hkt
        have hpl := place HF.out hkt
        obtain ⟨x, hx⟩ : ∃ x, x = ps[k]! := ⟨_, rfl⟩
        rw [← hx] at c0 c1 c2 c3 hpl
        obtain ⟨op, xa, xb, xc⟩ := x
        dsimp only at c0 c1 c2 c3 hpl
        have HAT := Hid.mk hat
        have HPL := Hid.mk hpl
        have HLT := Hid.mk hlt
        clear hx hat hkt hpl
        subst hae
        by_cases h3 : op = 3
        · subst h3
          obtain ⟨A, rfl, hA1, hA2, hA3⟩ := HPL.out (.inl rfl)
          have HA1 := Hid.mk hA1
          have HA2 := Hid.mk hA2
          have HA3 := Hid.mk hA3
          have hA48 : A ≤ 48 := by have := HL.out; omega
          have ha1 : k < A := hA1
          have ha2 : A ≤ len := by have := HL.out; omega
          clear hA1 hA2 hA3 HPL
          have zA : decide ((A : Int) ≤ (k : Int)) = false := by simp; omega
          have zB : decide ((A : Int) > (len : Int)) = false := by simp; omega
          go_wp2
          go_loopw [7, 8, 9] (fun bv ev jv wi => ∃ j : Nat, k ≤ j ∧ j ≤ A ∧ jv = .int .i64 j ∧ bv = .int .i64 (bg ps j - bg ps k : Nat) ∧ ev = .int .i64 (en ps j - en ps k : Nat) ∧ Below w.heap.size w wi ∧ InsAt wi g off ps ∧ wi.cell? ⟨wr.heap.size, 1, none⟩ = some (.int .i64 A)) (fun _ _ jv _ => A - (intOf jv).toNat)
          case atStart => exact ⟨k, Nat.le_refl _, by omega, rfl, by simp, by simp, hbr.alloc hbr.size _, HAT.out.grown ((Below.refl _ _).alloc (Nat.le_refl _) _), cell_in (heap_alloc_at _ _) rfl⟩
          case round =>
            obtain ⟨j, hj1, hj2, rfl, rfl, rfl, hbi, hati, cx⟩ := hrel
            have HAZ := Hid.mk hati
            have m1 := bg_mono ps k (j - k)
            have m2 := en_mono ps k (j - k)
            rw [show k + (j - k) = j by omega] at m1 m2
            by_cases hjl : j < A
            · have hjt : j < ps.length := by have := HA2.out; omega
              have d0 := hati.op j hjt
              have n1 : bg ps (j + 1) = bg ps j + if ps[j]!.op = 4 then 1 else 0 := rfl
              have n2 : en ps (j + 1) = en ps j + if ps[j]!.op = 5 then 1 else 0 := rfl
              have q1 := bg_le ps j
              have q2 := en_le ps j
              obtain ⟨y, hy⟩ : ∃ y, y = ps[j]!.op := ⟨_, rfl⟩
              rw [← hy] at d0 n1 n2
              obtain ⟨P, hP⟩ : ∃ P, P = bg ps j - bg ps k := ⟨_, rfl⟩
              obtain ⟨R, hR⟩ : ∃ R, R = en ps j - en ps k := ⟨_, rfl⟩
              have s1 : bg ps (j + 1) - bg ps k = P + if y = 4 then 1 else 0 := by rw [hP, n1]; split <;> omega
              have s2 : en ps (j + 1) - en ps k = R + if y = 5 then 1 else 0 := by rw [hR, n2]; split <;> omega
              have hP48 : P ≤ 48 := by omega
              have hR48 : R ≤ 48 := by omega
              rw [← hP, ← hR]
              clear hP hR n1 n2 m1 m2 q1 q2 hati hy
              by_cases y4 : y = 4
              · subst y4
                have S3 := Hid.mk s1
                have S4 := Hid.mk s2
                clear s1 s2
                go_wp2
                go_roundw
                case rel => exact ⟨j + 1, by omega, by omega, by go_num, by rw [S3.out]; go_num, by rw [S4.out]; rfl, hbi, HAZ.out, cx⟩
                case measure => simp [intOf]; omega
              by_cases y5 : y = 5
              · subst y5
                have S3 := Hid.mk s1
                have S4 := Hid.mk s2
                clear s1 s2
                go_wp2
                go_roundw
                case rel => exact ⟨j + 1, by omega, by omega, by go_num, by rw [S3.out]; rfl, by rw [S4.out]; go_num, hbi, HAZ.out, cx⟩
                case measure => simp [intOf]; omega
              rw [if_neg y4] at s1
              rw [if_neg y5] at s2
              have S3 := Hid.mk s1
              have S4 := Hid.mk s2
              have z4 : (y == 4) = false := by simpa using y4
              have z5 : (y == 5) = false := by simpa using y5
              clear s1 s2
              go_wp2
              go_roundw
              case rel => exact ⟨j + 1, by omega, by omega, by go_num, by rw [S3.out]; rfl, by rw [S4.out]; rfl, hbi, HAZ.out, cx⟩
              case measure => simp [intOf]; omega
            · obtain rfl : j = A := by omega
              rw [HA3.out]
              obtain ⟨V, hV⟩ : ∃ V, V = en ps j - en ps k := ⟨_, rfl⟩
              rw [← hV]
              clear hV m1 m2 hati
              go_wp2
              go_roundw
              case rel => exact ⟨k + 1, HLT.out, by go_num, hbi⟩
              case measure => have := HLT.out; simp [intOf]; omega
        by_cases h20 : op = 20
        · subst h20
          obtain ⟨A, rfl, hA1, hA2, hA3⟩ := HPL.out (.inr rfl)
          have HA1 := Hid.mk hA1
          have HA2 := Hid.mk hA2
          have HA3 := Hid.mk hA3
          have hA48 : A ≤ 48 := by have := HL.out; omega
          have ha1 : k < A := hA1
          have ha2 : A ≤ len := by have := HL.out; omega
          clear hA1 hA2 hA3 HPL
          have zA : decide ((A : Int) ≤ (k : Int)) = false := by simp; omega
          have zB : decide ((A : Int) > (len : Int)) = false := by simp; omega
          go_wp2
          go_loopw [7, 8, 9] (fun bv ev jv wi => ∃ j : Nat, k ≤ j ∧ j ≤ A ∧ jv = .int .i64 j ∧ bv = .int .i64 (bg ps j - bg ps k : Nat) ∧ ev = .int .i64 (en ps j - en ps k : Nat) ∧ Below w.heap.size w wi ∧ InsAt wi g off ps ∧ wi.cell? ⟨wr.heap.size, 1, none⟩ = some (.int .i64 A)) (fun _ _ jv _ => A - (intOf jv).toNat)
          case atStart => exact ⟨k, Nat.le_refl _, by omega, rfl, by simp, by simp, hbr.alloc hbr.size _, HAT.out.grown ((Below.refl _ _).alloc (Nat.le_refl _) _), cell_in (heap_alloc_at _ _) rfl⟩
          case round =>
            obtain ⟨j, hj1, hj2, rfl, rfl, rfl, hbi, hati, cx⟩ := hrel
            have HAZ := Hid.mk hati
            have m1 := bg_mono ps k (j - k)
            have m2 := en_mono ps k (j - k)
            rw [show k + (j - k) = j by omega] at m1 m2
            by_cases hjl : j < A
            · have hjt : j < ps.length := by have := HA2.out; omega
              have d0 := hati.op j hjt
              have n1 : bg ps (j + 1) = bg ps j + if ps[j]!.op = 4 then 1 else 0 := rfl
              have n2 : en ps (j + 1) = en ps j + if ps[j]!.op = 5 then 1 else 0 := rfl
              have q1 := bg_le ps j
              have q2 := en_le ps j
              obtain ⟨y, hy⟩ : ∃ y, y = ps[j]!.op := ⟨_, rfl⟩
              rw [← hy] at d0 n1 n2
              obtain ⟨P, hP⟩ : ∃ P, P = bg ps j - bg ps k := ⟨_, rfl⟩
              obtain ⟨R, hR⟩ : ∃ R, R = en ps j - en ps k := ⟨_, rfl⟩
              have s1 : bg ps (j + 1) - bg ps k = P + if y = 4 then 1 else 0 := by rw [hP, n1]; split <;> omega
              have s2 : en ps (j + 1) - en ps k = R + if y = 5 then 1 else 0 := by rw [hR, n2]; split <;> omega
              have hP48 : P ≤ 48 := by omega
              have hR48 : R ≤ 48 := by omega
              rw [← hP, ← hR]
              clear hP hR n1 n2 m1 m2 q1 q2 hati hy
              by_cases y4 : y = 4
              · subst y4
                have S3 := Hid.mk s1
                have S4 := Hid.mk s2
                clear s1 s2
                go_wp2
                go_roundw
                case rel => exact ⟨j + 1, by omega, by omega, by go_num, by rw [S3.out]; go_num, by rw [S4.out]; rfl, hbi, HAZ.out, cx⟩
                case measure => simp [intOf]; omega
              by_cases y5 : y = 5
              · subst y5
                have S3 := Hid.mk s1
                have S4 := Hid.mk s2
                clear s1 s2
                go_wp2
                go_roundw
                case rel => exact ⟨j + 1, by omega, by omega, by go_num, by rw [S3.out]; rfl, by rw [S4.out]; go_num, hbi, HAZ.out, cx⟩
                case measure => simp [intOf]; omega
              rw [if_neg y4] at s1
              rw [if_neg y5] at s2
              have S3 := Hid.mk s1
              have S4 := Hid.mk s2
              have z4 : (y == 4) = false := by simpa using y4
              have z5 : (y == 5) = false := by simpa using y5
              clear s1 s2
              go_wp2
              go_roundw
              case rel => exact ⟨j + 1, by omega, by omega, by go_num, by rw [S3.out]; rfl, by rw [S4.out]; rfl, hbi, HAZ.out, cx⟩
              case measure => simp [intOf]; omega
            · obtain rfl : j = A := by omega
              rw [HA3.out]
              obtain ⟨V, hV⟩ : ∃ V, V = en ps j - en ps k := ⟨_, rfl⟩
              rw [← hV]
              clear hV m1 m2 hati
              go_wp2
              go_roundw
              case rel => exact ⟨k + 1, HLT.out, by go_num, hbi⟩
              case measure => have := HLT.out; simp [intOf]; omega
        have z3 : (op != 3) = true := by simpa using h3
        have z20 : (op != 20) = true := by simpa using h20
        go_wp2
        go_roundw
        case rel => exact ⟨k + 1, HLT.out, by go_num, hbr.alloc hbr.size _⟩
        case measure => have := HLT.out; simp [intOf]; omega
      · go_wp2
        go_ret
        exact ⟨rfl, hbr⟩
  · have z : (er != 0) = true := by simpa using he
    clear hc
    go_wp2
    go_ret
    exact ⟨rfl, hb⟩

set_option maxRecDepth 100000 in
theorem lifted (os : Os) (started : os.Started) (H : Type) (enc : TypeId × Value → H) :
    ReturnsInHanded {} Try.checked os 4 .any (Rows.codeOnSpec.pre6 enc Try.prog Try.f4 Rows.codeOnRow.domain false) (Rows.codeOnSpec.post enc Try.prog Try.f4 false true false false) := by
  refine returnsInHanded_of_change (C := Try.checked) own started (by kernel_rfl) Try.func4
    (ChangeSpec.witness6 (enc := enc) (C := Try.checked) false ⟨#[], #[.slice none 0 0], []⟩ 8 (by kernel_rfl) (by kernel_rfl) (by kernel_rfl) (by kernel_rfl)) ?_
  intro W base args ds gs before hval0 hW hcnd _
  have hval : ∀ (j : Nat) t v, Try.f4.params[j]? = some t → args[j]? = some v → Value.okWide Try.prog W .any base t v := hval0
  have hW' := hW
  obtain ⟨p, q, hA0, hV, rfl, hfz, hnd⟩ := hW
  have hA : DataW.TrodAll enc Try.prog W 0 (fun _ => true) true Try.f4.params.toList args.toList ds p := hA0
  rw [Try.params4] at hA hval
  obtain ⟨v0, vs0, d0, ds0, p0, q0, hargs, rfl, rfl, h0, r0⟩ := trodAll_cons hA
  obtain ⟨rfl, rfl, rfl⟩ := trodAll_nil r0
  obtain rfl : args = #[v0] := by cases args; simp_all
  obtain ⟨rfl, rfl⟩ := trodVars_none hV
  obtain ⟨a0, len0, cap0, rfl⟩ := okWide_slice Try.underlying22 (hval 0 22 v0 rfl rfl)
  have k0 := h0
  have lt0 : ∀ x ∈ p0, x.block < W.heap.size := by obtain ⟨m, hm⟩ := k0; exact DataW.trod_lt m _ _ _ hm
  obtain ⟨ts0, w0, f0⟩ : ∃ ts, IsIns W a0 len0 cap0 ts ∧ Wf ts := by
    obtain ⟨fuel, hf⟩ := h0
    exact open_ins hf
  clear hA0 hval0
  refine (walk a0 len0 cap0 ts0 W w0 f0).mono fun e W' ⟨he, bel⟩ => ?_
  subst he
  exact ⟨_, rfl, _, _, _, [], _, [], hW', trodAll_mk1 (shut_bool Try.underlying4 _), (trodAll_cons_mk (Below.trod laidOut (by kernel_rfl) (of_decide_eq_true (by kernel_rfl)) k0 bel lt0) trodAll_mk0), rfl, bel.frame _, fun h => by cases h⟩

set_option maxRecDepth 100000 in
theorem over : Rows.codeOnRow.holds Try.pinned (OpenSpec.ofChange Rows.codeOnSpec) :=
  OpenClaim.holds_of_wide 4 Try.f4 rfl rfl rfl rfl rfl rfl rfl ⟨rfl, rfl, rfl, rfl, rfl⟩ rfl rfl rfl rfl rfl (by kernel_rfl) Try.func4 (by kernel_rfl)
    (of_decide_eq_true (by kernel_rfl)) (by unfold Func.isWrapper; first | (rw [if_pos (by decide +kernel)]; kernel_rfl) | (rw [if_neg (by decide +kernel)]; exact ⟨rfl, rfl⟩))
    (fun os started H enc _ => lifted os started H enc)

end Go.Proofs.Ytkpbampffndjoaa.codeOn

namespace Go.Proofs.Ytkpbampffndjoaa
/-- The statement. -/
theorem codeOn_holds : Rows.CodeOnSaid := codeOn.over
#print axioms codeOn_holds
end Go.Proofs.Ytkpbampffndjoaa
