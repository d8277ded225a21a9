/-
  CursorParts: for every row of steps and every socket the law returns true: steps at one socket play no part at another one; a copy goes on by itself. No condition.
-/
import Derived.Test.YtkadaanfhejkkaaCuRef
namespace Go.Proofs.Ytkadaanfhejkkaa.cursorParts
open Go.ChangeShapes Go.WideShapes Go.ChangeAt Go.RowKit Go.Deep Go.Proofs.Ytkadaanfhejkkaa.Cel Go.Proofs.Ytkadaanfhejkkaa.Cur

/-- The steps at one socket. -/
def only (zs : List Int) (s : Int) : List Int := zs.filter (fun z => decide (z = s))

theorem only_add (zs : List Int) (z s : Int) : only (zs ++ [z]) s = if z = s then only zs s ++ [z] else only zs s := by
  unfold only
  rw [List.filter_append]
  by_cases h : z = s <;> simp [h]
theorem cnt_only (zs : List Int) (s : Int) : cnt (only zs s) s = cnt zs s := by
  unfold cnt only
  suffices h : ∀ n, (zs.filter (fun z => decide (z = s))).foldl (more s) n = zs.foldl (more s) n from h 0
  induction zs with
  | nil => intro n; rfl
  | cons z r ih =>
    intro n
    by_cases h : z = s
    · rw [List.filter_cons_of_pos (by simpa using h), List.foldl_cons, List.foldl_cons]
      exact ih _
    · rw [List.filter_cons_of_neg (by simpa using h), List.foldl_cons, ih]
      congr 1
      unfold more
      rw [if_neg (fun k => h k.1)]
theorem cnt_else (zs : List Int) (s t : Int) (h : t ≠ s) : cnt (only zs s) t = 0 := by
  unfold cnt only
  suffices h : ∀ n, (zs.filter (fun z => decide (z = s))).foldl (more t) n = n from h 0
  induction zs with
  | nil => intro n; rfl
  | cons z r ih =>
    intro n
    by_cases k : z = s
    · rw [List.filter_cons_of_pos (by simpa using k), List.foldl_cons]
      have e : more t n z = n := by
        unfold more
        rw [if_neg (fun q => h (q.1.symm.trans k))]
      rw [e]
      exact ih n
    · rw [List.filter_cons_of_neg (by simpa using k)]
      exact ih n
theorem any_only (zs : List Int) (i : Nat) (hi : i < 3) : anyF (ofZ (only zs (i : Int))) = decide ((0 : Int) < ((cnt zs (i : Int) : Nat) : Int)) := by
  have h := cnt_only zs (i : Int)
  have ho : ∀ j : Nat, j ≠ i → ofZ (only zs (i : Int)) j = 0 := fun j hj => cnt_else zs i j (by omega)
  have hs : ofZ (only zs (i : Int)) i = cnt zs (i : Int) := h
  unfold anyF
  have e : (ofZ (only zs (i : Int)) 0 ≠ 0 ∨ ofZ (only zs (i : Int)) 1 ≠ 0 ∨ ofZ (only zs (i : Int)) 2 ≠ 0) ↔ (0 : Int) < ((cnt zs (i : Int) : Nat) : Int) := by
    rw [← hs]
    rcases below3 hi with rfl | rfl | rfl
    · have h1 := ho 1 (by decide)
      have h2 := ho 2 (by decide)
      omega
    · have h1 := ho 0 (by decide)
      have h2 := ho 2 (by decide)
      omega
    · have h1 := ho 0 (by decide)
      have h2 := ho 1 (by decide)
      omega
  exact decide_eq_decide.2 e

/-- Behind q steps more at one socket. -/
def run (f : Nat → Nat) (s : Int) : Nat → (Nat → Nat)
  | 0 => f
  | q + 1 => stF (run f s q) s

theorem run_at (f : Nat → Nat) (i : Nat) (hi : i < 3) (h : f i ≤ 64) (q : Nat) : run f (i : Int) q i = min 64 (f i + q) := by
  induction q with
  | zero => show f i = _; omega
  | succ q ih =>
    show stF (run f i q) i i = _
    unfold stF okF
    rw [isS_of hi, Int.toNat_natCast, Bool.true_and]
    by_cases k : run f (i : Int) q i < 64
    · rw [decide_eq_true k, if_pos rfl]
      unfold upd
      rw [if_pos rfl]
      omega
    · rw [decide_eq_false k, if_neg (by decide)]
      omega

set_option maxHeartbeats 8000000 in
set_option maxRecDepth 100000 in
theorem walk (a : Option Addr) (len cap : Nat) (zs : List Int) (s : Int) (w : World) (ha : IsInts w a len cap zs) :
    Calls Try.prog 4 #[.slice a len cap, .int .i64 s] w fun e w' => e = .returned (.bool true) ∧ Below w.heap.size w w' := by
  go_enter Try.func4, Try.ntmps4
  go_wp2_with fail
  refine (aliveC w).mono ?_
  rintro e w1 ⟨rfl, hb⟩
  by_cases h300 : 300 < len
  · have h2 : (300 : Int) < (len : Int) := by omega
    go_wp2
    go_ret
    exact ⟨rfl, hb⟩
  have h2 : ¬ (300 : Int) < (len : Int) := by omega
  by_cases hp0 : s < 0
  · go_wp2
    go_ret
    exact ⟨rfl, hb⟩
  by_cases hp1 : (2 : Int) < s
  · go_wp2
    go_ret
    exact ⟨rfl, hb⟩
  obtain ⟨si, hsi, rfl⟩ : ∃ i : Nat, i < 3 ∧ s = (i : Int) := ⟨s.toNat, by omega, by omega⟩
  have HA := Hid.mk ha
  have HL := Hid.mk ha.1
  have hm := CurAt.made w1
  have hb1 := hb.alloc hb.size (.cells #[.int .i64 0, .int .i64 0, .int .i64 0] 27)
  have HSZ := Hid.mk hb.size
  have hbs : Below w1.heap.size w1 (w1.alloc (.cells #[.int .i64 0, .int .i64 0, .int .i64 0] 27)) := (Below.refl _ _).alloc (Nat.le_refl _) _
  have hm2 := CurAt.made (w1.alloc (.cells #[.int .i64 0, .int .i64 0, .int .i64 0] 27))
  have hb2 := hb1.alloc hb1.size (.cells #[.int .i64 0, .int .i64 0, .int .i64 0] 27)
  have hsz2 : (w1.alloc (.cells #[.int .i64 0, .int .i64 0, .int .i64 0] 27)).heap.size = w1.heap.size + 1 := by simp
  have hg2 : CurAt ((w1.alloc (.cells #[.int .i64 0, .int .i64 0, .int .i64 0] 27)).alloc (.cells #[.int .i64 0, .int .i64 0, .int .i64 0] 27)) w1.heap.size nones := hm.grown ((Below.refl _ _).alloc (Nat.le_refl _) _)
  rw [hsz2] at hm2
  have HM := Hid.mk hg2
  have HM2 := Hid.mk hm2
  have HB := Hid.mk hb2
  have HSI := Hid.mk hsi
  clear ha hb hm hb1 hbs hm2 hb2 hsz2 hg2 hsi
  go_wp2_with fail
  obtain ⟨A, hA⟩ : ∃ A, A = w1.heap.size := ⟨_, rfl⟩
  obtain ⟨B, hB⟩ : ∃ B, B = A + 1 := ⟨_, rfl⟩
  rw [← hA, ← hB] at HM2 ⊢
  rw [← hA] at HM HSZ
  obtain ⟨w2, hw2⟩ : ∃ z, z = (w1.alloc (.cells #[.int .i64 0, .int .i64 0, .int .i64 0] 27)).alloc (.cells #[.int .i64 0, .int .i64 0, .int .i64 0] 27) := ⟨_, rfl⟩
  rw [← hw2] at HM HM2 HB ⊢
  have HNE := Hid.mk (show A ≠ B by omega)
  have HSB := Hid.mk (show w.heap.size ≤ B by have := HSZ.out; omega)
  clear hA hB hw2
  go_loopw [8, 29] (fun _ i wr => ∃ k : Nat, k ≤ len ∧ i = .int .i64 k ∧ Hid (CurAt wr A (ofZ (zs.take k))) ∧ Hid (CurAt wr B (ofZ (only (zs.take k) (si : Int)))) ∧ Hid (Below w.heap.size w wr)) (fun _ i _ => len - (intOf i).toNat)
  case atStart => exact ⟨0, Nat.zero_le _, rfl, HM, HM2, HB⟩
  case round =>
    clear HM HM2 HB
    obtain ⟨k, hk, rfl, HM, HM2, HB⟩ := hrel
    by_cases hlt : k < len
    · have hI := HA.out.grown HB.out
      obtain ⟨g, off, hz, rfl, hc⟩ := hI.at_ k hlt
      obtain ⟨x, hx⟩ : ∃ x, x = zs[k] := ⟨_, rfl⟩
      rw [← hx] at hc
      have hst : zs.take (k + 1) = zs.take k ++ [x] := by rw [List.take_succ_eq_append_getElem hz, hx]
      have hof := ofZ_add (zs.take k) x
      rw [← hst] at hof
      have hon := only_add (zs.take k) x si
      rw [← hst] at hon
      have hstep := step_any HM.out x
      rw [hof] at hstep
      have HS := Hid.mk hstep
      have HK := Hid.mk hlt
      have HON := Hid.mk hon
      clear hstep hof hst hx hI hon
      by_cases hxs : x = si
      · subst hxs
        go_wp2_with fail
        refine HS.out.mono ?_
        rintro e w3 ⟨rfl, h3, ho3⟩
        have HM3 := Hid.mk h3
        have HM23 := Hid.mk (HM2.out.other ho3 HNE.out.symm)
        have HB3 := Hid.mk (HB.out.trans (ho3.below HSZ.out))
        clear h3 ho3
        go_wp2_with fail
        refine (step_any HM23.out si).mono ?_
        rintro e w4 ⟨rfl, h4, ho4⟩
        rw [ofZ_add, ← (show only (zs.take (k + 1)) si = only (zs.take k) si ++ [(si : Int)] by rw [HON.out, if_pos trivial])] at h4
        have HM4 := Hid.mk (HM3.out.other ho4 HNE.out)
        have HM24 := Hid.mk h4
        have HB4 := Hid.mk (HB3.out.trans (ho4.below HSB.out))
        clear h4 ho4
        go_wp2
        go_roundw
        case rel => exact ⟨k + 1, HK.out, by go_num, HM4, HM24, HB4⟩
        case measure => have := HK.out; simp [intOf]; omega
      · have hon2 : only (zs.take (k + 1)) si = only (zs.take k) si := by rw [HON.out, if_neg hxs]
        have HM2' := HM2.out
        rw [← hon2] at HM2'
        have HMN := Hid.mk HM2'
        clear HM2' hon2
        go_wp2_with fail
        refine HS.out.mono ?_
        rintro e w3 ⟨rfl, h3, ho3⟩
        have HM3 := Hid.mk h3
        have HM23 := Hid.mk (HMN.out.other ho3 HNE.out.symm)
        have HB3 := Hid.mk (HB.out.trans (ho3.below HSZ.out))
        clear h3 ho3
        go_wp2
        go_roundw
        case rel => exact ⟨k + 1, HK.out, by go_num, HM3, HM23, HB3⟩
        case measure => have := HK.out; simp [intOf]; omega
    · have hkl : k = len := by omega
      have hall : zs.take k = zs := by rw [hkl]; exact List.take_of_length_le (Nat.le_of_eq HL.out)
      have hnk : ¬ (k : Int) < (len : Int) := by omega
      rw [hall] at HM HM2
      clear hall hkl hlt
      have hcp := copy_any HM.out
      have HCP := Hid.mk hcp
      have HLA := Hid.mk HM.out.lt
      clear hcp
      go_wp2_with fail
      refine HCP.out.mono ?_
      rintro e w4 ⟨rfl, ho4, hb4⟩
      obtain ⟨C, hC⟩ : ∃ C, C = wr.heap.size := ⟨_, rfl⟩
      have hne : A ≠ C := by have := HLA.out; omega
      have HM4 := Hid.mk (HM.out.grown hb4)
      have HM24 := Hid.mk (HM2.out.grown hb4)
      have HB4 := Hid.mk (HB.out.trans (hb4.mono HB.out.size))
      rw [← hC] at ho4 ⊢
      have HO4 := Hid.mk ho4
      have HNC := Hid.mk hne
      clear hne hC ho4 hb4 HM HM2 HB HCP
      go_wp2
      go_loopw [45] (fun i wx => ∃ q : Nat, q ≤ 100 ∧ i = .int .i64 q ∧ Hid (CurAt wx A (run (ofZ zs) (si : Int) q)) ∧ Hid (CurAt wx B (ofZ (only zs (si : Int)))) ∧ Hid (CurAt wx C (ofZ zs)) ∧ Hid (Below w.heap.size w wx)) (fun i _ => 100 - (intOf i).toNat)
      case atStart => exact ⟨0, by decide, rfl, HM4, HM24, HO4, HB4⟩
      case round =>
        clear HM4 HM24 HO4 HB4
        obtain ⟨q, hq, rfl, HM5, HM25, HO5, HB5⟩ := hrel
        by_cases hlt : q < 100
        · have hlt2 : (q : Int) < 100 := by omega
          have HK := Hid.mk hlt
          clear hlt
          go_wp2_with fail
          refine (step_any HM5.out si).mono ?_
          rintro e w6 ⟨rfl, h6, ho6⟩
          have HM6 := Hid.mk h6
          have HM26 := Hid.mk (HM25.out.other ho6 HNE.out.symm)
          have HO6 := Hid.mk (HO5.out.other ho6 HNC.out.symm)
          have HB6 := Hid.mk (HB5.out.trans (ho6.below HSZ.out))
          clear h6 ho6
          go_wp2
          go_roundw
          case rel => exact ⟨q + 1, HK.out, by go_num, HM6, HM26, HO6, HB6⟩
          case measure => have := HK.out; simp [intOf]; omega
        · have hq2 : q = 100 := by omega
          subst hq2
          clear hq hlt
          have r1 := read_any HO5.out (si : Int)
          have r2 := read_any HM25.out (si : Int)
          have r3 := read_any HM5.out (si : Int)
          have r4 := some_any HM25.out
          rw [ofZ_rd] at r1 r2
          rw [cnt_only] at r2
          rw [any_only zs si HSI.out] at r4
          have e3 : rdF (run (ofZ zs) (si : Int) 100) (si : Int) = 64 := by
            unfold rdF
            rw [isS_of HSI.out, if_pos rfl, Int.toNat_natCast, run_at _ _ HSI.out (cnt_le zs si)]
            omega
          rw [e3] at r3
          obtain ⟨n, hn⟩ : ∃ n, n = cnt zs (si : Int) := ⟨_, rfl⟩
          rw [← hn] at r1 r2 r4
          have R1 := Hid.mk r1
          have R2 := Hid.mk r2
          have R3 := Hid.mk r3
          have R4 := Hid.mk r4
          clear r1 r2 r3 r4 e3 hn
          go_wp2_with fail
          refine R1.out.mono ?_
          rintro e w6 ⟨rfl, hw6⟩
          rw [hw6]
          clear hw6 w6
          go_wp2_with fail
          refine R2.out.mono ?_
          rintro e w6 ⟨rfl, hw6⟩
          rw [hw6]
          clear hw6 w6
          go_wp2_with fail
          refine R3.out.mono ?_
          rintro e w6 ⟨rfl, hw6⟩
          rw [hw6]
          clear hw6 w6
          go_wp2_with fail
          refine R4.out.mono ?_
          rintro e w6 ⟨rfl, hw6⟩
          rw [hw6]
          clear hw6 w6
          go_wp2_with fail
          refine R2.out.mono ?_
          rintro e w6 ⟨rfl, hw6⟩
          rw [hw6]
          clear hw6 w6
          go_wp2
          go_ret
          exact ⟨rfl, HB5.out⟩
set_option maxRecDepth 100000 in
theorem lifted (os : Os) (started : os.Started) (H : Type) (enc : TypeId × Value → H) :
    ReturnsInHanded {} Try.checked os 4 .any (Rows.cursorPartsSpec.pre6 enc Try.prog Try.f4 Rows.cursorPartsRow.domain false) (Rows.cursorPartsSpec.post enc Try.prog Try.f4 false true false false) := by
  refine returnsInHanded_of_change (C := Try.checked) own started (by kernel_rfl) Try.func4
    (ChangeSpec.witness6 (enc := enc) (C := Try.checked) false ⟨#[], #[.slice none 0 0, .int .i64 0], []⟩ 8 (by kernel_rfl) (by kernel_rfl) (by kernel_rfl) (by kernel_rfl)) ?_
  intro W base args ds gs before hval0 hW hcnd _
  have hval : ∀ (j : Nat) t v, Try.f4.params[j]? = some t → args[j]? = some v → Value.okWide Try.prog W .any base t v := hval0
  have hW' := hW
  obtain ⟨p, q, hA0, hV, rfl, hfz, hnd⟩ := hW
  have hA : DataW.TrodAll enc Try.prog W 0 (fun _ => true) true Try.f4.params.toList args.toList ds p := hA0
  rw [Try.params4] at hA hval
  obtain ⟨v0, vs0, d0, ds0, p0, q0, hargs, rfl, rfl, h0, r0⟩ := trodAll_cons hA
  obtain ⟨v1, vs1, d1, ds1, p1, q1, rfl, rfl, rfl, h1, r1⟩ := trodAll_cons r0
  obtain ⟨rfl, rfl, rfl⟩ := trodAll_nil r1
  obtain rfl : args = #[v0, v1] := by cases args; simp_all
  obtain ⟨rfl, rfl⟩ := trodVars_none hV
  obtain ⟨a0, len0, cap0, rfl⟩ := okWide_slice Try.underlying22 (hval 0 22 v0 rfl rfl)
  have k0 := h0
  have lt0 : ∀ x ∈ p0, x.block < W.heap.size := by obtain ⟨m, hm⟩ := k0; exact DataW.trod_lt m _ _ _ hm
  obtain ⟨ts0, w0⟩ : ∃ ts, IsInts W a0 len0 cap0 ts := by
    obtain ⟨fuel, hf⟩ := h0
    exact open_nums hf
  obtain ⟨a1, rfl, rfl, rfl, w1⟩ := open_int Try.underlying3 (hval 1 3 v1 rfl rfl) h1
  clear hA0 hval0
  refine (walk a0 len0 cap0 ts0 a1 W w0).mono fun e W' ⟨he, bel⟩ => ?_
  subst he
  exact ⟨_, rfl, _, _, _, [], _, [], hW', trodAll_mk1 (shut_bool Try.underlying4 _), (trodAll_cons_mk (Below.trod laidOut (by kernel_rfl) (of_decide_eq_true (by kernel_rfl)) k0 bel lt0) (trodAll_cons_mk (shut_int Try.underlying3 w1) trodAll_mk0)), rfl, bel.frame _, fun h => by cases h⟩

set_option maxRecDepth 100000 in
theorem over : Rows.cursorPartsRow.holds Try.pinned (OpenSpec.ofChange Rows.cursorPartsSpec) :=
  OpenClaim.holds_of_wide 4 Try.f4 rfl rfl rfl rfl rfl rfl rfl ⟨rfl, rfl, rfl, rfl, rfl⟩ rfl rfl rfl rfl rfl (by kernel_rfl) Try.func4 (by kernel_rfl)
    (of_decide_eq_true (by kernel_rfl)) (by unfold Func.isWrapper; first | (rw [if_pos (by decide +kernel)]; kernel_rfl) | (rw [if_neg (by decide +kernel)]; exact ⟨rfl, rfl⟩))
    (fun os started H enc _ => lifted os started H enc)

end Go.Proofs.Ytkadaanfhejkkaa.cursorParts

namespace Go.Proofs.Ytkadaanfhejkkaa
/-- The statement. -/
theorem cursorParts_holds : Rows.CursorPartsSaid := cursorParts.over
#print axioms cursorParts_holds
end Go.Proofs.Ytkadaanfhejkkaa
