/-
  CellNewest: for every number of things and every list of sets, the law returns true: Newest is the greatest version of all, behind each set. No condition.
-/
import Derived.Deep.MidRow
import Derived.Test.YtmlebbfaafccnaaRNewestI
import Derived.Test.YtmlebbfaafccnaaRAlive
namespace Go.Proofs.Ytmlebbfaafccnaa.cellNewest
open Go.ChangeShapes Go.WideShapes Go.ChangeAt Go.RowKit Go.Deep Go.Proofs.Ytmlebbfaafccnaa.Cel Go.Proofs.Ytmlebbfaafccnaa.Cel.I

/-- The greatest of numbers, at least 0. -/
def most (l : List Int) : Int := l.foldl (fun m x => if m < x then x else m) 0

theorem most_take (l : List Int) (k : Nat) (hk : k < l.length) : most (l.take (k + 1)) = if most (l.take k) < l[k]! then l[k]! else most (l.take k) := by
  rw [List.take_succ_eq_append_getElem hk, getElem!_pos l k hk]
  unfold most
  rw [List.foldl_append]
  rfl

theorem fold_ge (l : List Int) : ∀ m : Int, m ≤ l.foldl (fun m x => if m < x then x else m) m := by
  induction l with
  | nil => intro m; exact Int.le_refl _
  | cons x r ih =>
    intro m
    have h := ih (if m < x then x else m)
    rw [List.foldl_cons]
    split at h <;> rename_i hx
    · rw [if_pos hx]; omega
    · rw [if_neg hx]; exact h

theorem fold_zeros (n : Nat) : ∀ m : Int, 0 ≤ m → (List.replicate n (0 : Int)).foldl (fun m x => if m < x then x else m) m = m := by
  induction n with
  | zero => intro m _; rfl
  | succ n ih =>
    intro m hm
    rw [List.replicate_succ, List.foldl_cons, if_neg (by omega)]
    exact ih m hm

/-- The versions of a row, and 0 up to sixty-four. -/
def vers (R : List (Int × Int)) : List Int := R.map (·.2) ++ List.replicate (64 - R.length) 0

theorem vers_length (R : List (Int × Int)) (h : R.length ≤ 64) : (vers R).length = 64 := by simp [vers]; omega
theorem vers_most (R : List (Int × Int)) : most (vers R) = newest R := by
  unfold most vers newest
  rw [List.foldl_append, List.foldl_map, fold_zeros]
  have h := fold_ge (R.map (·.2)) 0
  rw [List.foldl_map] at h
  exact h
theorem vers_set (R : List (Int × Int)) (j : Nat) (hj : j < R.length) (x v : Int) : vers (R.set j (x, v)) = (vers R).set j v := by
  unfold vers
  rw [List.set_append_left _ _ (by simpa using hj), List.map_set, List.length_set]

/-- Numbers as cells. -/
def numC (l : List Int) : List Value := l.map fun x => .int .i64 x

theorem numC_get (l : List Int) (j : Nat) (hj : j < l.length) : (numC l)[j]? = some (.int .i64 l[j]!) := by
  rw [getElem!_pos l j hj]
  simp [numC, hj]
theorem numC_set (l : List Int) (j : Nat) (v : Int) : (numC l).set j (.int .i64 v) = numC (l.set j v) := by simp [numC, List.map_set]
theorem numC_length (l : List Int) : (numC l).length = l.length := by simp [numC]

set_option maxRecDepth 100000 in
theorem Try.size50 : (Try.prog.info? 50).map (·.size) = some 64 := by kernel_rfl

set_option maxRecDepth 100000 in
theorem wp_load_vs {ops : Array Oper} {rest : List Oper} {op : Oper} {a : Act} {w : World} {Q : Exit → Act → World → Prop} (hgd : op.guard = none) (x : Operand) (ho : op.op = .load 50 x)
    (v : Nat) (l : List Int) (hx : a.eval x = .pointer (some ⟨v, 0, none⟩)) (h : w.heap[v]? = some (.cells (numC l).toArray 50 (0, 0))) (hl : l.length = 64)
    (hk : wpList Try.prog ops Q rest (a.put op.dst (.agg (numC l).toArray)) w) : wpList Try.prog ops Q (op :: rest) a w :=
  wpList_load_mid (P := Try.prog) hgd 50 x ho v 0 hx (numC l) _ (fun j u hu => by rw [Nat.zero_add]; exact cell_at h (by simpa using hu)) Try.underlying50 rfl (by rw [Try.size50, numC_length, hl]) hk

set_option maxRecDepth 100000 in
theorem Try.info3 : (Try.prog.info? 3).map (fun i => (i.zero, i.size, i.bytes)) = some (some (.int .i64 0), 1, 8) := by kernel_rfl

set_option maxRecDepth 100000 in
theorem index_vs (w : World) (l : List Int) (hl : l.length = 64) (j : Nat) (hj : j < 64) :
    (Instr.index 50 (.agg (numC l).toArray) (.int .i64 (j : Int))).run Try.prog w = .ok (.int .i64 l[j]!) w := by
  obtain ⟨i0, hi, hz0, hz1, hz2⟩ := info_parts Try.info3
  have hg := numC_get l j (by omega)
  simp [Instr.index, asIntOf, Sem.run_bind, run_underlying Try.underlying50, run_underlying Try.underlying3, sizeOf, typeInfo, hi, hz1, part, isAgg, hg, go_sem]
  intro h
  omega

/-- What lies between two rounds. -/
structure Inv (w wr : World) (b g v : Nat) (R : List (Int × Int)) : Prop where
  row : RowAt wr b g R
  le : R.length ≤ 64
  vs : wr.heap[v]? = some (.cells (numC (vers R)).toArray 50 (0, 0))
  bel : Below w.heap.size w wr

set_option maxRecDepth 100000 in
set_option maxHeartbeats 4000000 in
theorem walk (n : Int) (a : Option Addr) (len cap : Nat) (cs : List St) (w : World) (_hn : (Lit.int .i64 n).wf = true) (hcs : IsSts w a len cap cs) :
    Calls Try.prog 5 #[.int .i64 n, .slice a len cap] w fun e w' => e = .returned (.bool true) ∧ Below w.heap.size w w' := by
  go_enter Try.func5, Try.ntmps5
  go_wp2_with fail
  refine (alive_any w).mono ?_
  rintro e w1 ⟨rfl, hb1⟩
  by_cases hn : 64 < n
  · go_wp2
    go_ret
    exact ⟨rfl, hb1⟩
  by_cases hl : 100 < len
  · have hl1 : (100 : Int) < (len : Int) := by omega
    go_wp2
    go_ret
    exact ⟨rfl, hb1⟩
  have hl1 : ¬ (100 : Int) < (len : Int) := by omega
  have HB1 := Hid.mk hb1
  clear hb1
  go_wp2_with fail
  refine (new_any n 0 w1).mono ?_
  rintro e w2 ⟨rfl, hr, hb, hz⟩
  have HR := Hid.mk hr
  have HB := Hid.mk hb
  have HZ := Hid.mk hz
  clear hr hb hz
  go_wp2
  obtain ⟨v, hv⟩ : ∃ v, v = w2.heap.size := ⟨_, rfl⟩
  obtain ⟨b, hbb⟩ : ∃ b, b = w1.heap.size + 1 := ⟨_, rfl⟩
  obtain ⟨g, hg⟩ : ∃ g, g = w1.heap.size := ⟨_, rfl⟩
  have hz2 := HZ.out
  have hzb := HB1.out.size
  have HI : Hid (Inv w (w2.alloc (.cells (numC (List.replicate 64 0)).toArray 50)) b g v (List.replicate (made n) (0, 0))) := by
    refine Hid.mk ⟨?_, ?_, ?_, ?_⟩
    · rw [hbb, hg]
      exact HR.out.grown ((Below.refl _ _).alloc (Nat.le_refl _) _)
    · simp [made]; omega
    · rw [hv, heap_new]
      have e : vers (List.replicate (made n) (0, 0)) = List.replicate 64 0 := by
        unfold vers
        rw [List.map_replicate, List.length_replicate, List.replicate_append_replicate]
        congr 1
        unfold made
        omega
      rw [e]
    · exact (HB1.out.trans (HB.out.mono hzb)).alloc (by omega) _
  rw [← hv, ← hbb]
  have HV : Hid (w.heap.size ≤ g ∧ w.heap.size ≤ v ∧ v ≠ b ∧ v ≠ g) := Hid.mk ⟨by omega, by omega, by omega, by omega⟩
  clear hv hbb hg hz2 hzb HR HB HZ HB1
  go_loopw [8, 9, 11, 25] (fun _ _ _ idx wr => ∃ (k : Nat) (R : List (Int × Int)), k ≤ len ∧ idx = .int .i64 k ∧ Inv w wr b g v R) (fun _ _ _ idx _ => len - (intOf idx).toNat)
  case atStart => exact ⟨0, _, Nat.zero_le _, rfl, HI.out⟩
  case round =>
    obtain ⟨k, R, hk, rfl, hI⟩ := hrel
    clear HI
    by_cases hlt : k < len
    · obtain ⟨gg, off, rfl, hat⟩ := (hcs.carry hI.bel).at_ (by omega)
      have hkl : k < cs.length := by rw [hcs.1]; exact hlt
      have c0 := hat.i k hkl
      have c1 := hat.value k hkl
      have c2 := hat.version k hkl
      obtain ⟨x, hx⟩ : ∃ x, x = cs[k]! := ⟨_, rfl⟩
      rw [← hx] at c0 c1 c2
      obtain ⟨i, val, ver⟩ := x
      dsimp only at c0 c1 c2
      have HI := Hid.mk hI
      have hgl : gg < wr.heap.size := hat.lt
      have hra := hI.row.grown ((Below.refl wr.heap.size wr).alloc (Nat.le_refl _) (.cells #[.int .i64 i, .int .i64 val, .int .i64 ver] 30))
      have hba := hI.bel.alloc hI.bel.size (.cells #[.int .i64 i, .int .i64 val, .int .i64 ver] 30)
      have HRA := Hid.mk hra
      have HBA := Hid.mk hba
      have HS := Hid.mk (heap_new wr (.cells #[.int .i64 i, .int .i64 val, .int .i64 ver] 30))
      have hvv := hI.vs
      have hvl : v < wr.heap.size := (Array.getElem?_eq_some_iff.1 hvv).1
      have HVV : Hid ((wr.alloc (.cells #[.int .i64 i, .int .i64 val, .int .i64 ver] 30)).heap[v]? = some (.cells (numC (vers R)).toArray 50 (0, 0))) := Hid.mk ((Below.heap_alloc _ _ _ hvl).trans hvv)
      have hgr : g < wr.heap.size := hI.row.ltg
      have hle := hI.le
      clear hI hat hx hra hba hvv
      by_cases hin : 0 ≤ i ∧ i < (R.length : Int)
      · obtain ⟨j, rfl⟩ : ∃ j : Nat, i = (j : Int) := ⟨i.toNat, by omega⟩
        have hj : j < R.length := by omega
        clear hin
        go_wp2_with fail
        refine (set_yes HRA.out j hj val ver).mono ?_
        rintro e w4 ⟨rfl, hr4, ho4⟩
        have hs4 : w4.heap[wr.heap.size]? = some (.cells #[.int .i64 (j : Int), .int .i64 val, .int .i64 ver] 30 (0, 0)) := (ho4.block _ (by omega)).trans HS.out
        have d0 : w4.cell? ⟨wr.heap.size, 0, none⟩ = some (.int .i64 (j : Int)) := cell_at hs4 rfl
        have d2 : w4.cell? ⟨wr.heap.size, 2, none⟩ = some (.int .i64 ver) := cell_at hs4 rfl
        have hv4 := (ho4.block v HV.out.2.2.2).trans HVV.out
        have dv : w4.cell? ⟨v, j, none⟩ = some (.int .i64 (vers R)[j]!) := cell_at hv4 (by simpa using numC_get (vers R) j (by rw [vers_length R hle]; omega))
        have df : w4.frozen? ⟨v, j, none⟩ = false := free_at hv4
        have q1 : ¬ (j : Int) < 0 := by omega
        have q2 : ¬ (63 : Int) < (j : Int) := by omega
        have q3 : j < 64 := by omega
        have q4 : (j : Int) < 64 := by omega
        obtain ⟨w5, hw5⟩ : ∃ w5, w5 = w4.setCell ⟨v, j, none⟩ (.int .i64 ver) := ⟨_, rfl⟩
        obtain ⟨R5, hR5⟩ : ∃ R5, R5 = R.set j (val, ver) := ⟨_, rfl⟩
        have HI5 : Hid (Inv w w5 b g v R5) := by
          rw [hw5, hR5]
          refine Hid.mk ⟨hr4.keep (Below.heap_setCell _ _ _ _ HV.out.2.2.1.symm) (Below.heap_setCell _ _ _ _ HV.out.2.2.2.symm), by rw [List.length_set]; exact hle, ?_, (HBA.out.trans (ho4.below HV.out.1)).setCell (p := ⟨v, j, none⟩) HV.out.2.1 _⟩
          rw [heap_set _ hv4, vers_set R j hj, ← numC_set]
          simp
        have HW5 := Hid.mk hw5
        obtain ⟨vj, hvj⟩ : ∃ vj, vj = (vers R)[j]! := ⟨_, rfl⟩
        rw [← hvj] at dv
        obtain ⟨L, hL⟩ : ∃ L, L = vers R5 := ⟨_, rfl⟩
        have HLL : Hid (L.length = 64) := Hid.mk (by rw [hL]; exact vers_length _ HI5.out.le)
        have ld := HI5.out.vs
        rw [← hL, hw5] at ld
        have LD := Hid.mk ld
        clear ld
        have HL := Hid.mk hL
        clear hr4 ho4 hs4 hv4 hvj hR5 hw5 HRA HBA HS HVV hL
        go_wp2_with (refine wp_load_vs rfl (.tmp 6) rfl v L rfl LD.out HLL.out ?_)
        rw [← HW5.out]
        clear LD d0 d2 dv df
        go_loopw [9, 11, 51] (fun nw _ ix wi => ∃ t : Nat, t ≤ 64 ∧ ix = .int .i64 t ∧ nw = .int .i64 (most (L.take t)) ∧ wi = w5) (fun _ _ ix _ => 64 - (intOf ix).toNat)
        case atStart => exact ⟨0, Nat.zero_le _, rfl, rfl, rfl⟩
        case round =>
          obtain ⟨t, ht, rfl, rfl, hwi⟩ := hrel
          rw [hwi]
          clear hwi
          by_cases ht2 : t < 64
          · have ix := index_vs w5 L HLL.out t ht2
            have hm := most_take L t (by rw [HLL.out]; exact ht2)
            obtain ⟨A, hA⟩ : ∃ A, A = most (L.take t) := ⟨_, rfl⟩
            obtain ⟨B, hB⟩ : ∃ B, B = L[t]! := ⟨_, rfl⟩
            obtain ⟨C, hC⟩ : ∃ C, C = most (L.take (t + 1)) := ⟨_, rfl⟩
            rw [← hA, ← hB, ← hC] at hm
            rw [← hA]
            rw [← hB] at ix
            have HC := Hid.mk hC
            have hm2 : (if A < B then B else A) = C := hm.symm
            have hti : (t : Int) < 64 := by omega
            clear hA hB hC hm
            go_wp2
            go_roundw
            case rel => exact ⟨t + 1, by omega, by go_num, by rw [← HC.out], trivial⟩
            case measure => simp [intOf]; omega
          · have et : t = 64 := by omega
            have hti : ¬ (t : Int) < 64 := by omega
            have em : most (L.take t) = newest R5 := by rw [et, List.take_of_length_le (by rw [HLL.out]; exact Nat.le_refl _), HL.out, vers_most]
            rw [em]
            obtain ⟨A, hA⟩ : ∃ A, A = newest R5 := ⟨_, rfl⟩
            rw [← hA]
            have HA := Hid.mk hA
            clear hA em et
            go_wp2_with fail
            refine (newest_yes HI5.out.row).mono ?_
            rintro e w6 ⟨rfl, hw6⟩
            rw [hw6, ← HA.out]
            clear hw6 w6
            go_wp2
            go_roundw
            case rel => exact ⟨k + 1, R5, by omega, by go_num, HI5.out⟩
            case measure => simp [intOf]; omega

      · have HI5 : Hid (Inv w (wr.alloc (.cells #[.int .i64 i, .int .i64 val, .int .i64 ver] 30)) b g v R) := Hid.mk ⟨HRA.out, hle, HVV.out, HBA.out⟩
        obtain ⟨L, hL⟩ : ∃ L, L = vers R := ⟨_, rfl⟩
        have HLL : Hid (L.length = 64) := Hid.mk (by rw [hL]; exact vers_length _ hle)
        have ld := HI5.out.vs
        rw [← hL] at ld
        have LD := Hid.mk ld
        clear ld
        have HL := Hid.mk hL
        have HIN := Hid.mk hin
        clear HBA HS HVV hL hin
        go_wp2_with fail
        refine (set_no HRA.out i HIN.out val ver).mono ?_
        rintro e w4 ⟨rfl, hw4⟩
        rw [hw4]
        clear hw4 w4
        go_wp2_with (refine wp_load_vs rfl (.tmp 6) rfl v L rfl LD.out HLL.out ?_)
        obtain ⟨w5, hw5⟩ : ∃ w5, w5 = wr.alloc (.cells #[.int .i64 i, .int .i64 val, .int .i64 ver] 30) := ⟨_, rfl⟩
        rw [← hw5] at HI5 ⊢
        clear LD hw5
        go_loopw [9, 11, 51] (fun nw _ ix wi => ∃ t : Nat, t ≤ 64 ∧ ix = .int .i64 t ∧ nw = .int .i64 (most (L.take t)) ∧ wi = w5) (fun _ _ ix _ => 64 - (intOf ix).toNat)
        case atStart => exact ⟨0, Nat.zero_le _, rfl, rfl, rfl⟩
        case round =>
          obtain ⟨t, ht, rfl, rfl, hwi⟩ := hrel
          rw [hwi]
          clear hwi
          by_cases ht2 : t < 64
          · have ix := index_vs w5 L HLL.out t ht2
            have hm := most_take L t (by rw [HLL.out]; exact ht2)
            obtain ⟨A, hA⟩ : ∃ A, A = most (L.take t) := ⟨_, rfl⟩
            obtain ⟨B, hB⟩ : ∃ B, B = L[t]! := ⟨_, rfl⟩
            obtain ⟨C, hC⟩ : ∃ C, C = most (L.take (t + 1)) := ⟨_, rfl⟩
            rw [← hA, ← hB, ← hC] at hm
            rw [← hA]
            rw [← hB] at ix
            have HC := Hid.mk hC
            have hm2 : (if A < B then B else A) = C := hm.symm
            have hti : (t : Int) < 64 := by omega
            clear hA hB hC hm
            go_wp2
            go_roundw
            case rel => exact ⟨t + 1, by omega, by go_num, by rw [← HC.out], trivial⟩
            case measure => simp [intOf]; omega
          · have et : t = 64 := by omega
            have hti : ¬ (t : Int) < 64 := by omega
            have em : most (L.take t) = newest R := by rw [et, List.take_of_length_le (by rw [HLL.out]; exact Nat.le_refl _), HL.out, vers_most]
            rw [em]
            obtain ⟨A, hA⟩ : ∃ A, A = newest R := ⟨_, rfl⟩
            rw [← hA]
            have HA := Hid.mk hA
            clear hA em et
            go_wp2_with fail
            refine (newest_yes HI5.out.row).mono ?_
            rintro e w6 ⟨rfl, hw6⟩
            rw [hw6, ← HA.out]
            clear hw6 w6
            go_wp2
            go_roundw
            case rel => exact ⟨k + 1, R, by omega, by go_num, HI5.out⟩
            case measure => simp [intOf]; omega
    · have hkK : ¬ (k : Int) < (len : Int) := by omega
      have hbl := hI.bel
      clear hI
      go_wp2
      go_ret
      exact ⟨rfl, hbl⟩

set_option maxRecDepth 100000 in
theorem lifted (os : Os) (started : os.Started) (H : Type) (enc : TypeId × Value → H) :
    ReturnsInHanded {} Try.checked os 5 .any (Rows.cellNewestSpec.pre6 enc Try.prog Try.f5 Rows.cellNewestRow.domain false) (Rows.cellNewestSpec.post enc Try.prog Try.f5 false true false false) := by
  refine returnsInHanded_of_change (C := Try.checked) own started (by kernel_rfl) Try.func5
    (ChangeSpec.witness6 (enc := enc) (C := Try.checked) false ⟨#[], #[.int .i64 0, .slice none 0 0], []⟩ 8 (by kernel_rfl) (by kernel_rfl) (by kernel_rfl) (by kernel_rfl)) ?_
  intro W base args ds gs before hval0 hW hcnd _
  have hval : ∀ (j : Nat) t v, Try.f5.params[j]? = some t → args[j]? = some v → Value.okWide Try.prog W .any base t v := hval0
  have hW' := hW
  obtain ⟨p, q, hA0, hV, rfl, hfz, hnd⟩ := hW
  have hA : DataW.TrodAll enc Try.prog W 0 (fun _ => true) true Try.f5.params.toList args.toList ds p := hA0
  rw [Try.params5] at hA hval
  obtain ⟨v0, vs0, d0, ds0, p0, q0, hargs, rfl, rfl, h0, r0⟩ := trodAll_cons hA
  obtain ⟨v1, vs1, d1, ds1, p1, q1, rfl, rfl, rfl, h1, r1⟩ := trodAll_cons r0
  obtain ⟨rfl, rfl, rfl⟩ := trodAll_nil r1
  obtain rfl : args = #[v0, v1] := by cases args; simp_all
  obtain ⟨rfl, rfl⟩ := trodVars_none hV
  obtain ⟨a0, rfl, rfl, rfl, w0⟩ := open_int Try.underlying3 (hval 0 3 v0 rfl rfl) h0
  obtain ⟨a1, len1, cap1, rfl⟩ := okWide_slice Try.underlying22 (hval 1 22 v1 rfl rfl)
  have k1 := h1
  have lt1 : ∀ x ∈ p1, x.block < W.heap.size := by obtain ⟨m, hm⟩ := k1; exact DataW.trod_lt m _ _ _ hm
  obtain ⟨ts1, w1⟩ : ∃ ts, IsSts W a1 len1 cap1 ts := by
    obtain ⟨fuel, hf⟩ := h1
    exact open_sts hf
  clear hA0 hval0
  refine (walk a0 a1 len1 cap1 ts1 W w0 w1).mono fun e W' ⟨he, bel⟩ => ?_
  subst he
  exact ⟨_, rfl, _, _, _, [], _, [], hW', trodAll_mk1 (shut_bool Try.underlying4 _), (trodAll_cons_mk (shut_int Try.underlying3 w0) (trodAll_cons_mk (Below.trod laidOut (by kernel_rfl) (of_decide_eq_true (by kernel_rfl)) k1 bel lt1) trodAll_mk0)), rfl, bel.frame _, fun h => by cases h⟩

set_option maxRecDepth 100000 in
theorem over : Rows.cellNewestRow.holds Try.pinned (OpenSpec.ofChange Rows.cellNewestSpec) :=
  OpenClaim.holds_of_wide 5 Try.f5 rfl rfl rfl rfl rfl rfl rfl ⟨rfl, rfl, rfl, rfl, rfl⟩ rfl rfl rfl rfl rfl (by kernel_rfl) Try.func5 (by kernel_rfl)
    (of_decide_eq_true (by kernel_rfl)) (by unfold Func.isWrapper; first | (rw [if_pos (by decide +kernel)]; kernel_rfl) | (rw [if_neg (by decide +kernel)]; exact ⟨rfl, rfl⟩))
    (fun os started H enc _ => lifted os started H enc)

end Go.Proofs.Ytmlebbfaafccnaa.cellNewest

namespace Go.Proofs.Ytmlebbfaafccnaa
/-- The statement. -/
theorem cellNewest_holds : Rows.CellNewestSaid := cellNewest.over
#print axioms cellNewest_holds
end Go.Proofs.Ytmlebbfaafccnaa
