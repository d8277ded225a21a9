/-
  The walk of slices.Insert, of one entry (things: file.File): at the end; between, where there is room; between, in a new row.
-/
import Derived.Test.YtdngehfebmaegaaDfRowF
import Derived.Deep.RegionLaw
namespace Go.Proofs.Ytdngehfebmaegaa.Dft.F
open Go.RowKit Go.Proofs.Ytdngehfebmaegaa.Cel

set_option maxRecDepth 100000 in
theorem Try.infoT : (Try.prog.info? 77).map (fun i => (i.zero, i.size, i.bytes)) = some (some (.agg #[.int .i64 0, .bool false, .string .empty]), 3, 32) := by kernel_rfl
set_option maxRecDepth 100000 in
theorem Try.sizeT : (Try.prog.info? 77).map (·.size) = some 3 := by kernel_rfl

/-- What Insert leaves. -/
def Ins (v : Value) (R : List (Int × (Bool × ByteArray))) (i : Nat) (k : Int) (x : (Bool × ByteArray)) (w : World) (e : Ending) (w' : World) : Prop :=
  ∃ g cap, e = .returned (.slice (some ⟨g, 0, none⟩) (R.length + 1) cap) ∧ w'.ownsRow 0 77 3 (.slice (some ⟨g, 0, none⟩) (R.length + 1) cap) (R.length + 1) (enC (R.take i ++ (k, x) :: R.drop i)) ∧
    w.grownBy w' v.ownBlock ∧ (v.ownBlock = some g ∨ w.heap.size ≤ g)

set_option maxHeartbeats 4000000 in
set_option maxRecDepth 100000 in
theorem insert_end {R : List (Int × (Bool × ByteArray))} {v : Value} (k : Int) (x : (Bool × ByteArray)) (vb : Nat) (w : World) (h : w.ownsRow 0 77 3 v R.length (enC R)) (hs : R.length ≤ 1000000)
    (hv : w.heap[vb]? = some (.cells #[.int .i64 k, .bool x.1, .string x.2] 77 (0, 0))) :
    Calls Try.prog 67 #[v, .int .i64 (R.length : Nat), .slice (some ⟨vb, 0, none⟩) 1 1] w (Ins v R R.length k x w) := by
  obtain ⟨i0, hi, hz0, hz1, hz2⟩ := info_parts Try.infoT
  have HNW := Hid.mk (World.news_of_block hv)
  obtain ⟨va, vc, rfl⟩ := row_shape h
  obtain ⟨N, hN⟩ : ∃ N, N = R.length := ⟨_, rfl⟩
  have HR : Hid (w.ownsRow 0 77 3 (.slice va N vc) N (enC R)) := by rw [hN]; exact h
  have HN := Hid.mk hN
  have hle : (va = none ∧ N = 0 ∧ vc = 0) ∨ ∃ g, va = some ⟨g, 0, none⟩ ∧ N ≤ vc := by
    rcases h.2 with ⟨e, _⟩ | ⟨g, cap, cur, e, _, _, hnc, _⟩
    · injection e with e1 e2 e3; exact .inl ⟨e1, by omega, e3⟩
    · injection e with e1 _ e3; exact .inr ⟨g, e1, by omega⟩
  rw [← hN] at hs ⊢
  clear h hN hv
  rcases hle with ⟨rfl, rfl, rfl⟩ | ⟨g, rfl, hle⟩
  · go_enter Try.func67, Try.ntmps67
    go_wp2_with (at_builtin; refine wpList_append_lies _ rfl _ _ _ rfl 0 77 i0 _ 3 32 Try.underlying74 hi hz0 hz1 hz2 rfl (by decide) (.slice none 0 0) 0 (enC R) rfl HR.out ⟨vb, 0, none⟩ 1 1 [.int .i64 k, .bool x.1, .string x.2] rfl rfl HNW.out (by simp [Value.oneCell']) (by decide) (by unfold maxLen; omega) (by omega) (Nat.zero_le _) w.heap.size (by simp) ?_; intro gg cap w5 hown1 hgrow hat hlt2)
    all_goals go_ret
    all_goals
      refine ⟨gg, cap, by rw [← HN.out]; rfl, ?_, hgrow, hat.imp_right (fun h => Nat.le_of_eq (Eq.symm h))⟩
      rw [← HN.out, HN.out, List.take_length, List.drop_length, enC_append, ← HN.out]
      exact hown1
  · rcases Nat.eq_or_lt_of_le hle with hvc | hvc
    · subst hvc
      go_enter Try.func67, Try.ntmps67
      go_wp2_with (at_builtin; refine wpList_append_lies _ rfl _ _ _ rfl 0 77 i0 _ 3 32 Try.underlying74 hi hz0 hz1 hz2 rfl (by decide) (.slice (some ⟨g, 0, none⟩) N N) N (enC R) rfl HR.out ⟨vb, 0, none⟩ 1 1 [.int .i64 k, .bool x.1, .string x.2] rfl rfl HNW.out (by simp [Value.oneCell']) (by decide) (by unfold maxLen; omega) (by omega) (Nat.zero_le _) w.heap.size (by simp) ?_; intro gg cap w5 hown1 hgrow hat hlt2)
      all_goals go_ret
      all_goals
        refine ⟨gg, cap, by rw [← HN.out]; rfl, ?_, hgrow, hat.imp_right (fun h => Nat.le_of_eq (Eq.symm h))⟩
        rw [← HN.out, HN.out, List.take_length, List.drop_length, enC_append, ← HN.out]
        exact hown1
    · have hvc2 : ¬ vc = N := by omega
      go_enter Try.func67, Try.ntmps67
      go_wp2_with (at_builtin; refine wpList_append_lies _ rfl _ _ _ rfl 0 77 i0 _ 3 32 Try.underlying74 hi hz0 hz1 hz2 rfl (by decide) (.slice (some ⟨g, 0, none⟩) N vc) N (enC R) rfl HR.out ⟨vb, 0, none⟩ 1 1 [.int .i64 k, .bool x.1, .string x.2] rfl rfl HNW.out (by simp [Value.oneCell']) (by decide) (by unfold maxLen; omega) (by omega) (Nat.zero_le _) w.heap.size (by simp) ?_; intro gg cap w5 hown1 hgrow hat hlt2)
      all_goals go_ret
      all_goals
        refine ⟨gg, cap, by rw [← HN.out]; rfl, ?_, hgrow, hat.imp_right (fun h => Nat.le_of_eq (Eq.symm h))⟩
        rw [← HN.out, HN.out, List.take_length, List.drop_length, enC_append, ← HN.out]
        exact hown1

set_option maxRecDepth 100000 in
/-- slices.overlaps, of one entry in a block of its own and a part of a row: no. -/
theorem overlaps_no {g i vb : Nat} {cur cs : Array Value} {w : World} (lb cb : Nat) (hg : w.heap[g]? = some (.cells cur 77 (0, 0))) (hc : cur.size ≠ 0) (hv : w.heap[vb]? = some (.cells cs 77 (0, 0))) (hne : vb ≠ g) :
    (callFunc 69 #[.slice (some ⟨vb, 0, none⟩) 1 1, .slice (some ⟨g, (i + 1) * 3, none⟩) lb cb]).run Try.prog w = .ok (.value (.bool false)) w := by
  have s1 : w.shape? vb = some (77, cs.size) := by simp [World.shape?, hv]
  have s2 : w.shape? g = some (77, cur.size) := by simp [World.shape?, hg]
  have hr := Lib.run_overlaps_apart (P := Try.prog) w 74 4 77 Try.underlying74 3 (fun _ => by kernel_rfl) ⟨vb, 0, none⟩ ⟨g, (i + 1) * 3, none⟩ 1 1 lb cb hne _ _ _ _ s1 s2 hc (free_at hv) (free_at hv)
  have he := run_callFunc_extern Try.func69 (by kernel_rfl) (by kernel_rfl) (by kernel_rfl) (e := Extern.SlicesOverlaps.overlaps #[74, 74] #[4]) (by kernel_rfl) #[.slice (some ⟨vb, 0, none⟩) 1 1, .slice (some ⟨g, (i + 1) * 3, none⟩) lb cb] w
  rw [hr] at he
  exact he

set_option maxHeartbeats 4000000 in
set_option maxRecDepth 100000 in
theorem insert_room {R : List (Int × (Bool × ByteArray))} {g cap : Nat} {cur : Array Value} (i : Nat) (k : Int) (x : (Bool × ByteArray)) (vb : Nat) (w : World) (hi : i < R.length) (hroom : R.length < cap) (hmax : cap ≤ maxLen)
    (hg : w.heap[g]? = some (.cells cur 77 (0, 0))) (hcs : cur.size = cap * 3) (htake : cur.toList.take (R.length * 3) = enC R)
    (hv : w.heap[vb]? = some (.cells #[.int .i64 k, .bool x.1, .string x.2] 77 (0, 0))) (hne : vb ≠ g) :
    Calls Try.prog 67 #[.slice (some ⟨g, 0, none⟩) R.length cap, .int .i64 (i : Nat), .slice (some ⟨vb, 0, none⟩) 1 1] w (Ins (.slice (some ⟨g, 0, none⟩) R.length cap) R i k x w) := by
  obtain ⟨N, hN⟩ : ∃ N, N = R.length := ⟨_, rfl⟩
  have HN := Hid.mk hN
  rw [← hN] at hi hroom htake ⊢
  have hov := fun lb cb => overlaps_no (i := i) lb cb hg (by omega) hv hne
  have HG := Hid.mk hg
  have HV := Hid.mk hv
  have HT := Hid.mk htake
  have HC := Hid.mk hcs
  have HM := Hid.mk hmax
  have hm63 : cap ≤ 9223372036854775807 := by unfold maxLen at hmax; omega
  have hb2 : ¬ (cap = i + 1) := by omega
  have hb4 : ¬ (cap = i) := by omega
  clear hN hg hv htake hcs hmax
  go_enter Try.func67, Try.ntmps67
  go_wp2_with (simp only [hov])
  have hdl : ((enC R).drop (i * 3)).length = (N - i) * 3 := by rw [List.length_drop, enC_length, ← HN.out, Nat.sub_mul]
  have hcp : ∀ j u, ((enC R).drop (i * 3))[j]? = some u → w.cell? ((⟨g, i * 3, none⟩ : Addr).add j) = some u := fun j u hu => by
    rw [add_plain]
    refine cell_at HG.out ?_
    rw [List.getElem?_drop, ← HT.out, List.getElem?_take] at hu
    split at hu
    · simpa using hu
    · cases hu
  have hfit : (i + 1) * 3 + ((enC R).drop (i * 3)).length ≤ cur.size := by rw [hdl, HC.out]; omega
  have h1c : ∀ u ∈ (enC R).drop (i * 3), u.oneCell' = true := fun u hu => enC_one R u (List.mem_of_mem_drop hu)
  obtain ⟨DR, hDR⟩ : ∃ DR, DR = (enC R).drop (i * 3) := ⟨_, rfl⟩
  rw [← hDR] at hdl hcp hfit h1c
  have HDR := Hid.mk hDR
  clear hDR
  have hwr : IntKind.i64.wrap ((i : Int) + 1) = (i : Int) + 1 := by rw [IntKind.wrap_i64]; omega
  have hz0 : (0 : Int) ≤ (i : Int) + 1 := by omega
  have hz1 : i ≤ N := by omega
  have hz2 : (i : Int) ≤ (N : Int) + 1 := by omega
  go_region_law (refine step_copy_n rfl _ _ 74 74 rfl 77 3 Try.underlying74 Try.sizeT g ((i + 1) * 3) (N - i) (cap - (i + 1)) ⟨g, i * 3, none⟩ (N + 1 - i) (cap - i) (N - i) (by simp [Act.eval, Act.put]) (by simp [Act.eval, Act.put]) cur 77 HG.out DR (by simp only [Nat.min_def]; split <;> omega) hdl hcp hfit h1c ?_; intro w1 HW1)
  have hl1 : (laid cur ((i + 1) * 3) DR).size = cur.size := laid_size _ _ _ hfit
  have HG1 : Hid (w1.heap[g]? = some (.cells (laid cur ((i + 1) * 3) DR) 77 (0, 0))) := by rw [HW1.out]; exact setRow_heap _ g cur _ _ _ HG.out
  have HV1 := Hid.mk (World.news_of_block (w := w1) (B := vb) (cs := #[.int .i64 k, .bool x.1, .string x.2]) (t := 77) (fr := (0, 0)) (by rw [HW1.out]; exact (setRow_other _ g vb _ hne).trans HV.out))
  have HB1 : Hid (w.grownBy w1 (some g)) := by rw [HW1.out]; exact ⟨rfl, rfl, rfl, by simp, fun k _ hk => setRow_other w.drew g k _ (fun e => hk (by rw [e]))⟩
  obtain ⟨cur1, hcur1⟩ : ∃ c, c = laid cur ((i + 1) * 3) DR := ⟨_, rfl⟩
  rw [← hcur1] at HG1 hl1
  have HC1 := Hid.mk hcur1
  clear hcur1
  have hmin : Nat.min 1 (N + 1 - i) = 1 := by simp only [Nat.min_def]; split <;> omega
  have hfit1 : i * 3 + [Value.int .i64 k, .bool x.1, .string x.2].length ≤ cur1.size := by rw [hl1, HC.out]; simp only [List.length_cons, List.length_nil]; omega
  have h1x : ∀ u ∈ [Value.int .i64 k, .bool x.1, .string x.2], u.oneCell' = true := by simp [Value.oneCell']
  go_wp2_with (refine wpList_copy_n rfl _ _ 74 74 rfl 77 3 Try.underlying74 Try.sizeT g (i * 3) (N + 1 - i) (cap - i) ⟨vb, 0, none⟩ 1 1 1 rfl rfl cur1 77 HG1.out [.int .i64 k, .bool x.1, .string x.2] hmin rfl HV1.out hfit1 h1x ?_; intro w2 HW2)
  go_ret
  have hNR : R.length = N := HN.out.symm
  refine ⟨g, cap, by rw [hNR]; rfl, ⟨?_, .inr ⟨g, cap, laid cur1 (i * 3) [Value.int .i64 k, .bool x.1, .string x.2], by rw [hNR], Nat.zero_le _, ?_, by omega, HM.out, ?_, ?_⟩⟩, ?_, .inl rfl⟩
  · rw [enC_length]; simp; omega
  · rw [HW2.out]; exact setRow_heap _ g cur1 _ _ _ HG1.out
  · rw [laid_size _ _ _ hfit1, hl1, HC.out]
  · rw [hNR, enC_append, enC_take]
    show _ = _ ++ (_ :: _ :: _ :: enC _)
    rw [enC_drop, HC1.out, HDR.out]
    have hk := laid_between cur.toList (enC R) i N 3 [Value.int .i64 k, .bool x.1, .string x.2] HT.out (by rw [enC_length, hNR]) (by omega) rfl (by simp; rw [HC.out]; omega)
    simpa [laid] using hk
  · rw [HW2.out]
    exact ⟨HB1.out.os, HB1.out.tape, HB1.out.output, by rw [setRow_size]; exact HB1.out.size, fun k hk hn => (setRow_other w1 g k _ (fun e => hn (by rw [e]; rfl))).trans (HB1.out.block k hk hn)⟩

/-! ### In a new row -/

theorem zeroRow_size (z : Array Value) (n : Nat) : (Builtin.zeroCells z n).size = n * z.size := size_zeroCells z n

set_option maxHeartbeats 4000000 in
set_option maxRecDepth 100000 in
theorem insert_grow {R : List (Int × (Bool × ByteArray))} {g : Nat} (i : Nat) (k : Int) (x : (Bool × ByteArray)) (vb : Nat) (w : World) (hi : i < R.length) (hs : R.length ≤ 1000000)
    (hown : w.ownsRow 0 77 3 (.slice (some ⟨g, 0, none⟩) R.length R.length) R.length (enC R))
    (hv : w.heap[vb]? = some (.cells #[.int .i64 k, .bool x.1, .string x.2] 77 (0, 0))) :
    Calls Try.prog 67 #[.slice (some ⟨g, 0, none⟩) R.length R.length, .int .i64 (i : Nat), .slice (some ⟨vb, 0, none⟩) 1 1] w (Ins (.slice (some ⟨g, 0, none⟩) R.length R.length) R i k x w) := by
  obtain ⟨i0, hi0, hz0, hz1, hz2⟩ := info_parts Try.infoT
  obtain ⟨N, hN⟩ : ∃ N, N = R.length := ⟨_, rfl⟩
  have HN := Hid.mk hN
  have hgw : g < w.heap.size := (hown.lt g rfl).2
  have hvw : vb < w.heap.size := (Array.getElem?_eq_some_iff.1 hv).1
  have hcl : ∀ j u, (enC R)[j]? = some u → w.cell? ⟨g, j, none⟩ = some u := fun j u hu => by
    have := hown.cells (g := g) rfl j u hu
    rwa [add_plain, Nat.zero_add] at this
  rw [← hN] at hi hs ⊢
  have hlR : (enC R).length = N * 3 := by rw [enC_length, hN]
  have hold : (Builtin.firstCells i0.size i (.slice (some ⟨g, 0, none⟩) i N)).run Try.prog w.drew = .ok ((enC R).take (i * 3)).toArray w.drew := by
    rw [hz1]
    exact run_firstCells_some w.drew 3 i ⟨g, 0, none⟩ i N ((enC R).take (i * 3)) (by rw [List.length_take, hlR]; omega) (fun j u hu => by
      rw [add_plain, Nat.zero_add]
      rw [List.getElem?_take] at hu
      split at hu
      · exact hcl j u hu
      · cases hu)
  have hik : i + (N + 1 - i) = N + 1 := by omega
  have hrz : ∀ ty, (Builtin.append_ #[74, 3] ty #[.slice (some ⟨g, 0, none⟩) i N, .int .i64 ((N : Int) + 1 - (i : Int))]).run Try.prog w =
      .ok (.slice (some ⟨w.heap.size, 0, none⟩) (N + 1) (grownCap w (N + 1) N 77)) (w.drew.alloc (.cells (((enC R).take (i * 3)).toArray ++ Builtin.zeroCells (Value.agg #[.int .i64 0, .bool false, .string .empty]).cells (N + 1 - i) ++ Builtin.zeroCells (Value.agg #[.int .i64 0, .bool false, .string .empty]).cells (grownCap w (N + 1) N 77 - (N + 1))) 77)) := fun ty => by
    have h := Lib.run_append_grow_zeros w 74 3 ty 77 i0 _ .i64 .i64 Try.underlying74 Try.underlying3 hi0 hz0 (some ⟨g, 0, none⟩) i N ((enC R).take (i * 3)) hold (N + 1 - i) (by omega) (by omega) (by omega) (by omega) (by rw [hz2]; omega) (by rw [hz2, hik]; exact growslice_fits (by omega) (by omega))
    rw [hik] at h
    rw [show (N : Int) + 1 - (i : Int) = ((N + 1 - i : Nat) : Int) by omega]
    exact h
  obtain ⟨G, hG⟩ : ∃ G, G = grownCap w (N + 1) N 77 := ⟨_, rfl⟩
  have hGe : N + 1 ≤ G := by rw [hG]; exact grownCap_ge _ _ _ _
  have hGm : G ≤ maxLen := by rw [hG]; exact grownCap_le_maxLen _ _ _ _ (by unfold maxLen; omega)
  rw [← hG] at hrz
  have hzs : (Value.agg #[.int .i64 0, .bool false, .string .empty]).cells.size = 3 := by rfl
  obtain ⟨ROW, hROW⟩ : ∃ ROW : Array Value, ROW = ((enC R).take (i * 3)).toArray ++ Builtin.zeroCells (Value.agg #[.int .i64 0, .bool false, .string .empty]).cells (N + 1 - i) ++ Builtin.zeroCells (Value.agg #[.int .i64 0, .bool false, .string .empty]).cells (G - (N + 1)) := ⟨_, rfl⟩
  rw [← hROW] at hrz
  have hRs : ROW.size = G * 3 := by
    rw [hROW]
    simp only [Array.size_append, List.size_toArray, size_zeroCells, hzs, List.length_take, hlR]
    omega
  have hRt : ROW.toList.take (i * 3) = (enC R).take (i * 3) := by
    rw [hROW, Array.toList_append, Array.toList_append, List.append_assoc]
    exact List.take_left' (by rw [List.length_take, hlR]; omega)
  obtain ⟨B, hB⟩ : ∃ B, B = w.heap.size := ⟨_, rfl⟩
  rw [← hB] at hrz hgw hvw
  obtain ⟨w1, hw1⟩ : ∃ z, z = w.drew.alloc (.cells ROW 77) := ⟨_, rfl⟩
  rw [← hw1] at hrz
  have HG1 : Hid (w1.heap[B]? = some (.cells ROW 77 (0, 0))) := by rw [hw1, hB]; exact heap_alloc_new w.drew _
  have HB1 : Hid (Below B w w1) := by rw [hw1, hB]; exact (Below.refl _ w).drew.alloc (Nat.le_refl _) _
  have HV1 := Hid.mk (World.news_of_block (w := w1) (B := vb) (cs := #[.int .i64 k, .bool x.1, .string x.2]) (t := 77) (fr := (0, 0)) ((HB1.out.block vb hvw).trans hv))
  have HCL : Hid (∀ j u, (enC R)[j]? = some u → w1.cell? ⟨g, j, none⟩ = some u) := fun j u hu => (HB1.out.cell (p := ⟨g, j, none⟩) hgw).trans (hcl j u hu)
  have HRS := Hid.mk hRs
  have HRT := Hid.mk hRt
  have HLR := Hid.mk hlR
  have HBB := Hid.mk hB
  have HGM := Hid.mk hGm
  have hN63 : G ≤ 9223372036854775807 := by unfold maxLen at hGm; omega
  have hGi : ¬ (G = i) := by omega
  have hGi1 : ¬ (G = i + 1) := by omega
  have hNi : ¬ (N = i) := by omega
  have hb0 : (0 : Int) ≤ (i : Int) + 1 := by omega
  have hb1 : i ≤ N := by omega
  have hb2 : (i : Int) ≤ (N : Int) + 1 := by omega
  have hmin : Nat.min 1 (N + 1 - i) = 1 := by simp only [Nat.min_def]; split <;> omega
  have hfit1 : i * 3 + [Value.int .i64 k, .bool x.1, .string x.2].length ≤ ROW.size := by rw [hRs]; simp only [List.length_cons, List.length_nil]; omega
  have h1x : ∀ u ∈ [Value.int .i64 k, .bool x.1, .string x.2], u.oneCell' = true := by simp [Value.oneCell']
  clear hN hv hlR hold hik hG hGm hzs hROW hRs hRt hB hw1 hown hcl hz0 hz1 hz2 hi0
  go_enter Try.func67, Try.ntmps67
  go_wp2_with (first
    | (at_builtin; refine Lib.wpList_append_run _ rfl _ _ _ _ rfl _ _ rfl rfl _ _ (hrz _) ?_)
    | (refine wpList_copy_n rfl _ _ 74 74 rfl 77 3 Try.underlying74 Try.sizeT B (i * 3) (N + 1 - i) (G - i) ⟨vb, 0, none⟩ 1 1 1 rfl rfl ROW 77 HG1.out [.int .i64 k, .bool x.1, .string x.2] hmin rfl HV1.out hfit1 h1x ?_; intro w2 HW2))
  have hg2 : w2.heap[B]? = some (.cells (laid ROW (i * 3) [Value.int .i64 k, .bool x.1, .string x.2]) 77 (0, 0)) := by rw [HW2.out]; exact setRow_heap _ B ROW _ _ _ HG1.out
  have hl2 : (laid ROW (i * 3) [Value.int .i64 k, .bool x.1, .string x.2]).size = ROW.size := laid_size _ _ _ hfit1
  have hb2' : Below B w w2 := by rw [HW2.out]; exact HB1.out.trans ⟨rfl, rfl, rfl, by simp, fun j hj => setRow_other _ B j _ (by omega)⟩
  have hdl : ((enC R).drop (i * 3)).length = (N - i) * 3 := by rw [List.length_drop, HLR.out, Nat.sub_mul]
  have hgw2 : ∀ j, w2.cell? ⟨g, j, none⟩ = w1.cell? ⟨g, j, none⟩ := fun j => by rw [HW2.out]; exact cell_setRow_other _ _ _ _ (by show g ≠ B; omega)
  have hcp : ∀ j u, ((enC R).drop (i * 3))[j]? = some u → w2.cell? ((⟨g, i * 3, none⟩ : Addr).add j) = some u := fun j u hu => by
    rw [add_plain, hgw2]
    rw [List.getElem?_drop] at hu
    exact HCL.out _ _ hu
  have hfit : (i + 1) * 3 + ((enC R).drop (i * 3)).length ≤ (laid ROW (i * 3) [Value.int .i64 k, .bool x.1, .string x.2]).size := by rw [hdl, hl2, HRS.out]; omega
  have h1c : ∀ u ∈ (enC R).drop (i * 3), u.oneCell' = true := fun u hu => enC_one R u (List.mem_of_mem_drop hu)
  obtain ⟨DR, hDR⟩ : ∃ DR, DR = (enC R).drop (i * 3) := ⟨_, rfl⟩
  rw [← hDR] at hdl hcp hfit h1c
  obtain ⟨ROW1, hROW1⟩ : ∃ Z, Z = laid ROW (i * 3) [Value.int .i64 k, .bool x.1, .string x.2] := ⟨_, rfl⟩
  rw [← hROW1] at hg2 hl2 hfit
  have HDR := Hid.mk hDR
  have HR1 := Hid.mk hROW1
  have HG2 := Hid.mk hg2
  have HL2 := Hid.mk hl2
  have HB2 := Hid.mk hb2'
  clear hDR hROW1 hg2 hl2 hb2' hgw2
  have hwr : IntKind.i64.wrap ((i : Int) + 1) = (i : Int) + 1 := by rw [IntKind.wrap_i64]; omega
  have hmin2 : Nat.min (N - i) (N - i) = N - i := by simp only [Nat.min_def]; split <;> omega
  go_region_law (refine step_copy_n rfl _ _ 74 74 rfl 77 3 Try.underlying74 Try.sizeT B ((i + 1) * 3) (N - i) (G - (i + 1)) ⟨g, i * 3, none⟩ (N - i) (N - i) (N - i) (by simp [Act.eval, Act.put]) (by simp [Act.eval, Act.put]) ROW1 77 HG2.out DR hmin2 hdl hcp hfit h1c ?_; intro w3 HW3)
  go_wp2
  go_ret
  have hNR : R.length = N := HN.out.symm
  refine ⟨B, G, by rw [hNR]; rfl, ⟨?_, .inr ⟨B, G, laid ROW1 ((i + 1) * 3) DR, by rw [hNR], Nat.zero_le _, ?_, by omega, HGM.out, ?_, ?_⟩⟩, ?_, .inr (Nat.le_of_eq HBB.out.symm)⟩
  · rw [enC_length]; simp; omega
  · rw [HW3.out]; exact setRow_heap _ B ROW1 _ _ _ HG2.out
  · rw [laid_size _ _ _ hfit, HL2.out, HRS.out]
  · rw [hNR, enC_append, enC_take]
    show _ = _ ++ (_ :: _ :: _ :: enC _)
    rw [enC_drop, HR1.out, HDR.out]
    have hk := laid_anew ROW.toList (enC R) [Value.int .i64 k, .bool x.1, .string x.2] i N 3 HLR.out (by omega) rfl HRT.out
    simpa [laid] using hk
  · have hb3 : Below B w w3 := by rw [HW3.out]; exact HB2.out.drew.trans ⟨rfl, rfl, rfl, by simp, fun j hj => setRow_other _ B j _ (by omega)⟩
    rw [HBB.out] at hb3
    exact ⟨hb3.os, hb3.tape, hb3.output, hb3.size, fun j hj _ => hb3.block j hj⟩

set_option maxRecDepth 100000 in
/-- Insert, wherever. -/
theorem insert_any {R : List (Int × (Bool × ByteArray))} {v : Value} (i : Nat) (k : Int) (x : (Bool × ByteArray)) (vb : Nat) (w : World) (hi : i ≤ R.length) (hs : R.length ≤ 1000000) (h : w.ownsRow 0 77 3 v R.length (enC R))
    (hv : w.heap[vb]? = some (.cells #[.int .i64 k, .bool x.1, .string x.2] 77 (0, 0))) (hne : v.ownBlock ≠ some vb) :
    Calls Try.prog 67 #[v, .int .i64 (i : Nat), .slice (some ⟨vb, 0, none⟩) 1 1] w (Ins v R i k x w) := by
  rcases Nat.eq_or_lt_of_le hi with rfl | hlt
  · exact insert_end k x vb w h hs hv
  · rcases h.2 with ⟨_, h0⟩ | ⟨g, cap, cur, rfl, _, hg, hnc, hcm, hcs, htake⟩
    · omega
    · rcases Nat.eq_or_lt_of_le hnc with rfl | hroom
      · exact insert_grow i k x vb w hlt hs h hv
      · exact insert_room i k x vb w hlt hroom hcm hg hcs htake hv (fun e => hne (by rw [e]; rfl))

end Go.Proofs.Ytdngehfebmaegaa.Dft.F
