/-
  The walks of sized, Put and Cut.
-/
import Derived.Laws.CopyOwn
import Derived.Test.YtdngehfebmaegaaFBase
namespace Go.Proofs.Ytdngehfebmaegaa.Fil
open Go.RowKit Go.Deep

set_option maxRecDepth 100000 in
theorem run_mk (w : World) (n : Nat) (hn : n ≤ 32) :
    (Instr.makeSlice 63 (.int .i64 (n : Int)) (.int .i64 (n : Int))).run Try.prog w = .ok (.slice (some ⟨w.heap.size, 0, none⟩) n n) (w.alloc (.cells (bcells (List.replicate n 0)).toArray 5)) := by
  obtain ⟨i0, hi, hz0, hz1, hz2⟩ := info_parts Try.info5
  have h := run_make (P := Try.prog) w 63 5 i0 _ Try.underlying63 hi hz0 .i64 .i64 n n (by omega) (Int.le_refl _) (by rw [hz2]; omega) (by omega)
  rw [hz1] at h
  simp only [Int.toNat_natCast, Nat.mul_one] at h
  rw [h, bcells_zeros]
  congr 4
  apply Array.ext'
  apply List.ext_getElem
  · simp [madeCells]
  · intro i h1 h2
    simp [madeCells, Value.cells, Nat.mod_one]

set_option maxRecDepth 100000 in
/-- A text of which a part alone has room: that part alone goes over. -/
theorem copy_cut (w : World) (g n c : Nat) (s : ByteArray) (h : n ≤ s.size) :
    (Builtin.copy_ #[63, 9] 3 #[.slice (some ⟨g, 0, none⟩) n c, .string s]).run Try.prog w = (Builtin.copy_ #[63, 9] 3 #[.slice (some ⟨g, 0, none⟩) n c, .string (txt (s.data.toList.take n))]).run Try.prog w := by
  have e1 : Nat.min s.size n = n := Nat.min_eq_right h
  have hz : (txt (s.data.toList.take n)).size = n := by rw [txt_size, List.length_take, list_size]; exact Nat.min_eq_left h
  have e2 : Nat.min n n = n := Nat.min_self n
  have e3 : List.take n ((txt (s.data.toList.take n)).data.toList.map fun b => Value.int IntKind.u8 (b.toNat : Int)) = List.take n (s.data.toList.map fun b => Value.int IntKind.u8 (b.toNat : Int)) := by
    rw [txt_toList, List.map_take, List.take_take, Nat.min_self]
  simp [Builtin.copy_, Builtin.lenOf, Builtin.firstCells, e1, e2, hz, e3]

theorem bcells_byte (l : List UInt8) : Lib.byteCells l = bcells l := rfl

set_option maxRecDepth 100000 in
/-- What the copy leaves in a new row. -/
theorem run_cp (w : World) (g n : Nat) (s : ByteArray) (hg : w.heap[g]? = some (.cells (bcells (List.replicate n 0)).toArray 5 (0, 0))) :
    ∃ m : Nat, (Builtin.copy_ #[63, 9] 3 #[.slice (some ⟨g, 0, none⟩) n n, .string s]).run Try.prog w = .ok (goInt m) (w.setRow g (bcells (pad s.data.toList n)).toArray) := by
  obtain ⟨i0, hi, hz0, hz1, hz2⟩ := info_parts Try.info5
  have hs : (Try.prog.info? 5).map (·.size) = some 1 := by rw [hi]; simp [hz1]
  by_cases h : s.size ≤ n
  · have hr := Lib.run_copy_row_string (P := Try.prog) w 63 9 3 5 g 0 n n s _ 5 Try.underlying63 hs hg h (by simp [bcells_length]; exact h)
    refine ⟨s.size, hr.trans ?_⟩
    congr 3
    rw [bcells_byte, Nat.zero_add]
    unfold pad
    rw [bcells_append, List.take_of_length_le (l := s.data.toList) (by rw [list_size]; exact h), list_size]
    simp [bcells]
  · have h' : n ≤ s.size := by omega
    rw [copy_cut w g n n s h']
    have hz : (txt (s.data.toList.take n)).size = n := by rw [txt_size, List.length_take, list_size]; exact Nat.min_eq_left h'
    have hr := Lib.run_copy_row_string (P := Try.prog) w 63 9 3 5 g 0 n n (txt (s.data.toList.take n)) _ 5 Try.underlying63 hs hg (by rw [hz]; exact Nat.le_refl _) (by rw [hz]; simp [bcells_length])
    refine ⟨(txt (s.data.toList.take n)).size, hr.trans ?_⟩
    congr 3
    have e0 : n - s.size = 0 := by omega
    rw [bcells_byte, txt_toList, hz]
    unfold pad
    rw [list_size, e0]
    simp [bcells]

set_option maxHeartbeats 800000 in
set_option maxRecDepth 100000 in
theorem sized_any (s : ByteArray) (n : Nat) (hn : n ≤ 32) (w : World) : Calls Try.prog 60 #[.string s, .int .i64 n] w fun e w' => e = .returned (.slice (some ⟨w.heap.size, 0, none⟩) n n) ∧ w'.heap[w.heap.size]? = some (.cells (bcells (pad s.data.toList n)).toArray 5 (0, 0)) ∧ Below w.heap.size w w' := by
  have mk := run_mk w n hn
  obtain ⟨m, cp⟩ := run_cp (w.alloc (.cells (bcells (List.replicate n 0)).toArray 5)) w.heap.size n s (heap_new w _)
  have HS : Hid ((((w.alloc (.cells (bcells (List.replicate n 0)).toArray 5)).setRow w.heap.size (bcells (pad s.data.toList n)).toArray).heap[w.heap.size]? = some (.cells (bcells (pad s.data.toList n)).toArray 5 (0, 0)))) := Hid.mk (setRow_heap _ _ _ _ 5 _ (heap_new w _))
  have HB : Hid (Below w.heap.size w ((w.alloc (.cells (bcells (List.replicate n 0)).toArray 5)).setRow w.heap.size (bcells (pad s.data.toList n)).toArray)) := Hid.mk (below_setRow ((Below.refl _ w).alloc (Nat.le_refl _) _) (Nat.le_refl _) _)
  go_enter Try.func60, Try.ntmps60
  go_wp2
  go_ret
  exact ⟨rfl, HS.out, HB.out⟩

set_option maxRecDepth 100000 in
/-- Bytes that lie in a row, as a text. -/
theorem conv_bytes {w : World} {g cap : Nat} (l : List UInt8) (n : Nat) (hn : l.length = n) (h : w.heap[g]? = some (.cells (bcells l).toArray 5 (0, 0))) :
    (convert 63 9 (.slice (some ⟨g, 0, none⟩) n cap)).run Try.prog w = .ok (.string (txt l)) w := by
  subst hn
  exact run_convert_bytes_back (P := Try.prog) w 63 9 5 ⟨g, 0, none⟩ cap l Try.underlying63 Try.underlying5 Try.underlying9 fun j hj => by
    have e : (⟨g, 0, none⟩ : Addr).add j = ⟨g, j, none⟩ := by unfold Addr.add; split <;> simp_all
    rw [e]
    exact cell_at h (by simpa using bcells_get l j hj)

theorem file_new (w : World) (is : Bool) (s : ByteArray) :
    let w0 := (w.alloc (.cells #[.bool is, .string s] 23)).alloc (.cells #[.bool false, .string ⟨#[]⟩] 23)
    w0.heap[w.heap.size]? = some (.cells #[.bool is, .string s] 23 (0, 0)) ∧ w0.heap[w.heap.size + 1]? = some (.cells #[.bool false, .string ⟨#[]⟩] 23 (0, 0)) ∧ w0.heap.size = w.heap.size + 2 ∧ Below w.heap.size w w0 :=
  ⟨(Below.heap_alloc _ _ _ (by simp)).trans (heap_new w _), by simpa using heap_new (w.alloc (.cells #[.bool is, .string s] 23)) (.cells #[.bool false, .string ⟨#[]⟩] 23), by simp, ((Below.refl w.heap.size w).alloc (Nat.le_refl _) _).alloc (by simp) _⟩

set_option maxHeartbeats 1600000 in
set_option maxRecDepth 100000 in
theorem cut_yes {s : ByteArray} (h : s.size ≤ 32) (n : Nat) (hn : n ≤ 32) (w : World) : Calls Try.prog 41 #[.agg #[.bool true, .string s], .int .i64 n] w fun e w' => e = .returned (.agg #[.bool true, .string (txt (pad s.data.toList n))]) ∧ Below w.heap.size w w' := by
  obtain ⟨a0, a1, az, ab⟩ := file_new w true s
  have A0 := Hid.mk a0
  have A1 := Hid.mk a1
  have AZ := Hid.mk az
  have AB := Hid.mk ab
  have HC := Hid.mk (show CanBe true s from .inl ⟨rfl, h⟩)
  have q1 : ¬ (n : Int) < 0 := by omega
  have q2 : ¬ (32 : Int) < (n : Int) := by omega
  have q3 : ¬ 32 < n := by omega
  obtain ⟨t, ht⟩ : ∃ t, t = txt (pad s.data.toList n) := ⟨_, rfl⟩
  rw [← ht]
  have HT := Hid.mk ht
  clear a0 a1 az ab h ht
  go_enter Try.func41, Try.ntmps41
  go_wp2_with fail
  refine (good_yes HC.out _).mono ?_
  rintro e w1 ⟨rfl, hb1⟩
  have hz1 := AZ.out
  have hl := hb1.size
  have r0 : w1.heap[w.heap.size]? = some (.cells #[.bool true, .string s] 23 (0, 0)) := (hb1.block _ (by rw [hz1]; omega)).trans A0.out
  have r1 : w1.heap[w.heap.size + 1]? = some (.cells #[.bool false, .string ⟨#[]⟩] 23 (0, 0)) := (hb1.block _ (by rw [hz1]; omega)).trans A1.out
  rw [hz1] at hl
  have c0 : w1.cell? ⟨w.heap.size, 0, none⟩ = some (.bool true) := cell_at r0 rfl
  have c1 : w1.cell? ⟨w.heap.size, 1, none⟩ = some (.string s) := cell_at r0 rfl
  have R1 := Hid.mk r1
  have HL := Hid.mk hl
  have B1 := Hid.mk (AB.out.trans (hb1.mono (by rw [hz1]; omega)))
  clear hb1 r0 r1 hz1 hl A0 A1 AZ AB
  go_wp2_with fail
  refine (sized_any s n hn _).mono ?_
  rintro e w2 ⟨rfl, hrow, hb2⟩
  have cv := conv_bytes (w := w2) (g := w1.heap.size) (cap := n) (pad s.data.toList n) n (pad_length _ _) hrow
  have r2 := (hb2.block (w.heap.size + 1) (by have := HL.out; omega)).trans R1.out
  have d0 : w2.cell? ⟨w.heap.size + 1, 0, none⟩ = some (.bool false) := cell_at r2 rfl
  have d1 : w2.cell? ⟨w.heap.size + 1, 1, none⟩ = some (.string ⟨#[]⟩) := cell_at r2 rfl
  have f0 : w2.frozen? ⟨w.heap.size + 1, 0, none⟩ = false := free_at r2
  have f1 : w2.frozen? ⟨w.heap.size + 1, 1, none⟩ = false := free_at r2
  have B2 := Hid.mk (B1.out.trans (hb2.mono (by have := HL.out; omega)))
  rw [← HT.out] at cv
  clear hrow hb2 r2 B1 c0 c1
  go_wp2
  refine bodyPost_ret (v := Value.agg #[.bool true, .string t]) ?_ rfl ⟨rfl, ?_⟩
  · simp [results, Try.f41, go_sem, d0, d1]
  · exact (B2.out.setCell (by simp) _).setCell (by simp) _

set_option maxHeartbeats 1600000 in
set_option maxRecDepth 100000 in
theorem cut_out {is : Bool} {s : ByteArray} (h : CanBe is s) (n : Int) (hn : is = false ∨ n < 0 ∨ 32 < n) (w : World) : Calls Try.prog 41 #[.agg #[.bool is, .string s], .int .i64 n] w fun e w' => e = .returned (.agg #[.bool is, .string s]) ∧ Below w.heap.size w w' := by
  obtain ⟨a0, a1, az, ab⟩ := file_new w is s
  have A0 := Hid.mk a0
  have A1 := Hid.mk a1
  have AZ := Hid.mk az
  have AB := Hid.mk ab
  have HC := Hid.mk h
  have HN := Hid.mk hn
  clear a0 a1 az ab h hn
  go_enter Try.func41, Try.ntmps41
  go_wp2_with fail
  refine (good_yes HC.out _).mono ?_
  rintro e w1 ⟨rfl, hb1⟩
  have hz1 := AZ.out
  have r0 : w1.heap[w.heap.size]? = some (.cells #[.bool is, .string s] 23 (0, 0)) := (hb1.block _ (by rw [hz1]; omega)).trans A0.out
  have r1 : w1.heap[w.heap.size + 1]? = some (.cells #[.bool false, .string ⟨#[]⟩] 23 (0, 0)) := (hb1.block _ (by rw [hz1]; omega)).trans A1.out
  have c0 : w1.cell? ⟨w.heap.size, 0, none⟩ = some (.bool is) := cell_at r0 rfl
  have c1 : w1.cell? ⟨w.heap.size, 1, none⟩ = some (.string s) := cell_at r0 rfl
  have d0 : w1.cell? ⟨w.heap.size + 1, 0, none⟩ = some (.bool false) := cell_at r1 rfl
  have d1 : w1.cell? ⟨w.heap.size + 1, 1, none⟩ = some (.string ⟨#[]⟩) := cell_at r1 rfl
  have f0 : w1.frozen? ⟨w.heap.size + 1, 0, none⟩ = false := free_at r1
  have f1 : w1.frozen? ⟨w.heap.size + 1, 1, none⟩ = false := free_at r1
  have B1 := Hid.mk (AB.out.trans (hb1.mono (by rw [hz1]; omega)))
  clear hb1 r0 r1 hz1 A0 A1 AZ AB
  have fin : ∀ w', w' = (w1.setCell ⟨w.heap.size + 1, 0, none⟩ (.bool is)).setCell ⟨w.heap.size + 1, 1, none⟩ (.string s) → Below w.heap.size w w' := by
    intro w' e
    rw [e]
    exact (B1.out.setCell (by simp) _).setCell (by simp) _
  have FIN := Hid.mk fin
  clear fin
  rcases HN.out with rfl | hh | hh
  · go_wp2
    refine bodyPost_ret (v := Value.agg #[.bool false, .string s]) ?_ rfl ⟨rfl, FIN.out _ rfl⟩
    simp [results, Try.f41, go_sem, d0, d1]
  · cases is
    · go_wp2
      refine bodyPost_ret (v := Value.agg #[.bool false, .string s]) ?_ rfl ⟨rfl, FIN.out _ rfl⟩
      simp [results, Try.f41, go_sem, d0, d1]
    · go_wp2
      refine bodyPost_ret (v := Value.agg #[.bool true, .string s]) ?_ rfl ⟨rfl, FIN.out _ rfl⟩
      simp [results, Try.f41, go_sem, d0, d1]
  · have hh0 : ¬ n < 0 := by omega
    cases is
    · go_wp2
      refine bodyPost_ret (v := Value.agg #[.bool false, .string s]) ?_ rfl ⟨rfl, FIN.out _ rfl⟩
      simp [results, Try.f41, go_sem, d0, d1]
    · go_wp2
      refine bodyPost_ret (v := Value.agg #[.bool true, .string s]) ?_ rfl ⟨rfl, FIN.out _ rfl⟩
      simp [results, Try.f41, go_sem, d0, d1]

set_option maxHeartbeats 1600000 in
set_option maxRecDepth 100000 in
theorem put_out {is : Bool} {s : ByteArray} (h : CanBe is s) (k : Int) (hk : k < 0 ∨ 32 ≤ k) (b : UInt8) (w : World) : Calls Try.prog 40 #[.agg #[.bool is, .string s], .int .i64 k, .int .u8 b.toNat] w fun e w' => e = .returned (.agg #[.bool is, .string s]) ∧ Below w.heap.size w w' := by
  obtain ⟨a0, a1, az, ab⟩ := file_new w is s
  have A0 := Hid.mk a0
  have A1 := Hid.mk a1
  have AZ := Hid.mk az
  have AB := Hid.mk ab
  have HC := Hid.mk h
  have HN := Hid.mk hk
  clear a0 a1 az ab h hk
  go_enter Try.func40, Try.ntmps40
  go_wp2_with fail
  refine (good_yes HC.out _).mono ?_
  rintro e w1 ⟨rfl, hb1⟩
  have hz1 := AZ.out
  have r0 : w1.heap[w.heap.size]? = some (.cells #[.bool is, .string s] 23 (0, 0)) := (hb1.block _ (by rw [hz1]; omega)).trans A0.out
  have r1 : w1.heap[w.heap.size + 1]? = some (.cells #[.bool false, .string ⟨#[]⟩] 23 (0, 0)) := (hb1.block _ (by rw [hz1]; omega)).trans A1.out
  have c0 : w1.cell? ⟨w.heap.size, 0, none⟩ = some (.bool is) := cell_at r0 rfl
  have c1 : w1.cell? ⟨w.heap.size, 1, none⟩ = some (.string s) := cell_at r0 rfl
  have d0 : w1.cell? ⟨w.heap.size + 1, 0, none⟩ = some (.bool false) := cell_at r1 rfl
  have d1 : w1.cell? ⟨w.heap.size + 1, 1, none⟩ = some (.string ⟨#[]⟩) := cell_at r1 rfl
  have f0 : w1.frozen? ⟨w.heap.size + 1, 0, none⟩ = false := free_at r1
  have f1 : w1.frozen? ⟨w.heap.size + 1, 1, none⟩ = false := free_at r1
  have B1 := Hid.mk (AB.out.trans (hb1.mono (by rw [hz1]; omega)))
  clear hb1 r0 r1 hz1 A0 A1 AZ AB
  rcases HN.out with hh | hh
  · go_wp2
    refine bodyPost_ret (v := Value.agg #[.bool is, .string s]) ?_ rfl ⟨rfl, (B1.out.setCell (by simp) _).setCell (by simp) _⟩
    simp [results, Try.f40, go_sem, d0, d1]
  · have hh0 : ¬ k < 0 := by omega
    go_wp2
    refine bodyPost_ret (v := Value.agg #[.bool is, .string s]) ?_ rfl ⟨rfl, (B1.out.setCell (by simp) _).setCell (by simp) _⟩
    simp [results, Try.f40, go_sem, d0, d1]

/-- What a store into a new row leaves of its text. -/
theorem row_put {w : World} {g n : Nat} (l : List UInt8) (k : Nat) (b : UInt8) (hn : n = max l.length (k + 1)) (h : w.heap[g]? = some (.cells (bcells (pad l n)).toArray 5 (0, 0))) :
    (w.setCell ⟨g, k, none⟩ (.int .u8 b.toNat)).heap[g]? = some (.cells (bcells (put l k b)).toArray 5 (0, 0)) := by
  rw [heap_set _ h]
  unfold put
  rw [← hn, ← bcells_set]
  simp

set_option maxHeartbeats 1600000 in
set_option maxRecDepth 100000 in
theorem put_long {is : Bool} {s : ByteArray} (h : CanBe is s) (k : Nat) (hk : k < 32) (b : UInt8) (w : World) (hs : s.size ≤ k) : Calls Try.prog 40 #[.agg #[.bool is, .string s], .int .i64 k, .int .u8 b.toNat] w fun e w' => e = .returned (.agg #[.bool true, .string (txt (put s.data.toList k b))]) ∧ Below w.heap.size w w' := by
  obtain ⟨a0, a1, az, ab⟩ := file_new w is s
  have A0 := Hid.mk a0
  have A1 := Hid.mk a1
  have AZ := Hid.mk az
  have AB := Hid.mk ab
  have HC := Hid.mk h
  have q1 : ¬ (k : Int) < 0 := by omega
  have q2 : ¬ (32 : Int) ≤ (k : Int) := by omega
  have q3 : ¬ 32 ≤ k := by omega
  have q4 : (0 : Int) ≤ (k : Int) := by omega
  obtain ⟨t, ht⟩ : ∃ t, t = txt (put s.data.toList k b) := ⟨_, rfl⟩
  rw [← ht]
  have hn : k + 1 = max s.data.toList.length (k + 1) := by rw [list_size]; omega
  have hn2 : k + 1 ≤ 32 := by have := h.le; omega
  have s1 : (s.size : Int) < (k : Int) + 1 := by omega
  have s2 : ¬ (k : Int) + 1 < (s.size : Int) := by omega
  have s3 : k < k + 1 := by omega
  have s4 : (k : Int) < (k : Int) + 1 := by omega
  have HN := Hid.mk hn
  have HN2 := Hid.mk hn2
  have HT := Hid.mk ht
  clear a0 a1 az ab h ht hn hn2 hs
  go_enter Try.func40, Try.ntmps40
  go_wp2_with fail
  refine (good_yes HC.out _).mono ?_
  rintro e w1 ⟨rfl, hb1⟩
  have hz1 := AZ.out
  have hl := hb1.size
  have r0 : w1.heap[w.heap.size]? = some (.cells #[.bool is, .string s] 23 (0, 0)) := (hb1.block _ (by rw [hz1]; omega)).trans A0.out
  have r1 : w1.heap[w.heap.size + 1]? = some (.cells #[.bool false, .string ⟨#[]⟩] 23 (0, 0)) := (hb1.block _ (by rw [hz1]; omega)).trans A1.out
  rw [hz1] at hl
  have c0 : w1.cell? ⟨w.heap.size, 0, none⟩ = some (.bool is) := cell_at r0 rfl
  have c1 : w1.cell? ⟨w.heap.size, 1, none⟩ = some (.string s) := cell_at r0 rfl
  have R1 := Hid.mk r1
  have HL := Hid.mk hl
  have B1 := Hid.mk (AB.out.trans (hb1.mono (by rw [hz1]; omega)))
  clear hb1 r0 r1 hz1 hl A0 A1 AZ AB
  have hsz := sized_any s (k + 1) HN2.out w1
  push_cast at hsz
  go_wp2_with fail
  refine hsz.mono ?_
  rintro e w2 ⟨rfl, hrow, hb2⟩
  clear hsz
  have x0 : w2.cell? ⟨w1.heap.size, k, none⟩ = some (.int .u8 ((pad s.data.toList (k + 1))[k]'(by rw [pad_length]; omega)).toNat) := cell_at hrow (by simpa using bcells_get _ k (by rw [pad_length]; omega))
  have xf : w2.frozen? ⟨w1.heap.size, k, none⟩ = false := free_at hrow
  have r3 := row_put s.data.toList k b HN.out hrow
  have cv := conv_bytes (w := w2.setCell ⟨w1.heap.size, k, none⟩ (.int .u8 b.toNat)) (g := w1.heap.size) (cap := k + 1) (put s.data.toList k b) (k + 1) (by rw [put_length]; exact HN.out.symm) r3
  rw [← HT.out] at cv
  have r2 := (hb2.block (w.heap.size + 1) (by have := HL.out; omega)).trans R1.out
  have hne : w1.heap.size ≠ w.heap.size + 1 := by have := HL.out; omega
  have r2' := (Below.heap_setCell w2 ⟨w1.heap.size, k, none⟩ (.int .u8 b.toNat) (w.heap.size + 1) (Ne.symm hne)).trans r2
  have d0 : (w2.setCell ⟨w1.heap.size, k, none⟩ (.int .u8 b.toNat)).cell? ⟨w.heap.size + 1, 0, none⟩ = some (.bool false) := cell_at r2' rfl
  have d1 : (w2.setCell ⟨w1.heap.size, k, none⟩ (.int .u8 b.toNat)).cell? ⟨w.heap.size + 1, 1, none⟩ = some (.string ⟨#[]⟩) := cell_at r2' rfl
  have f0 : (w2.setCell ⟨w1.heap.size, k, none⟩ (.int .u8 b.toNat)).frozen? ⟨w.heap.size + 1, 0, none⟩ = false := free_at r2'
  have f1 : (w2.setCell ⟨w1.heap.size, k, none⟩ (.int .u8 b.toNat)).frozen? ⟨w.heap.size + 1, 1, none⟩ = false := free_at r2'
  have B2 := Hid.mk (((B1.out.trans (hb2.mono (by have := HL.out; omega))).setCell (p := ⟨w1.heap.size, k, none⟩) (by have := HL.out; show w.heap.size ≤ w1.heap.size; omega) (.int .u8 b.toNat)))
  clear hrow hb2 r2 r2' r3 B1 c0 c1
  go_wp2
  refine bodyPost_ret (v := Value.agg #[.bool true, .string t]) ?_ rfl ⟨rfl, ?_⟩
  · simp [results, Try.f40, go_sem, d0, d1]
  · exact (B2.out.setCell (by simp) _).setCell (by simp) _

set_option maxHeartbeats 1600000 in
set_option maxRecDepth 100000 in
theorem put_short {is : Bool} {s : ByteArray} (h : CanBe is s) (k : Nat) (hk : k < 32) (b : UInt8) (w : World) (hs : k < s.size) : Calls Try.prog 40 #[.agg #[.bool is, .string s], .int .i64 k, .int .u8 b.toNat] w fun e w' => e = .returned (.agg #[.bool true, .string (txt (put s.data.toList k b))]) ∧ Below w.heap.size w w' := by
  obtain ⟨a0, a1, az, ab⟩ := file_new w is s
  have A0 := Hid.mk a0
  have A1 := Hid.mk a1
  have AZ := Hid.mk az
  have AB := Hid.mk ab
  have HC := Hid.mk h
  have q1 : ¬ (k : Int) < 0 := by omega
  have q2 : ¬ (32 : Int) ≤ (k : Int) := by omega
  have q3 : ¬ 32 ≤ k := by omega
  have q4 : (0 : Int) ≤ (k : Int) := by omega
  obtain ⟨t, ht⟩ : ∃ t, t = txt (put s.data.toList k b) := ⟨_, rfl⟩
  rw [← ht]
  have hn : s.size = max s.data.toList.length (k + 1) := by rw [list_size]; omega
  have hn2 : s.size ≤ 32 := by have := h.le; omega
  have s0 : k < s.size := hs
  have s1 : ¬ (s.size : Int) < (k : Int) + 1 := by omega
  have s2 : ¬ s.size < k + 1 := by omega
  have s4 : (k : Int) < (s.size : Int) := by omega
  have HN := Hid.mk hn
  have HN2 := Hid.mk hn2
  have HT := Hid.mk ht
  clear a0 a1 az ab h ht hn hn2 hs
  go_enter Try.func40, Try.ntmps40
  go_wp2_with fail
  refine (good_yes HC.out _).mono ?_
  rintro e w1 ⟨rfl, hb1⟩
  have hz1 := AZ.out
  have hl := hb1.size
  have r0 : w1.heap[w.heap.size]? = some (.cells #[.bool is, .string s] 23 (0, 0)) := (hb1.block _ (by rw [hz1]; omega)).trans A0.out
  have r1 : w1.heap[w.heap.size + 1]? = some (.cells #[.bool false, .string ⟨#[]⟩] 23 (0, 0)) := (hb1.block _ (by rw [hz1]; omega)).trans A1.out
  rw [hz1] at hl
  have c0 : w1.cell? ⟨w.heap.size, 0, none⟩ = some (.bool is) := cell_at r0 rfl
  have c1 : w1.cell? ⟨w.heap.size, 1, none⟩ = some (.string s) := cell_at r0 rfl
  have R1 := Hid.mk r1
  have HL := Hid.mk hl
  have B1 := Hid.mk (AB.out.trans (hb1.mono (by rw [hz1]; omega)))
  clear hb1 r0 r1 hz1 hl A0 A1 AZ AB
  have hsz := sized_any s (s.size) HN2.out w1
  go_wp2_with fail
  refine hsz.mono ?_
  rintro e w2 ⟨rfl, hrow, hb2⟩
  clear hsz
  have x0 : w2.cell? ⟨w1.heap.size, k, none⟩ = some (.int .u8 ((pad s.data.toList (s.size))[k]'(by rw [pad_length]; omega)).toNat) := cell_at hrow (by simpa using bcells_get _ k (by rw [pad_length]; omega))
  have xf : w2.frozen? ⟨w1.heap.size, k, none⟩ = false := free_at hrow
  have r3 := row_put s.data.toList k b HN.out hrow
  have cv := conv_bytes (w := w2.setCell ⟨w1.heap.size, k, none⟩ (.int .u8 b.toNat)) (g := w1.heap.size) (cap := s.size) (put s.data.toList k b) (s.size) (by rw [put_length]; exact HN.out.symm) r3
  rw [← HT.out] at cv
  have r2 := (hb2.block (w.heap.size + 1) (by have := HL.out; omega)).trans R1.out
  have hne : w1.heap.size ≠ w.heap.size + 1 := by have := HL.out; omega
  have r2' := (Below.heap_setCell w2 ⟨w1.heap.size, k, none⟩ (.int .u8 b.toNat) (w.heap.size + 1) (Ne.symm hne)).trans r2
  have d0 : (w2.setCell ⟨w1.heap.size, k, none⟩ (.int .u8 b.toNat)).cell? ⟨w.heap.size + 1, 0, none⟩ = some (.bool false) := cell_at r2' rfl
  have d1 : (w2.setCell ⟨w1.heap.size, k, none⟩ (.int .u8 b.toNat)).cell? ⟨w.heap.size + 1, 1, none⟩ = some (.string ⟨#[]⟩) := cell_at r2' rfl
  have f0 : (w2.setCell ⟨w1.heap.size, k, none⟩ (.int .u8 b.toNat)).frozen? ⟨w.heap.size + 1, 0, none⟩ = false := free_at r2'
  have f1 : (w2.setCell ⟨w1.heap.size, k, none⟩ (.int .u8 b.toNat)).frozen? ⟨w.heap.size + 1, 1, none⟩ = false := free_at r2'
  have B2 := Hid.mk (((B1.out.trans (hb2.mono (by have := HL.out; omega))).setCell (p := ⟨w1.heap.size, k, none⟩) (by have := HL.out; show w.heap.size ≤ w1.heap.size; omega) (.int .u8 b.toNat)))
  clear hrow hb2 r2 r2' r3 B1 c0 c1
  go_wp2
  refine bodyPost_ret (v := Value.agg #[.bool true, .string t]) ?_ rfl ⟨rfl, ?_⟩
  · simp [results, Try.f40, go_sem, d0, d1]
  · exact (B2.out.setCell (by simp) _).setCell (by simp) _

set_option maxRecDepth 100000 in
theorem put_yes {is : Bool} {s : ByteArray} (h : CanBe is s) (k : Nat) (hk : k < 32) (b : UInt8) (w : World) : Calls Try.prog 40 #[.agg #[.bool is, .string s], .int .i64 k, .int .u8 b.toNat] w fun e w' => e = .returned (.agg #[.bool true, .string (txt (put s.data.toList k b))]) ∧ Below w.heap.size w w' := by
  by_cases hs : s.size ≤ k
  · exact put_long h k hk b w hs
  · exact put_short h k hk b w (by omega)

end Go.Proofs.Ytdngehfebmaegaa.Fil
