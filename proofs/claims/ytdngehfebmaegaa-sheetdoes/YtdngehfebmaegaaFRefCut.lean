/-
  The document's Cut and Put.
-/
import Derived.Test.YtdngehfebmaegaaFRefAt
namespace Go.Proofs.Ytdngehfebmaegaa.Fil
open Go.RowKit Go.Deep

theorem ref_new (w : World) (is : Bool) (s : ByteArray) :
    let w0 := (w.alloc (.cells #[.bool is, .string s] 36)).alloc (.cells #[.bool false, .string ⟨#[]⟩] 36)
    w0.heap[w.heap.size]? = some (.cells #[.bool is, .string s] 36 (0, 0)) ∧ w0.heap[w.heap.size + 1]? = some (.cells #[.bool false, .string ⟨#[]⟩] 36 (0, 0)) ∧ w0.heap.size = w.heap.size + 2 ∧ Below w.heap.size w w0 :=
  ⟨(Below.heap_alloc _ _ _ (by simp)).trans (heap_new w _), by simpa using heap_new (w.alloc (.cells #[.bool is, .string s] 36)) (.cells #[.bool false, .string ⟨#[]⟩] 36), by simp, ((Below.refl w.heap.size w).alloc (Nat.le_refl _) _).alloc (by simp) _⟩

theorem pad_none (l : List UInt8) : pad l 0 = [] := by simp [pad]

/-- What stands in the two blocks of a call of the document's, whatever it has laid behind them. -/
structure At2 (w wr : World) (is : Bool) (s : ByteArray) : Prop where
  f : wr.heap[w.heap.size]? = some (.cells #[.bool is, .string s] 36 (0, 0))
  r : wr.heap[w.heap.size + 1]? = some (.cells #[.bool false, .string ⟨#[]⟩] 36 (0, 0))
  bel : Below w.heap.size w wr
  lt : w.heap.size + 2 ≤ wr.heap.size

section
variable {w wr w' : World} {is : Bool} {s : ByteArray}

theorem At2.start (w : World) (is : Bool) (s : ByteArray) : At2 w ((w.alloc (.cells #[.bool is, .string s] 36)).alloc (.cells #[.bool false, .string ⟨#[]⟩] 36)) is s := by
  obtain ⟨a, b, c, d⟩ := ref_new w is s
  exact ⟨a, b, d, by rw [c]; exact Nat.le_refl _⟩
theorem At2.grow (h : At2 w wr is s) (hb : Below wr.heap.size wr w') : At2 w w' is s :=
  ⟨(hb.block _ (by have := h.lt; omega)).trans h.f, (hb.block _ (by have := h.lt; omega)).trans h.r, h.bel.trans (hb.mono h.bel.size), Nat.le_trans h.lt hb.size⟩
theorem At2.alloc (h : At2 w wr is s) (o : Obj) : At2 w (wr.alloc o) is s := h.grow ((Below.refl _ wr).alloc (Nat.le_refl _) o)
theorem At2.c0 (h : At2 w wr is s) : wr.cell? ⟨w.heap.size, 0, none⟩ = some (.bool is) := cell_at h.f rfl
theorem At2.c1 (h : At2 w wr is s) : wr.cell? ⟨w.heap.size, 1, none⟩ = some (.string s) := cell_at h.f rfl
theorem At2.d0 (h : At2 w wr is s) : wr.cell? ⟨w.heap.size + 1, 0, none⟩ = some (.bool false) := cell_at h.r rfl
theorem At2.d1 (h : At2 w wr is s) : wr.cell? ⟨w.heap.size + 1, 1, none⟩ = some (.string ⟨#[]⟩) := cell_at h.r rfl
theorem At2.f0 (h : At2 w wr is s) (i : Nat) : wr.frozen? ⟨w.heap.size + 1, i, none⟩ = false := free_at h.r
theorem At2.fin (h : At2 w wr is s) (x y : Value) : Below w.heap.size w ((wr.setCell ⟨w.heap.size + 1, 0, none⟩ x).setCell ⟨w.heap.size + 1, 1, none⟩ y) := (h.bel.setCell (by simp) _).setCell (by simp) _

end

/-- The byte that stands for a place: 0, if there is none. -/
theorem max_at (s : ByteArray) (i : Nat) : (if atI s i < 0 then 0 else atI s i) = ((atz s.data.toList i).toNat : Int) := by
  by_cases h : i < s.size
  · rw [atI_yes s i h, if_neg (by omega)]
  · rw [atI_no s i (.inr (by omega)), atz_out _ i (by rw [list_size]; omega)]
    rfl

theorem max_at' (s : ByteArray) (i : Nat) : (if 0 < atI s i then atI s i else 0) = ((atz s.data.toList i).toNat : Int) := by
  have := max_at s i
  split <;> split at this <;> omega

set_option maxHeartbeats 1600000 in
set_option maxRecDepth 100000 in
theorem refCut_yes {s : ByteArray} (hs : s.size ≤ 32) (n : Nat) (hn : n ≤ 32) (w : World) : Calls Try.prog 56 #[.agg #[.bool true, .string s], .int .i64 n] w fun e w' => e = .returned (.agg #[.bool true, .string (txt (pad s.data.toList n))]) ∧ Below w.heap.size w w' := by
  have h2 := At2.start w true s
  obtain ⟨w0, hw0⟩ : ∃ w0, w0 = (w.alloc (.cells #[.bool true, .string s] 36)).alloc (.cells #[.bool false, .string ⟨#[]⟩] 36) := ⟨_, rfl⟩
  have c0 := h2.c0
  have H2 := Hid.mk h2
  have HS := Hid.mk hs
  have q1 : ¬ (n : Int) < 0 := by omega
  have q2 : ¬ (32 : Int) < (n : Int) := by omega
  obtain ⟨T, hT⟩ : ∃ T, T = txt (pad s.data.toList n) := ⟨_, rfl⟩
  rw [← hT]
  have HT := Hid.mk hT
  clear h2 hs hT
  go_enter Try.func56, Try.ntmps56
  go_wp2_with fail
  rw [← hw0]
  rw [← hw0] at H2
  clear c0 hw0
  go_loopw [5, 6] (fun sv iv wr => ∃ j : Nat, j ≤ n ∧ iv = .int .i64 j ∧ sv = .string (txt (pad s.data.toList j)) ∧ At2 w wr true s) (fun _ iv _ => n - (intOf iv).toNat)
  case atStart => exact ⟨0, Nat.zero_le _, rfl, by rw [pad_none]; rfl, H2.out⟩
  case round =>
    obtain ⟨j, hj, rfl, hsv, h2⟩ := hrel
    obtain ⟨t, ht⟩ : ∃ t, t = txt (pad s.data.toList j) := ⟨_, rfl⟩
    rw [← ht] at hsv
    rw [hsv]
    have hsl : t.size ≤ 100 := by rw [ht, txt_size, pad_length]; omega
    have HTJ := Hid.mk ht
    clear hsv H2 ht
    by_cases hlt : j < n
    · have hlt2 : (j : Int) < (n : Int) := by omega
      have c0 := h2.c0
      have c1 := h2.c1
      have c := refAt_any true s HS.out j wr
      obtain ⟨v, hv⟩ : ∃ v, v = atz s.data.toList j := ⟨_, rfl⟩
      have m1 := max_at s j
      have m2 := max_at' s j
      rw [← hv] at m1 m2
      obtain ⟨X, hX⟩ : ∃ X, X = atI s j := ⟨_, rfl⟩
      rw [← hX] at c m1 m2
      have HV := Hid.mk hv
      have H2 := Hid.mk h2
      clear hv hX h2
      go_wp2_with fail
      refine c.mono ?_
      rintro e w1 ⟨rfl, hz1⟩
      have h3 := H2.out.grow hz1
      have H3 := Hid.mk h3
      have cv := conv_one w1 v
      have q8 := wrap8 v
      have hs1 : (txt [v]).size = 1 := rfl
      clear c hz1 h3 c0 c1
      go_wp2
      go_roundw
      case rel =>
        refine ⟨j + 1, hlt, by go_num, ?_, H3.out.alloc _⟩
        rw [HTJ.out, add_one, HV.out, pad_succ]
      case measure => simp [intOf]; omega
    · have hlt2 : ¬ (j : Int) < (n : Int) := by omega
      have ej : j = n := by omega
      have et : t = T := by rw [HTJ.out, HT.out, ej]
      rw [et]
      have d0 := h2.d0
      have d1 := h2.d1
      have f0 := h2.f0 0
      have f1 := h2.f0 1
      have H2 := Hid.mk h2
      clear ej et h2 hsl HTJ
      clear t
      go_wp2
      refine bodyPost_ret (v := .agg #[.bool true, .string T]) ?_ rfl ⟨rfl, H2.out.fin _ _⟩
      simp [results, Try.f56, go_sem, d0, d1]

theorem two_new (w : World) (o o' : Obj) : Below w.heap.size w ((w.alloc o).alloc o') := ((Below.refl w.heap.size w).alloc (Nat.le_refl _) o).alloc (by simp) o'

set_option maxHeartbeats 1600000 in
set_option maxRecDepth 100000 in
theorem refCut_out (is : Bool) (s : ByteArray) (n : Int) (hn : is = false ∨ n < 0 ∨ 32 < n) (w : World) : Calls Try.prog 56 #[.agg #[.bool is, .string s], .int .i64 n] w fun e w' => e = .returned (.agg #[.bool is, .string s]) ∧ Below w.heap.size w w' := by
  cases is with
  | false =>
    clear hn
    go_enter Try.func56, Try.ntmps56
    go_wp2
    refine bodyPost_ret (v := .agg #[.bool false, .string s]) ?_ rfl ⟨rfl, two_new w _ _⟩
    simp [results, Try.f56, go_sem]
  | true =>
    by_cases h0 : n < 0
    · clear hn
      go_enter Try.func56, Try.ntmps56
      go_wp2
      refine bodyPost_ret (v := .agg #[.bool true, .string s]) ?_ rfl ⟨rfl, two_new w _ _⟩
      simp [results, Try.f56, go_sem]
    · have h1 : 32 < n := by simp at hn; omega
      clear hn
      go_enter Try.func56, Try.ntmps56
      go_wp2
      refine bodyPost_ret (v := .agg #[.bool true, .string s]) ?_ rfl ⟨rfl, two_new w _ _⟩
      simp [results, Try.f56, go_sem]

set_option maxHeartbeats 1600000 in
set_option maxRecDepth 100000 in
theorem refPut_out (is : Bool) (s : ByteArray) (k : Int) (hk : k < 0 ∨ 31 < k) (b : UInt8) (w : World) : Calls Try.prog 55 #[.agg #[.bool is, .string s], .int .i64 k, .int .u8 b.toNat] w fun e w' => e = .returned (.agg #[.bool is, .string s]) ∧ Below w.heap.size w w' := by
  by_cases h0 : k < 0
  · clear hk
    go_enter Try.func55, Try.ntmps55
    go_wp2
    refine bodyPost_ret (v := .agg #[.bool is, .string s]) ?_ rfl ⟨rfl, two_new w _ _⟩
    simp [results, Try.f55, go_sem]
  · have h1 : 31 < k := by omega
    clear hk
    go_enter Try.func55, Try.ntmps55
    go_wp2
    refine bodyPost_ret (v := .agg #[.bool is, .string s]) ?_ rfl ⟨rfl, two_new w _ _⟩
    simp [results, Try.f55, go_sem]

set_option maxHeartbeats 1600000 in
set_option maxRecDepth 100000 in
theorem refPut_yes (is : Bool) {s : ByteArray} (hs : s.size ≤ 32) (k : Nat) (hk : k < 32) (b : UInt8) (w : World) : Calls Try.prog 55 #[.agg #[.bool is, .string s], .int .i64 k, .int .u8 b.toNat] w fun e w' => e = .returned (.agg #[.bool true, .string (txt (put s.data.toList k b))]) ∧ Below w.heap.size w w' := by
  have h2 := At2.start w is s
  obtain ⟨w0, hw0⟩ : ∃ w0, w0 = (w.alloc (.cells #[.bool is, .string s] 36)).alloc (.cells #[.bool false, .string ⟨#[]⟩] 36) := ⟨_, rfl⟩
  have H2 := Hid.mk h2
  have HS := Hid.mk hs
  have q1 : ¬ (k : Int) < 0 := by omega
  have q2 : ¬ (31 : Int) < (k : Int) := by omega
  obtain ⟨n, hn⟩ : ∃ n, n = max s.data.toList.length (k + 1) := ⟨_, rfl⟩
  have hn2 : n ≤ 32 := by rw [hn, list_size]; omega
  have hnj : ∀ j : Nat, j < n ↔ j < s.size ∨ j ≤ k := by intro j; rw [hn, list_size]; omega
  obtain ⟨T, hT⟩ : ∃ T, T = txt (put s.data.toList k b) := ⟨_, rfl⟩
  rw [← hT]
  have HT := Hid.mk hT
  have HN := Hid.mk hn
  have HNJ := Hid.mk hnj
  clear h2 hs hT hn hnj
  go_enter Try.func55, Try.ntmps55
  go_wp2_with fail
  rw [← hw0]
  rw [← hw0] at H2
  clear hw0
  go_loopw [7, 8, 9] (fun sv iv _ wr => ∃ j : Nat, j ≤ n ∧ iv = .int .i64 j ∧ sv = .string (txt (built s.data.toList k b j)) ∧ At2 w wr is s) (fun _ iv _ _ => n - (intOf iv).toNat)
  case atStart => exact ⟨0, Nat.zero_le _, rfl, rfl, H2.out⟩
  case round =>
    obtain ⟨j, hj, rfl, hsv, h2⟩ := hrel
    obtain ⟨t, ht⟩ : ∃ t, t = txt (built s.data.toList k b j) := ⟨_, rfl⟩
    rw [← ht] at hsv
    rw [hsv]
    have hsl : t.size ≤ 100 := by rw [ht, txt_size, built_length]; omega
    have HTJ := Hid.mk ht
    clear hsv H2 ht
    by_cases hlt : j < n
    · have hor : ((decide ((j : Int) < (s.size : Int))) || decide ((j : Int) ≤ (k : Int))) = true := by
        have := (HNJ.out j).1 hlt
        simp
        omega
      have c1 := h2.c1
      have c0 := h2.c0
      have c := refAt_any is s HS.out j wr
      have m1 := max_at s j
      have m2 := max_at' s j
      obtain ⟨X, hX⟩ : ∃ X, X = atI s j := ⟨_, rfl⟩
      rw [← hX] at c m1 m2
      have H2 := Hid.mk h2
      have HLT := Hid.mk hlt
      clear hX h2 hlt
      obtain ⟨v, hv⟩ : ∃ v, v = atz s.data.toList j := ⟨_, rfl⟩
      rw [← hv] at m1 m2
      have HV := Hid.mk hv
      clear hv
      by_cases ha : j < s.size
      · have ha2 : (j : Int) < (s.size : Int) := by omega
        by_cases he : j = k
        · have he2 : ((j : Int) == (k : Int)) = true := by simp [he]
          have HJK := Hid.mk he
          clear he
          clear hor
          have wz : wrap64 (b.toNat : Int) = (b.toNat : Int) := wrap_u8 b
          go_wp2_with fail
          refine c.mono ?_
          rintro e w1 ⟨rfl, hz1⟩
          have h3 := H2.out.grow hz1
          have H3 := Hid.mk h3
          have cv := conv_one w1 b
          have q8 := wrap8 b
          have hs1 : (txt [b]).size = 1 := rfl
          clear c hz1 h3 c0 c1
          go_wp2
          go_roundw
          case rel =>
            refine ⟨j + 1, HLT.out, by go_num, ?_, H3.out.alloc _⟩
            rw [HTJ.out, add_one, built_succ, if_pos HJK.out]
          case measure => have := HLT.out; simp [intOf]; omega
        · have he2 : ((j : Int) == (k : Int)) = false := by simp; omega
          have HJK := Hid.mk he
          clear he
          clear hor
          have wz : wrap64 (b.toNat : Int) = (b.toNat : Int) := wrap_u8 b
          go_wp2_with fail
          refine c.mono ?_
          rintro e w1 ⟨rfl, hz1⟩
          have h3 := H2.out.grow hz1
          have H3 := Hid.mk h3
          have cv := conv_one w1 v
          have q8 := wrap8 v
          have hs1 : (txt [v]).size = 1 := rfl
          clear c hz1 h3 c0 c1
          go_wp2
          go_roundw
          case rel =>
            refine ⟨j + 1, HLT.out, by go_num, ?_, H3.out.alloc _⟩
            rw [HTJ.out, add_one, HV.out, built_succ, if_neg HJK.out]
          case measure => have := HLT.out; simp [intOf]; omega
      · have ha2 : ¬ (j : Int) < (s.size : Int) := by omega
        have ha3 : (j : Int) ≤ (k : Int) := by have := (HNJ.out j).1 HLT.out; omega
        by_cases he : j = k
        · have he2 : ((j : Int) == (k : Int)) = true := by simp [he]
          have HJK := Hid.mk he
          clear he
          clear hor
          have wz : wrap64 (b.toNat : Int) = (b.toNat : Int) := wrap_u8 b
          go_wp2_with fail
          refine c.mono ?_
          rintro e w1 ⟨rfl, hz1⟩
          have h3 := H2.out.grow hz1
          have H3 := Hid.mk h3
          have cv := conv_one w1 b
          have q8 := wrap8 b
          have hs1 : (txt [b]).size = 1 := rfl
          clear c hz1 h3 c0 c1
          go_wp2
          go_roundw
          case rel =>
            refine ⟨j + 1, HLT.out, by go_num, ?_, H3.out.alloc _⟩
            rw [HTJ.out, add_one, built_succ, if_pos HJK.out]
          case measure => have := HLT.out; simp [intOf]; omega
        · have he2 : ((j : Int) == (k : Int)) = false := by simp; omega
          have HJK := Hid.mk he
          clear he
          clear hor
          have wz : wrap64 (b.toNat : Int) = (b.toNat : Int) := wrap_u8 b
          go_wp2_with fail
          refine c.mono ?_
          rintro e w1 ⟨rfl, hz1⟩
          have h3 := H2.out.grow hz1
          have H3 := Hid.mk h3
          have cv := conv_one w1 v
          have q8 := wrap8 v
          have hs1 : (txt [v]).size = 1 := rfl
          clear c hz1 h3 c0 c1
          go_wp2
          go_roundw
          case rel =>
            refine ⟨j + 1, HLT.out, by go_num, ?_, H3.out.alloc _⟩
            rw [HTJ.out, add_one, HV.out, built_succ, if_neg HJK.out]
          case measure => have := HLT.out; simp [intOf]; omega
    · have ha2 : ¬ (j : Int) < (s.size : Int) := by have := (HNJ.out j).2; omega
      have ha3 : ¬ (j : Int) ≤ (k : Int) := by have := (HNJ.out j).2; omega
      have et : t = T := by
        have ej : j = n := by omega
        rw [HTJ.out, HT.out, ej, HN.out, built_all]
      rw [et]
      have d0 := h2.d0
      have d1 := h2.d1
      have c1 := h2.c1
      have f0 := h2.f0 0
      have f1 := h2.f0 1
      have H2 := Hid.mk h2
      clear et h2 hsl HTJ
      clear t
      go_wp2
      refine bodyPost_ret (v := .agg #[.bool true, .string T]) ?_ rfl ⟨rfl, H2.out.fin _ _⟩
      simp [results, Try.f55, go_sem, d0, d1]

end Go.Proofs.Ytdngehfebmaegaa.Fil
