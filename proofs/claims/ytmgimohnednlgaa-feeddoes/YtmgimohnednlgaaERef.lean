/-
  The document's feed in memory, and the walks of its Arrive and Take.
-/
import Derived.Test.YtmgimohnednlgaaEScript
namespace Go.Proofs.Ytmgimohnednlgaa.Fee
open Go.RowKit Go.Proofs.Ytmgimohnednlgaa.Cel

/-- The document's feed in block m has these sockets. -/
structure Ref (w : World) (m : Nat) (f : Nat → Sk) : Prop where
  at_ : w.heap[m]? = some (.cells #[.string (f 0).text, .string (f 1).text, .string (f 2).text, .int .i64 (f 0).place, .int .i64 (f 1).place, .int .i64 (f 2).place, .int .i64 (f 0).ver, .int .i64 (f 1).ver, .int .i64 (f 2).ver] 30 (0, 0))

section
variable {w w' : World} {m : Nat} {f : Nat → Sk}

theorem Ref.lt (h : Ref w m f) : m < w.heap.size := (Array.getElem?_eq_some_iff.1 h.at_).1
theorem Ref.carry (h : Ref w m f) (hb : w'.heap[m]? = w.heap[m]?) : Ref w' m f := ⟨hb.trans h.at_⟩
theorem Ref.drewN (h : Ref w m f) (n : Nat) : Ref (w.drewN n) m f := h.carry (by rw [heap_drewN])
theorem Ref.ct (h : Ref w m f) : ∀ i, i < 3 → w.cell? ⟨m, i, none⟩ = some (.string (f i).text) :=
  below3 (by simp [World.cell?, h.at_]) (by simp [World.cell?, h.at_]) (by simp [World.cell?, h.at_])
theorem Ref.cp (h : Ref w m f) : ∀ i, i < 3 → w.cell? ⟨m, 3 + i, none⟩ = some (.int .i64 (f i).place) :=
  below3 (by simp [World.cell?, h.at_]) (by simp [World.cell?, h.at_]) (by simp [World.cell?, h.at_])
theorem Ref.cw (h : Ref w m f) : ∀ i, i < 3 → w.cell? ⟨m, 6 + i, none⟩ = some (.int .i64 (f i).ver) :=
  below3 (by simp [World.cell?, h.at_]) (by simp [World.cell?, h.at_]) (by simp [World.cell?, h.at_])
theorem Ref.fz (h : Ref w m f) (i : Nat) : w.frozen? ⟨m, i, none⟩ = false := by simp [World.frozen?, h.at_]

theorem more_text (y : Sk) (x : ByteArray) : (y.more x.data.toList).text = y.text ++ x := by
  apply ByteArray.ext
  simp [Sk.more, Sk.text]

theorem Ref.setA {x : ByteArray} (h : Ref w m f) (i : Nat) (hi : i < 3) : Ref (w.setCell ⟨m, i, none⟩ (.string ((f i).text ++ x))) m (upd f i ((f i).more x.data.toList)) := by
  refine ⟨?_⟩
  rw [heap_set _ h.at_, ← more_text]
  revert i
  exact below3 (by simp [upd, Sk.more]) (by simp [upd, Sk.more]) (by simp [upd, Sk.more])

theorem Ref.setP {p : Nat} {v : Int} (h : Ref w m f) (i : Nat) (hi : i < 3) : Ref ((w.setCell ⟨m, 3 + i, none⟩ (.int .i64 p)).setCell ⟨m, 6 + i, none⟩ (.int .i64 v)) m (upd f i ((f i).took p v)) := by
  refine ⟨?_⟩
  rw [heap_set _ (heap_set _ h.at_)]
  revert i
  exact below3 (by simp [upd, Sk.took, Sk.text]) (by simp [upd, Sk.took, Sk.text]) (by simp [upd, Sk.took, Sk.text])

theorem only_drew {b : Nat} {w w' : World} (h : Only b w w') : Only b w w'.drew := ⟨h.os, h.tape, h.output, h.size, h.block⟩

set_option maxHeartbeats 1600000 in
set_option maxRecDepth 100000 in
theorem refArr (h : Ref w m f) (hg : ∀ i, i < 3 → (f i).Good) (s : Int) (x : ByteArray) (hx : x.size ≤ 1000000) :
    Calls Try.prog 9 #[.pointer (some ⟨m, 0, none⟩), .int .i64 s, .string x] w fun e w' => e = .returned (.int .i64 (anArr f s x)) ∧ Ref w' m (stArr f s x) ∧ Only m w w' := by
  unfold anArr stArr
  cases hs : isS s with
  | false =>
    simp only [Bool.false_and, Bool.false_eq_true, if_false]
    have HS := Hid.mk hs
    clear hs
    go_enter Try.func9, Try.ntmps9
    go_wp2_with fail
    refine (is_any s _).mono ?_
    rintro e w1 ⟨rfl, hw1⟩
    rw [hw1, HS.out]
    clear hw1 w1
    go_wp2
    go_ret
    exact ⟨rfl, h, Only.refl _ _⟩
  | true =>
    obtain ⟨i, hi, rfl⟩ := isS_yes hs
    have ct := h.ct i hi
    have z0 := h.fz i
    have hr := (hg i hi).room
    have hts := Sk.text_size (f i)
    have q0 : ¬ (i : Int) < 0 := by omega
    have q1 : (i : Int) < 3 := by omega
    have HS := Hid.mk hs
    cases hf : fitS f (i : Int) x with
    | false =>
      simp only [Bool.and_false, Bool.false_eq_true, if_false, if_true]
      have hl : 64 < (f i).bs.length + x.size := by simpa [fitS] using hf
      obtain ⟨T, hT⟩ : ∃ T, T = (f i).text := ⟨_, rfl⟩
      rw [← hT] at ct hts
      rw [← hts] at hl hr
      have H := Hid.mk h
      have e1 : IntKind.i64.wrap ((T.size : Int) + (x.size : Int)) = (T.size : Int) + (x.size : Int) := by rw [IntKind.wrap_i64]; omega
      have q2 : (64 : Int) < (T.size : Int) + (x.size : Int) := by omega
      have q4 : 64 < T.size + x.size := hl
      clear hs hf hT hts h
      go_enter Try.func9, Try.ntmps9
      go_wp2_with fail
      refine (is_any i _).mono ?_
      rintro e w1 ⟨rfl, hw1⟩
      rw [hw1, HS.out]
      clear hw1 w1
      go_wp2
      go_ret
      exact ⟨rfl, H.out, Only.refl _ _⟩
    | true =>
      simp only [Bool.and_self, if_true, Int.toNat_natCast]
      have hl : (f i).bs.length + x.size ≤ 64 := by simpa [fitS] using hf
      have hset := h.setA (x := x) i hi
      obtain ⟨T, hT⟩ : ∃ T, T = (f i).text := ⟨_, rfl⟩
      rw [← hT] at ct hts hset
      rw [← hts] at hl hr
      have hcat : T.size + x.size ≤ 4096 := by omega
      have HR := Hid.mk (show Ref ((w.setCell ⟨m, i, none⟩ (.string (T ++ x))).drew) m (upd f i ((f i).more x.data.toList)) from ⟨hset.at_⟩)
      have HO := Hid.mk (only_drew ((Only.refl m w).set i (.string (T ++ x))))
      have e1 : IntKind.i64.wrap ((T.size : Int) + (x.size : Int)) = (T.size : Int) + (x.size : Int) := by rw [IntKind.wrap_i64]; omega
      have q2 : ¬ (64 : Int) < (T.size : Int) + (x.size : Int) := by omega
      have q4 : ¬ 64 < T.size + x.size := by omega
      clear hs hf hT hts h hset
      go_enter Try.func9, Try.ntmps9
      go_wp2_with fail
      refine (is_any i _).mono ?_
      rintro e w1 ⟨rfl, hw1⟩
      rw [hw1, HS.out]
      clear hw1 w1
      go_wp2_with fail
      go_region
      all_goals
        go_wp2
        go_ret
        exact ⟨rfl, ⟨HR.out.at_⟩, HO.out⟩

set_option maxHeartbeats 1600000 in
set_option maxRecDepth 100000 in
theorem refTake (h : Ref w m f) (s p v : Int) :
    Calls Try.prog 11 #[.pointer (some ⟨m, 0, none⟩), .int .i64 s, .int .i64 p, .int .i64 v] w fun e w' => e = .returned (.bool (anTake f s p)) ∧ Ref w' m (stTake f s p v) ∧ Only m w w' := by
  unfold stTake anTake
  cases hs : isS s with
  | false =>
    simp only [Bool.false_and, Bool.false_eq_true, if_false]
    have HS := Hid.mk hs
    clear hs
    go_enter Try.func11, Try.ntmps11
    go_wp2_with fail
    refine (is_any s _).mono ?_
    rintro e w1 ⟨rfl, hw1⟩
    rw [hw1, HS.out]
    clear hw1 w1
    go_wp2
    go_ret
    exact ⟨rfl, h, Only.refl _ _⟩
  | true =>
    obtain ⟨i, hi, rfl⟩ := isS_yes hs
    have ct := h.ct i hi
    have cp := h.cp i hi
    have cw := h.cw i hi
    have z0 := h.fz (3 + i)
    have z1 := h.fz (6 + i)
    have hts := Sk.text_size (f i)
    have q0 : ¬ (i : Int) < 0 := by omega
    have q1 : (i : Int) < 3 := by omega
    have HS := Hid.mk hs
    obtain ⟨T, hT⟩ : ∃ T, T = (f i).text := ⟨_, rfl⟩
    rw [← hT] at ct hts
    obtain ⟨P, hP⟩ : ∃ P, P = (f i).place := ⟨_, rfl⟩
    rw [← hP] at cp
    cases hf : okT (f (i : Int).toNat) p with
    | false =>
      simp only [Bool.and_false, Bool.false_eq_true, if_false]
      have hb := okT_not hf
      simp only [Int.toNat_natCast] at hb
      rw [← hP, ← hts] at hb
      have H := Hid.mk h
      by_cases h1 : p < (P : Int)
      · clear hs hf hT hts hP hb h
        go_enter Try.func11, Try.ntmps11
        go_wp2_with fail
        refine (is_any i _).mono ?_
        rintro e w1 ⟨rfl, hw1⟩
        rw [hw1, HS.out]
        clear hw1 w1
        go_wp2
        go_ret
        exact ⟨rfl, H.out, Only.refl _ _⟩
      · have h2 : (T.size : Int) < p := by omega
        clear hs hf hT hts hP hb h
        go_enter Try.func11, Try.ntmps11
        go_wp2_with fail
        refine (is_any i _).mono ?_
        rintro e w1 ⟨rfl, hw1⟩
        rw [hw1, HS.out]
        clear hw1 w1
        go_wp2
        go_ret
        exact ⟨rfl, H.out, Only.refl _ _⟩
    | true =>
      simp only [Bool.and_self, if_true, Int.toNat_natCast]
      obtain ⟨n, rfl, k1, k2⟩ := okT_of hf
      simp only [Int.toNat_natCast] at k1 k2 ⊢
      rw [← hP] at k1
      rw [← hts] at k2
      have h1 : ¬ (n : Int) < (P : Int) := by omega
      have h2 : ¬ (T.size : Int) < (n : Int) := by omega
      have h3 : ¬ n < P := by omega
      have h4 : ¬ T.size < n := by omega
      have HR := Hid.mk (h.setP (p := n) (v := v) i hi)
      have HO := Hid.mk (((Only.refl m w).set (3 + i) (.int .i64 n)).set (6 + i) (.int .i64 v))
      clear hs hf hT hts hP h k1 k2
      go_enter Try.func11, Try.ntmps11
      go_wp2_with fail
      refine (is_any i _).mono ?_
      rintro e w1 ⟨rfl, hw1⟩
      rw [hw1, HS.out]
      clear hw1 w1
      go_wp2
      go_ret
      exact ⟨rfl, ⟨HR.out.at_⟩, HO.out⟩

end

end Go.Proofs.Ytmgimohnednlgaa.Fee
