/-
  The document's own answers of layer 5: Image, Told, Found.
-/
import Derived.Test.YtcofiidibhmhgaaVRow
namespace Go.Proofs.Ytcofiidibhmhgaa
open Go.RowKit

set_option maxHeartbeats 800000 in
set_option maxRecDepth 100000 in
theorem refImage_any (e : Nat) (s : ByteArray) (he : e ≤ 9223372036854775807) (hs : s.size ≤ 1000000) (w : World) :
    Calls Try.prog 19 #[.int .i64 e, .string s] w fun en w' => en = .returned (.string (recOf (imgB e s))) ∧ Below w.heap.size w w' := by
  have hn := Sty.refNat_any w (e : Int) (by omega)
  have hw : Sty.natB (e : Int) = Sty.wide e := by unfold Sty.natB; rw [if_neg (by omega), Int.toNat_natCast]
  rw [hw] at hn
  have hlw : (Sty.wide e).length ≤ 10 := Sty.wide_len (by omega)
  have h1 : (⟨#[0]⟩ : ByteArray) ++ (⟨(Sty.wide e).toArray⟩ : ByteArray) ++ s = imgB e s := bytes_ext (by rw [imgB_list]; simp)
  have hz : (⟨(Sty.wide e).toArray⟩ : ByteArray).size ≤ 10 := by rw [str_size]; exact hlw
  obtain ⟨nb, hnb⟩ : ∃ nb : ByteArray, nb = ⟨(Sty.wide e).toArray⟩ := ⟨_, rfl⟩
  rw [← hnb] at hn h1 hz
  have hzi := imgB_size e s
  have HN := Hid.mk hn
  have H1 := Hid.mk h1
  clear hn hw hnb h1
  go_enter Try.func19, Try.ntmps19
  go_wp2_with fail
  refine HN.out.mono ?_
  rintro en w1 ⟨rfl, hb1⟩
  go_wp2_with fail
  rw [H1.out]
  refine (refClose_any _ (imgB e s) (by omega)).mono ?_
  rintro en w2 ⟨rfl, hb2⟩
  have hb3 := hb1.trans (hb2.mono hb1.size)
  obtain ⟨X, hX⟩ : ∃ X : ByteArray, X = ⟨(recB (imgB e s).data.toList).toArray⟩ := ⟨_, rfl⟩
  rw [← hX]
  have HX := Hid.mk hX
  clear hX hb1 hb2
  go_wp2
  go_ret
  exact ⟨by rw [HX.out]; rfl, hb3⟩

theorem head_of {t : ByteArray} (h : 0 < t.size) : t.data.toList = t[0] :: t.data.toList.drop 1 := by
  cases hl : t.data.toList with
  | nil => rw [← size_list, hl] at h; simp at h
  | cons c r =>
    have : t[0] = c := by
      have h1 := Sty.byte_at t 0 h
      rw [hl] at h1
      exact UInt8.toNat_inj.1 h1
    rw [this]
    rfl

theorem noImg_empty {t : ByteArray} (h : t.size = 0) : NoImg t := fun e s hi => by
  have := imgB_size e s
  rw [← hi.2.2] at this
  omega
theorem notLd_empty {t : ByteArray} (h : t.size = 0) : NotLd t := fun s hi => by
  have := ldB_size s
  rw [← hi] at this
  omega
theorem noImg_byte {t : ByteArray} (h : 0 < t.size) (hq : ((t[0].toNat : Int) != 0) = true) : NoImg t := fun e s hi => by
  have h1 := head_of h
  have h2 : t.data.toList = 0 :: (Sty.wide e ++ s.data.toList) := by rw [hi.2.2, imgB_list]
  rw [h2] at h1
  have h3 := (List.cons.inj h1).1
  rw [← h3] at hq
  simp at hq
theorem zero_byte {t : ByteArray} (h : 0 < t.size) (hq : ((t[0].toNat : Int) != 0) = false) : t.data.toList = 0 :: t.data.toList.drop 1 := by
  have h1 := head_of h
  have h2 : t[0] = 0 := by
    simp at hq
    exact UInt8.toNat_inj.1 hq
  rw [h2] at h1
  exact h1
theorem notLd_byte {t : ByteArray} (h : 0 < t.size) (hq : ((t[0].toNat : Int) != 1) = true) : NotLd t := fun s hi => by
  have h1 := head_of h
  have h2 : t.data.toList = 1 :: s.data.toList := by rw [hi, ldB_list]
  rw [h2] at h1
  have h3 := (List.cons.inj h1).1
  rw [← h3] at hq
  simp at hq
theorem ld_byte {t : ByteArray} (h : 0 < t.size) (hq : ((t[0].toNat : Int) != 1) = false) : t = ldB (t.extract 1 t.size) := by
  have h1 := head_of h
  have h2 : t[0] = 1 := by
    simp at hq
    apply UInt8.toNat_inj.1
    show t[0].toNat = 1
    omega
  apply bytes_ext
  rw [ldB_list, Sty.extract_list, ← h2]
  exact h1

theorem take_at {L : List ByteArray} {j : Nat} {t : ByteArray} (hj : j < L.length) (ht : t = L[j]) : L.take (j + 1) = L.take j ++ [t] := by rw [List.take_succ_eq_append_getElem hj, ht]
theorem split_at {L : List ByteArray} {j : Nat} {t : ByteArray} (hj : j < L.length) (ht : t = L[j]) : L = L.take j ++ t :: L.drop (j + 1) := by
  rw [ht, ← List.drop_eq_getElem_cons hj, List.take_append_drop]

/-- A first record that is no image's. -/
theorem told_first {L : List ByteArray} {t : ByteArray} (hj : 0 < L.length) (ht : t = L[0]) (hn : NoImg t) : Told L 0 ⟨#[]⟩ [] := .inl ⟨rfl, rfl, rfl, fun r R hL => by
  subst hL
  simp at ht
  rw [← ht]
  exact hn⟩
/-- A record behind loads that is none. -/
theorem told_break {L lds : List ByteArray} {j e : Nat} {s t : ByteArray} (h0 : j ≠ 0) (hj : j < L.length) (ht : t = L[j]) (hseen : Seen (L.take j) e s lds) (hn : NotLd t) : Told L e s lds := by
  rcases hseen with ⟨h, _⟩ | ⟨r, h, hi⟩
  · have := congrArg List.length h
    rw [List.length_take] at this
    simp only [List.length_nil] at this
    omega
  · refine .inr ⟨r, lds.map ldB ++ t :: L.drop (j + 1), ?_, hi, (loadsOf_stop lds hn _).symm⟩
    have h1 := split_at hj ht
    rw [h] at h1
    exact h1
theorem told_end {L lds : List ByteArray} {e : Nat} {s : ByteArray} (hseen : Seen L e s lds) : Told L e s lds := by
  rcases hseen with ⟨rfl, rfl, rfl, rfl⟩ | ⟨r, rfl, hi⟩
  · exact Told.none
  · exact .inr ⟨r, _, rfl, hi, (loadsOf_map _).symm⟩

/-- What the document's Told answers. -/
def RTold (w : World) (x : ByteArray) (en : Ending) (w' : World) : Prop :=
  ∃ (e : Nat) (s : ByteArray) (va : Option Addr) (vc : Nat) (lds L : List ByteArray), en = .returned (.tuple #[.int .i64 e, .string s, .slice va lds.length vc]) ∧ AllOf x.data.toList L ∧ Told L e s lds ∧
    w'.ownsRow w.heap.size 9 1 (.slice va lds.length vc) lds.length (textCells lds) ∧ Below w.heap.size w w'

set_option maxHeartbeats 3200000 in
set_option maxRecDepth 100000 in
theorem refTold_any (w : World) (x : ByteArray) (hsz : x.size ≤ 16384) :
    Calls Try.prog 31 #[.string x] w (RTold w x) := by
  go_enter Try.func31, Try.ntmps31
  go_wp2_with fail
  refine (refAll_any w x (by omega)).mono ?_
  rintro en w1 ⟨v1, L, rfl, hL, row1, hb1⟩
  obtain ⟨va1, vc1, rfl, ht1⟩ := texts_of_row row1
  have hLl : L.length ≤ 2731 := by
    have h1 := hL.whole
    have h2 := wholeN_len L
    rw [size_list] at h1
    omega
  have hsm := hL.small
  have HSM := Hid.mk hsm
  have HL := Hid.mk hL
  have HR1 := Hid.mk row1
  clear hsm hL row1
  obtain ⟨g, off, hg1, hg2⟩ := ht1.some_at
  have HT1 := Hid.mk ht1
  clear ht1
  go_wp2
  go_loopw [5, 6, 7, 8, 9, 10, 11, 15] (fun lv ev iv _ _ _ _ i wr => ∃ (j e : Nat) (s : ByteArray) (lds : List ByteArray), j ≤ L.length ∧ i = .int .i64 j ∧ ev = .int .i64 e ∧ iv = .string s ∧ Seen (L.take j) e s lds ∧ wr.ownsRow w1.heap.size 9 1 lv lds.length (textCells lds) ∧ Below w1.heap.size w1 wr) (fun _ _ _ _ _ _ _ i _ => L.length - (intOf i).toNat)
  case atStart => exact ⟨0, 0, ⟨#[]⟩, [], Nat.zero_le _, rfl, rfl, rfl, .inl ⟨rfl, rfl, rfl, rfl⟩, ⟨rfl, .inl ⟨rfl, rfl⟩⟩, Below.refl _ _⟩
  case round =>
    obtain ⟨j, e, s, lds, hj, rfl, rfl, rfl, hseen, hrow, hbr⟩ := hrel
    by_cases hlt : j < L.length
    · have hga := hg1 (fun h => by rw [h] at hlt; simp at hlt)
      subst hga
      have c := (hbr.cell (p := ⟨g, off + j, none⟩) (World.block_lt_of_cell? w1 _ (hg2 j hlt))).trans (hg2 j hlt)
      have hxs := HSM.out L[j] (List.getElem_mem hlt)
      obtain ⟨t, ht⟩ : ∃ t, t = L[j] := ⟨_, rfl⟩
      rw [← ht] at c hxs
      have HTT := Hid.mk ht
      have HSE := Hid.mk hseen
      have HRW := Hid.mk hrow
      clear ht hseen hrow
      by_cases hj0 : j = 0
      · subst hj0
        have c0 : wr.cell? ⟨g, off, none⟩ = some (.string t) := c
        clear c
        by_cases hz : t.size = 0
        · have hz2 : ((t.size : Int) == 0) = true := by rw [hz]; rfl
          have HZ := Hid.mk hz
          clear hz
          go_wp2
          refine bodyPost_ret (v := .tuple #[.int .i64 0, .string ⟨#[]⟩, .slice none 0 0]) (by simp [results, Try.f31, go_sem]) rfl ?_
          exact ⟨0, ⟨#[]⟩, none, 0, [], L, rfl, HL.out, told_first hlt HTT.out (noImg_empty HZ.out), ⟨rfl, .inl ⟨rfl, rfl⟩⟩, hb1.trans (hbr.mono hb1.size)⟩
        · have hpos : (0 : Int) < (t.size : Int) := by omega
          have hp0 : 0 < t.size := by omega
          have hne : ((t.size : Int) == 0) = false := by rw [beq_eq_false_iff_ne]; omega
          have hle1 : (1 : Int) ≤ (t.size : Int) := by omega
          clear hz
          go_wp2_with fail
          · have hq := ‹((t[0].toNat : Int) != 0) = true›
            have HQ := Hid.mk (noImg_byte hp0 hq)
            refine bodyPost_ret (v := .tuple #[.int .i64 0, .string ⟨#[]⟩, .slice none 0 0]) (by simp [results, Try.f31, go_sem]) rfl ?_
            exact ⟨0, ⟨#[]⟩, none, 0, [], L, rfl, HL.out, told_first hlt HTT.out HQ.out, ⟨rfl, .inl ⟨rfl, rfl⟩⟩, hb1.trans (hbr.mono hb1.size)⟩
          · have hq := ‹((t[0].toNat : Int) != 0) = false›
            have hzb := zero_byte hp0 hq
            have HZB := Hid.mk hzb
            have hxl : (t.extract 1 t.size).data.toList = t.data.toList.drop 1 := Sty.extract_list t 1
            clear hzb hq
            refine (Sty.taken_any _ (t.extract 1 t.size) (by rw [← size_list, hxl, List.length_drop, size_list]; omega)).mono ?_
            rintro en w3 ⟨n, sz, rfl, hl, hb3⟩
            rw [hxl] at hl
            have hn64 := hl.lt
            have hszl := hl.size_le
            rw [List.length_drop, size_list] at hszl
            have hbr3 := hbr.trans (hb3.mono hbr.size)
            have HLE := Hid.mk hl
            have HRW3 := Hid.mk ((Keeps.below hb3).row HRW.out)
            clear hl hb3 hxl hbr
            by_cases hno : Sty.okN false n sz 1099511627776 = false ∨ n = 0
            · have hni := noImg_second HLE.out hno
              have HNI := Hid.mk hni
              have hbad : ((sz : Int) == 0) = true ∨ ((n : Int) == 0) = true ∨ (1099511627776 : Int) < (n : Int) := by
                rcases hno with h | h
                · unfold Sty.okN at h
                  simp at h
                  by_cases h0 : sz = 0
                  · exact .inl (by rw [h0]; rfl)
                  · have := h h0
                    exact .inr (.inr (by omega))
                · exact .inr (.inl (by rw [h]; rfl))
              clear hni hno
              rcases hbad with h | h | h
              · go_wp2
                refine bodyPost_ret (v := .tuple #[.int .i64 0, .string ⟨#[]⟩, .slice none 0 0]) (by simp [results, Try.f31, go_sem]) rfl ?_
                exact ⟨0, ⟨#[]⟩, none, 0, [], L, rfl, HL.out, told_first hlt HTT.out HNI.out, ⟨rfl, .inl ⟨rfl, rfl⟩⟩, hb1.trans (hbr3.mono hb1.size)⟩
              · by_cases h2 : ((sz : Int) == 0) = true
                · go_wp2
                  refine bodyPost_ret (v := .tuple #[.int .i64 0, .string ⟨#[]⟩, .slice none 0 0]) (by simp [results, Try.f31, go_sem]) rfl ?_
                  exact ⟨0, ⟨#[]⟩, none, 0, [], L, rfl, HL.out, told_first hlt HTT.out HNI.out, ⟨rfl, .inl ⟨rfl, rfl⟩⟩, hb1.trans (hbr3.mono hb1.size)⟩
                · have h2' : ((sz : Int) == 0) = false := by simpa using h2
                  clear h2
                  go_wp2
                  refine bodyPost_ret (v := .tuple #[.int .i64 0, .string ⟨#[]⟩, .slice none 0 0]) (by simp [results, Try.f31, go_sem]) rfl ?_
                  exact ⟨0, ⟨#[]⟩, none, 0, [], L, rfl, HL.out, told_first hlt HTT.out HNI.out, ⟨rfl, .inl ⟨rfl, rfl⟩⟩, hb1.trans (hbr3.mono hb1.size)⟩
              · by_cases h2 : ((sz : Int) == 0) = true
                · go_wp2
                  refine bodyPost_ret (v := .tuple #[.int .i64 0, .string ⟨#[]⟩, .slice none 0 0]) (by simp [results, Try.f31, go_sem]) rfl ?_
                  exact ⟨0, ⟨#[]⟩, none, 0, [], L, rfl, HL.out, told_first hlt HTT.out HNI.out, ⟨rfl, .inl ⟨rfl, rfl⟩⟩, hb1.trans (hbr3.mono hb1.size)⟩
                · have h2' : ((sz : Int) == 0) = false := by simpa using h2
                  have h3 : ((n : Int) == 0) = false := by rw [beq_eq_false_iff_ne]; omega
                  clear h2
                  go_wp2
                  refine bodyPost_ret (v := .tuple #[.int .i64 0, .string ⟨#[]⟩, .slice none 0 0]) (by simp [results, Try.f31, go_sem]) rfl ?_
                  exact ⟨0, ⟨#[]⟩, none, 0, [], L, rfl, HL.out, told_first hlt HTT.out HNI.out, ⟨rfl, .inl ⟨rfl, rfl⟩⟩, hb1.trans (hbr3.mono hb1.size)⟩
            · have hok : Sty.okN false n sz 1099511627776 = true := by
                cases h : Sty.okN false n sz 1099511627776 with
                | true => rfl
                | false => exact absurd (.inl h) hno
              have hn0 : n ≠ 0 := fun h => hno (.inr h)
              have hk := hok
              unfold Sty.okN at hk
              simp at hk
              obtain ⟨hk1, hk2⟩ := hk
              have h2 : ((sz : Int) == 0) = false := by rw [beq_eq_false_iff_ne]; omega
              have h3 : ((n : Int) == 0) = false := by rw [beq_eq_false_iff_ne]; omega
              have h4 : ¬ (1099511627776 : Int) < (n : Int) := by omega
              have h5 : (1 : Int) + (sz : Int) ≤ (t.size : Int) := by omega
              have hlx : (t.extract (1 + sz) t.size).data.toList = (t.data.toList.drop 1).drop sz := by rw [Sty.extract_list, List.drop_drop]
              have himg : IsImg t n (t.extract (1 + sz) t.size) := isImg_of HZB.out HLE.out hok hn0 hlx
              have HIMG := Hid.mk himg
              clear hno hok hlx himg hk1 hk2 hn0
              go_wp2
              go_roundw
              case rel =>
                have hl0 : lds = [] := by
                  rcases HSE.out with ⟨_, _, _, h⟩ | ⟨r, h, _⟩
                  · exact h
                  · simp at h
                subst hl0
                refine ⟨1, n, _, [], hlt, rfl, rfl, rfl, .inr ⟨t, ?_, HIMG.out⟩, HRW3.out, hbr3⟩
                have h1 := take_at hlt HTT.out
                simpa using h1
              case measure => simp [intOf]; omega
      · have hk0 : ((j : Int) == 0) = false := by rw [beq_eq_false_iff_ne]; omega
        have HJ0 : Hid (j ≠ 0) := Hid.mk hj0
        clear hj0
        obtain ⟨va, vc, rfl, _⟩ := texts_of_row HRW.out
        have hll : lds.length ≤ j := by
          rcases HSE.out with ⟨h, _⟩ | ⟨r, h, _⟩
          · have := congrArg List.length h
            rw [List.length_take] at this
            simp only [List.length_nil] at this
            have := HJ0.out
            omega
          · have := congrArg List.length h
            rw [List.length_take] at this
            simp at this
            omega
        by_cases hz : t.size = 0
        · have hz2 : ((t.size : Int) == 0) = true := by rw [hz]; rfl
          have HTO := Hid.mk (told_break HJ0.out hlt HTT.out HSE.out (notLd_empty hz))
          clear hz
          go_wp2
          refine bodyPost_ret (v := .tuple #[.int .i64 e, .string s, .slice va lds.length vc]) (by simp [results, Try.f31, go_sem]) rfl ?_
          exact ⟨e, s, va, vc, lds, L, rfl, HL.out, HTO.out, row_low HRW.out hb1.size, hb1.trans (hbr.mono hb1.size)⟩
        · have hpos : (0 : Int) < (t.size : Int) := by omega
          have hp0 : 0 < t.size := by omega
          have hne : ((t.size : Int) == 0) = false := by rw [beq_eq_false_iff_ne]; omega
          have hle1 : (1 : Int) ≤ (t.size : Int) := by omega
          have hl1 := hbr.size
          clear hz
          go_wp2_with (at_builtin; refine wpList_append_texts _ rfl (.tmp 60) (.tmp 63) rfl w1.heap.size _ lds.length (textCells lds) rfl ?o1 (some ⟨wr.heap.size, 0, none⟩) 1 1 [t.extract 1 t.size] rfl ?i1 (by omega) (by simp; omega) ?_)
          · have hq := ‹((t[0].toNat : Int) != 1) = true›
            have HTO := Hid.mk (told_break HJ0.out hlt HTT.out HSE.out (notLd_byte hp0 hq))
            refine bodyPost_ret (v := .tuple #[.int .i64 e, .string s, .slice va lds.length vc]) (by simp [results, Try.f31, go_sem]) rfl ?_
            exact ⟨e, s, va, vc, lds, L, rfl, HL.out, HTO.out, row_low HRW.out hb1.size, hb1.trans (hbr.mono hb1.size)⟩
          case o1 => exact HRW.out.alloc _
          case i1 => exact texts_one wr _
          intro v8 w8 hown8 hg8
          have hq := ‹((t[0].toNat : Int) != 1) = false›
          have hld := ld_byte hp0 hq
          obtain ⟨u, hu⟩ : ∃ u, u = t.extract 1 t.size := ⟨_, rfl⟩
          rw [← hu] at hown8 hld hg8
          rw [← textCells_append] at hown8
          have hl8 : (lds ++ [u]).length = lds.length + 1 := by simp
          have hown9 : w8.ownsRow w1.heap.size 9 1 v8 (lds ++ [u]).length (textCells (lds ++ [u])) := by rw [hl8]; exact hown8
          have hb8 : Below w1.heap.size w1 w8 := (hbr.alloc hbr.size _).grown hg8 (by have := hbr.size; simp; omega) (fun k hk => (HRW.out.lt k hk).1)
          have HSE8 : Hid (Seen (L.take (j + 1)) e s (lds ++ [u])) := Hid.mk (by
            rcases HSE.out with ⟨h, _⟩ | ⟨r, h, hi⟩
            · have := congrArg List.length h
              rw [List.length_take] at this
              simp only [List.length_nil] at this
              have := HJ0.out
              omega
            · refine .inr ⟨r, ?_, hi⟩
              rw [take_at hlt HTT.out, h, hld]
              simp)
          have HW8 := Hid.mk hown9
          have HB8 := Hid.mk hb8
          clear hown8 hg8 hq hld hl8 hown9 hb8 hu
          go_wp2
          go_roundw
          case rel => exact ⟨j + 1, e, s, _, hlt, by go_num, rfl, rfl, HSE8.out, HW8.out, HB8.out⟩
          case measure => simp [intOf]; omega
    · have hje : j = L.length := by omega
      subst hje
      rw [List.take_length] at hseen
      have htold := told_end hseen
      obtain ⟨va, vc, rfl, _⟩ := texts_of_row hrow
      have HTO := Hid.mk htold
      have HRW := Hid.mk hrow
      clear hseen htold hrow
      go_wp2
      refine bodyPost_ret (v := .tuple #[.int .i64 e, .string s, .slice va lds.length vc]) (by simp [results, Try.f31, go_sem]) rfl ?_
      exact ⟨e, s, va, vc, lds, L, rfl, HL.out, HTO.out, row_low HRW.out hb1.size, hb1.trans (hbr.mono hb1.size)⟩

end Go.Proofs.Ytcofiidibhmhgaa
