/-
  VaultSettles: for every old image, list of loads and new image, wherever the settling is cut, the law returns true: opened anew a vault finds the old image with all its loads, or the new one. No condition.
-/
import Derived.Test.YtcofiidibhmhgaaVCut
namespace Go.Proofs.Ytcofiidibhmhgaa.vaultSettles
open Go.ChangeShapes Go.WideShapes Go.ChangeAt Go.RowKit Go.Deep
open Go.ChangeMaps (open_string shut_string)

/-- The law's state behind k loads. -/
structure St (w wr : World) (vb b k : Nat) (old : ByteArray) (wv : Value) (U ts : List ByteArray) : Prop where
  vs : VS w.heap.size w wr vb b true 1 old [] U
  row : wr.ownsRow w.heap.size 9 1 wv U.length (textCells U)
  n : U.length ≤ k
  s : sumT U ≤ sumT (ts.take k)

set_option maxHeartbeats 6400000 in
set_option maxRecDepth 100000 in
theorem walk (old : ByteArray) (a : Option Addr) (len cap : Nat) (ts : List ByteArray) (img : ByteArray) (cu pt : Int) (w : World) (ha : IsTexts w a len cap ts) (_hcu : (Lit.int .i64 cu).wf = true) (_hpt : (Lit.int .i64 pt).wf = true) :
    Calls Try.prog 6 #[.string old, .slice a len cap, .string img, .int .i64 cu, .int .i64 pt] w fun e w' => e = .returned (.bool true) ∧ Below w.heap.size w w' := by
  go_enter Try.func6, Try.ntmps6
  go_wp2_with fail
  refine (alive_any w).mono ?_
  rintro e w1 ⟨rfl, hb1⟩
  have ha1 := ha.carry hb1
  go_wp2_with fail
  refine (great_any a len cap ts _ ha1).mono ?_
  rintro e w2 ⟨hw2, rfl | ⟨rfl, hl40, hsum⟩⟩
  · rw [hw2]
    go_wp2
    go_ret
    exact ⟨rfl, hb1⟩
  rw [hw2]
  clear hw2 w2 ha1
  by_cases hol : 900 < old.size
  · have hol' : (900 : Int) < (old.size : Int) := by omega
    go_wp2
    go_ret
    exact ⟨rfl, hb1⟩
  have hol' : ¬ (900 : Int) < (old.size : Int) := by omega
  by_cases him : 900 < img.size
  · have him' : (900 : Int) < (img.size : Int) := by omega
    go_wp2
    go_ret
    exact ⟨rfl, hb1⟩
  have him' : ¬ (900 : Int) < (img.size : Int) := by omega
  have h0 := Mine.new hb1 hb1.size
  go_wp2_with fail
  refine (new_any w1).mono ?_
  rintro e w3 ⟨rfl, hw3⟩
  rw [← hw3] at h0
  clear hw3
  go_wp2_with fail
  refine (mvOpen h0 fnd_new).mono ?_
  rintro e w4 ⟨vb, lb, ob, tn, tm, va, vc, rfl, mv, _, hb4⟩
  have mv5 := mv.grow ((Below.refl _ w4).alloc (Nat.le_refl _) (.cells #[.string ⟨#[]⟩, .slice va ([] : List ByteArray).length vc] 31))
  clear hb4 mv h0 hb1
  go_wp2_with fail
  refine (settle_vs mv5 old (by omega) (img_short _ _ (by omega) (by omega)) (by decide)).mono ?_
  rintro e w6 ⟨rfl, vs6, _⟩
  have st0 : St w w6 vb w1.heap.size 0 old (.slice none 0 0) [] ts := ⟨vs6, ⟨rfl, .inl ⟨rfl, rfl⟩⟩, Nat.zero_le _, Nat.zero_le _⟩
  have HS := Hid.mk hsum
  clear hsum vs6 mv5
  go_wp2
  go_loopw [15, 17, 49] (fun wv _ i wr => ∃ (k : Nat) (U : List ByteArray), k ≤ len ∧ i = .int .i64 k ∧ St w wr vb w1.heap.size k old wv U ts) (fun _ _ i _ => len - (intOf i).toNat)
  case atStart => exact ⟨0, _, Nat.zero_le _, rfl, st0⟩
  case round =>
    clear st0
    obtain ⟨k, U, hk, rfl, st⟩ := hrel
    have hbw := st.vs.below
    by_cases hlt : k < len
    · obtain ⟨hlen, ⟨rfl, _⟩ | ⟨g, off, rfl, hat⟩⟩ := ha
      · exact absurd hlen (by simp; omega)
      have hkt : k < ts.length := by omega
      have hatr := hat.carry (hbw.block g hat.lt) hbw.size
      have c := hatr.cell k hkt
      have hstep := sumT_take_succ ts k hkt
      have hge := sumT_get ts k hkt
      have hle := sumT_take_le ts (k + 1)
      obtain ⟨s, hs⟩ : ∃ s, s = ts[k] := ⟨_, rfl⟩
      rw [← hs] at c hstep hge
      have HK := Hid.mk hlt
      have hn := st.n
      have hss := st.s
      have hsum := HS.out
      have hUn : U.length ≤ 1000 := by omega
      clear hs hat hatr hbw
      by_cases hsm : s.size ≤ 1023
      · go_wp2_with fail
        refine (st.vs.append s hsm hUn (by rw [List.nil_append]; omega)).mono ?_
        rintro e w7 ⟨rfl, vs7, hk7⟩
        have row7 := hk7.row st.row
        clear hk7 st
        have hT : sumT (U ++ [s]) ≤ sumT (ts.take (k + 1)) := by
          rw [sumT_append, hstep]
          simp [sumT]
          exact hss
        have HT := Hid.mk hT
        clear hT hstep hge hle
        have h7l := vs7.lo
        go_wp2_with (at_builtin; refine wpList_append_texts _ rfl (.tmp 57) (.tmp 59) rfl w.heap.size _ U.length (textCells U) rfl ?o1 (some ⟨w7.heap.size, 0, none⟩) 1 1 [s] rfl ?i1 (by omega) (by simp; omega) ?_)
        case o1 => exact row7.alloc _
        case i1 => exact texts_one w7 s
        intro v8 w8 hown8 hg8
        have vs8 := (vs7.grow ((Below.refl _ _).alloc (Nat.le_refl _) (.cells #[.string s] 9))).row (row7.alloc _) (Nat.le_refl _) hg8
        have hN : (U ++ [s]).length = U.length + 1 := by simp
        have hown9 : w8.ownsRow w.heap.size 9 1 v8 (U ++ [s]).length (textCells (U ++ [s])) := by
          rw [← textCells_append] at hown8
          rw [hN]
          exact hown8
        have s8 : St w w8 vb w1.heap.size (k + 1) old v8 (U ++ [s]) ts := ⟨vs8, hown9, by omega, HT.out⟩
        have HS8 := Hid.mk s8
        clear vs7 vs8 hg8 hown8 hown9 row7 HT s8 hN
        go_wp2
        go_roundw
        case rel => exact ⟨k + 1, _, HK.out, by go_num, HS8.out⟩
        case measure =>
          have := HK.out
          simp [intOf]
          omega
      · go_wp2_with fail
        refine (st.vs.tooLong s (by omega) (by omega) hUn).mono ?_
        rintro e w7 ⟨rfl, vs7, hk7⟩
        have s8 : St w w7 vb w1.heap.size (k + 1) old _ U ts := ⟨vs7, hk7.row st.row, by omega, by rw [hstep]; omega⟩
        have HS8 := Hid.mk s8
        clear vs7 hk7 st s8
        go_wp2
        go_roundw
        case rel => exact ⟨k + 1, _, HK.out, by go_num, HS8.out⟩
        case measure =>
          have := HK.out
          simp [intOf]
          omega
    · have hn := st.n
      have hnU : U.length ≤ 1000 := by omega
      have hU6 : U.length ≤ 1000000 := by omega
      go_wp2_with fail
      refine st.vs.force.mono ?_
      rintro e w7 ⟨rfl, vs7, hk7⟩
      have row7 := hk7.row st.row
      clear st hk7 hbw
      rw [List.nil_append] at vs7
      go_wp2_with fail
      refine (refImage_any 2 img (by omega) (by omega) w7).mono ?_
      rintro e w8 ⟨rfl, hb8⟩
      have vs8 := vs7.grow hb8
      have row8 := (Keeps.below hb8).row row7
      have hi2 := img_short img 2 (by omega) (by omega)
      clear vs7 row7 hb8
      obtain ⟨lb8, ob8, v8, dn, mv8, hsame⟩ := vs8.mv
      have hall : AllOf (txt true dn).data.toList (imgs 1 old U) := by
        have := vs8.all hsame
        simp only [List.map_nil, recs, List.map_nil, List.append_nil] at this
        exact this
      have hnone : AllOf (txt false dn).data.toList [] := by
        have h1 := hsame false
        rw [h1, show txt false (recs true (imgs 1 old U)) = ⟨#[]⟩ from txt_other true _]
        exact none_nil
      have m8 : Mine w.heap.size w w8 w1.heap.size v8 dn [] := mv8.d
      have HALL := Hid.mk hall
      have HNONE := Hid.mk hnone
      obtain ⟨wa, wc, hwv, hwt⟩ := texts_of_row row8
      subst hwv
      clear vs8 mv8 hsame hall hnone hwt
      obtain ⟨R, hR⟩ : ∃ R, R = recOf (imgB 2 img) := ⟨_, rfl⟩
      have hRz : R.size ≤ 2000 := by rw [hR]; have := recOf_size (imgB 2 img); omega
      rw [← hR]
      have HRR := Hid.mk hR
      clear hR
      rcases wrap_four cu with hst | hst | hst | hst
      · have hF := found0 HALL.out HNONE.out
        have mY := m8
        have rowY := row8
        clear m8 row8
        go_wp2_with fail
        refine (mvOpen mY hF).mono ?_
        rintro e WZ ⟨vbZ, lbZ, obZ, tnZ, tmZ, ga, gc, rfl, mvZ, rowZ, hbZ⟩
        clear mY hF
        rcases Nat.eq_zero_or_pos U.length with hU0 | hU0
        · obtain rfl := List.length_eq_zero_iff.1 hU0
          clear hU0
          have hbW : Below WZ.heap.size WZ (WZ.alloc (.cells #[.string old, .slice ga 0 gc] 31)) := (Below.refl _ WZ).alloc (Nat.le_refl _) _
          obtain ⟨c0, c1, _, _⟩ := box2 (heap_alloc_new WZ (.cells #[.string old, .slice ga 0 gc] 31))
          have HBW := Hid.mk (mvZ.d.below.trans (hbW.mono mvZ.lo))
          obtain ⟨ga', gc', eg, hgt⟩ := texts_of_row rowZ
          cases eg
          obtain ⟨wa', wc', ew, hwt⟩ := texts_of_row ((Keeps.below hbZ).row rowY)
          cases ew
          have HC := Hid.mk (same_yes hU6 (hgt.carry hbW) (hwt.carry hbW))
          have hss := same_bytes old
          clear hbW hgt hwt mvZ rowZ hbZ rowY HALL HNONE
          go_wp2_with (go_at_call 16; refine HC.out.mono ?_; rintro e w10 ⟨rfl, hb10⟩)
          all_goals
            go_ret
            first
              | exact ⟨rfl, HBW.out.trans (hb10.mono HBW.out.size)⟩
              | exact ⟨rfl, HBW.out⟩
        · have hU0' : ((U.length : Int) == 0) = false := by rw [beq_eq_false_iff_ne]; omega
          clear hU0
          have hbW : Below WZ.heap.size WZ (WZ.alloc (.cells #[.string old, .slice ga U.length gc] 31)) := (Below.refl _ WZ).alloc (Nat.le_refl _) _
          obtain ⟨c0, c1, _, _⟩ := box2 (heap_alloc_new WZ (.cells #[.string old, .slice ga U.length gc] 31))
          have HBW := Hid.mk (mvZ.d.below.trans (hbW.mono mvZ.lo))
          obtain ⟨ga', gc', eg, hgt⟩ := texts_of_row rowZ
          cases eg
          obtain ⟨wa', wc', ew, hwt⟩ := texts_of_row ((Keeps.below hbZ).row rowY)
          cases ew
          have HC := Hid.mk (same_yes hU6 (hgt.carry hbW) (hwt.carry hbW))
          have hss := same_bytes old
          clear hbW hgt hwt mvZ rowZ hbZ rowY HALL HNONE
          go_wp2_with (go_at_call 16; refine HC.out.mono ?_; rintro e w10 ⟨rfl, hb10⟩)
          all_goals
            go_ret
            first
              | exact ⟨rfl, HBW.out.trans (hb10.mono HBW.out.size)⟩
              | exact ⟨rfl, HBW.out⟩
      · have hF := found1 HALL.out
        go_wp2_with fail
        refine (reset_yes false m8.has (by decide)).mono ?_
        rintro e w9 ⟨rfl, v9, h9, hd9⟩
        have m9 := m8.step h9 hd9
        have row9 := (Keeps.wrote m8.has hd9).row row8
        clear h9 hd9 m8 row8
        go_wp2_with fail
        refine (sync_any m9.has).mono ?_
        rintro e w11 ⟨rfl, h11, hd11⟩
        have m11 : Mine w.heap.size w w11 w1.heap.size _ (cut1 dn) [] := m9.step h11 hd11
        have row11 := (Keeps.wrote m9.has hd11).row row9
        clear h11 hd11 m9 row9
        have mY := m11
        have rowY := row11
        clear m11 row11
        go_wp2_with fail
        refine (mvOpen mY hF).mono ?_
        rintro e WZ ⟨vbZ, lbZ, obZ, tnZ, tmZ, ga, gc, rfl, mvZ, rowZ, hbZ⟩
        clear mY hF
        rcases Nat.eq_zero_or_pos U.length with hU0 | hU0
        · obtain rfl := List.length_eq_zero_iff.1 hU0
          clear hU0
          have hbW : Below WZ.heap.size WZ (WZ.alloc (.cells #[.string old, .slice ga 0 gc] 31)) := (Below.refl _ WZ).alloc (Nat.le_refl _) _
          obtain ⟨c0, c1, _, _⟩ := box2 (heap_alloc_new WZ (.cells #[.string old, .slice ga 0 gc] 31))
          have HBW := Hid.mk (mvZ.d.below.trans (hbW.mono mvZ.lo))
          obtain ⟨ga', gc', eg, hgt⟩ := texts_of_row rowZ
          cases eg
          obtain ⟨wa', wc', ew, hwt⟩ := texts_of_row ((Keeps.below hbZ).row rowY)
          cases ew
          have HC := Hid.mk (same_yes hU6 (hgt.carry hbW) (hwt.carry hbW))
          have hss := same_bytes old
          clear hbW hgt hwt mvZ rowZ hbZ rowY HALL HNONE
          go_wp2_with (go_at_call 16; refine HC.out.mono ?_; rintro e w10 ⟨rfl, hb10⟩)
          all_goals
            go_ret
            first
              | exact ⟨rfl, HBW.out.trans (hb10.mono HBW.out.size)⟩
              | exact ⟨rfl, HBW.out⟩
        · have hU0' : ((U.length : Int) == 0) = false := by rw [beq_eq_false_iff_ne]; omega
          clear hU0
          have hbW : Below WZ.heap.size WZ (WZ.alloc (.cells #[.string old, .slice ga U.length gc] 31)) := (Below.refl _ WZ).alloc (Nat.le_refl _) _
          obtain ⟨c0, c1, _, _⟩ := box2 (heap_alloc_new WZ (.cells #[.string old, .slice ga U.length gc] 31))
          have HBW := Hid.mk (mvZ.d.below.trans (hbW.mono mvZ.lo))
          obtain ⟨ga', gc', eg, hgt⟩ := texts_of_row rowZ
          cases eg
          obtain ⟨wa', wc', ew, hwt⟩ := texts_of_row ((Keeps.below hbZ).row rowY)
          cases ew
          have HC := Hid.mk (same_yes hU6 (hgt.carry hbW) (hwt.carry hbW))
          have hss := same_bytes old
          clear hbW hgt hwt mvZ rowZ hbZ rowY HALL HNONE
          go_wp2_with (go_at_call 16; refine HC.out.mono ?_; rintro e w10 ⟨rfl, hb10⟩)
          all_goals
            go_ret
            first
              | exact ⟨rfl, HBW.out.trans (hb10.mono HBW.out.size)⟩
              | exact ⟨rfl, HBW.out⟩
      · have hFF := found2 HALL.out hi2 pt
        rw [← HRR.out] at hFF
        go_wp2_with fail
        refine (reset_yes false m8.has (by decide)).mono ?_
        rintro e w9 ⟨rfl, v9, h9, hd9⟩
        have m9 := m8.step h9 hd9
        have row9 := (Keeps.wrote m8.has hd9).row row8
        clear h9 hd9 m8 row8
        go_wp2_with fail
        refine (sync_any m9.has).mono ?_
        rintro e w11 ⟨rfl, h11, hd11⟩
        have m11 : Mine w.heap.size w w11 w1.heap.size _ (cut1 dn) [] := m9.step h11 hd11
        have row11 := (Keeps.wrote m9.has hd11).row row9
        clear h11 hd11 m9 row9
        go_wp2_with fail
        refine (append_yes false R m11.has (by rw [List.append_nil, cut1_false]; show 0 + R.size ≤ _; omega) (by decide)).mono ?_
        rintro e w12 ⟨rfl, v12, h12, hd12⟩
        have m12 := m11.step h12 hd12
        have row12 := (Keeps.wrote m11.has hd12).row row11
        clear h12 hd12 m11 row11
        go_wp2_with fail
        refine (crash_any m12.has (by simp) 0 pt).mono ?_
        rintro e w13 ⟨rfl, h13, hd13⟩
        have m13 : Mine w.heap.size w w13 w1.heap.size _ (cut2 dn R pt) [] := m12.step h13 hd13
        have row13 := (Keeps.wrote m12.has hd13).row row12
        clear h13 hd13 m12 row12
        go_wp2_with fail
        refine (sync_any m13.has).mono ?_
        rintro e w14 ⟨rfl, h14, hd14⟩
        have mY := m13.step h14 hd14
        rw [List.append_nil] at mY
        have rowY := (Keeps.wrote m13.has hd14).row row13
        clear h14 hd14 m13 row13
        rcases hFF with hF | hF
        · go_wp2_with fail
          refine (mvOpen mY hF).mono ?_
          rintro e WZ ⟨vbZ, lbZ, obZ, tnZ, tmZ, ga, gc, rfl, mvZ, rowZ, hbZ⟩
          clear mY hF
          rcases Nat.eq_zero_or_pos U.length with hU0 | hU0
          · obtain rfl := List.length_eq_zero_iff.1 hU0
            clear hU0
            have hbW : Below WZ.heap.size WZ (WZ.alloc (.cells #[.string old, .slice ga 0 gc] 31)) := (Below.refl _ WZ).alloc (Nat.le_refl _) _
            obtain ⟨c0, c1, _, _⟩ := box2 (heap_alloc_new WZ (.cells #[.string old, .slice ga 0 gc] 31))
            have HBW := Hid.mk (mvZ.d.below.trans (hbW.mono mvZ.lo))
            obtain ⟨ga', gc', eg, hgt⟩ := texts_of_row rowZ
            cases eg
            obtain ⟨wa', wc', ew, hwt⟩ := texts_of_row ((Keeps.below hbZ).row rowY)
            cases ew
            have HC := Hid.mk (same_yes hU6 (hgt.carry hbW) (hwt.carry hbW))
            have hss := same_bytes old
            clear hbW hgt hwt mvZ rowZ hbZ rowY HALL HNONE
            go_wp2_with (go_at_call 16; refine HC.out.mono ?_; rintro e w10 ⟨rfl, hb10⟩)
            all_goals
              go_ret
              first
                | exact ⟨rfl, HBW.out.trans (hb10.mono HBW.out.size)⟩
                | exact ⟨rfl, HBW.out⟩
          · have hU0' : ((U.length : Int) == 0) = false := by rw [beq_eq_false_iff_ne]; omega
            clear hU0
            have hbW : Below WZ.heap.size WZ (WZ.alloc (.cells #[.string old, .slice ga U.length gc] 31)) := (Below.refl _ WZ).alloc (Nat.le_refl _) _
            obtain ⟨c0, c1, _, _⟩ := box2 (heap_alloc_new WZ (.cells #[.string old, .slice ga U.length gc] 31))
            have HBW := Hid.mk (mvZ.d.below.trans (hbW.mono mvZ.lo))
            obtain ⟨ga', gc', eg, hgt⟩ := texts_of_row rowZ
            cases eg
            obtain ⟨wa', wc', ew, hwt⟩ := texts_of_row ((Keeps.below hbZ).row rowY)
            cases ew
            have HC := Hid.mk (same_yes hU6 (hgt.carry hbW) (hwt.carry hbW))
            have hss := same_bytes old
            clear hbW hgt hwt mvZ rowZ hbZ rowY HALL HNONE
            go_wp2_with (go_at_call 16; refine HC.out.mono ?_; rintro e w10 ⟨rfl, hb10⟩)
            all_goals
              go_ret
              first
                | exact ⟨rfl, HBW.out.trans (hb10.mono HBW.out.size)⟩
                | exact ⟨rfl, HBW.out⟩
        · go_wp2_with fail
          refine (mvOpen mY hF).mono ?_
          rintro e WZ ⟨vbZ, lbZ, obZ, tnZ, tmZ, ga, gc, rfl, mvZ, rowZ, hbZ⟩
          clear mY hF
          have hbW : Below WZ.heap.size WZ (WZ.alloc (.cells #[.string img, .slice ga ([] : List ByteArray).length gc] 31)) := (Below.refl _ WZ).alloc (Nat.le_refl _) _
          obtain ⟨c0, c1, _, _⟩ := box2 (heap_alloc_new WZ (.cells #[.string img, .slice ga ([] : List ByteArray).length gc] 31))
          have HBW := Hid.mk (mvZ.d.below.trans (hbW.mono mvZ.lo))
          have hss := same_bytes img
          clear hbW mvZ rowZ hbZ rowY HALL HNONE
          go_wp2
          go_ret
          exact ⟨rfl, HBW.out⟩
      · have hF := found4 HALL.out hi2 pt
        rw [← HRR.out] at hF
        go_wp2_with fail
        refine (reset_yes false m8.has (by decide)).mono ?_
        rintro e w9 ⟨rfl, v9, h9, hd9⟩
        have m9 := m8.step h9 hd9
        have row9 := (Keeps.wrote m8.has hd9).row row8
        clear h9 hd9 m8 row8
        go_wp2_with fail
        refine (sync_any m9.has).mono ?_
        rintro e w11 ⟨rfl, h11, hd11⟩
        have m11 : Mine w.heap.size w w11 w1.heap.size _ (cut1 dn) [] := m9.step h11 hd11
        have row11 := (Keeps.wrote m9.has hd11).row row9
        clear h11 hd11 m9 row9
        go_wp2_with fail
        refine (append_yes false R m11.has (by rw [List.append_nil, cut1_false]; show 0 + R.size ≤ _; omega) (by decide)).mono ?_
        rintro e w12 ⟨rfl, v12, h12, hd12⟩
        have m12 := m11.step h12 hd12
        have row12 := (Keeps.wrote m11.has hd12).row row11
        clear h12 hd12 m11 row11
        go_wp2_with fail
        refine (sync_any m12.has).mono ?_
        rintro e w13 ⟨rfl, h13, hd13⟩
        have m13 : Mine w.heap.size w w13 w1.heap.size _ (cut3 dn R) [] := m12.step h13 hd13
        have row13 := (Keeps.wrote m12.has hd13).row row12
        clear h13 hd13 m12 row12
        go_wp2_with fail
        refine (reset_yes true m13.has (by decide)).mono ?_
        rintro e w14 ⟨rfl, v14, h14, hd14⟩
        have m14 := m13.step h14 hd14
        have row14 := (Keeps.wrote m13.has hd14).row row13
        clear h14 hd14 m13 row13
        go_wp2_with fail
        refine (crash_any m14.has (by simp) pt 0).mono ?_
        rintro e w15 ⟨rfl, h15, hd15⟩
        have mY : Mine w.heap.size w w15 w1.heap.size _ (cut4 dn R pt) [] := m14.step h15 hd15
        have rowY := (Keeps.wrote m14.has hd15).row row14
        clear h15 hd15 m14 row14
        go_wp2_with fail
        refine (mvOpen mY hF).mono ?_
        rintro e WZ ⟨vbZ, lbZ, obZ, tnZ, tmZ, ga, gc, rfl, mvZ, rowZ, hbZ⟩
        clear mY hF
        have hbW : Below WZ.heap.size WZ (WZ.alloc (.cells #[.string img, .slice ga ([] : List ByteArray).length gc] 31)) := (Below.refl _ WZ).alloc (Nat.le_refl _) _
        obtain ⟨c0, c1, _, _⟩ := box2 (heap_alloc_new WZ (.cells #[.string img, .slice ga ([] : List ByteArray).length gc] 31))
        have HBW := Hid.mk (mvZ.d.below.trans (hbW.mono mvZ.lo))
        have hss := same_bytes img
        clear hbW mvZ rowZ hbZ rowY HALL HNONE
        go_wp2
        go_ret
        exact ⟨rfl, HBW.out⟩

set_option maxRecDepth 100000 in
theorem lifted (os : Os) (started : os.Started) (H : Type) (enc : TypeId × Value → H) :
    ReturnsInHanded {} Try.checked os 6 .any (Rows.vaultSettlesSpec.pre6 enc Try.prog Try.f6 Rows.vaultSettlesRow.domain false) (Rows.vaultSettlesSpec.post enc Try.prog Try.f6 false true false false) := by
  refine returnsInHanded_of_change (C := Try.checked) own started (by kernel_rfl) Try.func6
    (ChangeSpec.witness6 (enc := enc) (C := Try.checked) false ⟨#[], #[.string .empty, .slice none 0 0, .string .empty, .int .i64 0, .int .i64 0], []⟩ 8 (by kernel_rfl) (by kernel_rfl) (by kernel_rfl) (by kernel_rfl)) ?_
  intro W base args ds gs before hval0 hW hcnd _
  have hval : ∀ (j : Nat) t v, Try.f6.params[j]? = some t → args[j]? = some v → Value.okWide Try.prog W .any base t v := hval0
  have hW' := hW
  obtain ⟨p, q, hA0, hV, rfl, hfz, hnd⟩ := hW
  have hA : DataW.TrodAll enc Try.prog W 0 (fun _ => true) true Try.f6.params.toList args.toList ds p := hA0
  rw [Try.params6] at hA hval
  obtain ⟨v0, vs0, d0, ds0, p0, q0, hargs, rfl, rfl, h0, r0⟩ := trodAll_cons hA
  obtain ⟨v1, vs1, d1, ds1, p1, q1, rfl, rfl, rfl, h1, r1⟩ := trodAll_cons r0
  obtain ⟨v2, vs2, d2, ds2, p2, q2, rfl, rfl, rfl, h2, r2⟩ := trodAll_cons r1
  obtain ⟨v3, vs3, d3, ds3, p3, q3, rfl, rfl, rfl, h3, r3⟩ := trodAll_cons r2
  obtain ⟨v4, vs4, d4, ds4, p4, q4, rfl, rfl, rfl, h4, r4⟩ := trodAll_cons r3
  obtain ⟨rfl, rfl, rfl⟩ := trodAll_nil r4
  obtain rfl : args = #[v0, v1, v2, v3, v4] := by cases args; simp_all
  obtain ⟨rfl, rfl⟩ := trodVars_none hV
  obtain ⟨s0, rfl, rfl, rfl, w0⟩ := open_string Try.underlying9 (hval 0 9 v0 rfl rfl) h0
  obtain ⟨a1, len1, cap1, rfl⟩ := okWide_slice Try.underlying24 (hval 1 24 v1 rfl rfl)
  have k1 := h1
  have lt1 : ∀ x ∈ p1, x.block < W.heap.size := by obtain ⟨m, hm⟩ := k1; exact DataW.trod_lt m _ _ _ hm
  obtain ⟨ts1, w1⟩ : ∃ ts, IsTexts W a1 len1 cap1 ts := by
    obtain ⟨fuel, hf⟩ := h1
    exact open_texts hf
  obtain ⟨s2, rfl, rfl, rfl, w2⟩ := open_string Try.underlying9 (hval 2 9 v2 rfl rfl) h2
  obtain ⟨a3, rfl, rfl, rfl, w3⟩ := open_int Try.underlying3 (hval 3 3 v3 rfl rfl) h3
  obtain ⟨a4, rfl, rfl, rfl, w4⟩ := open_int Try.underlying3 (hval 4 3 v4 rfl rfl) h4
  clear hA0 hval0
  refine (walk s0 a1 len1 cap1 ts1 s2 a3 a4 W w1 w3 w4).mono fun e W' ⟨he, bel⟩ => ?_
  subst he
  exact ⟨_, rfl, _, _, _, [], _, [], hW', trodAll_mk1 (shut_bool Try.underlying4 _), (trodAll_cons_mk (shut_string Try.underlying9 w0) (trodAll_cons_mk (Below.trod laidOut (by kernel_rfl) (of_decide_eq_true (by kernel_rfl)) k1 bel lt1) (trodAll_cons_mk (shut_string Try.underlying9 w2) (trodAll_cons_mk (shut_int Try.underlying3 w3) (trodAll_cons_mk (shut_int Try.underlying3 w4) trodAll_mk0))))), rfl, bel.frame _, fun h => by cases h⟩

set_option maxRecDepth 100000 in
theorem over : Rows.vaultSettlesRow.holds Try.pinned (OpenSpec.ofChange Rows.vaultSettlesSpec) :=
  OpenClaim.holds_of_wide 6 Try.f6 rfl rfl rfl rfl rfl rfl rfl ⟨rfl, rfl, rfl, rfl, rfl⟩ rfl rfl rfl rfl rfl (by kernel_rfl) Try.func6 (by kernel_rfl)
    (of_decide_eq_true (by kernel_rfl)) (by unfold Func.isWrapper; first | (rw [if_pos (by decide +kernel)]; kernel_rfl) | (rw [if_neg (by decide +kernel)]; exact ⟨rfl, rfl⟩))
    (fun os started H enc _ => lifted os started H enc)

end Go.Proofs.Ytcofiidibhmhgaa.vaultSettles

namespace Go.Proofs.Ytcofiidibhmhgaa
/-- The statement. -/
theorem vaultSettles_holds : Rows.VaultSettlesSaid := vaultSettles.over
#print axioms vaultSettles_holds
end Go.Proofs.Ytcofiidibhmhgaa
