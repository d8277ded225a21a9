/-
  WalLasts: for every list of loads, wherever it is forced and whatever a crash keeps, the law returns true: opened anew a log has all records that were forced, and some first ones of the others, each whole. No condition.
-/
import Derived.Test.YtejmameebhbcbaaLRow
namespace Go.Proofs.Ytejmameebhbcbaa.walLasts
open Go.ChangeShapes Go.WideShapes Go.ChangeAt Go.RowKit Go.Deep
open Go.ChangeMaps (open_string shut_string)

/-- The law's state behind k loads. -/
structure St (w wr : World) (lb b k : Nat) (v wv : Value) (A U ts : List ByteArray) : Prop where
  m : ML w.heap.size w wr lb b v false false (recs false A) (recs false U)
  a : Small A
  u : Small U
  row : wr.ownsRow w.heap.size 9 1 wv (A ++ U).length (textCells (A ++ U))
  n : (A ++ U).length ≤ k
  s : sumT (A ++ U) ≤ sumT (ts.take k)

theorem St.forced {w wr w' : World} {lb b k : Nat} {v v' wv : Value} {A U ts : List ByteArray} (h : St w wr lb b k v wv A U ts) (h1 : Has w' b v' (recs false A ++ recs false U) []) (hw : Wrote b v wr v' w') : St w w' lb b k v' wv (A ++ U) [] ts := by
  have hm := h.m.step h1 hw
  rw [← recs_append] at hm
  refine ⟨hm, fun t ht => ?_, fun t ht => by simp at ht, ?_, by simpa using h.n, by simpa using h.s⟩
  · rcases List.mem_append.1 ht with e | e
    · exact h.a t e
    · exact h.u t e
  · rw [List.append_nil]
    exact row_disk h.row h.m.d.has hw

theorem Small.snoc {U : List ByteArray} (h : Small U) {s : ByteArray} (hs : s.size ≤ 1024) : Small (U ++ [s]) := fun t ht => by
  rcases List.mem_append.1 ht with e | e
  · exact h t e
  · simp at e; rw [e]; exact hs

set_option maxHeartbeats 3200000 in
theorem walk (a : Option Addr) (len cap : Nat) (ts : List ByteArray) (fo kp pt : Int) (w : World) (ha : IsTexts w a len cap ts) (_hfo : (Lit.int .i64 fo).wf = true) (_hkp : (Lit.int .i64 kp).wf = true) (_hpt : (Lit.int .i64 pt).wf = true) :
    Calls Try.prog 4 #[.slice a len cap, .int .i64 fo, .int .i64 kp, .int .i64 pt] w fun e w' => e = .returned (.bool true) ∧ Below w.heap.size w w' := by
  clear _hfo _hkp _hpt
  go_enter Try.func4, Try.ntmps4
  go_wp2_with fail
  refine (alive_any w).mono ?_
  rintro e w1 ⟨rfl, hb1⟩
  have ha1 := ha.carry hb1
  go_wp2_with fail
  refine (heavy_any a len cap ts _ ha1).mono ?_
  rintro e w2 ⟨hw2, rfl | ⟨rfl, hl50, hsum⟩⟩
  · rw [hw2]
    go_wp2
    go_ret
    exact ⟨rfl, hb1⟩
  rw [hw2]
  clear hw2 w2
  have h0 := Mine.new hb1 hb1.size
  go_wp2_with fail
  refine (new_any w1).mono ?_
  rintro e w3 ⟨rfl, hw3⟩
  rw [← hw3] at h0
  clear hw3
  go_wp2_with fail
  refine (walOpen_yes false h0.has [] none_empty).mono ?_
  rintro e w6 ⟨rfl, hl6, hb6⟩
  have m6 := h0.opened hl6 hb6
  have et : isTorn (txt false ([] ++ [])) [] = false := by decide
  rw [et] at m6
  have st0 : St w w6 w3.heap.size w1.heap.size 0 _ (.slice none 0 0) [] [] ts := ⟨m6, fun t ht => by simp at ht, fun t ht => by simp at ht, ⟨rfl, .inl ⟨rfl, rfl⟩⟩, Nat.zero_le _, Nat.zero_le _⟩
  clear hl6 hb6 m6 h0 et hb1 ha1
  have HS := Hid.mk hsum
  clear hsum
  go_wp2
  go_loopw [12, 13, 14, 15, 31] (fun wv sf _ _ i wr => ∃ (k : Nat) (v : Value) (A U : List ByteArray), k ≤ len ∧ i = .int .i64 k ∧ sf = .int .i64 (A.length : Nat) ∧ St w wr w3.heap.size w1.heap.size k v wv A U ts) (fun _ _ _ _ i _ => len - (intOf i).toNat)
  case atStart => exact ⟨0, _, _, _, Nat.zero_le _, rfl, rfl, st0⟩
  case round =>
    clear st0
    obtain ⟨k, v, A, U, hk, rfl, rfl, st⟩ := hrel
    by_cases hlt : k < len
    · obtain ⟨hlen, ⟨rfl, _⟩ | ⟨g, off, rfl, hat⟩⟩ := ha
      · exact absurd hlen (by simp; omega)
      have hkt : k < ts.length := by omega
      have hatr := hat.carry (st.m.d.below.block g hat.lt) st.m.d.below.size
      have c := hatr.cell k hkt
      have hstep := sumT_take_succ ts k hkt
      have hge := sumT_get ts k hkt
      have hle := sumT_take_le ts (k + 1)
      obtain ⟨s, hs⟩ : ∃ s, s = ts[k] := ⟨_, rfl⟩
      rw [← hs] at c hstep hge
      have HK := Hid.mk hlt
      have hn := st.n
      have hss := st.s
      have hsum := HS.out
      have hbig := txt_recs_size false (A ++ U)
      rw [recs_append] at hbig
      clear hs hat hatr
      go_wp2_with fail
      refine (logAppend_any s st.m.l st.m.d.has (by omega) (by rw [recs_length]; rw [List.length_append] at hn; omega)).mono ?_
      by_cases hsm : s.size ≤ 1024
      · rw [stepL_ok false s _ _ hsm (by omega)]
        rintro e w7 ⟨rfl, v7, h7, hw7⟩
        have m7 := st.m.step h7 hw7
        rw [show recs false U ++ [⟨false, false, recOf s⟩] = recs false (U ++ [s]) from by rw [recs_append]; rfl] at m7
        have row7 := row_disk st.row st.m.d.has hw7
        have hu7 := Small.snoc st.u hsm
        have ha7 := st.a
        clear h7 hw7 st hbig
        have hN : (A ++ (U ++ [s])).length = (A ++ U).length + 1 := by simp; omega
        have hT : sumT (A ++ (U ++ [s])) ≤ sumT (ts.take (k + 1)) := by
          rw [← List.append_assoc, sumT_append (A ++ U), hstep]
          simp [sumT]
          exact hss
        have HT := Hid.mk hT
        clear hT hstep hge hle
        have h7l := m7.lo
        go_wp2_with (at_builtin; refine wpList_append_texts _ rfl (.tmp 40) (.tmp 42) rfl w.heap.size _ (A ++ U).length (textCells (A ++ U)) rfl ?o1 (some ⟨w7.heap.size, 0, none⟩) 1 1 [s] rfl ?i1 (by omega) (by simp; omega) ?_)
        case o1 => exact row7.alloc _
        case i1 => exact texts_one w7 s
        intro v8 w8 hown8 hg8
        have m8 := (m7.grow ((Below.refl _ _).alloc (Nat.le_refl _) (.cells #[.string s] 9))).row (row7.alloc _) (Nat.le_refl _) hg8
        have hown9 : w8.ownsRow w.heap.size 9 1 v8 (A ++ (U ++ [s])).length (textCells (A ++ (U ++ [s]))) := by
          rw [← textCells_append, List.append_assoc] at hown8
          have e : (A ++ (U ++ [s])).length = A.length + U.length + 1 := by simp; omega
          rw [e]
          first
            | exact hown8
            | (rw [List.length_append] at hown8; exact hown8)
        have s8 : St w w8 w3.heap.size w1.heap.size (k + 1) v7 v8 A (U ++ [s]) ts := ⟨m8, ha7, hu7, hown9, by omega, HT.out⟩
        clear m7 m8 hg8 hown8 hown9 row7 hu7 ha7 HT
        by_cases hf : (k : Int) = fo
        · have zf : ((k : Int) == fo) = true := by simp [hf]
          clear hf
          go_wp2_with fail
          refine (force_any s8.m.l s8.m.d.has).mono ?_
          rintro e w9 ⟨rfl, h9, hw9⟩
          have s9 := s8.forced h9 hw9
          obtain ⟨wa, wc, hwv, _⟩ := texts_of_row s9.row
          obtain ⟨N9, hN9⟩ : ∃ N, N = (A ++ (U ++ [s]) ++ []).length := ⟨_, rfl⟩
          rw [← hN9] at hwv
          subst hwv
          have HS9 := Hid.mk s9
          have hl9 : Value.int IntKind.i64 (N9 : Int) = Value.int IntKind.i64 (((A ++ (U ++ [s])).length : Nat) : Int) := by rw [hN9, List.append_nil]
          have HL9 := Hid.mk hl9
          clear s8 s9 h9 hw9 hl9 hN9
          go_wp2
          go_roundw
          case rel => exact ⟨k + 1, _, _, _, HK.out, by go_num, HL9.out, HS9.out⟩
          case measure =>
            have := HK.out
            simp [intOf]
            omega
        · have zf : ((k : Int) == fo) = false := by simp [hf]
          have HS8 := Hid.mk s8
          clear s8 hf
          go_wp2
          go_roundw
          case rel => exact ⟨k + 1, _, _, _, HK.out, by go_num, rfl, HS8.out⟩
          case measure =>
            have := HK.out
            simp [intOf]
            omega
      · rw [stepL_long false false s _ _ (by omega)]
        rintro e w7 ⟨rfl, v7, h7, hw7⟩
        have s8 : St w w7 w3.heap.size w1.heap.size (k + 1) v7 _ A U ts := ⟨st.m.step h7 hw7, st.a, st.u, row_disk st.row st.m.d.has hw7, by omega, by rw [hstep]; omega⟩
        clear h7 hw7 st hbig
        by_cases hf : (k : Int) = fo
        · have zf : ((k : Int) == fo) = true := by simp [hf]
          clear hf
          go_wp2_with fail
          refine (force_any s8.m.l s8.m.d.has).mono ?_
          rintro e w9 ⟨rfl, h9, hw9⟩
          have s9 := s8.forced h9 hw9
          obtain ⟨wa, wc, hwv, _⟩ := texts_of_row s9.row
          obtain ⟨N9, hN9⟩ : ∃ N, N = (A ++ U ++ []).length := ⟨_, rfl⟩
          rw [← hN9] at hwv
          subst hwv
          have HS9 := Hid.mk s9
          have hl9 : Value.int IntKind.i64 (N9 : Int) = Value.int IntKind.i64 (((A ++ U).length : Nat) : Int) := by rw [hN9, List.append_nil]
          have HL9 := Hid.mk hl9
          clear s8 s9 h9 hw9 hl9 hN9
          go_wp2
          go_roundw
          case rel => exact ⟨k + 1, _, _, _, HK.out, by go_num, HL9.out, HS9.out⟩
          case measure =>
            have := HK.out
            simp [intOf]
            omega
        · have zf : ((k : Int) == fo) = false := by simp [hf]
          have HS8 := Hid.mk s8
          clear s8 hf
          go_wp2
          go_roundw
          case rel => exact ⟨k + 1, _, _, _, HK.out, by go_num, rfl, HS8.out⟩
          case measure =>
            have := HK.out
            simp [intOf]
            omega
    · have hAL : AllOf (txt false (recs false A)).data.toList A := by rw [txt_recs]; exact all_row_nil A st.a
      have hn := st.n
      have hnU : U.length ≤ 50 := by rw [List.length_append] at hn; omega
      go_wp2_with fail
      refine (lasting_any st.m.l st.m.d.has A hAL).mono ?_
      rintro e w7 ⟨rfl, hb7⟩
      have m7 := st.m.grow hb7
      have row7 := row_grown st.row hb7
      obtain ⟨n, hnle, hall⟩ := lasts false A U kp pt st.a st.u
      clear hb7 st hAL
      go_wp2_with fail
      refine (crash_any m7.d.has (by rw [recs_length]; omega) kp pt).mono ?_
      rintro e w8 ⟨rfl, h8, hw8⟩
      have m8 := m7.d.step h8 hw8
      have row8 := row_disk row7 m7.d.has hw8
      clear h8 hw8 m7 row7
      have hall2 : AllOf (txt false (recs false A ++ kept (recs false U) kp pt ++ [])).data.toList (A ++ U.take n) := by rw [List.append_nil]; exact hall
      go_wp2_with fail
      refine (walOpen_yes false m8.has _ hall2).mono ?_
      rintro e w9 ⟨rfl, hl9, hb9⟩
      have m9 := m8.opened hl9 hb9
      have row9 := row_grown row8 hb9
      clear hl9 hb9 m8 row8
      go_wp2_with fail
      refine (loads_any m9.l m9.d.has _ hall2).mono ?_
      rintro e w10 ⟨gv, rfl, rowg, hb10⟩
      have m10 := m9.grow hb10
      have row10 := row_grown row9 hb10
      clear hb10 m9 row9 hall hall2
      obtain ⟨ga, gc, rfl, hgt⟩ := texts_of_row rowg
      have hG1 : (A ++ U.take n).length = A.length + n := by simp; omega
      have hG2 : A ++ U.take n = (A ++ U).take (A.length + n) := by
        rw [List.take_append, Nat.add_sub_cancel_left]
        congr 1
        exact (List.take_of_length_le (by omega)).symm
      have hN : (A ++ U).length = A.length + U.length := List.length_append
      obtain ⟨G, hG⟩ : ∃ G, G = A.length + n := ⟨_, rfl⟩
      obtain ⟨N, hNN⟩ : ∃ N, N = A.length + U.length := ⟨_, rfl⟩
      rw [hG1, ← hG] at hgt
      rw [hG1, ← hG]
      rw [hG2, ← hG] at hgt
      rw [hN, ← hNN] at row10
      have q1 : (A.length : Int) ≤ (G : Int) := by omega
      have q2 : (G : Int) ≤ (N : Int) := by omega
      have q3 : G ≤ 50 := by omega
      have HB := Hid.mk m10.d.below
      have HGT := Hid.mk hgt
      have HGN : Hid (G ≤ N) := Hid.mk (by omega)
      have HNN := Hid.mk hNN
      clear m10 rowg hgt hG hNN hG1 hG2 hN hnle
      have hWT0 := texts_of_row row10
      rcases row10.2 with ⟨rfl, h0⟩ | ⟨g, wc, cur, rfl, _, hg, hcap, _⟩
      · have hG0 : G = 0 := by have := HGN.out; omega
        obtain ⟨wa, wc, he, hwt⟩ := hWT0
        cases he
        have hwt2 := hwt.take G HGN.out
        have hA0 : A = [] := List.length_eq_zero_iff.1 (by have := HNN.out; omega)
        subst hG0 hA0
        have HWT := Hid.mk hwt2
        clear hwt hwt2 row10
        go_wp2_with fail
        refine (same_yes (by decide) HGT.out HWT.out).mono ?_
        rintro e w11 ⟨rfl, hb11⟩
        go_wp2
        go_ret
        exact ⟨rfl, HB.out.trans (hb11.mono HB.out.size)⟩
      · obtain ⟨wa, wc', he, hwt⟩ := hWT0
        cases he
        have HWT := Hid.mk (hwt.take G HGN.out)
        have q4 : (G : Int) ≤ (wc : Int) := by omega
        clear hwt row10 hg
        go_wp2_with fail
        refine (same_yes (by omega) HGT.out HWT.out).mono ?_
        rintro e w11 ⟨rfl, hb11⟩
        go_wp2
        go_ret
        exact ⟨rfl, HB.out.trans (hb11.mono HB.out.size)⟩

set_option maxRecDepth 100000 in
theorem lifted (os : Os) (started : os.Started) (H : Type) (enc : TypeId × Value → H) :
    ReturnsInHanded {} Try.checked os 4 .any (Rows.walLastsSpec.pre6 enc Try.prog Try.f4 Rows.walLastsRow.domain false) (Rows.walLastsSpec.post enc Try.prog Try.f4 false true false false) := by
  refine returnsInHanded_of_change (C := Try.checked) own started (by kernel_rfl) Try.func4
    (ChangeSpec.witness6 (enc := enc) (C := Try.checked) false ⟨#[], #[.slice none 0 0, .int .i64 0, .int .i64 0, .int .i64 0], []⟩ 8 (by kernel_rfl) (by kernel_rfl) (by kernel_rfl) (by kernel_rfl)) ?_
  intro W base args ds gs before hval0 hW hcnd _
  have hval : ∀ (j : Nat) t v, Try.f4.params[j]? = some t → args[j]? = some v → Value.okWide Try.prog W .any base t v := hval0
  have hW' := hW
  obtain ⟨p, q, hA0, hV, rfl, hfz, hnd⟩ := hW
  have hA : DataW.TrodAll enc Try.prog W 0 (fun _ => true) true Try.f4.params.toList args.toList ds p := hA0
  rw [Try.params4] at hA hval
  obtain ⟨v0, vs0, d0, ds0, p0, q0, hargs, rfl, rfl, h0, r0⟩ := trodAll_cons hA
  obtain ⟨v1, vs1, d1, ds1, p1, q1, rfl, rfl, rfl, h1, r1⟩ := trodAll_cons r0
  obtain ⟨v2, vs2, d2, ds2, p2, q2, rfl, rfl, rfl, h2, r2⟩ := trodAll_cons r1
  obtain ⟨v3, vs3, d3, ds3, p3, q3, rfl, rfl, rfl, h3, r3⟩ := trodAll_cons r2
  obtain ⟨rfl, rfl, rfl⟩ := trodAll_nil r3
  obtain rfl : args = #[v0, v1, v2, v3] := by cases args; simp_all
  obtain ⟨rfl, rfl⟩ := trodVars_none hV
  obtain ⟨a0, len0, cap0, rfl⟩ := okWide_slice Try.underlying32 (hval 0 32 v0 rfl rfl)
  have k0 := h0
  have lt0 : ∀ x ∈ p0, x.block < W.heap.size := by obtain ⟨m, hm⟩ := k0; exact DataW.trod_lt m _ _ _ hm
  obtain ⟨ts0, w0⟩ : ∃ ts, IsTexts W a0 len0 cap0 ts := by
    obtain ⟨fuel, hf⟩ := h0
    exact open_texts hf
  obtain ⟨a1, rfl, rfl, rfl, w1⟩ := open_int Try.underlying3 (hval 1 3 v1 rfl rfl) h1
  obtain ⟨a2, rfl, rfl, rfl, w2⟩ := open_int Try.underlying3 (hval 2 3 v2 rfl rfl) h2
  obtain ⟨a3, rfl, rfl, rfl, w3⟩ := open_int Try.underlying3 (hval 3 3 v3 rfl rfl) h3
  clear hA0 hval0
  refine (walk a0 len0 cap0 ts0 a1 a2 a3 W w0 w1 w2 w3).mono fun e W' ⟨he, bel⟩ => ?_
  subst he
  exact ⟨_, rfl, _, _, _, [], _, [], hW', trodAll_mk1 (shut_bool Try.underlying4 _), (trodAll_cons_mk (Below.trod laidOut (by kernel_rfl) (of_decide_eq_true (by kernel_rfl)) k0 bel lt0) (trodAll_cons_mk (shut_int Try.underlying3 w1) (trodAll_cons_mk (shut_int Try.underlying3 w2) (trodAll_cons_mk (shut_int Try.underlying3 w3) trodAll_mk0)))), rfl, bel.frame _, fun h => by cases h⟩

theorem over : Rows.walLastsRow.holds Try.pinned (OpenSpec.ofChange Rows.walLastsSpec) :=
  OpenClaim.holds_of_wide 4 Try.f4 rfl rfl rfl rfl rfl rfl rfl ⟨rfl, rfl, rfl, rfl, rfl⟩ rfl rfl rfl rfl rfl (by kernel_rfl) Try.func4 (by kernel_rfl)
    (of_decide_eq_true (by kernel_rfl)) (by unfold Func.isWrapper; first | (rw [if_pos (by decide +kernel)]; kernel_rfl) | (rw [if_neg (by decide +kernel)]; exact ⟨rfl, rfl⟩))
    (fun os started H enc _ => lifted os started H enc)

end Go.Proofs.Ytejmameebhbcbaa.walLasts

namespace Go.Proofs.Ytejmameebhbcbaa
/-- The statement. -/
theorem walLasts_holds : Rows.WalLastsSaid := walLasts.over
#print axioms walLasts_holds
end Go.Proofs.Ytejmameebhbcbaa
