/-
  VaultLasts: for every image and every list of loads, wherever it is forced and whatever a crash keeps, the law returns true: opened anew a vault finds the image, all loads that were forced, and some first ones of the others, each whole. No condition.
-/
import Derived.Test.YtcofiidibhmhgaaVRow
namespace Go.Proofs.Ytcofiidibhmhgaa.vaultLasts
open Go.ChangeShapes Go.WideShapes Go.ChangeAt Go.RowKit Go.Deep
open Go.ChangeMaps (open_string shut_string)

/-- The law's state behind k loads. -/
structure St (w wr : World) (vb b k : Nat) (img : ByteArray) (wv : Value) (A U ts : List ByteArray) : Prop where
  vs : VS w.heap.size w wr vb b true 1 img A U
  row : wr.ownsRow w.heap.size 9 1 wv (A ++ U).length (textCells (A ++ U))
  n : (A ++ U).length ≤ k
  s : sumT (A ++ U) ≤ sumT (ts.take k)

theorem St.forced {w wr w' : World} {vb b k : Nat} {img : ByteArray} {wv : Value} {A U ts : List ByteArray} (h : St w wr vb b k img wv A U ts) (h1 : VS w.heap.size w w' vb b true 1 img (A ++ U) []) (hk : Keeps wr w') : St w w' vb b k img wv (A ++ U) [] ts :=
  ⟨h1, by rw [List.append_nil]; exact hk.row h.row, by simpa using h.n, by simpa using h.s⟩

set_option maxHeartbeats 3200000 in
set_option maxRecDepth 100000 in
theorem walk (img : ByteArray) (a : Option Addr) (len cap : Nat) (ts : List ByteArray) (fo kp pt : Int) (w : World) (ha : IsTexts w a len cap ts) (_hfo : (Lit.int .i64 fo).wf = true) (_hkp : (Lit.int .i64 kp).wf = true) (_hpt : (Lit.int .i64 pt).wf = true) :
    Calls Try.prog 5 #[.string img, .slice a len cap, .int .i64 fo, .int .i64 kp, .int .i64 pt] w fun e w' => e = .returned (.bool true) ∧ Below w.heap.size w w' := by
  clear _hfo _hkp _hpt
  go_enter Try.func5, Try.ntmps5
  go_wp2_with fail
  refine (alive_any w).mono ?_
  rintro e w1 ⟨rfl, hb1⟩
  have ha1 := ha.carry hb1
  go_wp2_with fail
  refine (great_any a len cap ts _ ha1).mono ?_
  rintro e w2 ⟨hw2, rfl | ⟨rfl, hl40, hsum⟩⟩
  · rw [hw2]
    go_wp2
    go_ret
    exact ⟨rfl, hb1⟩
  rw [hw2]
  clear hw2 w2 ha1
  by_cases him : 4096 < img.size
  · have him' : (4096 : Int) < (img.size : Int) := by omega
    go_wp2
    go_ret
    exact ⟨rfl, hb1⟩
  have him' : ¬ (4096 : Int) < (img.size : Int) := by omega
  have h0 := Mine.new hb1 hb1.size
  go_wp2_with fail
  refine (new_any w1).mono ?_
  rintro e w3 ⟨rfl, hw3⟩
  rw [← hw3] at h0
  clear hw3
  go_wp2_with fail
  refine (mvOpen h0 fnd_new).mono ?_
  rintro e w4 ⟨vb, lb, ob, tn, tm, va, vc, rfl, mv, _, hb4⟩
  have mv5 := mv.grow ((Below.refl _ w4).alloc (Nat.le_refl _) (.cells #[.string ⟨#[]⟩, .slice va ([] : List ByteArray).length vc] 31))
  clear hb4 mv h0 hb1
  by_cases hlong : 1024 < (imgB (0 + 1) img).size
  · have hbig : (1000 : Int) < (img.size : Int) := by
      rw [imgB_size, Sty.wide_small (by decide)] at hlong
      simp at hlong
      omega
    go_wp2_with fail
    refine (settle_long mv5.a img (by omega) (by omega) hlong).mono ?_
    rintro e w6 ⟨rfl, hb6⟩
    have HB := Hid.mk (mv5.grow hb6).d.below
    clear mv5 hb6
    go_wp2
    go_ret
    exact ⟨rfl, HB.out⟩
  go_wp2_with fail
  refine (settle_vs mv5 img (by omega) (by omega) (by decide)).mono ?_
  rintro e w6 ⟨rfl, vs6, _⟩
  have st0 : St w w6 vb w1.heap.size 0 img (.slice none 0 0) [] [] ts := ⟨vs6, ⟨rfl, .inl ⟨rfl, rfl⟩⟩, Nat.zero_le _, Nat.zero_le _⟩
  have HS := Hid.mk hsum
  clear hsum vs6 mv5 hlong
  go_wp2
  go_loopw [15, 16, 17, 18, 47] (fun wv sf _ _ i wr => ∃ (k : Nat) (A U : List ByteArray), k ≤ len ∧ i = .int .i64 k ∧ sf = .int .i64 (A.length : Nat) ∧ St w wr vb w1.heap.size k img wv A U ts) (fun _ _ _ _ i _ => len - (intOf i).toNat)
  case atStart => exact ⟨0, _, _, Nat.zero_le _, rfl, rfl, st0⟩
  case round =>
    clear st0
    obtain ⟨k, A, U, hk, rfl, rfl, st⟩ := hrel
    have hbw := st.vs.below
    by_cases hlt : k < len
    · obtain ⟨hlen, ⟨rfl, _⟩ | ⟨g, off, rfl, hat⟩⟩ := ha
      · exact absurd hlen (by simp; omega)
      have hkt : k < ts.length := by omega
      have hatr := hat.carry (hbw.block g hat.lt) hbw.size
      have c := hatr.cell k hkt
      have hstep := sumT_take_succ ts k hkt
      have hge := sumT_get ts k hkt
      have hle := sumT_take_le ts (k + 1)
      obtain ⟨s, hs⟩ : ∃ s, s = ts[k] := ⟨_, rfl⟩
      rw [← hs] at c hstep hge
      have HK := Hid.mk hlt
      have hn := st.n
      have hss := st.s
      have hsum := HS.out
      have hUn : U.length ≤ 1000 := by rw [List.length_append] at hn; omega
      clear hs hat hatr hbw
      by_cases hsm : s.size ≤ 1023
      · go_wp2_with fail
        refine (st.vs.append s hsm hUn (by omega)).mono ?_
        rintro e w7 ⟨rfl, vs7, hk7⟩
        have row7 := hk7.row st.row
        clear hk7 st
        have hN : (A ++ (U ++ [s])).length = (A ++ U).length + 1 := by simp; omega
        have hT : sumT (A ++ (U ++ [s])) ≤ sumT (ts.take (k + 1)) := by
          rw [← List.append_assoc, sumT_append (A ++ U), hstep]
          simp [sumT]
          exact hss
        have HT := Hid.mk hT
        clear hT hstep hge hle
        have h7l := vs7.lo
        go_wp2_with (at_builtin; refine wpList_append_texts _ rfl (.tmp 56) (.tmp 58) rfl w.heap.size _ (A ++ U).length (textCells (A ++ U)) rfl ?o1 (some ⟨w7.heap.size, 0, none⟩) 1 1 [s] rfl ?i1 (by omega) (by simp; omega) ?_)
        case o1 => exact row7.alloc _
        case i1 => exact texts_one w7 s
        intro v8 w8 hown8 hg8
        have vs8 := (vs7.grow ((Below.refl _ _).alloc (Nat.le_refl _) (.cells #[.string s] 9))).row (row7.alloc _) (Nat.le_refl _) hg8
        have hown9 : w8.ownsRow w.heap.size 9 1 v8 (A ++ (U ++ [s])).length (textCells (A ++ (U ++ [s]))) := by
          rw [← textCells_append, List.append_assoc] at hown8
          have e : (A ++ (U ++ [s])).length = A.length + U.length + 1 := by simp; omega
          rw [e]
          first
            | exact hown8
            | (rw [List.length_append] at hown8; exact hown8)
        have s8 : St w w8 vb w1.heap.size (k + 1) img v8 A (U ++ [s]) ts := ⟨vs8, hown9, by omega, HT.out⟩
        clear vs7 vs8 hg8 hown8 hown9 row7 HT
        by_cases hf : (k : Int) = fo
        · have zf : ((k : Int) == fo) = true := by simp [hf]
          clear hf
          go_wp2_with fail
          refine s8.vs.force.mono ?_
          rintro e w9 ⟨rfl, vs9, hk9⟩
          have s9 := s8.forced vs9 hk9
          obtain ⟨wa, wc, hwv, _⟩ := texts_of_row s9.row
          obtain ⟨N9, hN9⟩ : ∃ N, N = (A ++ (U ++ [s]) ++ []).length := ⟨_, rfl⟩
          rw [← hN9] at hwv
          subst hwv
          have HS9 := Hid.mk s9
          have hl9 : Value.int IntKind.i64 (N9 : Int) = Value.int IntKind.i64 (((A ++ (U ++ [s])).length : Nat) : Int) := by rw [hN9, List.append_nil]
          have HL9 := Hid.mk hl9
          clear s8 s9 vs9 hk9 hl9 hN9
          go_wp2
          go_roundw
          case rel => exact ⟨k + 1, _, _, HK.out, by go_num, HL9.out, HS9.out⟩
          case measure =>
            have := HK.out
            simp [intOf]
            omega
        · have zf : ((k : Int) == fo) = false := by simp [hf]
          have HS8 := Hid.mk s8
          clear s8 hf
          go_wp2
          go_roundw
          case rel => exact ⟨k + 1, _, _, HK.out, by go_num, rfl, HS8.out⟩
          case measure =>
            have := HK.out
            simp [intOf]
            omega
      · go_wp2_with fail
        refine (st.vs.tooLong s (by omega) (by omega) hUn).mono ?_
        rintro e w7 ⟨rfl, vs7, hk7⟩
        have s8 : St w w7 vb w1.heap.size (k + 1) img _ A U ts := ⟨vs7, hk7.row st.row, by omega, by rw [hstep]; omega⟩
        clear vs7 hk7 st
        by_cases hf : (k : Int) = fo
        · have zf : ((k : Int) == fo) = true := by simp [hf]
          clear hf
          go_wp2_with fail
          refine s8.vs.force.mono ?_
          rintro e w9 ⟨rfl, vs9, hk9⟩
          have s9 := s8.forced vs9 hk9
          obtain ⟨wa, wc, hwv, _⟩ := texts_of_row s9.row
          obtain ⟨N9, hN9⟩ : ∃ N, N = (A ++ U ++ []).length := ⟨_, rfl⟩
          rw [← hN9] at hwv
          subst hwv
          have HS9 := Hid.mk s9
          have hl9 : Value.int IntKind.i64 (N9 : Int) = Value.int IntKind.i64 (((A ++ U).length : Nat) : Int) := by rw [hN9, List.append_nil]
          have HL9 := Hid.mk hl9
          clear s8 s9 vs9 hk9 hl9 hN9
          go_wp2
          go_roundw
          case rel => exact ⟨k + 1, _, _, HK.out, by go_num, HL9.out, HS9.out⟩
          case measure =>
            have := HK.out
            simp [intOf]
            omega
        · have zf : ((k : Int) == fo) = false := by simp [hf]
          have HS8 := Hid.mk s8
          clear s8 hf
          go_wp2
          go_roundw
          case rel => exact ⟨k + 1, _, _, HK.out, by go_num, rfl, HS8.out⟩
          case measure =>
            have := HK.out
            simp [intOf]
            omega
    · have hn := st.n
      have hnU : U.length ≤ 1000 := by rw [List.length_append] at hn; omega
      go_wp2_with fail
      refine (st.vs.crash kp pt hnU).mono ?_
      rintro e w8 ⟨rfl, v8, dn8, n, hnle, m8, hF8, hk8⟩
      have row8 := hk8.row st.row
      clear hk8 st hbw
      go_wp2_with fail
      refine (mvOpen m8 hF8).mono ?_
      rintro e w9 ⟨vb9, lb9, ob9, tn9, tm9, ga, gc, rfl, mv9, rowg, hb9⟩
      have row9 := (Keeps.below hb9).row row8
      obtain ⟨ga', gc', eg, hgt⟩ := texts_of_row rowg
      cases eg
      clear row8 m8 hF8 hb9 rowg
      have hG1 : (A ++ U.take n).length = A.length + n := by simp; omega
      have hG2 : A ++ U.take n = (A ++ U).take (A.length + n) := by
        rw [List.take_append, Nat.add_sub_cancel_left]
        congr 1
        exact (List.take_of_length_le (by omega)).symm
      have hN : (A ++ U).length = A.length + U.length := List.length_append
      obtain ⟨G, hG⟩ : ∃ G, G = A.length + n := ⟨_, rfl⟩
      obtain ⟨N, hNN⟩ : ∃ N, N = A.length + U.length := ⟨_, rfl⟩
      rw [hG1, ← hG] at hgt
      rw [hG1, ← hG]
      rw [hG2, ← hG] at hgt
      rw [hN, ← hNN] at row9
      have q1 : (A.length : Int) ≤ (G : Int) := by omega
      have q2 : (G : Int) ≤ (N : Int) := by omega
      have q3 : G ≤ 1000000 := by omega
      have hGN : G ≤ N := by omega
      obtain ⟨W, hW⟩ : ∃ W, W = w9.alloc (.cells #[.string img, .slice ga G gc] 31) := ⟨_, rfl⟩
      have hbW : Below w9.heap.size w9 W := by rw [hW]; exact (Below.refl _ w9).alloc (Nat.le_refl _) _
      have bx : W.heap[w9.heap.size]? = some (.cells #[.string img, .slice ga G gc] 31 (0, 0)) := by rw [hW]; exact heap_alloc_new w9 _
      have hBW : Below w.heap.size w W := mv9.d.below.trans (hbW.mono mv9.lo)
      have hgtW := hgt.carry hbW
      have rowW := (Keeps.below hbW).row row9
      have hss := same_bytes img
      obtain ⟨c0, c1, _, _⟩ := box2 bx
      clear hgt row9 hG hNN hG1 hG2 hN hnle hbW bx mv9
      obtain ⟨wa, wc, hwv, hwt⟩ := texts_of_row rowW
      have hcap : G ≤ wc ∧ (wa = none → wc = 0) := by
        rcases rowW.2 with ⟨e1, h0⟩ | ⟨g, wc', cur, e1, _, hg, hcap, _⟩
        · rw [hwv] at e1
          cases e1
          exact ⟨by omega, fun _ => rfl⟩
        · rw [hwv] at e1
          cases e1
          exact ⟨by omega, fun h => by cases h⟩
      subst hwv
      have q4 : (G : Int) ≤ (wc : Int) := by have := hcap.1; omega
      have q5 : (0 : Int) ≤ (G : Int) := by omega
      have hcon : ∀ z, Below W.heap.size W z → Calls Try.prog 16 #[.slice ga G gc, .slice wa G wc] z fun e z' => e = .returned (.bool true) ∧ Below W.heap.size W z' := fun z hz =>
        (same_yes q3 (hgtW.carry hz) ((hwt.take G hGN).carry hz)).mono fun e z' ⟨he, hb⟩ => ⟨he, hz.trans (hb.mono hz.size)⟩
      have HC := Hid.mk hcon
      have HBW := Hid.mk hBW
      clear hcon hgtW rowW hwt hBW hcap
      have HWW := Hid.mk hW
      go_wp2_with fail
      rw [← hW]
      clear hW
      go_region_held3 (fun wx => wx.cell? ⟨w9.heap.size, 0, none⟩ = some (.string img) ∧ wx.cell? ⟨w9.heap.size, 1, none⟩ = some (.slice ga G gc))
        (first
          | exact ⟨c0, c1⟩
          | exact hS1)
        ((first
          | (go_at_call 16; refine (HC.out _ ((Below.refl _ _).drew)).mono ?_; rintro e w10 ⟨rfl, hb10⟩; have hS1 := And.intro ((hb10.cell (p := ⟨w9.heap.size, 0, none⟩) (World.block_lt_of_cell? W _ c0)).trans c0) ((hb10.cell (p := ⟨w9.heap.size, 1, none⟩) (World.block_lt_of_cell? W _ c1)).trans c1))))
      go_wp2
      go_ret
      exact ⟨rfl, HBW.out.trans (hb10.mono HBW.out.size)⟩

set_option maxRecDepth 100000 in
theorem lifted (os : Os) (started : os.Started) (H : Type) (enc : TypeId × Value → H) :
    ReturnsInHanded {} Try.checked os 5 .any (Rows.vaultLastsSpec.pre6 enc Try.prog Try.f5 Rows.vaultLastsRow.domain false) (Rows.vaultLastsSpec.post enc Try.prog Try.f5 false true false false) := by
  refine returnsInHanded_of_change (C := Try.checked) own started (by kernel_rfl) Try.func5
    (ChangeSpec.witness6 (enc := enc) (C := Try.checked) false ⟨#[], #[.string .empty, .slice none 0 0, .int .i64 0, .int .i64 0, .int .i64 0], []⟩ 8 (by kernel_rfl) (by kernel_rfl) (by kernel_rfl) (by kernel_rfl)) ?_
  intro W base args ds gs before hval0 hW hcnd _
  have hval : ∀ (j : Nat) t v, Try.f5.params[j]? = some t → args[j]? = some v → Value.okWide Try.prog W .any base t v := hval0
  have hW' := hW
  obtain ⟨p, q, hA0, hV, rfl, hfz, hnd⟩ := hW
  have hA : DataW.TrodAll enc Try.prog W 0 (fun _ => true) true Try.f5.params.toList args.toList ds p := hA0
  rw [Try.params5] at hA hval
  obtain ⟨v0, vs0, d0, ds0, p0, q0, hargs, rfl, rfl, h0, r0⟩ := trodAll_cons hA
  obtain ⟨v1, vs1, d1, ds1, p1, q1, rfl, rfl, rfl, h1, r1⟩ := trodAll_cons r0
  obtain ⟨v2, vs2, d2, ds2, p2, q2, rfl, rfl, rfl, h2, r2⟩ := trodAll_cons r1
  obtain ⟨v3, vs3, d3, ds3, p3, q3, rfl, rfl, rfl, h3, r3⟩ := trodAll_cons r2
  obtain ⟨v4, vs4, d4, ds4, p4, q4, rfl, rfl, rfl, h4, r4⟩ := trodAll_cons r3
  obtain ⟨rfl, rfl, rfl⟩ := trodAll_nil r4
  obtain rfl : args = #[v0, v1, v2, v3, v4] := by cases args; simp_all
  obtain ⟨rfl, rfl⟩ := trodVars_none hV
  obtain ⟨s0, rfl, rfl, rfl, w0⟩ := open_string Try.underlying9 (hval 0 9 v0 rfl rfl) h0
  obtain ⟨a1, len1, cap1, rfl⟩ := okWide_slice Try.underlying24 (hval 1 24 v1 rfl rfl)
  have k1 := h1
  have lt1 : ∀ x ∈ p1, x.block < W.heap.size := by obtain ⟨m, hm⟩ := k1; exact DataW.trod_lt m _ _ _ hm
  obtain ⟨ts1, w1⟩ : ∃ ts, IsTexts W a1 len1 cap1 ts := by
    obtain ⟨fuel, hf⟩ := h1
    exact open_texts hf
  obtain ⟨a2, rfl, rfl, rfl, w2⟩ := open_int Try.underlying3 (hval 2 3 v2 rfl rfl) h2
  obtain ⟨a3, rfl, rfl, rfl, w3⟩ := open_int Try.underlying3 (hval 3 3 v3 rfl rfl) h3
  obtain ⟨a4, rfl, rfl, rfl, w4⟩ := open_int Try.underlying3 (hval 4 3 v4 rfl rfl) h4
  clear hA0 hval0
  refine (walk s0 a1 len1 cap1 ts1 a2 a3 a4 W w1 w2 w3 w4).mono fun e W' ⟨he, bel⟩ => ?_
  subst he
  exact ⟨_, rfl, _, _, _, [], _, [], hW', trodAll_mk1 (shut_bool Try.underlying4 _), (trodAll_cons_mk (shut_string Try.underlying9 w0) (trodAll_cons_mk (Below.trod laidOut (by kernel_rfl) (of_decide_eq_true (by kernel_rfl)) k1 bel lt1) (trodAll_cons_mk (shut_int Try.underlying3 w2) (trodAll_cons_mk (shut_int Try.underlying3 w3) (trodAll_cons_mk (shut_int Try.underlying3 w4) trodAll_mk0))))), rfl, bel.frame _, fun h => by cases h⟩

set_option maxRecDepth 100000 in
theorem over : Rows.vaultLastsRow.holds Try.pinned (OpenSpec.ofChange Rows.vaultLastsSpec) :=
  OpenClaim.holds_of_wide 5 Try.f5 rfl rfl rfl rfl rfl rfl rfl ⟨rfl, rfl, rfl, rfl, rfl⟩ rfl rfl rfl rfl rfl (by kernel_rfl) Try.func5 (by kernel_rfl)
    (of_decide_eq_true (by kernel_rfl)) (by unfold Func.isWrapper; first | (rw [if_pos (by decide +kernel)]; kernel_rfl) | (rw [if_neg (by decide +kernel)]; exact ⟨rfl, rfl⟩))
    (fun os started H enc _ => lifted os started H enc)

end Go.Proofs.Ytcofiidibhmhgaa.vaultLasts

namespace Go.Proofs.Ytcofiidibhmhgaa
/-- The statement. -/
theorem vaultLasts_holds : Rows.VaultLastsSaid := vaultLasts.over
#print axioms vaultLasts_holds
end Go.Proofs.Ytcofiidibhmhgaa
