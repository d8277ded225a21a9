/-
  VaultKeeps: for every row of images and loads the law returns true: opened anew behind a Force, a vault finds the last image, and all loads behind it. No condition.
-/
import Derived.Test.YtcofiidibhmhgaaVKeep
namespace Go.Proofs.Ytcofiidibhmhgaa.vaultKeeps
open Go.ChangeShapes Go.WideShapes Go.ChangeAt Go.RowKit Go.Deep
open Go.ChangeMaps (open_string shut_string)

/-- The law's state behind k texts. -/
structure St (w wr : World) (vb b k e : Nat) (im : ByteArray) (lv : Value) (U ts : List ByteArray) : Prop where
  ks : KS w.heap.size w wr vb b e im U
  row : wr.ownsRow w.heap.size 9 1 lv U.length (textCells U)
  e : e ≤ k
  n : U.length ≤ k
  s : sumT U ≤ sumT (ts.take k)
  im : im.size ≤ 4096

set_option maxHeartbeats 6400000 in
set_option maxRecDepth 100000 in
theorem walk (a0 : Option Addr) (len0 cap0 : Nat) (zs : List Int) (a : Option Addr) (len cap : Nat) (ts : List ByteArray) (w : World) (hz : IsInts w a0 len0 zs) (ha : IsTexts w a len cap ts) :
    Calls Try.prog 4 #[.slice a0 len0 cap0, .slice a len cap] w fun e w' => e = .returned (.bool true) ∧ Below w.heap.size w w' := by
  go_enter Try.func4, Try.ntmps4
  go_wp2_with fail
  refine (alive_any w).mono ?_
  rintro e w1 ⟨rfl, hb1⟩
  have ha1 := ha.carry hb1
  go_wp2_with fail
  refine (great_any a len cap ts _ ha1).mono ?_
  rintro e w2 ⟨hw2, rfl | ⟨rfl, hl40, hsum⟩⟩
  · rw [hw2]
    go_wp2
    go_ret
    exact ⟨rfl, hb1⟩
  rw [hw2]
  clear hw2 w2 ha1
  by_cases hl0 : 40 < len0
  · have hl0' : (40 : Int) < (len0 : Int) := by omega
    go_wp2
    go_ret
    exact ⟨rfl, hb1⟩
  have hl0' : ¬ (40 : Int) < (len0 : Int) := by omega
  have h0 := Mine.new hb1 hb1.size
  go_wp2_with fail
  refine (new_any w1).mono ?_
  rintro e w3 ⟨rfl, hw3⟩
  rw [← hw3] at h0
  clear hw3
  go_wp2_with fail
  refine (mvOpen h0 fnd_new).mono ?_
  rintro e w4 ⟨vb, lb, ob, tn, tm, va, vc, rfl, mv, _, hb4⟩
  have mv5 := mv.grow ((Below.refl _ w4).alloc (Nat.le_refl _) (.cells #[.string ⟨#[]⟩, .slice va 0 vc] 31))
  have st0 : St w (w4.alloc (.cells #[.string ⟨#[]⟩, .slice va 0 vc] 31)) vb w1.heap.size 0 0 ⟨#[]⟩ (.slice none 0 0) [] ts :=
    ⟨.inl ⟨rfl, rfl, rfl, lb, ob, _, tn, tm, mv5⟩, ⟨rfl, .inl ⟨rfl, rfl⟩⟩, Nat.le_refl _, Nat.zero_le _, Nat.zero_le _, by decide⟩
  have HST := Hid.mk st0
  have HS := Hid.mk hsum
  have HZ := Hid.mk hz
  clear hb4 mv h0 hb1 mv5 st0 hsum hz
  go_wp2
  go_loopw [9, 10, 11, 44] (fun iv ev lv i wr => ∃ (k e : Nat) (im : ByteArray) (U : List ByteArray), k ≤ len ∧ i = .int .i64 k ∧ iv = .string im ∧ ev = .int .i64 e ∧ St w wr vb w1.heap.size k e im lv U ts) (fun _ _ _ i _ => len - (intOf i).toNat)
  case atStart => exact ⟨0, 0, ⟨#[]⟩, [], Nat.zero_le _, rfl, rfl, rfl, HST.out⟩
  case round =>
    obtain ⟨k, e, im, U, hk, rfl, rfl, rfl, st⟩ := hrel
    have hbw := st.ks.below
    by_cases hlt : k < len
    · obtain ⟨hlen, ⟨rfl, _⟩ | ⟨g, off, rfl, hat⟩⟩ := ha
      · exact absurd hlen (by simp; omega)
      have hkt : k < ts.length := by omega
      have hatr := hat.carry (hbw.block g hat.lt) hbw.size
      have c := hatr.cell k hkt
      have hstep := sumT_take_succ ts k hkt
      have hge := sumT_get ts k hkt
      have hle := sumT_take_le ts (k + 1)
      obtain ⟨s, hs⟩ : ∃ s, s = ts[k] := ⟨_, rfl⟩
      rw [← hs] at c hstep hge
      have HK := Hid.mk hlt
      have HSTEP := Hid.mk hstep
      have hn := st.n
      have hss := st.s
      have hek := st.e
      have hsum := HS.out
      have hs40 : s.size ≤ 4096 := by omega
      have hUn : U.length ≤ 40 := by omega
      have hUs : sumT U ≤ 4096 := by omega
      have hzr : ∃ g0 off0, (zs ≠ [] → a0 = some ⟨g0, off0, none⟩) ∧ ∀ j (h : j < zs.length), wr.cell? ⟨g0, off0 + j, none⟩ = some (.int .i64 zs[j]) := by
        obtain ⟨_, rfl | ⟨g0, off0, rfl, hg0, hc0⟩⟩ := HZ.out
        · exact ⟨0, 0, fun h => absurd rfl h, fun j h => by simp at h⟩
        · exact ⟨g0, off0, fun _ => rfl, fun j h => (hbw.cell (p := ⟨g0, off0 + j, none⟩) hg0).trans (hc0 j h)⟩
      have hzl := HZ.out.1
      have HST := Hid.mk st
      have HZR := Hid.mk hzr
      have HZL := Hid.mk hzl
      clear hs hat hatr hbw st hstep hge hle hss hsum hzr hzl
      go_wp2
      go_loop [14, 51] (fun at_ i => ∃ (x : Bool) (j : Nat), j ≤ len0 ∧ i = .int .i64 j ∧ at_ = .bool x) (fun _ i => len0 - (intOf i).toNat)
      case atStart => exact ⟨false, 0, Nat.zero_le _, rfl, rfl⟩
      case round =>
        obtain ⟨x, j, hj, rfl, rfl⟩ := hrel
        by_cases hjl : j < len0
        · have hjz : j < zs.length := by rw [HZL.out]; exact hjl
          obtain ⟨g0, off0, hga, hgc⟩ := HZR.out
          have hg := hga (fun h => by rw [h] at hjz; simp at hjz)
          subst hg
          have cz := hgc j hjz
          obtain ⟨z, hzz⟩ : ∃ z, z = zs[j] := ⟨_, rfl⟩
          rw [← hzz] at cz
          have HJ := Hid.mk hjl
          clear hzz hgc hga hjz
          cases x with
          | true =>
            go_wp2
            go_round
            case rel => exact ⟨_, j + 1, HJ.out, by go_num, rfl⟩
            case measure =>
              have := HJ.out
              simp [intOf]
              omega
          | false =>
            go_wp2
            go_round
            case rel => exact ⟨_, j + 1, HJ.out, by go_num, rfl⟩
            case measure =>
              have := HJ.out
              simp [intOf]
              omega
        · cases x with
          | true =>
            have hri := refImage_any (e + 1) s (by omega) (by omega)
            by_cases hlong : 1024 < (imgB (e + 1) s).size
            · have hrz := rec_none hlong
              obtain ⟨R, hR⟩ : ∃ R, R = recOf (imgB (e + 1) s) := ⟨_, rfl⟩
              rw [← hR] at hri hrz
              have hrz' : ((R.size : Int) == 0) = true := by rw [hrz]; rfl
              have HRI := Hid.mk hri
              clear hR hri hrz
              go_wp2_with fail
              refine (HST.out.ks.long s (by omega) (by omega) hlong).mono ?_
              rintro e1 w6 ⟨rfl, ks6, hk6⟩
              have row6 := hk6.row HST.out.row
              clear hk6 hlong
              go_wp2_with fail
              refine (HRI.out w6).mono ?_
              rintro e1 w7 ⟨rfl, hb7⟩
              have ks7 := ks6.grow hb7
              have HR7 := Hid.mk ((Keeps.below hb7).row row6)
              clear ks6 row6 hb7
              go_wp2_with fail
              refine ks7.epoch.mono ?_
              rintro e1 w8 ⟨rfl, hw8⟩
              rw [hw8]
              clear hw8 w8
              have HK7 := Hid.mk ks7
              clear ks7
              go_wp2
              go_roundw
              case rel => exact ⟨k + 1, e, im, U, HK.out, by go_num, rfl, rfl, HK7.out, HR7.out, by omega, by omega, by have := HST.out.s; rw [HSTEP.out]; omega, HST.out.im⟩
              case measure =>
                have := HK.out
                simp [intOf]
                omega
            · have hrz := rec_size (s := imgB (e + 1) s) (by omega)
              obtain ⟨R, hR⟩ : ∃ R, R = recOf (imgB (e + 1) s) := ⟨_, rfl⟩
              rw [← hR] at hri hrz
              have hrz' : ((R.size : Int) == 0) = false := by rw [beq_eq_false_iff_ne]; omega
              have HRI := Hid.mk hri
              clear hR hri hrz
              go_wp2_with fail
              refine (HST.out.ks.settle s (by omega) (by omega) (by omega)).mono ?_
              rintro e1 w6 ⟨rfl, ks6, hk6⟩
              clear hk6 hlong
              go_wp2_with fail
              refine (HRI.out w6).mono ?_
              rintro e1 w7 ⟨rfl, hb7⟩
              have ks7 := ks6.grow hb7
              clear ks6 hb7
              go_wp2_with fail
              refine ks7.epoch.mono ?_
              rintro e1 w8 ⟨rfl, hw8⟩
              rw [hw8]
              clear hw8 w8
              have HK7 := Hid.mk ks7
              clear ks7
              go_wp2
              go_roundw
              case rel => exact ⟨k + 1, e + 1, s, [], HK.out, by go_num, rfl, by go_num, HK7.out, ⟨rfl, .inl ⟨rfl, rfl⟩⟩, by omega, by simp, by simp [sumT], hs40⟩
              case measure =>
                have := HK.out
                simp [intOf]
                omega
          | false =>
            by_cases he0 : e = 0
            · subst he0
              go_wp2_with fail
              refine (HST.out.ks.stale s).mono ?_
              rintro e1 w6 ⟨rfl, hw6⟩
              rw [hw6]
              clear hw6 w6
              go_wp2
              go_roundw
              case rel => exact ⟨k + 1, 0, im, U, HK.out, by go_num, rfl, rfl, HST.out.ks, HST.out.row, by omega, by omega, by have := HST.out.s; rw [HSTEP.out]; omega, HST.out.im⟩
              case measure =>
                have := HK.out
                simp [intOf]
                omega
            · have he1 : ((e : Int) == 0) = false := by rw [beq_eq_false_iff_ne]; omega
              have he2 : (0 : Int) < (e : Int) := by omega
              have he3 : 1 ≤ e := by omega
              clear he0
              by_cases hsm : 1023 < s.size
              · have hsm' : (1023 : Int) < (s.size : Int) := by omega
                go_wp2_with fail
                refine (HST.out.ks.tooLong he3 s hsm (by omega) (by omega)).mono ?_
                rintro e1 w6 ⟨rfl, ks6, hk6⟩
                have HR6 := Hid.mk (hk6.row HST.out.row)
                have HK6 := Hid.mk ks6
                clear hk6 ks6
                go_wp2
                go_roundw
                case rel => exact ⟨k + 1, e, im, U, HK.out, by go_num, rfl, rfl, HK6.out, HR6.out, by omega, by omega, by have := HST.out.s; rw [HSTEP.out]; omega, HST.out.im⟩
                case measure =>
                  have := HK.out
                  simp [intOf]
                  omega
              · have hsm' : ¬ (1023 : Int) < (s.size : Int) := by omega
                go_wp2_with fail
                refine (HST.out.ks.append he3 s (by omega) (by omega) (by omega)).mono ?_
                rintro e1 w6 ⟨rfl, ks6, hk6⟩
                have row6 := hk6.row HST.out.row
                have h6l := ks6.lo
                clear hk6
                go_wp2_with (at_builtin; refine wpList_append_texts _ rfl (.tmp 100) (.tmp 102) rfl w.heap.size _ U.length (textCells U) rfl ?o1 (some ⟨w6.heap.size, 0, none⟩) 1 1 [s] rfl ?i1 (by omega) (by simp; omega) ?_)
                case o1 => exact row6.alloc _
                case i1 => exact texts_one w6 s
                intro v8 w8 hown8 hg8
                have ks8 := (ks6.grow ((Below.refl _ _).alloc (Nat.le_refl _) (.cells #[.string s] 9))).row (row6.alloc _) (Nat.le_refl _) hg8
                have hN : (U ++ [s]).length = U.length + 1 := by simp
                have hown9 : w8.ownsRow w.heap.size 9 1 v8 (U ++ [s]).length (textCells (U ++ [s])) := by
                  rw [← textCells_append] at hown8
                  rw [hN]
                  exact hown8
                have HK8 := Hid.mk ks8
                have HR8 := Hid.mk hown9
                clear ks6 ks8 hg8 hown8 hown9 row6 hN
                go_wp2
                go_roundw
                case rel => exact ⟨k + 1, e, im, U ++ [s], HK.out, by go_num, rfl, rfl, HK8.out, HR8.out, by omega, by simp; omega, by have := HST.out.s; rw [HSTEP.out, sumT_append]; simp [sumT]; omega, HST.out.im⟩
                case measure =>
                  have := HK.out
                  simp [intOf]
                  omega
    · have hn := st.n
      have hek := st.e
      have hss0 := st.s
      have him := st.im
      have hle := sumT_take_le ts k
      have hsum := HS.out
      have hUs : sumT U ≤ 4096 := by omega
      clear hss0 hle hsum hbw
      obtain ⟨la, lc, hlv, hlt0⟩ := texts_of_row st.row
      subst hlv
      by_cases he0 : e = 0
      · have he1 : ¬ (0 : Int) < (e : Int) := by omega
        have HST := Hid.mk st
        clear st hlt0 he0
        go_wp2_with fail
        refine HST.out.ks.force.mono ?_
        rintro e1 w11 ⟨rfl, ke11, hk11⟩
        have row11 := hk11.row HST.out.row
        clear hk11 HST
        go_wp2_with fail
        refine ke11.crash.mono ?_
        rintro e1 w12 ⟨rfl, ke12, hk12⟩
        have row12 := hk12.row row11
        obtain ⟨v12, dn12, y12, m12, hF12⟩ := ke12
        clear hk12 row11 ke11
        go_wp2_with fail
        refine (mvOpen m12 hF12).mono ?_
        rintro e1 w13 ⟨vb13, lb13, ob13, tn13, tm13, ga, gc, rfl, mv13, row13, hb13⟩
        have hx13 : Below w13.heap.size w13 (w13.alloc (.cells #[.string im, .slice ga U.length gc] 31)) := (Below.refl _ w13).alloc (Nat.le_refl _) _
        have mv14 := mv13.grow hx13
        obtain ⟨d0, d1, _, _⟩ := box2 (heap_alloc_new w13 (.cells #[.string im, .slice ga U.length gc] 31))
        obtain ⟨ga', gc', eg, hgt⟩ := texts_of_row ((Keeps.below hx13).row row13)
        cases eg
        obtain ⟨wa', wc', ew, hwt⟩ := texts_of_row ((Keeps.below hx13).row ((Keeps.below hb13).row row12))
        cases ew
        have hss := same_bytes im
        have HC := Hid.mk (same_yes (show U.length ≤ 1000000 by omega) hgt hwt)
        clear hgt hwt hb13 hx13 row13 row12 mv13 m12 hF12
        go_wp2_with fail
        refine (vEpoch_any mv14.a).mono ?_
        rintro e1 w15 ⟨rfl, hw15⟩
        rw [hw15]
        clear hw15 w15
        go_wp2_with fail
        refine HC.out.mono ?_
        rintro e1 w16 ⟨rfl, hb16⟩
        have HB := Hid.mk (mv14.d.below.trans (hb16.mono mv14.lo))
        clear hb16 mv14
        go_wp2
        go_ret
        exact ⟨rfl, HB.out⟩
      · have he1 : (0 : Int) < (e : Int) := by omega
        have he3 : 1 ≤ e := by omega
        obtain ⟨y, vs⟩ := st.ks.settled he3
        have hsi := vs.si
        have hsu := vs.su
        have hri := refImage_any e im (by omega) (by omega)
        have hrz := rec_size hsi
        obtain ⟨R, hR⟩ : ∃ R, R = recOf (imgB e im) := ⟨_, rfl⟩
        rw [← hR] at hri hrz
        have hw0 : R.size = wholeN (imgs e im (U.take 0)) := by
          rw [hrz]
          simp [imgs, wholeN]
        have hR1 : R.size ≤ 1030 := by omega
        have HSU := Hid.mk hsu
        have HW0 := Hid.mk hw0
        have HRI := Hid.mk hri
        have HST := Hid.mk st
        clear hR hri hrz hsi hsu vs he0 hw0 st hlt0
        go_wp2_with fail
        refine (HRI.out _).mono ?_
        rintro e1 w7 ⟨rfl, hb7⟩
        have ks7 := HST.out.ks.grow hb7
        have row7 := (Keeps.below hb7).row HST.out.row
        obtain ⟨la', lc', elv, hlt7⟩ := texts_of_row row7
        cases elv
        obtain ⟨g7, off7, hg1, hg2⟩ := hlt7.some_at
        have HK7 := Hid.mk ks7
        have HR7 := Hid.mk row7
        clear hb7 ks7 row7 hlt7 HST HRI
        go_wp2
        go_loopw [20, 22, 130] (fun wv _ i wr2 => ∃ (j : Nat) (X : ByteArray), j ≤ U.length ∧ i = .int .i64 j ∧ wv = .string X ∧ X.size = wholeN (imgs e im (U.take j)) ∧ X.size ≤ 1030 + 1030 * j ∧ Below w7.heap.size w7 wr2) (fun _ _ i _ => U.length - (intOf i).toNat)
        case atStart => exact ⟨0, R, Nat.zero_le _, rfl, rfl, HW0.out, by omega, Below.refl _ _⟩
        case round =>
          obtain ⟨j, X, hj, rfl, rfl, hX, hXs, hb8⟩ := hrel
          have HX := Hid.mk hX
          clear hX
          by_cases hjl : j < U.length
          · have hga := hg1 (fun h => by rw [h] at hjl; simp at hjl)
            subst hga
            have c := (hb8.cell (p := ⟨g7, off7 + j, none⟩) (World.block_lt_of_cell? w7 _ (hg2 j hjl))).trans (hg2 j hjl)
            have hts := HSU.out U[j] (List.getElem_mem hjl)
            obtain ⟨t, ht⟩ : ∃ t, t = U[j] := ⟨_, rfl⟩
            rw [← ht] at c hts
            have hwt := whole_take (e := e) (im := im) hjl ht
            have hcl := fun z => refClose_any z (ldB t) (by have := ldB_size t; omega)
            have hq := rec_size (s := ldB t) (by have := ldB_size t; omega)
            have hlz := ldB_size t
            obtain ⟨Q, hQ⟩ : ∃ Q : ByteArray, Q = ⟨(recB (ldB t).data.toList).toArray⟩ := ⟨_, rfl⟩
            have hqz : Q.size = t.size + 7 := by rw [hQ]; have : (recOf (ldB t)).size = t.size + 7 := by omega
                                                 exact this
            rw [← hQ] at hcl
            rw [← ldB_add] at hcl
            have HCL := Hid.mk hcl
            have HWT := Hid.mk hwt
            have HJ := Hid.mk hjl
            clear ht hcl hQ hq hlz hwt
            go_wp2_with fail
            refine (HCL.out _).mono ?_
            rintro e1 w9 ⟨rfl, hb9⟩
            have hb10 := hb8.trans (hb9.mono hb8.size)
            clear hb9 hb8
            go_wp2
            go_roundw
            case rel => exact ⟨j + 1, X ++ Q, HJ.out, by go_num, rfl, by rw [HWT.out, ← HX.out, ByteArray.size_append, hqz], by rw [ByteArray.size_append]; omega, hb10⟩
            case measure =>
              have := HJ.out
              simp [intOf]
              omega
          · have hje : j = U.length := by omega
            have ks8 := HK7.out.grow hb8
            have row8 := (Keeps.below hb8).row HR7.out
            have hsz := ks8.size he3
            have hXN := HX.out
            rw [hje, List.take_length] at hXN
            rw [← hXN] at hsz
            have HSZ := Hid.mk hsz
            clear hXN hsz hje
            go_wp2_with fail
            refine HSZ.out.mono ?_
            rintro e1 w9 ⟨rfl, hb9⟩
            have ks9 := ks8.grow hb9
            have row9 := (Keeps.below hb9).row row8
            clear ks8 row8 hb9 hb8 HSZ HK7 HR7
            go_wp2_with fail
            refine ks9.force.mono ?_
            rintro e1 w11 ⟨rfl, ke11, hk11⟩
            have row11 := hk11.row row9
            clear hk11 ks9 row9
            go_wp2_with fail
            refine ke11.crash.mono ?_
            rintro e1 w12 ⟨rfl, ke12, hk12⟩
            have row12 := hk12.row row11
            obtain ⟨v12, dn12, y12, m12, hF12⟩ := ke12
            clear hk12 row11 ke11
            go_wp2_with fail
            refine (mvOpen m12 hF12).mono ?_
            rintro e1 w13 ⟨vb13, lb13, ob13, tn13, tm13, ga, gc, rfl, mv13, row13, hb13⟩
            have hx13 : Below w13.heap.size w13 (w13.alloc (.cells #[.string im, .slice ga U.length gc] 31)) := (Below.refl _ w13).alloc (Nat.le_refl _) _
            have mv14 := mv13.grow hx13
            obtain ⟨d0, d1, _, _⟩ := box2 (heap_alloc_new w13 (.cells #[.string im, .slice ga U.length gc] 31))
            obtain ⟨ga', gc', eg, hgt⟩ := texts_of_row ((Keeps.below hx13).row row13)
            cases eg
            obtain ⟨wa', wc', ew, hwt⟩ := texts_of_row ((Keeps.below hx13).row ((Keeps.below hb13).row row12))
            cases ew
            have hss := same_bytes im
            have HC := Hid.mk (same_yes (show U.length ≤ 1000000 by omega) hgt hwt)
            clear hgt hwt hb13 hx13 row13 row12 mv13 m12 hF12
            go_wp2_with fail
            refine (vEpoch_any mv14.a).mono ?_
            rintro e1 w15 ⟨rfl, hw15⟩
            rw [hw15]
            clear hw15 w15
            go_wp2_with fail
            refine HC.out.mono ?_
            rintro e1 w16 ⟨rfl, hb16⟩
            have HB := Hid.mk (mv14.d.below.trans (hb16.mono mv14.lo))
            clear hb16 mv14
            go_wp2
            go_ret
            exact ⟨rfl, HB.out⟩

set_option maxRecDepth 100000 in
theorem lifted (os : Os) (started : os.Started) (H : Type) (enc : TypeId × Value → H) :
    ReturnsInHanded {} Try.checked os 4 .any (Rows.vaultKeepsSpec.pre6 enc Try.prog Try.f4 Rows.vaultKeepsRow.domain false) (Rows.vaultKeepsSpec.post enc Try.prog Try.f4 false true false false) := by
  refine returnsInHanded_of_change (C := Try.checked) own started (by kernel_rfl) Try.func4
    (ChangeSpec.witness6 (enc := enc) (C := Try.checked) false ⟨#[], #[.slice none 0 0, .slice none 0 0], []⟩ 8 (by kernel_rfl) (by kernel_rfl) (by kernel_rfl) (by kernel_rfl)) ?_
  intro W base args ds gs before hval0 hW hcnd _
  have hval : ∀ (j : Nat) t v, Try.f4.params[j]? = some t → args[j]? = some v → Value.okWide Try.prog W .any base t v := hval0
  have hW' := hW
  obtain ⟨p, q, hA0, hV, rfl, hfz, hnd⟩ := hW
  have hA : DataW.TrodAll enc Try.prog W 0 (fun _ => true) true Try.f4.params.toList args.toList ds p := hA0
  rw [Try.params4] at hA hval
  obtain ⟨v0, vs0, d0, ds0, p0, q0, hargs, rfl, rfl, h0, r0⟩ := trodAll_cons hA
  obtain ⟨v1, vs1, d1, ds1, p1, q1, rfl, rfl, rfl, h1, r1⟩ := trodAll_cons r0
  obtain ⟨rfl, rfl, rfl⟩ := trodAll_nil r1
  obtain rfl : args = #[v0, v1] := by cases args; simp_all
  obtain ⟨rfl, rfl⟩ := trodVars_none hV
  obtain ⟨a0, len0, cap0, rfl⟩ := okWide_slice Try.underlying40 (hval 0 40 v0 rfl rfl)
  have k0 := h0
  have lt0 : ∀ x ∈ p0, x.block < W.heap.size := by obtain ⟨m, hm⟩ := k0; exact DataW.trod_lt m _ _ _ hm
  obtain ⟨ts0, w0⟩ : ∃ ts, IsInts W a0 len0 ts := by
    obtain ⟨fuel, hf⟩ := h0
    exact open_nums hf
  obtain ⟨a1, len1, cap1, rfl⟩ := okWide_slice Try.underlying24 (hval 1 24 v1 rfl rfl)
  have k1 := h1
  have lt1 : ∀ x ∈ p1, x.block < W.heap.size := by obtain ⟨m, hm⟩ := k1; exact DataW.trod_lt m _ _ _ hm
  obtain ⟨ts1, w1⟩ : ∃ ts, IsTexts W a1 len1 cap1 ts := by
    obtain ⟨fuel, hf⟩ := h1
    exact open_texts hf
  clear hA0 hval0
  refine (walk a0 len0 cap0 ts0 a1 len1 cap1 ts1 W w0 w1).mono fun e W' ⟨he, bel⟩ => ?_
  subst he
  exact ⟨_, rfl, _, _, _, [], _, [], hW', trodAll_mk1 (shut_bool Try.underlying4 _), (trodAll_cons_mk (Below.trod laidOut (by kernel_rfl) (of_decide_eq_true (by kernel_rfl)) k0 bel lt0) (trodAll_cons_mk (Below.trod laidOut (by kernel_rfl) (of_decide_eq_true (by kernel_rfl)) k1 bel lt1) trodAll_mk0)), rfl, bel.frame _, fun h => by cases h⟩

set_option maxRecDepth 100000 in
theorem over : Rows.vaultKeepsRow.holds Try.pinned (OpenSpec.ofChange Rows.vaultKeepsSpec) :=
  OpenClaim.holds_of_wide 4 Try.f4 rfl rfl rfl rfl rfl rfl rfl ⟨rfl, rfl, rfl, rfl, rfl⟩ rfl rfl rfl rfl rfl (by kernel_rfl) Try.func4 (by kernel_rfl)
    (of_decide_eq_true (by kernel_rfl)) (by unfold Func.isWrapper; first | (rw [if_pos (by decide +kernel)]; kernel_rfl) | (rw [if_neg (by decide +kernel)]; exact ⟨rfl, rfl⟩))
    (fun os started H enc _ => lifted os started H enc)

end Go.Proofs.Ytcofiidibhmhgaa.vaultKeeps

namespace Go.Proofs.Ytcofiidibhmhgaa
/-- The statement. -/
theorem vaultKeeps_holds : Rows.VaultKeepsSaid := vaultKeeps.over
#print axioms vaultKeeps_holds
end Go.Proofs.Ytcofiidibhmhgaa
