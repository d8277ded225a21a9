/-
  WireDoes: for every script of calls the law returns true: each answer, and all that is told of each socket, are the document's; a nil wire. No condition.
-/
import Derived.Deep.CutRange
import Derived.Deep.CutBlock
import Derived.Test.YtjiljencdhbchaaXBoth
namespace Go.Proofs.Ytjiljencdhbchaa.wireDoes
open Go.ChangeShapes Go.WideShapes Go.ChangeAt Go.RowKit Go.Deep
open Go.ChangeMaps (open_string shut_string)

theorem stDo_push {q so n : Int} {x : ByteArray} {f : Nat → Wy} (h : q = 0) : stDo ⟨q, so, x, n⟩ f = stPush f so x := by simp [stDo, h]
theorem stDo_pump {q so n : Int} {x : ByteArray} {f : Nat → Wy} (h : q = 1) : stDo ⟨q, so, x, n⟩ f = stPump f so := by simp [stDo, h]
theorem stDo_take {q so n : Int} {x : ByteArray} {f : Nat → Wy} (h : q = 2) : stDo ⟨q, so, x, n⟩ f = stTake f so n := by simp [stDo, h]
theorem stDo_crash {q so n : Int} {x : ByteArray} {f : Nat → Wy} (h : q = 3) : stDo ⟨q, so, x, n⟩ f = cutF f 3 := by simp [stDo, h]
theorem stDo_idle {q so n : Int} {x : ByteArray} {f : Nat → Wy} (h0 : q ≠ 0) (h1 : q ≠ 1) (h2 : q ≠ 2) (h3 : q ≠ 3) : stDo ⟨q, so, x, n⟩ f = f := by simp [stDo, h0, h1, h2, h3]

/-- The law's state ahead of a call. -/
structure St (w wr : World) (b m N : Nat) (f : Nat → Wy) : Prop where
  d : D2 w wr b m f f
  fits : Fits N f

set_option maxHeartbeats 1600000 in
set_option maxRecDepth 100000 in
theorem walk (a : Option Addr) (len cap : Nat) (cs : List Cl) (w : World) (ha : IsCls w a len cap cs) :
    Calls Try.prog 3 #[.slice a len cap] w fun e w' => e = .returned (.bool true) ∧ Below w.heap.size w w' := by
  go_enter Try.func3, Try.ntmps3
  go_wp2_with fail
  refine (alive_any w).mono ?_
  rintro e w1 ⟨rfl, hb1⟩
  go_wp2_with fail
  refine (great_any (ha.carry hb1)).mono ?_
  rintro e w2 ⟨hb2, rfl | ⟨rfl, hl80, hsum⟩⟩
  · go_wp2
    go_ret
    exact ⟨rfl, hb1.trans (hb2.mono hb1.size)⟩
  have hb := hb1.trans (hb2.mono hb1.size)
  have HSUM := Hid.mk hsum
  clear hb1 hb2 hsum
  have h0 := MX.new hb hb.size
  go_wp2_with fail
  refine (new_any w2).mono ?_
  rintro e w3 ⟨rfl, hw3⟩
  rw [← hw3] at h0
  clear hw3
  have st0 : St w (w3.alloc (.cells #[.string ⟨#[]⟩, .int .i64 0, .int .i64 0, .string ⟨#[]⟩, .int .i64 0, .int .i64 0, .string ⟨#[]⟩, .int .i64 0, .int .i64 0] 32)) w2.heap.size w3.heap.size (sumS (cs.take 0)) nones :=
    ⟨⟨h0.alloc _, ⟨heap_alloc_new w3 _⟩, h0.lo⟩, Fits.nones _⟩
  obtain ⟨bb, hbb⟩ : ∃ bb, bb = w2.heap.size := ⟨_, rfl⟩
  rw [← hbb] at st0 ⊢
  have HBB := Hid.mk hbb
  clear h0 hb hbb
  go_wp2
  go_loopw [6, 7, 8, 9, 10, 11, 12, 23] (fun _ _ _ _ _ _ _ i wr => ∃ (k : Nat) (f : Nat → Wy), k ≤ len ∧ i = .int .i64 k ∧ St w wr bb w3.heap.size (sumS (cs.take k)) f) (fun _ _ _ _ _ _ _ i _ => len - (intOf i).toNat)
  case atStart => exact ⟨0, _, Nat.zero_le _, rfl, st0⟩
  case round =>
    clear st0
    obtain ⟨mm, hmm⟩ : ∃ mm, mm = w3.heap.size := ⟨_, rfl⟩
    rw [← hmm] at hrel ⊢
    have HMM := Hid.mk hmm
    clear hmm
    obtain ⟨k, f, hk, rfl, st⟩ := hrel
    by_cases hlt : k < len
    · obtain ⟨g, off, rfl, hat⟩ := ha.at_ k hlt
      obtain ⟨c, c0, c1, c2, c3, hsz, hsu, hn⟩ := round_n hat ha.1 st.d.mx.below HSUM.out k hlt
      have HK := Hid.mk hlt
      have hbx := Box.new wr c
      obtain ⟨q, so, x, n⟩ := c
      dsimp only at c0 c1 c2 c3 hsz hsu hbx hn
      have dA := st.d.alloc (.cells #[.int .i64 q, .int .i64 so, .string x, .int .i64 n] 34)
      have hF := st.fits
      have hgd := st.d.mx.good
      obtain ⟨N, hN⟩ : ∃ N, N = sumS (cs.take k) := ⟨_, rfl⟩
      obtain ⟨M, hM⟩ : ∃ M, M = sumS (cs.take (k + 1)) := ⟨_, rfl⟩
      rw [← hN] at hsz hsu hF
      rw [← hM] at hsu
      have hF2 : Fits M (stDo ⟨q, so, x, n⟩ f) := by rw [hsu]; exact hF.does _
      have HF2 := Hid.mk hF2
      have HM := Hid.mk hM
      have HN := Hid.mk hn
      have HFM := Hid.mk (show M ≤ 2048 by omega)
      have hN4 : N ≤ 4398046511104 := by omega
      have hx : N + x.size ≤ 4398046511104 := by omega
      clear hat st hsu hM hN hF2 hn
      go_wp2_with fail
      refine (is_any so _).mono ?_
      rintro e w4 ⟨rfl, hw4⟩
      rw [hw4]
      clear hw4 w4
      go_upto_block 2 with fail
      go_cut [7, 8, 9, 10] from 24 to 153 (fun is ok _ _ wx => is = .bool (isS so) ∧ ok = .bool true ∧ D2 w wx bb mm (stDo ⟨q, so, x, n⟩ f) (stDo ⟨q, so, x, n⟩ f) ∧ Box wx wr.heap.size ⟨q, so, x, n⟩)
      case first =>
        by_cases q0 : q = 0
        · have z0 : (q == 0) = true := by simp [q0]
          have ED := Hid.mk (stDo_push (so := so) (n := n) (x := x) (f := f) q0)
          clear q0
          go_wp2_with fail
          refine (mxPush dA.mx so x hF hx).mono ?_
          rintro e w4 ⟨rfl, h4, hk4⟩
          have d4 := dA.wire h4 hk4
          have bx4 := hbx.keep hk4
          clear h4 hk4 dA hbx c0 c1 c2 c3
          cases hs : isS so with
          | false =>
            have HSS := Hid.mk hs
            have e0 : stPush f so x = f := by unfold stPush; rw [hs]; rfl
            rw [e0] at d4 ED
            have HD := Hid.mk d4
            have HB := Hid.mk bx4
            clear d4 bx4 e0 hs
            go_wp2
            go_meet
            case rel => exact ⟨by rw [HSS.out], rfl, by rw [ED.out]; exact HD.out, HB.out⟩
          | true =>
            obtain ⟨i, hi, rfl⟩ := isS_yes hs
            have HSS := Hid.mk hs
            have e0 : upd f i ((f i).push x.data.toList) = stPush f (i : Int) x := by unfold stPush; rw [hs]; rfl
            have d0 := bx4.c0
            have d1 := bx4.c1
            have d2 := bx4.c2
            have k0 := d4.ref.ca i hi
            have z3 := d4.ref.fz (i * 3)
            dsimp only at d0 d1 d2
            have hall : (f i).all.size ≤ N := by have := hF i hi; simpa [Wy.all, ByteArray.size] using this
            have hR := d4.ref.setA (x := x) i hi
            obtain ⟨A, hA⟩ : ∃ A, A = (f i).all := ⟨_, rfl⟩
            rw [← hA] at k0 hR hall
            have hcat : A.size + x.size ≤ 4096 := by omega
            have hO := ((Only.of_below (m := mm) (Below.refl _ w4)).set (i * 3) (.string (A ++ x))).drew
            rw [e0, ← ED.out] at hR
            rw [← ED.out] at d4
            have HD := Hid.mk (d4.refr (wr2 := (w4.setCell ⟨mm, i * 3, none⟩ (.string (A ++ x))).drew) ⟨hR.at_⟩ hO)
            have HB := Hid.mk (bx4.only d4.ref hO)
            have q3 : (i : Int) < 3 := by omega
            have q4 : ¬ (i : Int) < 0 := by omega
            clear d4 bx4 hR hO hA hs e0
            go_wp2_with fail
            go_region
            all_goals
              go_wp2
              go_meet
              case rel => exact ⟨by rw [HSS.out], rfl, HD.out, HB.out⟩
        have z0 : (q == 0) = false := by simp [q0]
        by_cases q1 : q = 1
        · have z1 : (q == 1) = true := by simp [q1]
          have ED := Hid.mk (stDo_pump (so := so) (n := n) (x := x) (f := f) q1)
          clear q0 q1
          cases hs : isS so with
          | false =>
            have HSS := Hid.mk hs
            have e0 : stPump f so = f := by unfold stPump; rw [hs]; rfl
            have e1 : anPump f so = 0 := by unfold anPump; rw [hs]; rfl
            have WP := mxPump dA.mx so (hF.mono hN4)
            rw [e0, e1] at WP
            rw [e0] at ED
            clear e0 e1 hs
            go_wp2_with fail
            refine WP.mono ?_
            rintro e w4 ⟨rfl, h4, hk4⟩
            have HD := Hid.mk (dA.wire h4 hk4)
            have HB := Hid.mk (hbx.keep hk4)
            clear h4 hk4 dA hbx c0 c1 c2 c3 WP
            go_wp2
            go_meet
            case rel => exact ⟨by rw [HSS.out], rfl, by rw [ED.out]; exact HD.out, HB.out⟩
          | true =>
            obtain ⟨i, hi, rfl⟩ := isS_yes hs
            have HSS := Hid.mk hs
            have e0 : upd f i (f i).pump = stPump f (i : Int) := by unfold stPump; rw [hs]; rfl
            have e1 : anPump f (i : Int) = (f i).pump.gone - (f i).gone := by unfold anPump; rw [hs]; rfl
            obtain ⟨P, hP⟩ : ∃ P, P = (f i).pump.gone - (f i).gone := ⟨_, rfl⟩
            have RP := refPump dA.ref i hi (hgd i hi) (Nat.le_trans (hF i hi) hN4)
            rw [e0, ← ED.out, ← hP] at RP
            have E1 := Hid.mk (e1.trans hP.symm)
            clear hs e0 e1 hP
            go_wp2_with fail
            refine RP.mono ?_
            rintro e w4 ⟨rfl, h4, ho4⟩
            have d4 := dA.refr h4 ho4
            have bx4 := hbx.only dA.ref ho4
            have d0 := bx4.c0
            have d1 := bx4.c1
            dsimp only at d0 d1
            have WP := mxPump d4.mx (i : Int) (hF.mono hN4)
            rw [E1.out, ← ED.out] at WP
            clear h4 ho4 dA hbx c0 c1 c2 c3 RP
            go_wp2_with fail
            refine WP.mono ?_
            rintro e w5 ⟨rfl, h5, hk5⟩
            have HD := Hid.mk (d4.wire h5 hk5)
            have HB := Hid.mk (bx4.keep hk5)
            clear h5 hk5 d4 bx4 WP d0 d1
            go_wp2
            go_meet
            case rel => exact ⟨by rw [HSS.out], rfl, HD.out, HB.out⟩
        have z1 : (q == 1) = false := by simp [q1]
        by_cases q2 : q = 2
        · have z2 : (q == 2) = true := by simp [q2]
          have ED := Hid.mk (stDo_take (so := so) (n := n) (x := x) (f := f) q2)
          clear q0 q1 q2
          cases hs : isS so with
          | false =>
            have HSS := Hid.mk hs
            have e0 : stTake f so n = f := by unfold stTake; rw [hs]; rfl
            have e1 : anTake f so n = ⟨#[]⟩ := by unfold anTake; rw [hs]; rfl
            have WP := mxTake dA.mx so n (hF.mono hN4)
            rw [e0, e1] at WP
            rw [e0] at ED
            clear e0 e1 hs
            go_wp2_with fail
            refine WP.mono ?_
            rintro e w4 ⟨rfl, h4, hk4⟩
            have HD := Hid.mk (dA.wire h4 hk4)
            have HB := Hid.mk (hbx.keep hk4)
            clear h4 hk4 dA hbx c0 c1 c2 c3 WP
            go_wp2
            go_meet
            case rel => exact ⟨by rw [HSS.out], rfl, by rw [ED.out]; exact HD.out, HB.out⟩
          | true =>
            obtain ⟨i, hi, rfl⟩ := isS_yes hs
            have HSS := Hid.mk hs
            have e0 : upd f i ((f i).take n) = stTake f (i : Int) n := by unfold stTake; rw [hs]; rfl
            have e1 : anTake f (i : Int) n = (f i).part (f i).came ((f i).take n).came := by unfold anTake; rw [hs]; rfl
            obtain ⟨P, hP⟩ : ∃ P, P = (f i).part (f i).came ((f i).take n).came := ⟨_, rfl⟩
            have RP := refTake dA.ref i hi n HN.out (hgd i hi) (Nat.le_trans (hF i hi) hN4)
            rw [e0, ← ED.out, ← hP] at RP
            have E1 := Hid.mk (e1.trans hP.symm)
            clear hs e0 e1 hP
            go_wp2_with fail
            refine RP.mono ?_
            rintro e w4 ⟨rfl, h4, ho4⟩
            have d4 := dA.refr h4 ho4
            have bx4 := hbx.only dA.ref ho4
            have d0 := bx4.c0
            have d1 := bx4.c1
            have d3 := bx4.c3
            dsimp only at d0 d1 d3
            have WP := mxTake d4.mx (i : Int) n (hF.mono hN4)
            rw [E1.out, ← ED.out] at WP
            clear h4 ho4 dA hbx c0 c1 c2 c3 RP
            go_wp2_with fail
            refine WP.mono ?_
            rintro e w5 ⟨rfl, h5, hk5⟩
            have HD := Hid.mk (d4.wire h5 hk5)
            have HB := Hid.mk (bx4.keep hk5)
            clear h5 hk5 d4 bx4 WP d0 d1 d3
            go_wp2
            go_meet
            case rel => exact ⟨by rw [HSS.out], rfl, HD.out, HB.out⟩
        have z2 : (q == 2) = false := by simp [q2]
        by_cases q3 : q = 3
        · have z3 : (q == 3) = true := by simp [q3]
          have ED := Hid.mk (stDo_crash (so := so) (n := n) (x := x) (f := f) q3)
          clear q0 q1 q2 q3
          go_wp2_with fail
          refine (mxCrash dA.mx).mono ?_
          rintro e w4 ⟨rfl, h4, hk4⟩
          have d4 := dA.wire h4 hk4
          have bx4 := hbx.keep hk4
          clear h4 hk4 dA hbx c0 c1 c2 c3
          go_wp2_with fail
          refine (refCrash d4.ref hgd).mono ?_
          rintro e w5 ⟨rfl, h5, ho5⟩
          have HD := Hid.mk (d4.refr h5 ho5)
          have HB := Hid.mk (bx4.only d4.ref ho5)
          clear h5 ho5 d4 bx4
          go_wp2
          go_meet
          case rel => exact ⟨rfl, rfl, by rw [ED.out]; exact HD.out, HB.out⟩
        · have z3 : (q == 3) = false := by simp [q3]
          have ED := Hid.mk (stDo_idle (so := so) (x := x) (n := n) (f := f) q0 q1 q2 q3)
          have HD := Hid.mk dA
          have HB := Hid.mk hbx
          clear q0 q1 q2 q3 dA hbx
          go_wp2
          go_meet
          case rel => exact ⟨rfl, rfl, by rw [ED.out]; exact HD.out, HB.out⟩
      case rest =>
        obtain ⟨rfl, rfl, hd, bx⟩ := hcut
        obtain ⟨f2, hf2⟩ : ∃ f2, f2 = stDo ⟨q, so, x, n⟩ f := ⟨_, rfl⟩
        rw [← hf2] at hd HF2
        clear hf2 dA hbx c0 c1 c2 c3 hF hgd hN4 hx
        have d1 := bx.c1
        dsimp only at d1
        have hgd := hd.mx.good
        have HT0 := Hid.mk (told_at hgd 0 (by decide) 0 rfl)
        have HT1 := Hid.mk (told_at hgd 1 (by decide) 1 rfl)
        have HT2 := Hid.mk (told_at hgd 2 (by decide) 2 rfl)
        have a0 : wc.cell? ⟨mm, 0, none⟩ = some (.string (f2 0).all) := hd.ref.ca 0 (by decide)
        have a1 : wc.cell? ⟨mm, 1, none⟩ = some (.int .i64 (f2 0).gone) := hd.ref.cg 0 (by decide)
        have a2 : wc.cell? ⟨mm, 2, none⟩ = some (.int .i64 (f2 0).came) := hd.ref.cc 0 (by decide)
        have a3 : wc.cell? ⟨mm, 3, none⟩ = some (.string (f2 1).all) := hd.ref.ca 1 (by decide)
        have a4 : wc.cell? ⟨mm, 4, none⟩ = some (.int .i64 (f2 1).gone) := hd.ref.cg 1 (by decide)
        have a5 : wc.cell? ⟨mm, 5, none⟩ = some (.int .i64 (f2 1).came) := hd.ref.cc 1 (by decide)
        have a6 : wc.cell? ⟨mm, 6, none⟩ = some (.string (f2 2).all) := hd.ref.ca 2 (by decide)
        have a7 : wc.cell? ⟨mm, 7, none⟩ = some (.int .i64 (f2 2).gone) := hd.ref.cg 2 (by decide)
        have a8 : wc.cell? ⟨mm, 8, none⟩ = some (.int .i64 (f2 2).came) := hd.ref.cc 2 (by decide)
        obtain ⟨A0, hA0⟩ : ∃ A, A = (f2 0).all := ⟨_, rfl⟩
        obtain ⟨A1, hA1⟩ : ∃ A, A = (f2 1).all := ⟨_, rfl⟩
        obtain ⟨A2, hA2⟩ : ∃ A, A = (f2 2).all := ⟨_, rfl⟩
        obtain ⟨C0, hC0⟩ : ∃ C, C = (f2 0).came := ⟨_, rfl⟩
        obtain ⟨C1, hC1⟩ : ∃ C, C = (f2 1).came := ⟨_, rfl⟩
        obtain ⟨C2, hC2⟩ : ∃ C, C = (f2 2).came := ⟨_, rfl⟩
        rw [← hA0] at a0 HT0
        rw [← hA1] at a3 HT1
        rw [← hA2] at a6 HT2
        rw [← hC0] at a2 HT0
        rw [← hC1] at a5 HT1
        rw [← hC2] at a8 HT2
        have HD := Hid.mk hd
        have HSZ0 := Hid.mk (show A0.size = (f2 0).bs.length by rw [hA0]; simp [Wy.all]; rfl)
        have HSZ1 := Hid.mk (show A1.size = (f2 1).bs.length by rw [hA1]; simp [Wy.all]; rfl)
        have HSZ2 := Hid.mk (show A2.size = (f2 2).bs.length by rw [hA2]; simp [Wy.all]; rfl)
        clear hA0 hA1 hA2 hC0 hC1 hC2 hgd bx
        cases hs : isS so with
        | false =>
          have t1 : anTrace f2 so = ⟨#[]⟩ := by unfold anTrace; rw [hs]; rfl
          have t2 : anAll f2 so = ⟨#[]⟩ := by unfold anAll; rw [hs]; rfl
          have X1 := fun n => mxTrace (hd.mx.drewN n) so
          have X2 := fun n => mxAll (hd.mx.drewN n) so
          rw [t1] at X1
          rw [t2] at X2
          have HX1 := Hid.mk X1
          have HX2 := Hid.mk X2
          have ee : (⟨#[]⟩ : ByteArray) ++ ⟨#[]⟩ = ⟨#[]⟩ := rfl
          clear t1 t2 X1 X2 hd hs
          go_wp2_with fail
          go_quiet (first | (go_at_call 19; exact Calls.quiet_of (HX1.out _)) | (go_at_call 20; exact Calls.quiet_of (HX2.out _)))
          go_wp2
          go_loopw [11, 12, 119] (fun _ _ i wi => ∃ j : Nat, j ≤ 3 ∧ i = .int .i64 j ∧ D2 w wi bb mm f2 f2) (fun _ _ i _ => 3 - (intOf i).toNat)
          case atStart => exact ⟨0, Nat.zero_le _, rfl, HD.out.drewN _⟩
          case round =>
            obtain ⟨j, hj, rfl, hd⟩ := hrel
            clear HD a0 a1 a2 a3 a4 a5 a6 a7 a8 d1
            by_cases hj0 : j = 0
            · subst hj0
              obtain ⟨t1, t2, t3, t4⟩ := HT0.out
              have hdA := hd.alloc (.cells #[.string A0, .int .i64 (f2 0).gone, .int .i64 C0] 29)
              have X1 := fun n => mxAll (hdA.mx.drewN n) 0
              have X2 := fun n => mxTrace (hdA.mx.drewN n) 0
              have X3 := fun n => mxLeft (hdA.mx.drewN n) 0
              obtain ⟨LL, hLL⟩ : ∃ LL, LL = A0.size - C0 := ⟨_, rfl⟩
              rw [t1] at X1
              rw [t2] at X2
              rw [t3, ← hLL] at X3
              have u1 : (C0 : Int) ≤ (A0.size : Int) := by omega
              have u0 : (0 : Int) ≤ (C0 : Int) := by omega
              have hAl : A0.size ≤ 4398046511104 := by
                have h1 := HF2.out 0 (by decide)
                have h2 := HFM.out
                have h3 := HSZ0.out
                omega
              have e1 : IntKind.i64.wrap ((A0.size : Int) - (C0 : Int)) = (LL : Int) := by rw [IntKind.wrap_i64]; omega
              have HX1 := Hid.mk X1
              have HX2 := Hid.mk X2
              have HX3 := Hid.mk X3
              have I0 := ix0
              have HDD := Hid.mk hdA
              clear t1 t2 t3 t4 X1 X2 X3 hLL hAl hd hdA
              go_wp2_with fail
              go_quiet (first | (go_at_call 20; exact Calls.quiet_of (HX1.out _)) | (go_at_call 19; exact Calls.quiet_of (HX2.out _)) | (go_at_call 21; exact Calls.quiet_of (HX3.out _)))
              go_wp2
              go_roundw
              case rel => exact ⟨1, by decide, rfl, HDD.out.drewN _⟩
              case measure => simp [intOf]
            by_cases hj1 : j = 1
            · subst hj1
              obtain ⟨t1, t2, t3, t4⟩ := HT1.out
              have hdA := hd.alloc (.cells #[.string A1, .int .i64 (f2 1).gone, .int .i64 C1] 29)
              have X1 := fun n => mxAll (hdA.mx.drewN n) 1
              have X2 := fun n => mxTrace (hdA.mx.drewN n) 1
              have X3 := fun n => mxLeft (hdA.mx.drewN n) 1
              obtain ⟨LL, hLL⟩ : ∃ LL, LL = A1.size - C1 := ⟨_, rfl⟩
              rw [t1] at X1
              rw [t2] at X2
              rw [t3, ← hLL] at X3
              have u1 : (C1 : Int) ≤ (A1.size : Int) := by omega
              have u0 : (0 : Int) ≤ (C1 : Int) := by omega
              have hAl : A1.size ≤ 4398046511104 := by
                have h1 := HF2.out 1 (by decide)
                have h2 := HFM.out
                have h3 := HSZ1.out
                omega
              have e1 : IntKind.i64.wrap ((A1.size : Int) - (C1 : Int)) = (LL : Int) := by rw [IntKind.wrap_i64]; omega
              have HX1 := Hid.mk X1
              have HX2 := Hid.mk X2
              have HX3 := Hid.mk X3
              have I1 := ix1
              have HDD := Hid.mk hdA
              clear t1 t2 t3 t4 X1 X2 X3 hLL hAl hd hdA
              go_wp2_with fail
              go_quiet (first | (go_at_call 20; exact Calls.quiet_of (HX1.out _)) | (go_at_call 19; exact Calls.quiet_of (HX2.out _)) | (go_at_call 21; exact Calls.quiet_of (HX3.out _)))
              go_wp2
              go_roundw
              case rel => exact ⟨2, by decide, rfl, HDD.out.drewN _⟩
              case measure => simp [intOf]
            by_cases hj2 : j = 2
            · subst hj2
              obtain ⟨t1, t2, t3, t4⟩ := HT2.out
              have hdA := hd.alloc (.cells #[.string A2, .int .i64 (f2 2).gone, .int .i64 C2] 29)
              have X1 := fun n => mxAll (hdA.mx.drewN n) 2
              have X2 := fun n => mxTrace (hdA.mx.drewN n) 2
              have X3 := fun n => mxLeft (hdA.mx.drewN n) 2
              obtain ⟨LL, hLL⟩ : ∃ LL, LL = A2.size - C2 := ⟨_, rfl⟩
              rw [t1] at X1
              rw [t2] at X2
              rw [t3, ← hLL] at X3
              have u1 : (C2 : Int) ≤ (A2.size : Int) := by omega
              have u0 : (0 : Int) ≤ (C2 : Int) := by omega
              have hAl : A2.size ≤ 4398046511104 := by
                have h1 := HF2.out 2 (by decide)
                have h2 := HFM.out
                have h3 := HSZ2.out
                omega
              have e1 : IntKind.i64.wrap ((A2.size : Int) - (C2 : Int)) = (LL : Int) := by rw [IntKind.wrap_i64]; omega
              have HX1 := Hid.mk X1
              have HX2 := Hid.mk X2
              have HX3 := Hid.mk X3
              have I2 := ix2
              have HDD := Hid.mk hdA
              clear t1 t2 t3 t4 X1 X2 X3 hLL hAl hd hdA
              go_wp2_with fail
              go_quiet (first | (go_at_call 20; exact Calls.quiet_of (HX1.out _)) | (go_at_call 19; exact Calls.quiet_of (HX2.out _)) | (go_at_call 21; exact Calls.quiet_of (HX3.out _)))
              go_wp2
              go_roundw
              case rel => exact ⟨3, by decide, rfl, HDD.out.drewN _⟩
              case measure => simp [intOf]
            have hj3 : j = 3 := by omega
            subst hj3
            have HS := Hid.mk (St.mk hd HF2.out)
            rw [HM.out] at HS
            clear hd
            go_wp2
            go_roundw
            case rel => exact ⟨k + 1, _, HK.out, by go_num, HS.out⟩
            case measure => have := HK.out; simp [intOf]; omega
        | true =>
          clear hd hs
          go_wp2_with fail
          go_quiet (fail)
          go_wp2
          go_loopw [11, 12, 119] (fun _ _ i wi => ∃ j : Nat, j ≤ 3 ∧ i = .int .i64 j ∧ D2 w wi bb mm f2 f2) (fun _ _ i _ => 3 - (intOf i).toNat)
          case atStart => exact ⟨0, Nat.zero_le _, rfl, HD.out.drewN _⟩
          case round =>
            obtain ⟨j, hj, rfl, hd⟩ := hrel
            clear HD a0 a1 a2 a3 a4 a5 a6 a7 a8 d1
            by_cases hj0 : j = 0
            · subst hj0
              obtain ⟨t1, t2, t3, t4⟩ := HT0.out
              have hdA := hd.alloc (.cells #[.string A0, .int .i64 (f2 0).gone, .int .i64 C0] 29)
              have X1 := fun n => mxAll (hdA.mx.drewN n) 0
              have X2 := fun n => mxTrace (hdA.mx.drewN n) 0
              have X3 := fun n => mxLeft (hdA.mx.drewN n) 0
              obtain ⟨LL, hLL⟩ : ∃ LL, LL = A0.size - C0 := ⟨_, rfl⟩
              rw [t1] at X1
              rw [t2] at X2
              rw [t3, ← hLL] at X3
              have u1 : (C0 : Int) ≤ (A0.size : Int) := by omega
              have u0 : (0 : Int) ≤ (C0 : Int) := by omega
              have hAl : A0.size ≤ 4398046511104 := by
                have h1 := HF2.out 0 (by decide)
                have h2 := HFM.out
                have h3 := HSZ0.out
                omega
              have e1 : IntKind.i64.wrap ((A0.size : Int) - (C0 : Int)) = (LL : Int) := by rw [IntKind.wrap_i64]; omega
              have HX1 := Hid.mk X1
              have HX2 := Hid.mk X2
              have HX3 := Hid.mk X3
              have I0 := ix0
              have HDD := Hid.mk hdA
              clear t1 t2 t3 t4 X1 X2 X3 hLL hAl hd hdA
              go_wp2_with fail
              go_quiet (first | (go_at_call 20; exact Calls.quiet_of (HX1.out _)) | (go_at_call 19; exact Calls.quiet_of (HX2.out _)) | (go_at_call 21; exact Calls.quiet_of (HX3.out _)))
              go_wp2
              go_roundw
              case rel => exact ⟨1, by decide, rfl, HDD.out.drewN _⟩
              case measure => simp [intOf]
            by_cases hj1 : j = 1
            · subst hj1
              obtain ⟨t1, t2, t3, t4⟩ := HT1.out
              have hdA := hd.alloc (.cells #[.string A1, .int .i64 (f2 1).gone, .int .i64 C1] 29)
              have X1 := fun n => mxAll (hdA.mx.drewN n) 1
              have X2 := fun n => mxTrace (hdA.mx.drewN n) 1
              have X3 := fun n => mxLeft (hdA.mx.drewN n) 1
              obtain ⟨LL, hLL⟩ : ∃ LL, LL = A1.size - C1 := ⟨_, rfl⟩
              rw [t1] at X1
              rw [t2] at X2
              rw [t3, ← hLL] at X3
              have u1 : (C1 : Int) ≤ (A1.size : Int) := by omega
              have u0 : (0 : Int) ≤ (C1 : Int) := by omega
              have hAl : A1.size ≤ 4398046511104 := by
                have h1 := HF2.out 1 (by decide)
                have h2 := HFM.out
                have h3 := HSZ1.out
                omega
              have e1 : IntKind.i64.wrap ((A1.size : Int) - (C1 : Int)) = (LL : Int) := by rw [IntKind.wrap_i64]; omega
              have HX1 := Hid.mk X1
              have HX2 := Hid.mk X2
              have HX3 := Hid.mk X3
              have I1 := ix1
              have HDD := Hid.mk hdA
              clear t1 t2 t3 t4 X1 X2 X3 hLL hAl hd hdA
              go_wp2_with fail
              go_quiet (first | (go_at_call 20; exact Calls.quiet_of (HX1.out _)) | (go_at_call 19; exact Calls.quiet_of (HX2.out _)) | (go_at_call 21; exact Calls.quiet_of (HX3.out _)))
              go_wp2
              go_roundw
              case rel => exact ⟨2, by decide, rfl, HDD.out.drewN _⟩
              case measure => simp [intOf]
            by_cases hj2 : j = 2
            · subst hj2
              obtain ⟨t1, t2, t3, t4⟩ := HT2.out
              have hdA := hd.alloc (.cells #[.string A2, .int .i64 (f2 2).gone, .int .i64 C2] 29)
              have X1 := fun n => mxAll (hdA.mx.drewN n) 2
              have X2 := fun n => mxTrace (hdA.mx.drewN n) 2
              have X3 := fun n => mxLeft (hdA.mx.drewN n) 2
              obtain ⟨LL, hLL⟩ : ∃ LL, LL = A2.size - C2 := ⟨_, rfl⟩
              rw [t1] at X1
              rw [t2] at X2
              rw [t3, ← hLL] at X3
              have u1 : (C2 : Int) ≤ (A2.size : Int) := by omega
              have u0 : (0 : Int) ≤ (C2 : Int) := by omega
              have hAl : A2.size ≤ 4398046511104 := by
                have h1 := HF2.out 2 (by decide)
                have h2 := HFM.out
                have h3 := HSZ2.out
                omega
              have e1 : IntKind.i64.wrap ((A2.size : Int) - (C2 : Int)) = (LL : Int) := by rw [IntKind.wrap_i64]; omega
              have HX1 := Hid.mk X1
              have HX2 := Hid.mk X2
              have HX3 := Hid.mk X3
              have I2 := ix2
              have HDD := Hid.mk hdA
              clear t1 t2 t3 t4 X1 X2 X3 hLL hAl hd hdA
              go_wp2_with fail
              go_quiet (first | (go_at_call 20; exact Calls.quiet_of (HX1.out _)) | (go_at_call 19; exact Calls.quiet_of (HX2.out _)) | (go_at_call 21; exact Calls.quiet_of (HX3.out _)))
              go_wp2
              go_roundw
              case rel => exact ⟨3, by decide, rfl, HDD.out.drewN _⟩
              case measure => simp [intOf]
            have hj3 : j = 3 := by omega
            subst hj3
            have HS := Hid.mk (St.mk hd HF2.out)
            rw [HM.out] at HS
            clear hd
            go_wp2
            go_roundw
            case rel => exact ⟨k + 1, _, HK.out, by go_num, HS.out⟩
            case measure => have := HK.out; simp [intOf]; omega
    · have hbl := Hid.mk st.d.mx.below
      clear st
      have ee : (⟨#[]⟩ : ByteArray) ++ ⟨#[]⟩ = ⟨#[]⟩ := rfl
      go_wp2_with fail
      refine (crash_none _).mono ?_
      rintro e w4 ⟨rfl, hw4⟩
      rw [hw4]
      clear hw4 w4
      go_wp2_with fail
      refine (push_none none 0 _ (.inl rfl) _).mono ?_
      rintro e w5 ⟨rfl, hw5⟩
      rw [hw5]
      clear hw5 w5
      go_wp2_with fail
      refine (pump_none none 0 (.inl rfl) _).mono ?_
      rintro e w6 ⟨rfl, hw6⟩
      rw [hw6]
      clear hw6 w6
      go_wp2_with fail
      refine (left_none none 0 (.inl rfl) _).mono ?_
      rintro e w7 ⟨rfl, hw7⟩
      rw [hw7]
      clear hw7 w7
      go_wp2_with fail
      refine (take_none none 0 1 (.inl rfl) _).mono ?_
      rintro e w8 ⟨rfl, hw8⟩
      rw [hw8]
      clear hw8 w8
      go_wp2_with fail
      refine (trace_none none 0 (.inl rfl) _).mono ?_
      rintro e w9 ⟨rfl, hw9⟩
      rw [hw9]
      clear hw9 w9
      go_wp2_with fail
      refine (all_none none 0 (.inl rfl) _).mono ?_
      rintro e w10 ⟨rfl, hw10⟩
      rw [hw10]
      clear hw10 w10
      go_wp2_with fail
      go_ret
      exact ⟨rfl, hbl.out⟩

set_option maxRecDepth 100000 in
theorem lifted (os : Os) (started : os.Started) (H : Type) (enc : TypeId × Value → H) :
    ReturnsInHanded {} Try.checked os 3 .any (Rows.wireDoesSpec.pre6 enc Try.prog Try.f3 Rows.wireDoesRow.domain false) (Rows.wireDoesSpec.post enc Try.prog Try.f3 false true false false) := by
  refine returnsInHanded_of_change (C := Try.checked) own started (by kernel_rfl) Try.func3
    (ChangeSpec.witness6 (enc := enc) (C := Try.checked) false ⟨#[], #[.slice none 0 0], []⟩ 8 (by kernel_rfl) (by kernel_rfl) (by kernel_rfl) (by kernel_rfl)) ?_
  intro W base args ds gs before hval0 hW hcnd _
  have hval : ∀ (j : Nat) t v, Try.f3.params[j]? = some t → args[j]? = some v → Value.okWide Try.prog W .any base t v := hval0
  have hW' := hW
  obtain ⟨p, q, hA0, hV, rfl, hfz, hnd⟩ := hW
  have hA : DataW.TrodAll enc Try.prog W 0 (fun _ => true) true Try.f3.params.toList args.toList ds p := hA0
  rw [Try.params3] at hA hval
  obtain ⟨v0, vs0, d0, ds0, p0, q0, hargs, rfl, rfl, h0, r0⟩ := trodAll_cons hA
  obtain ⟨rfl, rfl, rfl⟩ := trodAll_nil r0
  obtain rfl : args = #[v0] := by cases args; simp_all
  obtain ⟨rfl, rfl⟩ := trodVars_none hV
  obtain ⟨a0, len0, cap0, rfl⟩ := okWide_slice Try.underlying22 (hval 0 22 v0 rfl rfl)
  have k0 := h0
  have lt0 : ∀ x ∈ p0, x.block < W.heap.size := by obtain ⟨m, hm⟩ := k0; exact DataW.trod_lt m _ _ _ hm
  obtain ⟨ts0, w0⟩ : ∃ ts, IsCls W a0 len0 cap0 ts := by
    obtain ⟨fuel, hf⟩ := h0
    exact open_cls hf
  clear hA0 hval0
  refine (walk a0 len0 cap0 ts0 W w0).mono fun e W' ⟨he, bel⟩ => ?_
  subst he
  exact ⟨_, rfl, _, _, _, [], _, [], hW', trodAll_mk1 (shut_bool Try.underlying4 _), (trodAll_cons_mk (Below.trod laidOut (by kernel_rfl) (of_decide_eq_true (by kernel_rfl)) k0 bel lt0) trodAll_mk0), rfl, bel.frame _, fun h => by cases h⟩

set_option maxRecDepth 100000 in
theorem over : Rows.wireDoesRow.holds Try.pinned (OpenSpec.ofChange Rows.wireDoesSpec) :=
  OpenClaim.holds_of_wide 3 Try.f3 rfl rfl rfl rfl rfl rfl rfl ⟨rfl, rfl, rfl, rfl, rfl⟩ rfl rfl rfl rfl rfl (by kernel_rfl) Try.func3 (by kernel_rfl)
    (of_decide_eq_true (by kernel_rfl)) (by unfold Func.isWrapper; first | (rw [if_pos (by decide +kernel)]; kernel_rfl) | (rw [if_neg (by decide +kernel)]; exact ⟨rfl, rfl⟩))
    (fun os started H enc _ => lifted os started H enc)

end Go.Proofs.Ytjiljencdhbchaa.wireDoes

namespace Go.Proofs.Ytjiljencdhbchaa
/-- The statement. -/
theorem wireDoes_holds : Rows.WireDoesSaid := wireDoes.over
#print axioms wireDoes_holds
end Go.Proofs.Ytjiljencdhbchaa
