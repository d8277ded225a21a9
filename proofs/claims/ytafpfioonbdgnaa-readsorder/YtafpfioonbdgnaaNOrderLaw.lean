/-
  ReadsOrder: for every list of steps the law returns true: what was read is told in the order in which it was first read, each thing once; once more changes nothing. No condition.
-/
import Derived.Test.YtafpfioonbdgnaaNWant
namespace Go.Proofs.Ytafpfioonbdgnaa.readsOrder
open Go.ChangeShapes Go.WideShapes Go.ChangeAt Go.RowKit Go.Deep Go.Shelf Go.Proofs.Ytafpfioonbdgnaa.Cel Go.Proofs.Ytafpfioonbdgnaa.Rng Go.Proofs.Ytafpfioonbdgnaa.Rds
attribute [local go_sem] Oper.semAt_some

set_option maxRecDepth 100000 in
set_option maxHeartbeats 16000000 in
theorem walk (c : Option Addr) (lc cc : Nat) (ss : List Sp) (w : World) (h2 : IsSps w c lc cc ss) :
    Calls Try.prog 6 #[.slice c lc cc] w fun e w' => e = .returned (.bool true) ∧ Below w.heap.size w w' := by
  have H2 := Hid.mk h2
  clear h2
  refine (callsIn_wide (n := 6)).1 ?_
  refine callsIn_of_wp_marks Try.func6 rfl trivial ?_ rfl
  simp only [Try.ntmps6, List.size_toArray, List.length_cons, List.length_nil, Nat.reduceAdd, Nat.reduceSub, Array.replicate_succ, Array.replicate_zero, List.push_toArray, List.append_toArray, List.nil_append, List.cons_append]
  gi_wp2_with fail
  refine ⟨trivial, (callsIn_wide.2 (alive_any _)).mono ?_⟩
  rintro e w1 ⟨rfl, hb1⟩
  have hb0 : Below w.heap.size w (w.alloc (.cells #[.bool false] 4)) := (Below.refl _ w).alloc (Nat.le_refl _) _
  have kr : (w.alloc (.cells #[.bool false] 4)).heap[w.heap.size]? = some (.cells #[.bool false] 4 (0, 0)) := heap_new _ _
  have kr1 := (hb1.block _ (Array.getElem?_eq_some_iff.1 kr).1).trans kr
  have HB1 := Hid.mk (hb0.trans (hb1.mono hb0.size))
  have HR1 := Hid.mk kr1
  clear hb0 kr kr1 hb1
  gi_wp2_with fail
  refine ⟨trivial, (callsIn_wide.2 (great_any (IsThs.none w1) (H2.out.carry HB1.out))).mono ?_⟩
  rintro e w3 ⟨hg, hb3⟩
  have HB3 := Hid.mk (HB1.out.trans (hb3.mono HB1.out.size))
  have hr3 := (hb3.block _ (Array.getElem?_eq_some_iff.1 HR1.out).1).trans HR1.out
  have HR3 := Hid.mk hr3
  have cr : w3.cell? ⟨w.heap.size, 0, none⟩ = some (.bool false) := cell_at hr3 rfl
  have fr : w3.frozen? ⟨w.heap.size, 0, none⟩ = false := free_at hr3
  clear hb3 hr3
  rcases hg with rfl | ⟨rfl, hsm⟩
  · gi_wp2
    have hc5 := World.cell?_setCell_same' w3 ⟨w.heap.size, 0, none⟩ (.bool true) (by rw [cr]; rfl)
    refine ⟨.bool true, ?_, rfl, HB3.out.setCell (p := ⟨w.heap.size, 0, none⟩) (Nat.le_refl _) _⟩
    simp [results, Try.f6, go_sem, hc5]
  have HSM := Hid.mk hsm
  clear hsm cr fr
  gi_wp2_with fail
  refine ⟨trivial, (callsIn_wide.2 (new_any 0 _)).mono ?_⟩
  rintro e w5 ⟨rfl, hs5, hw5⟩
  obtain ⟨w4, hw4⟩ : ∃ w4, w4 = w3.alloc (.cells #[.slice none 0 0] 28) := ⟨_, rfl⟩
  have hz4 : w4.heap.size = w3.heap.size + 1 := by rw [hw4]; simp
  have hm4 : w4.heap[w3.heap.size]? = some (.cells #[.slice none 0 0] 28 (0, 0)) := by rw [hw4]; exact heap_new _ _
  have hb34 : Below w3.heap.size w3 w4 := by rw [hw4]; exact (Below.refl _ _).alloc (Nat.le_refl _) _
  rw [← hw4] at hs5 hw5
  rw [← hw4]
  obtain ⟨C, hC⟩ : ∃ C, C = w3.heap.size := ⟨_, rfl⟩
  have hb45 : Below w4.heap.size w4 w5 := by rw [hw5]; exact (Below.refl _ _).alloc (Nat.le_refl _) _
  have hz5 : w5.heap.size = C + 2 := by rw [hw5]; simp; omega
  have hb35 : Below w3.heap.size w3 w5 := hb34.trans (hb45.mono hb34.size)
  have hm5 := (hb45.block _ (Array.getElem?_eq_some_iff.1 hm4).1).trans hm4
  rw [hz4] at hs5
  rw [hz4]
  rw [← hC] at hm5 hs5 hb35
  rw [← hC]
  have HS5 := Hid.mk hs5
  have HM5 := Hid.mk hm5
  have HZ5 := Hid.mk hz5
  have HB5 := Hid.mk (HB3.out.trans (hb35.mono (by rw [hC]; exact HB3.out.size)))
  have HR5 := Hid.mk ((hb35.block _ (by rw [hC]; exact (Array.getElem?_eq_some_iff.1 HR3.out).1)).trans HR3.out)
  have HCB : Hid (w.heap.size < C) := Hid.mk (by rw [hC]; exact (Array.getElem?_eq_some_iff.1 HR3.out).1)
  have hlc := H2.out.1
  have HLC := Hid.mk hlc
  clear hlc hs5 hw5 hz4 hm4 hb34 hw4 hb45 hz5 hb35 hm5 hC HR1 HR3 HB1 HB3 w4
  gi_wp2
  have hL0 : LO w.heap.size w (w5.alloc (.cells #[.slice none 0 0] 22)) C C (C + 1) (C + 2) 0 [] [] := by
    have hb6 : Below w5.heap.size w5 (w5.alloc (.cells #[.slice none 0 0] 22)) := (Below.refl _ _).alloc (Nat.le_refl _) _
    refine ⟨⟨_, .slice none 0 0, HS5.out.grown hb6, ⟨?_, ⟨rfl, .inl ⟨rfl, rfl⟩⟩⟩, fun q hq => ?_, fun q hq => ?_⟩,
      ⟨(hb6.block _ (Array.getElem?_eq_some_iff.1 HM5.out).1).trans HM5.out, ⟨rfl, .inl ⟨rfl, rfl⟩⟩⟩, Nat.le_refl _,
      (hb6.block _ (Array.getElem?_eq_some_iff.1 HR5.out).1).trans HR5.out, HB5.out.trans (hb6.mono HB5.out.size), HCB.out, fun j hj => absurd hj (Nat.not_lt_zero j), Nat.le_refl _, Nat.le_refl _⟩
    · have h := heap_new w5 (.cells #[.slice none 0 0] 22)
      rw [HZ5.out] at h
      exact h
    · rcases hq with e | ⟨y, hy, e⟩
      · omega
      · simp at hy
        subst hy
        cases e
    · rw [wo_nil_foot hq]
      omega
  obtain ⟨w6, hw6⟩ : ∃ w6, w6 = w5.alloc (.cells #[.slice none 0 0] 22) := ⟨_, rfl⟩
  rw [← hw6] at hL0
  rw [← hw6, HZ5.out]
  have HL0 := Hid.mk hL0
  clear hL0 hw6 HS5 HM5 HZ5 HB5 HR5
  gi_loopw [7, 8, 10, 22] (fun _ _ _ idx wr => ∃ (k : Nat) (E : List En), k ≤ lc ∧ idx = .int .i64 k ∧ LO w.heap.size w wr C C (C + 1) (C + 2) k E (thE E)) (fun _ _ _ idx _ => lc - (intOf idx).toNat)
  case atStart => exact ⟨0, [], Nat.zero_le _, rfl, HL0.out⟩
  case round =>
    clear HL0
    obtain ⟨k, E, hk, rfl, hst⟩ := hrel
    by_cases hlt : k < lc
    · have hkl : k < ss.length := by have := HLC.out; omega
      have hk80 : k < 80 := by have := HSM.out.steps; omega
      obtain ⟨g, off, rfl, hat⟩ := (H2.out.carry hst.below).at_ (by omega)
      have c0 := hat.k k hkl
      have c1 := hat.i k hkl
      have c2 := hat.c k hkl
      obtain ⟨y, hy⟩ : ∃ y, y = ss[k]! := ⟨_, rfl⟩
      rw [← hy] at c0 c1 c2
      obtain ⟨y0, y1, y2⟩ := y
      dsimp only at c0 c1 c2
      have hgl := World.block_lt_of_cell? _ _ c0
      obtain ⟨X, hX⟩ : ∃ X, X = wr.heap.size := ⟨_, rfl⟩
      obtain ⟨W, hW⟩ : ∃ W, W = wr.alloc (.cells #[.int .i64 y0, .int .i64 y1, .bool y2] 38) := ⟨_, rfl⟩
      have hbW : Below wr.heap.size wr W := by rw [hW]; exact (Below.refl _ _).alloc (Nat.le_refl _) _
      have hxW : W.heap[X]? = some (.cells #[.int .i64 y0, .int .i64 y1, .bool y2] 38 (0, 0)) := by rw [hW, hX]; exact heap_new _ _
      have hstW := (hst.grown hbW).next
      obtain ⟨TN, hTN⟩ : ∃ TN, TN = (thE E).length := ⟨_, rfl⟩
      obtain ⟨v, u, hs, hwn, hf1, hf2⟩ := hstW.ex
      obtain ⟨ua, uc, rfl⟩ := row_shape hwn.owns
      have d0 : W.cell? ⟨C + 2, 0, none⟩ = some (.slice ua TN uc) := by rw [hTN]; exact hwn.c0
      have HST := Hid.mk hstW
      have HXW := Hid.mk hxW
      have HWN := Hid.mk hwn
      have HTN := Hid.mk hTN
      have HKE : Hid (E.length ≤ k ∧ (thE E).length ≤ k) := Hid.mk ⟨hst.elen, hst.tlen⟩
      have hTl : TN ≤ 80 := by have := hst.tlen; omega
      gi_upto_region 11 with fail
      rw [← hX, ← hW]
      clear hX hW hbW hxW hstW hst hat hs hwn hf1 hf2 c0 c1 c2 hy hTN
      gi_wp2
      gi_loopw [8, 10, 28] (fun b _ idx wi => ∃ (q : Nat) (bq : Bool), q ≤ TN ∧ idx = .int .i64 q ∧ b = .bool bq ∧ (bq = true ↔ ∃ j, j < q ∧ (thE E)[j]! = (y0, y1)) ∧ Below W.heap.size W wi) (fun _ _ idx _ => TN - (intOf idx).toNat)
      case atStart => exact ⟨0, false, Nat.zero_le _, rfl, rfl, ⟨fun h => (by cases h), fun ⟨j, hj, _⟩ => absurd hj (Nat.not_lt_zero j)⟩, Below.refl _ _⟩
      case round =>
        obtain ⟨q, bq, hq, rfl, rfl, hiff, hbi⟩ := hrel
        have HIFF := Hid.mk hiff
        have HBI := Hid.mk hbi
        have hxr := (hbi.block _ (Array.getElem?_eq_some_iff.1 HXW.out).1).trans HXW.out
        have x0' : wr.cell? ⟨X, 0, none⟩ = some (.int .i64 y0) := cell_at hxr rfl
        have x1' : wr.cell? ⟨X, 1, none⟩ = some (.int .i64 y1) := cell_at hxr rfl
        have hXl : X < wr.heap.size := (Array.getElem?_eq_some_iff.1 hxr).1
        have HXR := Hid.mk hxr
        clear hiff hxr
        by_cases hqt : q < TN
        · have hqT : q < (thE E).length := by have := HTN.out; omega
          have hwr := HWN.out.grown hbi
          obtain ⟨g2, cap2, e⟩ := row_full hwr.owns (by omega)
          injection e with e1 _ e3
          subst e1 e3
          obtain ⟨z0, z1⟩ := row_th hwr.owns q hqT
          have hg2 := (hwr.owns.lt g2 rfl).2
          obtain ⟨t, ht⟩ : ∃ t, t = (thE E)[q]! := ⟨_, rfl⟩
          rw [← ht] at z0 z1
          obtain ⟨t0, t1⟩ := t
          dsimp only at z0 z1
          have HT := Hid.mk ht
          have HBQ := Hid.mk (hbi.alloc hbi.size (.cells #[.int .i64 t0, .int .i64 t1] 36))
          clear hwr ht hbi
          cases bq with
          | true =>
            gi_wp2
            go_roundw
            case rel => exact ⟨q + 1, true, by omega, by go_num, rfl, ⟨fun _ => by obtain ⟨j, hj, e⟩ := HIFF.out.1 rfl; exact ⟨j, by omega, e⟩, fun _ => rfl⟩, HBQ.out⟩
            case measure => simp [intOf]; omega
          | false =>
            by_cases qa : y0 = t0
            · by_cases qb : y1 = t1
              · have HH : Hid ((thE E)[q]! = (y0, y1)) := Hid.mk (by rw [← HT.out, qa, qb])
                obtain rfl : y0 = t0 := qa
                obtain rfl : y1 = t1 := qb
                gi_wp2
                go_roundw
                case rel => exact ⟨q + 1, true, by omega, by go_num, rfl, ⟨fun _ => ⟨q, by omega, HH.out⟩, fun _ => rfl⟩, HBQ.out⟩
                case measure => simp [intOf]; omega
              · have HH : Hid ((thE E)[q]! ≠ (y0, y1)) := Hid.mk (by rw [← HT.out]; exact fun e => qb (congrArg Prod.snd e).symm)
                obtain rfl : y0 = t0 := qa
                gi_wp2
                go_roundw
                case rel => exact ⟨q + 1, false, by omega, by go_num, rfl, ⟨fun h => (by cases h), fun ⟨j, hj, e⟩ => by
                  by_cases ej : j = q
                  · subst ej; exact absurd e HH.out
                  · exact HIFF.out.2 ⟨j, by omega, e⟩⟩, HBQ.out⟩
                case measure => simp [intOf]; omega
            · have HH : Hid ((thE E)[q]! ≠ (y0, y1)) := Hid.mk (by rw [← HT.out]; exact fun e => qa (congrArg Prod.fst e).symm)
              gi_wp2
              go_roundw
              case rel => exact ⟨q + 1, false, by omega, by go_num, rfl, ⟨fun h => (by cases h), fun ⟨j, hj, e⟩ => by
                by_cases ej : j = q
                · subst ej; exact absurd e HH.out
                · exact HIFF.out.2 ⟨j, by omega, e⟩⟩, HBQ.out⟩
              case measure => simp [intOf]; omega
        · have hqe : q = TN := by omega
          have hle : (TN : Int) ≤ (q : Int) := by omega
          have hbf : bq = (findE E y0 y1).isSome := by
            have h1 := HIFF.out
            rw [hqe, HTN.out] at h1
            have h2 := findE_th (E := E) (k := y0) (i := y1)
            cases hc : (findE E y0 y1).isSome with
            | true => exact h1.2 (h2.1 hc)
            | false =>
              cases hb : bq with
              | false => rfl
              | true => rw [h2.2 (h1.1 hb)] at hc; cases hc
          have HBF := Hid.mk hbf
          have hlr := HST.out.grown hbi
          have HLR := Hid.mk hlr
          obtain ⟨f0, hf0⟩ : ∃ f0, f0 = verF [] := ⟨_, rfl⟩
          obtain ⟨N0, hN0⟩ : ∃ N0 : Int, N0 = (([] : List Th).length : Nat) := ⟨_, rfl⟩
          have hof : ofF f0 y0 y1 = 0 := by rw [hf0]; exact ofF_zero _ _
          have hnow := fun (z : World) (hz : WoAt z C (.slice none 0 0) []) => now_any hz (Nat.zero_le _)
          rw [← hf0, ← hN0] at hnow
          have HNOW := Hid.mk hnow
          have HOF := Hid.mk hof
          clear hbf hbi hlr hf0 hN0 hof hnow hqe d0
          cases bq with
          | true =>
            obtain ⟨e0, he0⟩ := Option.isSome_iff_exists.1 HBF.out.symm
            obtain ⟨v2, _, hs2, _, _, _⟩ := HLR.out.ex
            have hz0 : e0.2.2 = 0 := by
              obtain ⟨j, hj, ej⟩ := List.mem_iff_getElem.1 (List.mem_of_find?_eq_some he0)
              have := HLR.out.zero j hj
              rw [getElem!_pos E j hj, ej] at this
              exact this
            have hnote := fun (g : Wider wr.heap.size wr) => note_old f0 N0 y0 y1 e0 (hs2.grown g.h) (by have := HKE.out; omega) he0
            have hqq : (e0.2.2 == ofF f0 y0 y1) = true := by rw [HOF.out, hz0]; rfl
            rw [hqq] at hnote
            have HNOTE := Hid.mk hnote
            have k0 : ∀ g : Wider wr.heap.size wr, g.z.cell? ⟨X, 0, none⟩ = some (.int .i64 y0) := fun g => cell_at ((g.h.block X (Array.getElem?_eq_some_iff.1 HXR.out).1).trans HXR.out) rfl
            have k1 : ∀ g : Wider wr.heap.size wr, g.z.cell? ⟨X, 1, none⟩ = some (.int .i64 y1) := fun g => cell_at ((g.h.block X (Array.getElem?_eq_some_iff.1 HXR.out).1).trans HXR.out) rfl
            have hne := Wider.some wr.heap.size wr
            clear hnote he0 hs2 hz0 hqq
            gi_wp2_with fail
            refine wpIn_wide.2 ?_
            refine wp_region_wider (B := wr.heap.size) (w0 := wr) (by kernel_rfl) (by kernel_rfl) (Below.refl _ wr) ?_
            repeat (go_big_quiet_step ((first
              | (go_at_call 11; refine (HNOW.out _ (by rename_i g; exact (HLR.out.grown g.h).wo)).mono ?_; rintro e w6 ⟨rfl, hb6⟩; exact ⟨rfl, ⟨w6, by rename_i g; exact farther (Nat.le_refl _) g.h hb6⟩, rfl⟩)
              | (go_at_call 10; refine (HNOTE.out _).mono ?_; rintro e w6 ⟨rfl, hb6⟩; exact ⟨rfl, ⟨w6, by rename_i g; exact farther (Nat.le_refl _) g.h hb6⟩, rfl⟩))))
            refine wpQuiet_nil ?_
            rintro z ⟨g, hg⟩
            have hz : Below wr.heap.size wr z := by rw [hg]; exact g.h
            have HLZ := Hid.mk (HLR.out.grown hz)
            clear hg g hz k0 k1 hne x0' x1'
            gi_wp2
            go_roundw
            case rel => exact ⟨k + 1, E, by omega, by go_num, HLZ.out⟩
            case measure => simp [intOf]; omega
          | false =>
            have hfn : findE E y0 y1 = none := by
              cases hf : findE E y0 y1 with
              | none => rfl
              | some e => have := HBF.out; rw [hf] at this; cases this
            obtain ⟨E2, hE2⟩ : ∃ E2, E2 = E ++ [(y0, y1, (0 : Int))] := ⟨_, rfl⟩
            have hnew := fun (z : World) (v : Value) (hz : SetAt z (C + 1) v 0 E) => note_new f0 N0 y0 y1 hz (by have := HKE.out; omega) hfn (by rw [HOF.out]; decide)
            rw [HOF.out, ← hE2] at hnew
            have hold := fun (z : World) (v : Value) (hz : SetAt z (C + 1) v 0 E2) => note_old f0 N0 y0 y1 (y0, y1, 0) hz (by rw [hE2]; have := HKE.out; simp; omega) (by rw [hE2]; exact findE_last hfn)
            rw [show ((y0, y1, (0 : Int)).2.2 == ofF f0 y0 y1) = true by rw [HOF.out]; rfl] at hold
            have hnext := fun (z z2 : World) (v v2 : Value) (hl : LO w.heap.size w z C C (C + 1) (C + 2) (k + 1) E (thE E)) (hs : SetAt z (C + 1) v 0 E) (hv : ∀ q, Foot (C + 1) [v] q → C ≤ q) (hs2 : SetAt z2 (C + 1) v2 0 E2) (hr : Wrote (Foot (C + 1) [v]) (Foot (C + 1) [v2]) z z2) => (show LO w.heap.size w z2 C C (C + 1) (C + 2) (k + 1) E2 (thE E) by
              rw [hE2] at hs2 ⊢
              exact hl.note (by have := HKE.out; omega) hs hv hs2 hr)
            have HNEW := Hid.mk hnew
            have HOLD := Hid.mk hold
            have HNEXT := Hid.mk hnext
            have HE2 := Hid.mk hE2
            clear hfn hnew hold hnext hE2
            have l0 := Hid.mk (HLR.out.grown (Below.refl wr.heap.size wr).drew)
            have xx0 : Hid (wr.drew.heap[X]? = some (.cells #[.int .i64 y0, .int .i64 y1, .bool y2] 38 (0, 0))) := Hid.mk HXR.out
            gi_wp2_with fail
            refine Code.wpIn_mono NoPanic.imp ?_
            refine wpIn_wide.2 ?_
            go_region_held3 (fun wx => wx.cell? ⟨X, 0, none⟩ = some (.int .i64 y0) ∧ wx.cell? ⟨X, 1, none⟩ = some (.int .i64 y1))
              (first
                | exact ⟨x0', x1'⟩
                | exact hS4
                | exact hS3
                | exact hS2
                | exact hS1)
              (first
                | (go_at_call 10; have m9 := l3; obtain ⟨v_, u_, s_, _, _, _⟩ := l3.out.ex; refine (HOLD.out _ _ s_).mono ?_; rintro e z4 ⟨rfl, hb⟩; have l4 := Hid.mk (l3.out.grown hb); have xx4 := Hid.mk ((hb.block _ (Array.getElem?_eq_some_iff.1 xx3.out).1).trans xx3.out); have hS4 : z4.cell? ⟨X, 0, none⟩ = some (.int .i64 y0) ∧ z4.cell? ⟨X, 1, none⟩ = some (.int .i64 y1) := ⟨cell_at xx4.out rfl, cell_at xx4.out rfl⟩; clear hb s_)
                | (go_at_call 11; have m9 := l2; refine (HNOW.out _ l2.out.wo).mono ?_; rintro e z3 ⟨rfl, hb⟩; have l3 := Hid.mk (l2.out.grown hb); have xx3 := Hid.mk ((hb.block _ (Array.getElem?_eq_some_iff.1 xx2.out).1).trans xx2.out); have hS3 : z3.cell? ⟨X, 0, none⟩ = some (.int .i64 y0) ∧ z3.cell? ⟨X, 1, none⟩ = some (.int .i64 y1) := ⟨cell_at xx3.out rfl, cell_at xx3.out rfl⟩; clear hb)
                | (go_at_call 10; have m9 := l1; obtain ⟨v_, u_, s_, _, f_, _⟩ := l1.out.ex; refine (HNEW.out _ _ s_).mono ?_; rintro e z2 ⟨rfl, v2_, s2_, r2_⟩; have l2 := Hid.mk (HNEXT.out _ _ _ _ l1.out s_ f_ s2_ r2_); have xx2 := Hid.mk ((r2_.block _ (Array.getElem?_eq_some_iff.1 xx1.out).1 (box_free s_ xx1.out (by decide) (by decide))).trans xx1.out); have hS2 : z2.cell? ⟨X, 0, none⟩ = some (.int .i64 y0) ∧ z2.cell? ⟨X, 1, none⟩ = some (.int .i64 y1) := ⟨cell_at xx2.out rfl, cell_at xx2.out rfl⟩; clear s_ f_ s2_ r2_)
                | (go_at_call 11; refine (HNOW.out _ l0.out.wo).mono ?_; rintro e z1 ⟨rfl, hb⟩; have l1 := Hid.mk (l0.out.grown hb); have xx1 := Hid.mk ((hb.block _ (Array.getElem?_eq_some_iff.1 xx0.out).1).trans xx0.out); have hS1 : z1.cell? ⟨X, 0, none⟩ = some (.int .i64 y0) ∧ z1.cell? ⟨X, 1, none⟩ = some (.int .i64 y1) := ⟨cell_at xx1.out rfl, cell_at xx1.out rfl⟩; clear hb))
            all_goals
              refine NoPanic.normal ?_
              obtain ⟨Z, hZ⟩ : ∃ Z, Z = z4 := ⟨_, rfl⟩
              have HLZ : Hid (LO w.heap.size w Z C C (C + 1) (C + 2) (k + 1) E2 (thE E)) := Hid.mk (by rw [hZ]; exact l4.out)
              have HXZ : Hid (Z.heap[X]? = some (.cells #[.int .i64 y0, .int .i64 y1, .bool y2] 38 (0, 0))) := Hid.mk (by rw [hZ]; exact xx4.out)
              rw [← hZ]
              clear hZ hS1 hS2 hS3 hS4 x0' x1' l0 l1 l2 l3 l4 xx0 xx1 xx2 xx3 xx4 HNEW HOLD HNEXT HNOW
              obtain ⟨v3, u3, _, hwn3, _, hf3⟩ := HLZ.out.ex
              obtain ⟨ua, uc, hu3⟩ := row_shape hwn3.owns
              rw [← HTN.out] at hu3
              subst hu3
              have d1 : Z.cell? ⟨C + 2, 0, none⟩ = some (.slice ua TN uc) := hwn3.c0
              have f1 := hwn3.fz 0
              have q0 : Z.cell? ⟨X, 0, none⟩ = some (.int .i64 y0) := cell_at HXZ.out rfl
              have q1 : Z.cell? ⟨X, 1, none⟩ = some (.int .i64 y1) := cell_at HXZ.out rfl
              have hlt5 := hwn3.lt
              have ag := hwn3.own_b
              have hown := hwn3.owns
              rw [← HTN.out] at hown
              obtain ⟨i0, hi, hz0, hz1, hz2⟩ := info_parts Try.info36
              have HNW := Hid.mk (World.news_of_block (heap_new Z (.cells #[.int .i64 y0, .int .i64 y1] 36)))
              have HWN3 := Hid.mk hwn3
              have HF3 := Hid.mk hf3
              have hXZ : X < Z.heap.size := (Array.getElem?_eq_some_iff.1 HXZ.out).1
              clear hwn3 hf3
              gi_upto_region 20 with fail
              refine Code.wpIn_mono NoPanic.imp ?_
              refine wpIn_wide.2 ?_
              go_wp2_with ((refine wpList_append_lies _ rfl _ _ _ rfl 0 36 i0 _ 2 16 Try.underlying22 hi hz0 hz1 hz2 rfl (by decide) (.slice ua TN uc) TN (thC (thE E)) rfl (hown.alloc _) ⟨Z.heap.size, 0, none⟩ 1 1 [.int .i64 y0, .int .i64 y1] rfl rfl HNW.out (by simp [Value.oneCell']) (by decide) (by unfold maxLen; omega) (by omega) (Nat.zero_le _) (Z.heap.size + 1) (by simp) ?_; intro gg cap w7 hown1 hgrow hat hlt2; have c5 : w7.cell? ⟨C + 2, 0, none⟩ = some (.slice ua TN uc) := (hgrow.cell_far ⟨C + 2, 0, none⟩ (by simp; omega) (Ne.symm ag)).trans (Rds.cell_past d1); have f5 : w7.frozen? ⟨C + 2, 0, none⟩ = false := (hgrow.frozen_far ⟨C + 2, 0, none⟩ (by simp; omega) (Ne.symm ag)).trans (by simp [World.frozen?_alloc_past, hlt5, f1])))
              refine NoPanic.normal ?_
              have ho2 := hown1
              have hg4 := hgrow
              rw [HTN.out] at ho2
              have R := HWN3.out.more (y0, y1) ho2 ((Below.refl _ _).alloc (Nat.le_refl _) _) (by rw [HTN.out] at hg4; rw [HTN.out]; exact hg4) (by rcases hat with e | e; exact .inl e; exact .inr (by omega))
              rw [← HTN.out] at R
              have hn := HLZ.out.want (by have := HKE.out; omega) HWN3.out HF3.out R.1 R.2
              have HN2 : Hid (LO w.heap.size w (w7.setCell ⟨C + 2, 0, none⟩ (.slice (some ⟨gg, 0, none⟩) (TN + 1) cap)) C C (C + 1) (C + 2) (k + 1) E2 (thE E2)) := Hid.mk (by
                have e2 : thE E2 = thE E ++ [(y0, y1)] := by rw [HE2.out, thE_snoc]
                rw [e2]
                exact hn)
              clear R hn ho2 hg4 hown1 hgrow hat hlt2 c5 f5 hown hlt5 ag d1 f1 q0 q1 hi hz0 hz1 hz2
              gi_wp2
              go_roundw
              case rel => exact ⟨k + 1, E2, by omega, by go_num, HN2.out⟩
              case measure => simp [intOf]; omega
    · have hke : k = lc := by omega
      have hle : (lc : Int) ≤ (k : Int) := by omega
      have hk80 : k ≤ 80 := by have := HSM.out.steps; have := HLC.out; omega
      obtain ⟨KB, hKB⟩ : ∃ KB, KB = wr.heap.size := ⟨_, rfl⟩
      obtain ⟨w7, hw7⟩ : ∃ w7, w7 = wr.alloc (.cells #[.int .i64 0] 3) := ⟨_, rfl⟩
      have hb7 : Below wr.heap.size wr w7 := by rw [hw7]; exact (Below.refl _ _).alloc (Nat.le_refl _) _
      have hk7 : w7.heap[KB]? = some (.cells #[.int .i64 ((0 : Nat) : Int)] 3 (0, 0)) := by rw [hw7, hKB]; exact heap_new _ _
      have hz7 : w7.heap.size = KB + 1 := by rw [hw7, hKB]; simp
      have hl7 := hst.grown hb7
      have HL7 := Hid.mk hl7
      have HK7 := Hid.mk hk7
      have HZ7 := Hid.mk hz7
      have hBK : Hid (w.heap.size ≤ KB) := Hid.mk (by rw [hKB]; exact hst.sizeB)
      gi_wp2_with fail
      refine ⟨trivial, (all_in _ _ _).mono ?_⟩
      rintro e w8 ⟨rfl, hw8⟩
      rw [← hw7] at hw8
      rw [← hw7, HZ7.out, ← hKB]
      have hb8 : Below w7.heap.size w7 w8 := by rw [hw8]; exact (Below.refl _ _).alloc (Nat.le_refl _) _
      have hc8 : w8.cell? ⟨KB + 1, 0, none⟩ = some (.pointer (some ⟨C + 1, 0, none⟩)) := by rw [hw8, ← HZ7.out]; exact cell_at (heap_new _ _) rfl
      have hl8 := HL7.out.grown hb8
      have hk8 := (hb8.block _ (Array.getElem?_eq_some_iff.1 HK7.out).1).trans HK7.out
      obtain ⟨v, u, hs8, _, _, _⟩ := hl8.ex
      have HL8 := Hid.mk hl8
      have HS8 := Hid.mk hs8
      have HC8 := Hid.mk hc8
      have HK8 := Hid.mk hk8
      clear hw7 hb7 hk7 hz7 hl7 hw8 hb8 hc8 hl8 hk8 hs8 hst hKB HL7 HK7 HZ7 w7
      gi_wp2
      refine range_over2 (gf := 24) (lb := #[.pointer (some ⟨KB + 1, 0, none⟩)]) rfl (enters_of Try.func24 (by kernel_rfl) rfl)
        (all_gives 5 (by omega) _ (C + 1) v 0 E w8 HC8.out HS8.out (by have := HL8.out.elen; omega)) (Below.refl _ _) (fun _ _ _ h k => h.trans k) (fun W l r r' hl hr => Kp.put W l _ (fun k hk => by have := HS8.out.own_lt k hk; omega)) (fun _ => rfl)
        (fun (pre : List (Ix E.length)) X => LO w.heap.size w X C C (C + 1) (C + 2) k E (thE E) ∧ X.heap[KB]? = some (.cells #[.int .i64 (pre.length : Nat)] 3 (0, 0))) (fun _ _ => False)
        (fun s X Y row hs hg hr => ⟨hs.1.kept hg hr HL8.out.sizeB, block_kept hs.2 hg (fun r e => (hr r e).2)⟩) (fun _ _ _ _ h _ _ => h) ⟨HL8.out, HK8.out⟩ ?round ?done ?stop
      case stop => intro D pre X hD hS hF; exact hF.elim
      case round =>
        rintro l pre x X r hl hr ⟨hI, hkb⟩ hgood
        have hlX : l < X.heap.size := (Array.getElem?_eq_some_iff.1 hr).1
        unfold encE
        obtain ⟨K, hK⟩ : ∃ K, K = pre.length := ⟨_, rfl⟩
        have hxK : x.1 = K := by rw [hK]; exact hgood
        have hKE : K < E.length := by rw [← hxK]; exact x.2
        rw [← hK] at hkb
        rw [hxK]
        obtain ⟨y0, hy0⟩ : ∃ y, y = E[K]!.1 := ⟨_, rfl⟩
        obtain ⟨y1, hy1⟩ : ∃ y, y = E[K]!.2.1 := ⟨_, rfl⟩
        obtain ⟨y2, hy2⟩ : ∃ y, y = E[K]!.2.2 := ⟨_, rfl⟩
        rw [← hy0, ← hy1, ← hy2]
        have HY : Hid ((thE E)[K]! = (y0, y1)) := Hid.mk (by rw [thE_at E K hKE, hy0, hy1])
        have HI := Hid.mk hI
        have HKB := Hid.mk hkb
        have HKP : Hid (K = pre.length) := Hid.mk hK
        have HKEE := Hid.mk hKE
        have hr1 : (X.alloc (.cells #[.int .i64 y0, .int .i64 y1, .int .i64 y2] 54)).heap[l]? = some (.loop r) := (Below.heap_alloc _ _ _ hlX).trans hr
        have HR := Hid.mk hr1
        have hl0 : w8.heap.size ≤ l := hl
        clear hy0 hy1 hy2 hgood hI hkb hr hr1 hK hxK
        gi_wp2
        refine ⟨others_below ((Below.refl _ _).alloc (Nat.le_refl _) _) _, Kp.of_below (B := X.heap.size) (fun k hk => by have := HS8.out.own_lt k hk; omega) ((Below.refl _ _).alloc (Nat.le_refl _) _), fun r' => ?_⟩
        obtain ⟨M, hM⟩ : ∃ M, M = X.heap.size := ⟨_, rfl⟩
        obtain ⟨Z, hZ⟩ : ∃ Z, Z = (X.alloc (.cells #[.int .i64 y0, .int .i64 y1, .int .i64 y2] 54)).putObj l (.loop r') := ⟨_, rfl⟩
        have hzZ : Z.heap.size = X.heap.size + 1 := by rw [hZ]; simp
        have hg1 : (X.alloc (.cells #[.int .i64 y0, .int .i64 y1, .int .i64 y2] 54)).grownBy Z (some l) := by rw [hZ]; exact grownBy_putObj' _ _ _
        have hrow : ∀ q, some l = some q → w8.heap.size ≤ q ∧ ∃ o : Obj, (X.alloc (.cells #[.int .i64 y0, .int .i64 y1, .int .i64 y2] 54)).heap[q]? = some o ∧ o.isCells = false := fun q e => by cases e; exact ⟨hl0, _, HR.out, rfl⟩
        have hLZ := (HI.out.grown ((Below.refl _ _).alloc (Nat.le_refl _) (.cells #[.int .i64 y0, .int .i64 y1, .int .i64 y2] 54))).kept hg1 hrow HL8.out.sizeB
        have heZ : Z.heap[M]? = some (.cells #[.int .i64 y0, .int .i64 y1, .int .i64 y2] 54 (0, 0)) := block_kept (by rw [hM]; exact heap_new _ _) hg1 (fun q e => (hrow q e).2)
        have hkZ : Z.heap[KB]? = some (.cells #[.int .i64 (K : Nat)] 3 (0, 0)) := block_kept ((Below.heap_alloc _ _ _ (Array.getElem?_eq_some_iff.1 HKB.out).1).trans HKB.out) hg1 (fun q e => (hrow q e).2)
        rw [← hZ, ← hM]
        have hne := Wider.some Z.heap.size Z
        obtain ⟨TN, hTN⟩ : ∃ TN, TN = (thE E).length := ⟨_, rfl⟩
        have hKT : K < TN := by rw [hTN, thE_length]; exact hKE
        obtain ⟨v2, u2, _, hwn2, _, _⟩ := hLZ.ex
        obtain ⟨g2, c2, hu2⟩ := row_full hwn2.owns (by omega)
        rw [← hTN] at hu2
        subst hu2
        have HLZ := Hid.mk hLZ
        have HEZ := Hid.mk heZ
        have HKZ := Hid.mk hkZ
        have HWN2 := Hid.mk hwn2
        have k0 : ∀ g : Wider Z.heap.size Z, g.z.cell? ⟨M, 0, none⟩ = some (.int .i64 y0) := fun g => cell_at ((g.h.block M (Array.getElem?_eq_some_iff.1 HEZ.out).1).trans HEZ.out) rfl
        have k1 : ∀ g : Wider Z.heap.size Z, g.z.cell? ⟨M, 1, none⟩ = some (.int .i64 y1) := fun g => cell_at ((g.h.block M (Array.getElem?_eq_some_iff.1 HEZ.out).1).trans HEZ.out) rfl
        have k2 : ∀ g : Wider Z.heap.size Z, g.z.cell? ⟨KB, 0, none⟩ = some (.int .i64 (K : Nat)) := fun g => cell_at ((g.h.block KB (Array.getElem?_eq_some_iff.1 HKZ.out).1).trans HKZ.out) rfl
        have k3 : ∀ g : Wider Z.heap.size Z, g.z.cell? ⟨C + 2, 0, none⟩ = some (.slice (some ⟨g2, 0, none⟩) TN c2) := fun g => (HWN2.out.grown g.h).c0
        have k45 : ∀ g : Wider Z.heap.size Z, g.z.cell? ⟨g2, K * 2, none⟩ = some (.int .i64 y0) ∧ g.z.cell? ⟨g2, K * 2 + 1, none⟩ = some (.int .i64 y1) := fun g => by
          have h0 := (HWN2.out.grown g.h).owns
          rw [← hTN] at h0
          have h := row_th h0 K (by rw [← hTN]; exact hKT)
          rw [HY.out] at h
          exact h
        have k4 := fun g => (k45 g).1
        have k5 := fun g => (k45 g).2
        have hge1 : ¬ TN ≤ K := by omega
        have hK80 : (K : Int) < 1000 := by have := HLZ.out.elen; omega
        have HLV : Hid (w8.heap.size ≤ Z.heap.size) := Hid.mk (by omega)
        clear hZ hM hzZ hg1 hrow hLZ heZ hkZ hwn2 k45 hTN hKE
        gi_wp2_with fail
        refine wpIn_wider_round (B := Z.heap.size) (w0 := Z) _ (by kernel_rfl) (by kernel_rfl) (by kernel_rfl) (Below.refl _ Z) ?_
        repeat (go_big_quiet_step (fail))
        refine wpQuiet_nil ?_
        rintro z2 ⟨g, hg⟩
        have hz2 : Below Z.heap.size Z z2 := by rw [hg]; exact g.h
        have HLz := Hid.mk (HLZ.out.grown hz2)
        have hkz := (hz2.block KB (Array.getElem?_eq_some_iff.1 HKZ.out).1).trans HKZ.out
        have HKz := Hid.mk hkz
        have hkf := Hid.mk (others_below hz2 w8.heap.size)
        have hkp : Hid (Kp v Z z2) := Hid.mk (Kp.of_below (B := Z.heap.size) (fun k hk => by have := HS8.out.own_lt k hk; have := HLV.out; omega) hz2)
        have m0 : z2.cell? ⟨KB, 0, none⟩ = some (.int .i64 (K : Nat)) := cell_at hkz rfl
        have m1 : z2.frozen? ⟨KB, 0, none⟩ = false := free_at hkz
        clear hg g hz2 k0 k1 k2 k3 k4 k5 hne hge1 hkz
        gi_wp2
        refine ⟨hkf.out.trans (others_set _ _ _ _), hkp.out.trans (fun q hq => Below.heap_setCell _ _ _ _ (fun e => ?_)), HLz.out.number HKz.out hBK.out 0 _, ?_⟩
        · obtain ⟨cs, hcs⟩ := own_at HS8.out.owns hq
          have h8 := HK8.out
          rw [show q = KB from e] at hcs
          rw [hcs] at h8
          cases h8
        · rw [heap_set _ HKz.out]
          have e1 : (pre ++ [x]).length = K + 1 := by simp; exact HKP.out.symm
          rw [e1]
          simp
      case done =>
        rintro D ys W hD hys ⟨hI, hkb⟩ hK
        have hyl : ys.length = E.length := by have h := congrArg List.length hys; simpa using h
        rw [hyl] at hkb
        obtain ⟨TN, hTN⟩ : ∃ TN, TN = (thE E).length := ⟨_, rfl⟩
        rw [show E.length = TN by rw [hTN, thE_length]] at hkb
        obtain ⟨v2, u2, hs2, hwn2, _, _⟩ := hI.ex
        obtain ⟨ua, uc, hu2⟩ := row_shape hwn2.owns
        rw [← hTN] at hu2
        subst hu2
        have d0 : W.cell? ⟨KB, 0, none⟩ = some (.int .i64 (TN : Nat)) := cell_at hkb rfl
        have d1 : W.cell? ⟨C + 2, 0, none⟩ = some (.slice ua TN uc) := hwn2.c0
        have cr : W.cell? ⟨w.heap.size, 0, none⟩ = some (.bool false) := cell_at hI.r rfl
        have fr : W.frozen? ⟨w.heap.size, 0, none⟩ = false := free_at hI.r
        have hst2 := stamp_any hs2
        have HST2 := Hid.mk hst2
        have HI := Hid.mk hI
        have HK := Hid.mk hK
        have HD : Hid (w.heap.size ≤ D) := Hid.mk (Nat.le_trans HL8.out.sizeB hD)
        clear hys hI hkb hK hyl hTN hs2 hwn2 hst2 hD
        gi_wp2_with fail
        refine ⟨trivial, (callsIn_wide.2 HST2.out).mono ?_⟩
        rintro e w9 ⟨rfl, hw9⟩
        rw [hw9]
        clear hw9 w9
        gi_wp2
        have hK' := (KeepsOthers.setCell W ⟨w.heap.size, 0, none⟩ (.bool true)).same D _ HK.out rfl
        refine ⟨by simp, .inl ⟨_, _, rfl, run_takeDeferred hK', ?_⟩⟩
        have hc5 := cell_kept (World.cell?_setCell_same' W ⟨w.heap.size, 0, none⟩ (.bool true) (by rw [cr]; rfl)) (grownBy_putObj' _ D (.deferred none)) (fun r e => by cases e; exact ⟨_, hK', rfl⟩)
        refine ⟨.bool true, ?_, rfl, (HI.out.below.setCell (p := ⟨w.heap.size, 0, none⟩) (Nat.le_refl _) _).trans (belowK_b (w := w) (Nat.le_refl _) _ D _ _ HD.out hK' rfl rfl)⟩
        simp [results, Try.f6, go_sem, hc5]
set_option maxRecDepth 100000 in
theorem lifted (os : Os) (started : os.Started) (H : Type) (enc : TypeId × Value → H) :
    ReturnsInHanded {} Try.checked os 6 .any (Rows.readsOrderSpec.pre6 enc Try.prog Try.f6 Rows.readsOrderRow.domain false) (Rows.readsOrderSpec.post enc Try.prog Try.f6 false true false false) := by
  refine returnsInHanded_of_change (C := Try.checked) own started (by kernel_rfl) Try.func6
    (ChangeSpec.witness6 (enc := enc) (C := Try.checked) false ⟨#[], #[.slice none 0 0], []⟩ 8 (by kernel_rfl) (by kernel_rfl) (by kernel_rfl) (by kernel_rfl)) ?_
  intro W base args ds gs before hval0 hW hcnd _
  have hval : ∀ (j : Nat) t v, Try.f6.params[j]? = some t → args[j]? = some v → Value.okWide Try.prog W .any base t v := hval0
  have hW' := hW
  obtain ⟨p, q, hA0, hV, rfl, hfz, hnd⟩ := hW
  have hA : DataW.TrodAll enc Try.prog W 0 (fun _ => true) true Try.f6.params.toList args.toList ds p := hA0
  rw [Try.params6] at hA hval
  obtain ⟨v0, vs0, d0, ds0, p0, q0, hargs, rfl, rfl, h0, r0⟩ := trodAll_cons hA
  obtain ⟨rfl, rfl, rfl⟩ := trodAll_nil r0
  obtain rfl : args = #[v0] := by cases args; simp_all
  obtain ⟨rfl, rfl⟩ := trodVars_none hV
  obtain ⟨a0, len0, cap0, rfl⟩ := okWide_slice Try.underlying23 (hval 0 23 v0 rfl rfl)
  have k0 := h0
  have lt0 : ∀ x ∈ p0, x.block < W.heap.size := by obtain ⟨m, hm⟩ := k0; exact DataW.trod_lt m _ _ _ hm
  obtain ⟨ts0, w0⟩ : ∃ ts, IsSps W a0 len0 cap0 ts := by
    obtain ⟨fuel, hf⟩ := h0
    exact open_sps hf
  clear hA0 hval0
  refine (walk a0 len0 cap0 ts0 W w0).mono fun e W' ⟨he, bel⟩ => ?_
  subst he
  exact ⟨_, rfl, _, _, _, [], _, [], hW', trodAll_mk1 (shut_bool Try.underlying4 _), (trodAll_cons_mk (Below.trod laidOut (by kernel_rfl) (of_decide_eq_true (by kernel_rfl)) k0 bel lt0) trodAll_mk0), rfl, bel.frame _, fun h => by cases h⟩

set_option maxRecDepth 100000 in
theorem over : Rows.readsOrderRow.holds Try.pinned (OpenSpec.ofChange Rows.readsOrderSpec) :=
  OpenClaim.holds_of_wide 6 Try.f6 rfl rfl rfl rfl rfl rfl rfl ⟨rfl, rfl, rfl, rfl, rfl⟩ rfl rfl rfl rfl rfl (by kernel_rfl) Try.func6 (by kernel_rfl)
    (of_decide_eq_true (by kernel_rfl)) (by unfold Func.isWrapper; first | (rw [if_pos (by decide +kernel)]; kernel_rfl) | (rw [if_neg (by decide +kernel)]; exact ⟨rfl, rfl⟩))
    (fun os started H enc _ => lifted os started H enc)

end Go.Proofs.Ytafpfioonbdgnaa.readsOrder

namespace Go.Proofs.Ytafpfioonbdgnaa
/-- The statement. -/
theorem readsOrder_holds : Rows.ReadsOrderSaid := readsOrder.over
#print axioms readsOrder_holds
end Go.Proofs.Ytafpfioonbdgnaa
