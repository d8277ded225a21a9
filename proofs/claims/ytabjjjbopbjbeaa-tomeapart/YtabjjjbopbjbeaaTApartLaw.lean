/-
  TomeApart: for every list of sets and every number, the law returns true: what is set at one number plays no part at another one, and the order of sets at unlike numbers none in the bytes. No condition.
-/
import Derived.Test.YtabjjjbopbjbeaaTSame
import Derived.Test.YtabjjjbopbjbeaaTFold
namespace Go.Proofs.Ytabjjjbopbjbeaa.tomeApart
open Go.ChangeShapes Go.WideShapes Go.ChangeAt Go.RowKit Go.Deep Go.Proofs.Ytabjjjbopbjbeaa.Cel Go.Proofs.Ytabjjjbopbjbeaa.Tom

/-- The first sets are of unlike numbers. -/
def Dist (cs : List Sx) (k : Nat) : Prop := ∀ i, i < k → ∀ p, p < i → ¬ cs[i]!.1 = cs[p]!.1

theorem Dist.unlike {cs : List Sx} {k : Nat} (h : Dist cs k) {i p : Nat} (hi : i < k) (hp : p < k) (hne : p ≠ i) : ¬ cs[p]!.1 = cs[i]!.1 := fun e => by
  rcases Nat.lt_or_gt_of_ne hne with h1 | h1
  · exact h i hi p h1 e.symm
  · exact h p hp i h1 e

set_option maxHeartbeats 4000000 in
set_option maxRecDepth 100000 in
theorem walk (a : Option Addr) (len cap : Nat) (cs : List Sx) (at_ : Int) (w : World) (h : IsSx w a len cap cs) (_ : (Lit.int .i64 at_).wf = true) :
    Calls Try.prog 6 #[.slice a len cap, .int .i64 at_] w fun e w' => e = .returned (.bool true) ∧ Below w.heap.size w w' := by
  have hcap := h.2.1
  have H := Hid.mk h
  clear h
  go_enter Try.func6, Try.ntmps6
  go_wp2_with fail
  refine (alive_any w).mono ?_
  rintro e w1 ⟨rfl, hb1⟩
  have HB1 := Hid.mk hb1
  clear hb1
  go_wp2_with fail
  refine (great_any a len cap cs w1 (H.out.grown HB1.out)).mono ?_
  rintro e w2 ⟨⟨B, rfl, hB⟩, hb2⟩
  have HB2 := Hid.mk (HB1.out.trans (hb2.mono HB1.out.size))
  clear hb2
  cases B with
  | true =>
    go_wp2
    go_ret
    exact ⟨rfl, HB2.out⟩
  | false =>
    have h40 := hB rfl
    clear hB
    by_cases hn : at_ < 0
    · go_wp2
      go_ret
      exact ⟨rfl, HB2.out⟩
    by_cases hm : (len : Int) < at_
    · go_wp2
      go_ret
      exact ⟨rfl, HB2.out⟩
    obtain ⟨k0, rfl⟩ : ∃ k : Nat, at_ = (k : Int) := ⟨at_.toNat, by omega⟩
    have hm2 : k0 ≤ len := by omega
    have d1 : decide ((k0 : Int) < 0) = false := decide_eq_false (by omega)
    have d2 : decide ((len : Int) < (k0 : Int)) = false := decide_eq_false (by omega)
    have d3 : decide (len < k0) = false := decide_eq_false (by omega)
    have HM := Hid.mk hm2
    clear hn hm hm2
    go_wp2
    clear d1 d2 d3
    go_loopw [5, 6, 8, 30] (fun _ _ _ k wr => ∃ j : Nat, j ≤ len ∧ k = .int .i64 j ∧ Below w.heap.size w wr ∧ Dist cs j) (fun _ _ _ k _ => len - (intOf k).toNat)
    case atStart => exact ⟨0, Nat.zero_le _, rfl, HB2.out, fun i hi => by omega⟩
    case round =>
      obtain ⟨j, hj, rfl, hb, hd⟩ := hrel
      by_cases hlt : j < len
      · obtain ⟨g, off, rfl, hat⟩ := (H.out.grown hb).at_ (by omega)
        have hjl : j < cs.length := by rw [H.out.1]; exact hlt
        obtain ⟨c0, c1, c2, c3⟩ := hat.cells j hjl
        have hnew := heap_new wr (sxO cs[j]!)
        have hbz := hb.alloc hb.size (sxO cs[j]!)
        obtain ⟨q, hq⟩ : ∃ q : Sx, q = cs[j]! := ⟨_, rfl⟩
        rw [← hq] at c0 c1 c2 c3 hnew hbz
        obtain ⟨q0, ⟨q1, q2⟩, q3⟩ := q
        have HQ := Hid.mk hq
        have hjc : (j : Int) ≤ (cap : Int) := by omega
        obtain ⟨Z, hZ⟩ : ∃ Z, Z = wr.alloc (.cells #[.int .i64 q0, .bool q1, .string q2, .int .i64 q3] 36) := ⟨_, rfl⟩
        have hzz : Z.heap.size = wr.heap.size + 1 := by rw [hZ]; simp
        have hbz2 : Below w.heap.size w Z := by rw [hZ]; exact hbz
        have hn2 : Z.heap[wr.heap.size]? = some (sxO (q0, (q1, q2), q3)) := by rw [hZ]; exact hnew
        have hatz : SxAt Z g off cs := by rw [hZ]; exact hat.grown ((Below.refl _ wr).alloc (Nat.le_refl _) _)
        have HZ := Hid.mk hzz
        have HBZ := Hid.mk hbz2
        have HN := Hid.mk hn2
        have HAT := Hid.mk hatz
        have HDJ := Hid.mk hd
        clear hat hb hq hnew hbz hzz hbz2 hn2 hatz hd hjl
        go_wp2_with fail
        rw [← hZ]
        clear hZ c0 c1 c2 c3
        obtain ⟨A, hA⟩ : ∃ A, A = wr.heap.size := ⟨_, rfl⟩
        rw [← hA] at HZ HN ⊢
        clear hA
        go_loopw [8, 39] (fun _ k wi => ∃ p : Nat, p ≤ j ∧ k = .int .i64 p ∧ Below Z.heap.size Z wi ∧ ∀ p', p' < p → ¬ q0 = cs[p']!.1) (fun _ k _ => j - (intOf k).toNat)
        case atStart => exact ⟨0, Nat.zero_le _, rfl, Below.refl _ _, fun p' hp' => by omega⟩
        case round =>
          obtain ⟨p, hp, rfl, hbi, hne⟩ := hrel
          by_cases hpj : p < j
          · have hpl : p < cs.length := by rw [H.out.1]; omega
            obtain ⟨c0, c1, c2, c3⟩ := (HAT.out.grown hbi).cells p hpl
            have hbi2 := hbi.alloc hbi.size (sxO cs[p]!)
            have b0 : (wr.alloc (sxO cs[p]!)).cell? ⟨A, 0, none⟩ = some (.int .i64 q0) := (box4 ((hbi2.block A (Array.getElem?_eq_some_iff.1 HN.out).1).trans HN.out)).1
            obtain ⟨r, hr⟩ : ∃ r : Sx, r = cs[p]! := ⟨_, rfl⟩
            rw [← hr] at c0 c1 c2 c3 hbi2 b0
            have hr1 : r.1 = cs[p]!.1 := by rw [hr]
            obtain ⟨r0, ⟨r1, r2⟩, r3⟩ := r
            have HR := Hid.mk hr1
            have HBI := Hid.mk hbi2
            have HNE := Hid.mk hne
            clear hr hr1 hbi hbi2 hne hpl
            by_cases heq : q0 = r0
            · have hbb : Below w.heap.size w _ := HBZ.out.trans (HBI.out.mono HBZ.out.size)
              have HBB := Hid.mk hbb
              clear hbb
              subst heq
              go_wp2
              go_ret
              exact ⟨rfl, HBB.out⟩
            · go_wp2
              go_roundw
              case rel =>
                refine ⟨p + 1, by omega, by go_num, HBI.out, fun p' hp' => ?_⟩
                by_cases e : p' = p
                · rw [e, ← HR.out]; exact heq
                · exact HNE.out p' (by omega)
              case measure => simp [intOf]; omega
          · have hpe : p = j := by omega
            have hge : (j : Int) ≤ (p : Int) := by omega
            have HNX : Hid (Dist cs (j + 1)) := Hid.mk (fun i hi p' hp' => by
              by_cases e : i = j
              · have e2 := hne p' (by omega)
                rw [e, ← HQ.out]
                exact e2
              · exact HDJ.out i (by omega) p' hp')
            have HBB := Hid.mk (HBZ.out.trans (hbi.mono HBZ.out.size))
            clear hbi hne hpe
            go_wp2
            go_roundw
            case rel =>
              exact ⟨j + 1, by omega, by go_num, HBB.out, HNX.out⟩
            case measure => simp [intOf]; omega
      · have hjl : j = len := by omega
        have HD : Hid (Dist cs len) := Hid.mk (hjl ▸ hd)
        have HB := Hid.mk hb
        have hge : (len : Int) ≤ (j : Int) := by omega
        clear hd hb hjl
        go_wp2_with fail
        refine (new_any wr).mono ?_
        rintro e w3 ⟨t1, b1, g1, rfl, hT1, hb3, ht1, hbb1, hg1⟩
        have HB3 := Hid.mk (HB.out.trans (hb3.mono HB.out.size))
        have HG1 : Hid (w.heap.size ≤ g1) := Hid.mk (Nat.le_trans HB.out.size hg1)
        have HT1 := Hid.mk hT1
        clear hT1 hb3 ht1 hbb1 hg1
        go_wp2_with fail
        refine (new_any w3).mono ?_
        rintro e w4 ⟨t2, b2, g2, rfl, hT2, hb4, ht2, hbb2, hg2⟩
        have HB4 := Hid.mk (HB3.out.trans (hb4.mono HB3.out.size))
        have HG2 : Hid (w.heap.size ≤ g2) := Hid.mk (Nat.le_trans HB3.out.size hg2)
        have HNG : Hid (g2 ≠ g1) := Hid.mk (by have := HT1.out.row.ltg; omega)
        have HT2 := Hid.mk hT2
        have HT1b := Hid.mk (HT1.out.grown hb4)
        clear hT2 hb4 ht2 hbb2 hg2 HT1
        go_wp2
        go_loopw [11, 12, 13, 54] (fun _ _ _ k wr => ∃ (j : Nat) (R S : List ((Bool × ByteArray) × Int)), j ≤ len ∧ k = .int .i64 j ∧ Below w.heap.size w wr ∧ TomeAt wr t1 b1 g1 R ∧ TomeAt wr t2 b2 g2 S ∧ Held cs (fun p => p < j) R ∧ Held cs (fun p => ∃ i, i < j ∧ p = (i + k0) % len) S) (fun _ _ _ k _ => len - (intOf k).toNat)
        case atStart => exact ⟨0, _, _, Nat.zero_le _, rfl, HB4.out, HT1b.out, HT2.out, Held.start cs (fun p hp => by omega), Held.start cs (fun p hp => by obtain ⟨i, hi, _⟩ := hp; omega)⟩
        case round =>
          clear HT1b HT2 HB HB3 HB4
          obtain ⟨i, R, S, hi, rfl, hb, hT1, hT2, hH1, hH2⟩ := hrel
          by_cases hil : i < len
          · have hlp : 0 < len := by omega
            obtain ⟨g, off, rfl, hat⟩ := (H.out.grown hb).at_ hlp
            have hic : i < cs.length := by rw [H.out.1]; exact hil
            obtain ⟨c0, c1, c2, c3⟩ := hat.cells i hic
            obtain ⟨P, hP⟩ : ∃ P, P = (i + k0) % len := ⟨_, rfl⟩
            have hPl : P < len := by rw [hP]; exact Nat.mod_lt _ hlp
            have hPc : P < cs.length := by rw [H.out.1]; exact hPl
            obtain ⟨q, hq⟩ : ∃ q : Sx, q = cs[i]! := ⟨_, rfl⟩
            have hn5 := heap_new wr (sxO q)
            have hbz := hb.alloc hb.size (sxO q)
            have hT1z := hT1.grown ((Below.refl _ wr).alloc (Nat.le_refl _) (sxO q))
            have hT2z := hT2.grown ((Below.refl _ wr).alloc (Nat.le_refl _) (sxO q))
            have hH1s := hH1.step i (fun p hp hne => HD.out.unlike hil (by omega) hne) (T := fun p => p < i + 1) (fun p => by omega) cs[i]!.2.2
            have hH2s := hH2.step P (fun p hp hne => by
              obtain ⟨m, hm, e⟩ := hp
              exact HD.out.unlike hPl (by rw [e]; exact Nat.mod_lt _ hlp) hne) (T := fun p => ∃ m, m < i + 1 ∧ p = (m + k0) % len) (fun p => by
              constructor
              · rintro ⟨m, hm, e⟩
                by_cases em : m = i
                · right; rw [e, em, hP]
                · left; exact ⟨m, by omega, e⟩
              · rintro (⟨m, hm, e⟩ | e)
                · exact ⟨m, by omega, e⟩
                · exact ⟨i, by omega, by rw [e, hP]⟩) cs[P]!.2.2
            rw [← hq] at c0 c1 c2 c3 hH1s
            have C1 := set_any hT1z q.1 q.2.1 q.2.2
            obtain ⟨q0, ⟨q1, q2⟩, q3⟩ := q
            obtain ⟨R2, hR2⟩ : ∃ R2, R2 = setR R q0 (q1, q2) q3 := ⟨_, rfl⟩
            obtain ⟨ok, hok⟩ : ∃ ok, ok = okS q0 (q1, q2) := ⟨_, rfl⟩
            have hH1t : Held cs (fun p => p < i + 1) R2 := by rw [hR2]; exact hH1s
            have C1t : Calls Try.prog 10 #[.pointer (some ⟨t1, 0, none⟩), .int .i64 q0, .agg #[.bool q1, .string q2], .int .i64 q3] (wr.alloc (.cells #[.int .i64 q0, .bool q1, .string q2, .int .i64 q3] 36)) fun e w' => e = .returned (.bool ok) ∧ TomeAt w' t1 b1 g1 R2 ∧ But [g1] (wr.alloc (.cells #[.int .i64 q0, .bool q1, .string q2, .int .i64 q3] 36)) w' := by rw [hok, hR2]; exact C1
            have HC1 := Hid.mk C1t
            have HBZ := Hid.mk hbz
            have HT1Z := Hid.mk hT1z
            have HT2Z := Hid.mk hT2z
            have HH1 := Hid.mk hH1t
            have HH2 := Hid.mk hH2s
            have HPP := Hid.mk hP
            have hwr : wrap64 ((i : Int) + (k0 : Int)) = (i : Int) + (k0 : Int) := by
              have := HM.out
              unfold wrap64
              omega
            have hmod : Int.tmod (wrap64 ((i : Int) + (k0 : Int))) (len : Int) = (P : Int) := by rw [hwr, hP]; rfl
            clear hwr
            clear hq hn5 hbz hT1z hT2z hH1s hH2s hH1t C1 C1t hb hT1 hT2 hH1 hH2 hat hR2 hok hP hic
            go_wp2_with fail
            refine HC1.out.mono ?_
            rintro e w5 ⟨rfl, hT5, hb5⟩
            have HB5 : Hid (Below w.heap.size w w5) := Hid.mk (HBZ.out.trans (hb5.below HBZ.out.size (fun k hk => by
              have e : k = g1 := by simpa using hk
              rw [e]; exact HG1.out)))
            have HT2W : Hid (TomeAt w5 t2 b2 g2 S) := Hid.mk (HT1Z.out.other HT2Z.out hb5 HNG.out)
            have HT5 := Hid.mk hT5
            clear hb5 hT5 c0 c1 c2 c3 HC1
            obtain ⟨g', off', e', hat5⟩ := (H.out.grown HB5.out).at_ hlp
            injection e' with e'
            injection e' with e1 e2
            subst e1 e2
            obtain ⟨c0, c1, c2, c3⟩ := hat5.cells P hPc
            obtain ⟨p, hp⟩ : ∃ p : Sx, p = cs[P]! := ⟨_, rfl⟩
            have HH2b := HH2.out
            rw [← hp] at c0 c1 c2 c3 HH2b
            have hT5z := HT5.out.grown ((Below.refl _ w5).alloc (Nat.le_refl _) (sxO p))
            have hT2z := HT2W.out.grown ((Below.refl _ w5).alloc (Nat.le_refl _) (sxO p))
            have hbz := HB5.out.alloc HB5.out.size (sxO p)
            have C2 := set_any hT2z p.1 p.2.1 p.2.2
            obtain ⟨p0, ⟨p1, p2⟩, p3⟩ := p
            obtain ⟨S2, hS2⟩ : ∃ S2, S2 = setR S p0 (p1, p2) p3 := ⟨_, rfl⟩
            obtain ⟨ok2, hok2⟩ : ∃ ok, ok = okS p0 (p1, p2) := ⟨_, rfl⟩
            have hH2t : Held cs (fun p => ∃ m, m < i + 1 ∧ p = (m + k0) % len) S2 := by rw [hS2]; exact HH2b
            have C2t : Calls Try.prog 10 #[.pointer (some ⟨t2, 0, none⟩), .int .i64 p0, .agg #[.bool p1, .string p2], .int .i64 p3] (w5.alloc (.cells #[.int .i64 p0, .bool p1, .string p2, .int .i64 p3] 36)) fun e w' => e = .returned (.bool ok2) ∧ TomeAt w' t2 b2 g2 S2 ∧ But [g2] (w5.alloc (.cells #[.int .i64 p0, .bool p1, .string p2, .int .i64 p3] 36)) w' := by rw [hok2, hS2]; exact C2
            have HC2 := Hid.mk C2t
            have HBZ5 := Hid.mk hbz
            have HT5Z := Hid.mk hT5z
            have HT2Z5 := Hid.mk hT2z
            have HH2T := Hid.mk hH2t
            clear hp hT5z hT2z hbz C2 C2t hH2t HH2b hS2 hok2 hat5 HH2 HT2Z HT1Z HBZ hPc
            have hPi : (P : Int) < (len : Int) := by omega
            have hlz : ¬ (len : Int) = 0 := by omega
            go_wp2_with fail
            refine HC2.out.mono ?_
            rintro e w6 ⟨rfl, hT6, hb6⟩
            have HB6 : Hid (Below w.heap.size w w6) := Hid.mk (HBZ5.out.trans (hb6.below HBZ5.out.size (fun k hk => by
              have e : k = g2 := by simpa using hk
              rw [e]; exact HG2.out)))
            have HT1W : Hid (TomeAt w6 t1 b1 g1 R2) := Hid.mk (HT2Z5.out.other HT5Z.out hb6 (Ne.symm HNG.out))
            have HT6 := Hid.mk hT6
            clear hb6 hT6 c0 c1 c2 c3 HC2
            go_wp2
            go_roundw
            case rel => exact ⟨i + 1, R2, S2, by omega, by go_num, HB6.out, HT1W.out, HT6.out, HH1.out, HH2T.out⟩
            case measure => simp [intOf]; omega
          · have hie : i = len := by omega
            have hge : (len : Int) ≤ (i : Int) := by omega
            have HS : Hid (filesOf R = filesOf S) := Hid.mk (by
              refine Held.same (S := fun p => p < len) (hie ▸ hH1) ?_ hT1.six hT2.six
              have k := hH2
              rw [hie] at k
              refine ⟨k.len, fun p hp => k.yes p (turned_all HM.out hp), fun j hj hn => k.no j hj (fun p hp => hn p ?_)⟩
              obtain ⟨m, hm, e⟩ := hp
              rw [e]
              exact Nat.mod_lt _ (by omega))
            have C1 := Hid.mk (same_any hT1 hT2)
            have HB6 := Hid.mk hb
            have HT1 := Hid.mk hT1
            have HT2 := Hid.mk hT2
            clear hb hT1 hT2 hH1 hH2 hie
            have hk : decide (filesOf R = filesOf S) = true := decide_eq_true HS.out
            rw [hk] at C1
            clear hk
            go_wp2_with fail
            refine C1.out.mono ?_
            rintro e w5 ⟨rfl, hb5⟩
            have HB7 := Hid.mk (HB6.out.trans (hb5.mono HB6.out.size))
            have C2 := Hid.mk (bytes_yes (HT1.out.grown hb5))
            have HT2W := Hid.mk (HT2.out.grown hb5)
            clear hb5 C1
            obtain ⟨bs, hbs⟩ : ∃ bs, bs = fromB 0 (filesOf R) := ⟨_, rfl⟩
            rw [← hbs] at C2
            go_wp2_with fail
            refine C2.out.mono ?_
            rintro e w6 ⟨rfl, hb6⟩
            have HB8 := Hid.mk (HB7.out.trans (hb6.mono HB7.out.size))
            have C3 := bytes_yes (HT2W.out.grown hb6)
            rw [← HS.out, ← hbs] at C3
            have HC3 := Hid.mk C3
            clear hb6 C2 C3 hbs
            go_wp2_with fail
            refine HC3.out.mono ?_
            rintro e w7 ⟨rfl, hb7⟩
            have HB9 := Hid.mk (HB8.out.trans (hb7.mono HB8.out.size))
            clear hb7 HC3
            go_wp2
            go_ret
            exact ⟨rfl, HB9.out⟩

set_option maxRecDepth 100000 in
theorem lifted (os : Os) (started : os.Started) (H : Type) (enc : TypeId × Value → H) :
    ReturnsInHanded {} Try.checked os 6 .any (Rows.tomeApartSpec.pre6 enc Try.prog Try.f6 Rows.tomeApartRow.domain false) (Rows.tomeApartSpec.post enc Try.prog Try.f6 false true false false) := by
  refine returnsInHanded_of_change (C := Try.checked) own started (by kernel_rfl) Try.func6
    (ChangeSpec.witness6 (enc := enc) (C := Try.checked) false ⟨#[], #[.slice none 0 0, .int .i64 0], []⟩ 8 (by kernel_rfl) (by kernel_rfl) (by kernel_rfl) (by kernel_rfl)) ?_
  intro W base args ds gs before hval0 hW hcnd _
  have hval : ∀ (j : Nat) t v, Try.f6.params[j]? = some t → args[j]? = some v → Value.okWide Try.prog W .any base t v := hval0
  have hW' := hW
  obtain ⟨p, q, hA0, hV, rfl, hfz, hnd⟩ := hW
  have hA : DataW.TrodAll enc Try.prog W 0 (fun _ => true) true Try.f6.params.toList args.toList ds p := hA0
  rw [Try.params6] at hA hval
  obtain ⟨v0, vs0, d0, ds0, p0, q0, hargs, rfl, rfl, h0, r0⟩ := trodAll_cons hA
  obtain ⟨v1, vs1, d1, ds1, p1, q1, rfl, rfl, rfl, h1, r1⟩ := trodAll_cons r0
  obtain ⟨rfl, rfl, rfl⟩ := trodAll_nil r1
  obtain rfl : args = #[v0, v1] := by cases args; simp_all
  obtain ⟨rfl, rfl⟩ := trodVars_none hV
  obtain ⟨a0, len0, cap0, rfl⟩ := okWide_slice Try.underlying22 (hval 0 22 v0 rfl rfl)
  have k0 := h0
  have lt0 : ∀ x ∈ p0, x.block < W.heap.size := by obtain ⟨m, hm⟩ := k0; exact DataW.trod_lt m _ _ _ hm
  obtain ⟨ts0, w0⟩ : ∃ ts, IsSx W a0 len0 cap0 ts := by
    obtain ⟨fuel, hf⟩ := h0
    exact open_sxs hf
  obtain ⟨a1, rfl, rfl, rfl, w1⟩ := open_int Try.underlying3 (hval 1 3 v1 rfl rfl) h1
  clear hA0 hval0
  refine (walk a0 len0 cap0 ts0 a1 W w0 w1).mono fun e W' ⟨he, bel⟩ => ?_
  subst he
  exact ⟨_, rfl, _, _, _, [], _, [], hW', trodAll_mk1 (shut_bool Try.underlying4 _), (trodAll_cons_mk (Below.trod laidOut (by kernel_rfl) (of_decide_eq_true (by kernel_rfl)) k0 bel lt0) (trodAll_cons_mk (shut_int Try.underlying3 w1) trodAll_mk0)), rfl, bel.frame _, fun h => by cases h⟩

set_option maxRecDepth 100000 in
theorem over : Rows.tomeApartRow.holds Try.pinned (OpenSpec.ofChange Rows.tomeApartSpec) :=
  OpenClaim.holds_of_wide 6 Try.f6 rfl rfl rfl rfl rfl rfl rfl ⟨rfl, rfl, rfl, rfl, rfl⟩ rfl rfl rfl rfl rfl (by kernel_rfl) Try.func6 (by kernel_rfl)
    (of_decide_eq_true (by kernel_rfl)) (by unfold Func.isWrapper; first | (rw [if_pos (by decide +kernel)]; kernel_rfl) | (rw [if_neg (by decide +kernel)]; exact ⟨rfl, rfl⟩))
    (fun os started H enc _ => lifted os started H enc)

end Go.Proofs.Ytabjjjbopbjbeaa.tomeApart

namespace Go.Proofs.Ytabjjjbopbjbeaa
/-- The statement. -/
theorem tomeApart_holds : Rows.TomeApartSaid := tomeApart.over
#print axioms tomeApart_holds
end Go.Proofs.Ytabjjjbopbjbeaa
