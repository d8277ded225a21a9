/-
  TomeReturns: for every two lists of sets, the law returns true: a tome's bytes are read again; the same files are the same, whatever their versions, and no others. No condition.
-/
import Derived.Test.YtabjjjbopbjbeaaTSame
import Derived.Test.YtabjjjbopbjbeaaTRead
import Derived.Test.YtabjjjbopbjbeaaTRef
import Derived.Test.YtabjjjbopbjbeaaTEq
namespace Go.Proofs.Ytabjjjbopbjbeaa.tomeReturns
open Go.ChangeShapes Go.WideShapes Go.ChangeAt Go.RowKit Go.Deep Go.Proofs.Ytabjjjbopbjbeaa.Cel Go.Proofs.Ytabjjjbopbjbeaa.Tom

theorem files_setR {R Q : List ((Bool × ByteArray) × Int)} (h : filesOf R = filesOf Q) (i : Int) (f : Bool × ByteArray) (v u : Int) : filesOf (setR R i f v) = filesOf (setR Q i f u) := by
  unfold setR
  split
  · rw [files_set, files_set, h]
  · exact h

theorem ref0 : (refC F.none6).toArray = #[.bool false, .string ⟨#[]⟩, .bool false, .string ⟨#[]⟩, .bool false, .string ⟨#[]⟩, .bool false, .string ⟨#[]⟩, .bool false, .string ⟨#[]⟩, .bool false, .string ⟨#[]⟩,
    .int .i64 0, .int .i64 0, .int .i64 0, .int .i64 0, .int .i64 0, .int .i64 0] := rfl

/-- The law's own: two tomes, and two of the document's. -/
structure Four (t1 b1 g1 t2 b2 g2 m n : Nat) (w0 w : World) (R S Q P : List ((Bool × ByteArray) × Int)) : Prop where
  ts : TomeAt w t1 b1 g1 R
  tt : TomeAt w t2 b2 g2 S
  rm : RefAt w m Q
  rn : RefAt w n P
  bel : Below w0.heap.size w0 w
  ne : g2 ≠ g1
  nm : m ≠ n
  l1 : w0.heap.size ≤ g1
  l2 : w0.heap.size ≤ g2
  lm : w0.heap.size ≤ m
  ln : w0.heap.size ≤ n

section
variable {t1 b1 g1 t2 b2 g2 m n : Nat} {w0 w w' : World} {R S Q P R' : List ((Bool × ByteArray) × Int)}

theorem Four.grown (h : Four t1 b1 g1 t2 b2 g2 m n w0 w R S Q P) (hb : Below w.heap.size w w') : Four t1 b1 g1 t2 b2 g2 m n w0 w' R S Q P :=
  ⟨h.ts.grown hb, h.tt.grown hb, h.rm.grown hb, h.rn.grown hb, h.bel.trans (hb.mono h.bel.size), h.ne, h.nm, h.l1, h.l2, h.lm, h.ln⟩
theorem Four.box (h : Four t1 b1 g1 t2 b2 g2 m n w0 w R S Q P) (o : Obj) : Four t1 b1 g1 t2 b2 g2 m n w0 (w.alloc o) R S Q P := h.grown ((Below.refl _ w).alloc (Nat.le_refl _) o)
theorem below_but {k : Nat} (h : Below w0.heap.size w0 w) (hb : But [k] w w') (hk : w0.heap.size ≤ k) : Below w0.heap.size w0 w' := h.trans (hb.below h.size (fun i hi => by
  have e : i = k := by simpa using hi
  rw [e]; exact hk))
theorem tome_but {k t b g : Nat} (h : TomeAt w t b g R) (hk : RefAt w k Q) (hb : But [k] w w') : TomeAt w' t b g R := by
  obtain ⟨x1, x2, x3⟩ := hk.ne_tome h
  exact h.but hb (by simpa using x1) (by simpa using x2) (by simpa using x3)
theorem ref_but {k m : Nat} (h : RefAt w m R) (hb : But [k] w w') (hne : m ≠ k) : RefAt w' m R := h.keep (hb.block m h.lt (by simpa using hne))

theorem Four.setS (h : Four t1 b1 g1 t2 b2 g2 m n w0 w R S Q P) (hT : TomeAt w' t1 b1 g1 R') (hb : But [g1] w w') : Four t1 b1 g1 t2 b2 g2 m n w0 w' R' S Q P :=
  ⟨hT, h.ts.other h.tt hb h.ne, ref_but h.rm hb (Ne.symm (h.rm.ne_tome h.ts).2.2), ref_but h.rn hb (Ne.symm (h.rn.ne_tome h.ts).2.2), below_but h.bel hb h.l1, h.ne, h.nm, h.l1, h.l2, h.lm, h.ln⟩
theorem Four.setT (h : Four t1 b1 g1 t2 b2 g2 m n w0 w R S Q P) (hT : TomeAt w' t2 b2 g2 R') (hb : But [g2] w w') : Four t1 b1 g1 t2 b2 g2 m n w0 w' R R' Q P :=
  ⟨h.tt.other h.ts hb (Ne.symm h.ne), hT, ref_but h.rm hb (Ne.symm (h.rm.ne_tome h.tt).2.2), ref_but h.rn hb (Ne.symm (h.rn.ne_tome h.tt).2.2), below_but h.bel hb h.l2, h.ne, h.nm, h.l1, h.l2, h.lm, h.ln⟩
theorem Four.setM (h : Four t1 b1 g1 t2 b2 g2 m n w0 w R S Q P) (hT : RefAt w' m R') (hb : But [m] w w') : Four t1 b1 g1 t2 b2 g2 m n w0 w' R S R' P :=
  ⟨tome_but h.ts h.rm hb, tome_but h.tt h.rm hb, hT, ref_but h.rn hb (Ne.symm h.nm), below_but h.bel hb h.lm, h.ne, h.nm, h.l1, h.l2, h.lm, h.ln⟩
theorem Four.setN (h : Four t1 b1 g1 t2 b2 g2 m n w0 w R S Q P) (hT : RefAt w' n R') (hb : But [n] w w') : Four t1 b1 g1 t2 b2 g2 m n w0 w' R S Q R' :=
  ⟨tome_but h.ts h.rn hb, tome_but h.tt h.rn hb, ref_but h.rm hb h.nm, hT, below_but h.bel hb h.ln, h.ne, h.nm, h.l1, h.l2, h.lm, h.ln⟩

end

set_option maxHeartbeats 4000000 in
set_option maxRecDepth 100000 in
theorem walk (a : Option Addr) (len cap : Nat) (cs : List Sx) (a' : Option Addr) (len' cap' : Nat) (cs' : List Sx) (w : World) (h : IsSx w a len cap cs) (h' : IsSx w a' len' cap' cs') :
    Calls Try.prog 5 #[.slice a len cap, .slice a' len' cap'] w fun e w' => e = .returned (.bool true) ∧ Below w.heap.size w w' := by
  have H := Hid.mk h
  have H' := Hid.mk h'
  clear h h'
  go_enter Try.func5, Try.ntmps5
  go_wp2_with fail
  refine (alive_any w).mono ?_
  rintro e w1 ⟨rfl, hb1⟩
  have HB1 := Hid.mk hb1
  clear hb1
  go_wp2_with fail
  refine (great_any a len cap cs w1 (H.out.grown HB1.out)).mono ?_
  rintro e w2 ⟨⟨G, rfl, hG⟩, hb2⟩
  have HB2 := Hid.mk (HB1.out.trans (hb2.mono HB1.out.size))
  clear hb2
  cases G with
  | true =>
    go_wp2
    go_ret
    exact ⟨rfl, HB2.out⟩
  | false =>
    have h40 := hG rfl
    clear hG
    go_wp2_with fail
    refine (great_any a' len' cap' cs' w2 (H'.out.grown HB2.out)).mono ?_
    rintro e w3 ⟨⟨G, rfl, hG'⟩, hb3⟩
    have HB3 := Hid.mk (HB2.out.trans (hb3.mono HB2.out.size))
    clear hb3
    cases G with
    | true =>
      go_wp2
      go_ret
      exact ⟨rfl, HB3.out⟩
    | false =>
      have h40' := hG' rfl
      clear hG'
      go_wp2_with fail
      refine (new_any w3).mono ?_
      rintro e w4 ⟨t1, b1, g1, rfl, hT1, hb4, ht1, hbb1, hg1⟩
      have HB4 := Hid.mk (HB3.out.trans (hb4.mono HB3.out.size))
      have HG1 : Hid (w.heap.size ≤ g1) := Hid.mk (Nat.le_trans HB3.out.size hg1)
      have HT1 := Hid.mk hT1
      clear hT1 hb4 ht1 hbb1 hg1
      go_wp2_with fail
      refine (new_any w4).mono ?_
      rintro e w5 ⟨t2, b2, g2, rfl, hT2, hb5, ht2, hbb2, hg2⟩
      have HB5 := Hid.mk (HB4.out.trans (hb5.mono HB4.out.size))
      have HG2 : Hid (w.heap.size ≤ g2) := Hid.mk (Nat.le_trans HB4.out.size hg2)
      have HNG : Hid (g2 ≠ g1) := Hid.mk (by have := HT1.out.row.ltg; omega)
      have HT2 := Hid.mk hT2
      have HT1b := Hid.mk (HT1.out.grown hb5)
      clear hT2 hb5 ht2 hbb2 hg2 HT1
      obtain ⟨w6, hw6⟩ : ∃ w6, w6 = (w5.alloc (.cells (refC F.none6).toArray 33)).alloc (.cells (refC F.none6).toArray 33) := ⟨_, rfl⟩
      obtain ⟨m, hm⟩ : ∃ m, m = w5.heap.size := ⟨_, rfl⟩
      obtain ⟨n, hn⟩ : ∃ n, n = w5.heap.size + 1 := ⟨_, rfl⟩
      have h4 : Four t1 b1 g1 t2 b2 g2 m n w w6 F.none6 F.none6 F.none6 F.none6 := by
        have hal : ∀ (z : World) (o : Obj), Below z.heap.size z (z.alloc o) := fun z o => (Below.refl _ z).alloc (Nat.le_refl _) o
        have e1 := RefAt.new w5
        have e2 := RefAt.new (w5.alloc (.cells (refC F.none6).toArray 33))
        rw [World.size_alloc] at e2
        rw [hw6, hm, hn]
        exact ⟨(HT1b.out.grown (hal _ _)).grown (hal _ _), (HT2.out.grown (hal _ _)).grown (hal _ _), e1.grown (hal _ _), e2, (HB5.out.alloc HB5.out.size _).alloc (by have := HB5.out.size; simp; omega) _,
          HNG.out, by omega, HG1.out, HG2.out, HB5.out.size, Nat.le_succ_of_le HB5.out.size⟩
      have H4 := Hid.mk h4
      rw [ref0] at hw6
      clear h4
      go_wp2_with fail
      have hn2 : m + 1 = n := by rw [hm, hn]
      rw [← hw6, ← hm, hn2]
      clear hw6 hm hn hn2 HT1b HT2 HB4 HB5 HG1 HG2 HNG
      go_loopw [10, 31] (fun _ k wr => ∃ (j : Nat) (R Q : List ((Bool × ByteArray) × Int)), j ≤ len ∧ k = .int .i64 j ∧ Four t1 b1 g1 t2 b2 g2 m n w wr R F.none6 Q F.none6 ∧ filesOf R = filesOf Q) (fun _ k _ => len - (intOf k).toNat)
      case atStart => exact ⟨0, _, _, Nat.zero_le _, rfl, H4.out, rfl⟩
      case round =>
        clear H4
        obtain ⟨j, R, Q, hj, rfl, h4, hRQ⟩ := hrel
        by_cases hlt : j < len
        · obtain ⟨g, off, rfl, hat⟩ := (H.out.grown h4.bel).at_ (by omega)
          have hjl : j < cs.length := by rw [H.out.1]; exact hlt
          obtain ⟨c0, c1, c2, c3⟩ := hat.cells j hjl
          obtain ⟨q, hq⟩ : ∃ q : Sx, q = cs[j]! := ⟨_, rfl⟩
          rw [← hq] at c0 c1 c2 c3
          have h4z := h4.box (sxO q)
          have hbx := heap_new wr (sxO q)
          have C1 := set_any h4z.ts q.1 q.2.1 q.2.2
          obtain ⟨q0, ⟨q1, q2⟩, q3⟩ := q
          obtain ⟨Z, hZ⟩ : ∃ Z, Z = wr.alloc (.cells #[.int .i64 q0, .bool q1, .string q2, .int .i64 q3] 36) := ⟨_, rfl⟩
          have h4Z : Four t1 b1 g1 t2 b2 g2 m n w Z R F.none6 Q F.none6 := by rw [hZ]; exact h4z
          have hbZ : Z.heap[wr.heap.size]? = some (sxO (q0, (q1, q2), q3)) := by rw [hZ]; exact hbx
          have C1t : Calls Try.prog 10 #[.pointer (some ⟨t1, 0, none⟩), .int .i64 q0, .agg #[.bool q1, .string q2], .int .i64 q3] Z fun e w' => e = .returned (.bool (okS q0 (q1, q2))) ∧ TomeAt w' t1 b1 g1 (setR R q0 (q1, q2) q3) ∧ But [g1] Z w' := by rw [hZ]; exact C1
          have HC1 := Hid.mk C1t
          have HF := Hid.mk h4Z
          have HBZ := Hid.mk hbZ
          have HE := Hid.mk (files_setR hRQ q0 (q1, q2) q3 0)
          have HZW := Hid.mk hZ
          clear hq h4z hbx h4Z hbZ C1 C1t h4 hat hjl hZ
          go_wp2_with fail
          rw [← HZW.out]
          obtain ⟨A, hA⟩ : ∃ A, A = wr.heap.size := ⟨_, rfl⟩
          rw [← hA] at HBZ ⊢
          clear hA HZW c0 c1 c2 c3
          refine HC1.out.mono ?_
          rintro e w7 ⟨rfl, hT7, hb7⟩
          have HF7 := Hid.mk (HF.out.setS hT7 hb7)
          have hA7 : w7.heap[A]? = some (sxO (q0, (q1, q2), q3)) := (hb7.block A (Array.getElem?_eq_some_iff.1 HBZ.out).1 (fun e => by
            have e : A = g1 := by simpa using e
            have h1 := HF.out.ts.row.row
            rw [← e, HBZ.out] at h1
            injection h1 with h1
            injection h1 with _ h1
            exact absurd h1 (by decide))).trans HBZ.out
          obtain ⟨b0, b1', b2', b3⟩ := box4 hA7
          have C2 := refSet_any HF7.out.rm q0 (q1, q2) 0
          have HC2 := Hid.mk C2
          obtain ⟨R2, hR2⟩ : ∃ R2, R2 = setR R q0 (q1, q2) q3 := ⟨_, rfl⟩
          obtain ⟨Q2, hQ2⟩ : ∃ Q2, Q2 = setR Q q0 (q1, q2) 0 := ⟨_, rfl⟩
          rw [← hR2] at HE HF7
          rw [← hQ2] at HE HC2
          clear C2 hT7 hb7 HC1 hA7 hR2 hQ2
          go_wp2_with fail
          refine HC2.out.mono ?_
          rintro e w8 ⟨rfl, hT8, hb8⟩
          have HF8 := Hid.mk (HF7.out.setM hT8 hb8)
          clear hT8 hb8 HC2 b0 b1' b2' b3
          go_wp2
          go_roundw
          case rel => exact ⟨j + 1, R2, Q2, by omega, by go_num, HF8.out, HE.out⟩
          case measure => simp [intOf]; omega
        · have hge : (len : Int) ≤ (j : Int) := by omega
          have HRQ := Hid.mk hRQ
          have H4 := Hid.mk h4
          clear hRQ h4
          go_wp2
          go_loopw [12, 52] (fun _ k wr => ∃ (i : Nat) (S P : List ((Bool × ByteArray) × Int)), i ≤ len' ∧ k = .int .i64 i ∧ Four t1 b1 g1 t2 b2 g2 m n w wr R S Q P ∧ filesOf S = filesOf P) (fun _ k _ => len' - (intOf k).toNat)
          case atStart => exact ⟨0, _, _, Nat.zero_le _, rfl, H4.out, rfl⟩
          case round =>
            clear H4 hge hlt hj
            obtain ⟨i, S, P, hi, rfl, h4, hSP⟩ := hrel
            by_cases hlt : i < len'
            · obtain ⟨g, off, rfl, hat⟩ := (H'.out.grown h4.bel).at_ (by omega)
              have hil : i < cs'.length := by rw [H'.out.1]; exact hlt
              obtain ⟨c0, c1, c2, c3⟩ := hat.cells i hil
              obtain ⟨q, hq⟩ : ∃ q : Sx, q = cs'[i]! := ⟨_, rfl⟩
              rw [← hq] at c0 c1 c2 c3
              have h4z := h4.box (sxO q)
              have hbx := heap_new wr (sxO q)
              have C1 := set_any h4z.tt q.1 q.2.1 1
              obtain ⟨q0, ⟨q1, q2⟩, q3⟩ := q
              obtain ⟨Z, hZ⟩ : ∃ Z, Z = wr.alloc (.cells #[.int .i64 q0, .bool q1, .string q2, .int .i64 q3] 36) := ⟨_, rfl⟩
              have h4Z : Four t1 b1 g1 t2 b2 g2 m n w Z R S Q P := by rw [hZ]; exact h4z
              have hbZ : Z.heap[wr.heap.size]? = some (sxO (q0, (q1, q2), q3)) := by rw [hZ]; exact hbx
              have C1t : Calls Try.prog 10 #[.pointer (some ⟨t2, 0, none⟩), .int .i64 q0, .agg #[.bool q1, .string q2], .int .i64 1] Z fun e w' => e = .returned (.bool (okS q0 (q1, q2))) ∧ TomeAt w' t2 b2 g2 (setR S q0 (q1, q2) 1) ∧ But [g2] Z w' := by rw [hZ]; exact C1
              have HC1 := Hid.mk C1t
              have HF := Hid.mk h4Z
              have HBZ := Hid.mk hbZ
              have HE := Hid.mk (files_setR hSP q0 (q1, q2) 1 0)
              have HZW := Hid.mk hZ
              clear hq h4z hbx h4Z hbZ C1 C1t h4 hat hil hZ
              go_wp2_with fail
              rw [← HZW.out]
              obtain ⟨A, hA⟩ : ∃ A, A = wr.heap.size := ⟨_, rfl⟩
              rw [← hA] at HBZ ⊢
              clear hA HZW c0 c1 c2 c3
              refine HC1.out.mono ?_
              rintro e w7 ⟨rfl, hT7, hb7⟩
              have HF7 := Hid.mk (HF.out.setT hT7 hb7)
              have hA7 : w7.heap[A]? = some (sxO (q0, (q1, q2), q3)) := (hb7.block A (Array.getElem?_eq_some_iff.1 HBZ.out).1 (fun e => by
                have e : A = g2 := by simpa using e
                have h1 := HF.out.tt.row.row
                rw [← e, HBZ.out] at h1
                injection h1 with h1
                injection h1 with _ h1
                exact absurd h1 (by decide))).trans HBZ.out
              obtain ⟨b0, b1', b2', b3⟩ := box4 hA7
              have C2 := refSet_any HF7.out.rn q0 (q1, q2) 0
              have HC2 := Hid.mk C2
              obtain ⟨S2, hS2⟩ : ∃ R2, R2 = setR S q0 (q1, q2) 1 := ⟨_, rfl⟩
              obtain ⟨P2, hP2⟩ : ∃ Q2, Q2 = setR P q0 (q1, q2) 0 := ⟨_, rfl⟩
              rw [← hS2] at HE HF7
              rw [← hP2] at HE HC2
              clear C2 hT7 hb7 HC1 hA7 hS2 hP2
              go_wp2_with fail
              refine HC2.out.mono ?_
              rintro e w8 ⟨rfl, hT8, hb8⟩
              have HF8 := Hid.mk (HF7.out.setN hT8 hb8)
              clear hT8 hb8 HC2 b0 b1' b2' b3
              go_wp2
              go_roundw
              case rel => exact ⟨i + 1, S2, P2, by omega, by go_num, HF8.out, HE.out⟩
              case measure => simp [intOf]; omega
            · have hge : (len' : Int) ≤ (i : Int) := by omega
              have HSP := Hid.mk hSP
              have H4 := Hid.mk h4
              have C1 := bytes_yes h4.ts
              obtain ⟨bs, hbs⟩ : ∃ bs : ByteArray, bs = ⟨(fromB 0 (filesOf R)).toArray⟩ := ⟨_, rfl⟩
              rw [← hbs] at C1
              have HC1 := Hid.mk C1
              have HBS := Hid.mk hbs
              clear hSP h4 C1 hbs
              go_wp2_with fail
              refine HC1.out.mono ?_
              rintro e w7 ⟨rfl, hb7⟩
              have HF7 := Hid.mk (H4.out.grown hb7)
              clear hb7 HC1 H4
              go_wp2_with fail
              refine (read_any bs w7).mono ?_
              rintro e w8 ⟨hrd, hb8⟩
              have HF8 := Hid.mk (HF7.out.grown hb8)
              clear hb8
              rcases hrd with ⟨t3, b3, g3, U, rfl, hU, hUB, _, _⟩ | ⟨_, hno⟩
              · have HU := Hid.mk hU
                have HRU : Hid (filesOf R = filesOf U) := Hid.mk (by
                  refine HF8.out.ts.six.same hU.six ?_
                  rw [HBS.out] at hUB
                  exact hUB.symm)
                clear hU hUB
                go_wp2_with fail
                obtain ⟨z0, hz0⟩ : ∃ z0, z0 = w8 := ⟨_, rfl⟩
                rw [← hz0]
                have CS1 : Hid (∀ g : Wider z0.heap.size z0, Calls Try.prog 18 #[.pointer (some ⟨t1, 0, none⟩), .pointer (some ⟨t3, 0, none⟩)] g.z fun e w' => e = .returned (.bool true) ∧ Below g.z.heap.size g.z w') := Hid.mk (fun g => by
                  have hb : Below w8.heap.size w8 g.z := by rw [← hz0]; exact g.h
                  have h := same_any (HF8.out.grown hb).ts (HU.out.grown hb)
                  rw [decide_eq_true HRU.out] at h
                  exact h)
                have CS2 : Hid (∀ g : Wider z0.heap.size z0, Calls Try.prog 18 #[.pointer (some ⟨t1, 0, none⟩), .pointer (some ⟨t2, 0, none⟩)] g.z fun e w' => e = .returned (.bool (decide (filesOf R = filesOf S))) ∧ Below g.z.heap.size g.z w') := Hid.mk (fun g => by
                  have hb : Below w8.heap.size w8 g.z := by rw [← hz0]; exact g.h
                  exact same_any (HF8.out.grown hb).ts (HF8.out.grown hb).tt)
                have HM : Hid (∀ g : Wider z0.heap.size z0, RefAt g.z m Q ∧ RefAt g.z n P) := Hid.mk (fun g => by
                  have hb : Below w8.heap.size w8 g.z := by rw [← hz0]; exact g.h
                  exact ⟨(HF8.out.grown hb).rm, (HF8.out.grown hb).rn⟩)
                obtain ⟨D, hD⟩ : ∃ D, D = decide (filesOf R = filesOf S) := ⟨_, rfl⟩
                rw [← hD] at CS2
                have HDD := Hid.mk hD
                have HZ := Hid.mk hz0
                clear hD hz0
                have hQ6 := HF8.out.rm.len
                have hP6 := HF8.out.rn.len
                obtain ⟨qa, qb, qc, qd, qe, qf, hQe⟩ := six_cases hQ6
                obtain ⟨pa, pb, pc, pd, pe, pf, hPe⟩ := six_cases hP6
                have HQE := Hid.mk hQe
                have HPE := Hid.mk hPe
                obtain ⟨m0, m1, m2, m3, m4, m5, m6, m7, m8, m9, m10, m11⟩ : (∀ g : Wider z0.heap.size z0, g.z.cell? ⟨m, 0, none⟩ = some (.bool qa.1.1)) ∧ (∀ g : Wider z0.heap.size z0, g.z.cell? ⟨m, 1, none⟩ = some (.string qa.1.2)) ∧
                    (∀ g : Wider z0.heap.size z0, g.z.cell? ⟨m, 2, none⟩ = some (.bool qb.1.1)) ∧ (∀ g : Wider z0.heap.size z0, g.z.cell? ⟨m, 3, none⟩ = some (.string qb.1.2)) ∧
                    (∀ g : Wider z0.heap.size z0, g.z.cell? ⟨m, 4, none⟩ = some (.bool qc.1.1)) ∧ (∀ g : Wider z0.heap.size z0, g.z.cell? ⟨m, 5, none⟩ = some (.string qc.1.2)) ∧
                    (∀ g : Wider z0.heap.size z0, g.z.cell? ⟨m, 6, none⟩ = some (.bool qd.1.1)) ∧ (∀ g : Wider z0.heap.size z0, g.z.cell? ⟨m, 7, none⟩ = some (.string qd.1.2)) ∧
                    (∀ g : Wider z0.heap.size z0, g.z.cell? ⟨m, 8, none⟩ = some (.bool qe.1.1)) ∧ (∀ g : Wider z0.heap.size z0, g.z.cell? ⟨m, 9, none⟩ = some (.string qe.1.2)) ∧
                    (∀ g : Wider z0.heap.size z0, g.z.cell? ⟨m, 10, none⟩ = some (.bool qf.1.1)) ∧ (∀ g : Wider z0.heap.size z0, g.z.cell? ⟨m, 11, none⟩ = some (.string qf.1.2)) := by
                  subst hQe
                  refine ⟨fun g => ?_, fun g => ?_, fun g => ?_, fun g => ?_, fun g => ?_, fun g => ?_, fun g => ?_, fun g => ?_, fun g => ?_, fun g => ?_, fun g => ?_, fun g => ?_⟩ <;> exact cell_at (HM.out g).1.at_ rfl
                obtain ⟨n0, n1, n2, n3, n4, n5, n6, n7, n8, n9, n10, n11⟩ : (∀ g : Wider z0.heap.size z0, g.z.cell? ⟨n, 0, none⟩ = some (.bool pa.1.1)) ∧ (∀ g : Wider z0.heap.size z0, g.z.cell? ⟨n, 1, none⟩ = some (.string pa.1.2)) ∧
                    (∀ g : Wider z0.heap.size z0, g.z.cell? ⟨n, 2, none⟩ = some (.bool pb.1.1)) ∧ (∀ g : Wider z0.heap.size z0, g.z.cell? ⟨n, 3, none⟩ = some (.string pb.1.2)) ∧
                    (∀ g : Wider z0.heap.size z0, g.z.cell? ⟨n, 4, none⟩ = some (.bool pc.1.1)) ∧ (∀ g : Wider z0.heap.size z0, g.z.cell? ⟨n, 5, none⟩ = some (.string pc.1.2)) ∧
                    (∀ g : Wider z0.heap.size z0, g.z.cell? ⟨n, 6, none⟩ = some (.bool pd.1.1)) ∧ (∀ g : Wider z0.heap.size z0, g.z.cell? ⟨n, 7, none⟩ = some (.string pd.1.2)) ∧
                    (∀ g : Wider z0.heap.size z0, g.z.cell? ⟨n, 8, none⟩ = some (.bool pe.1.1)) ∧ (∀ g : Wider z0.heap.size z0, g.z.cell? ⟨n, 9, none⟩ = some (.string pe.1.2)) ∧
                    (∀ g : Wider z0.heap.size z0, g.z.cell? ⟨n, 10, none⟩ = some (.bool pf.1.1)) ∧ (∀ g : Wider z0.heap.size z0, g.z.cell? ⟨n, 11, none⟩ = some (.string pf.1.2)) := by
                  subst hPe
                  refine ⟨fun g => ?_, fun g => ?_, fun g => ?_, fun g => ?_, fun g => ?_, fun g => ?_, fun g => ?_, fun g => ?_, fun g => ?_, fun g => ?_, fun g => ?_, fun g => ?_⟩ <;> exact cell_at (HM.out g).2.at_ rfl
                clear hQ6 hP6 hQe hPe
                obtain ⟨⟨i0, s0⟩, v0⟩ := qa
                obtain ⟨⟨i1, s1⟩, v1⟩ := qb
                obtain ⟨⟨i2, s2⟩, v2⟩ := qc
                obtain ⟨⟨i3, s3⟩, v3⟩ := qd
                obtain ⟨⟨i4, s4⟩, v4⟩ := qe
                obtain ⟨⟨i5, s5⟩, v5⟩ := qf
                obtain ⟨⟨i0', s0'⟩, v0'⟩ := pa
                obtain ⟨⟨i1', s1'⟩, v1'⟩ := pb
                obtain ⟨⟨i2', s2'⟩, v2'⟩ := pc
                obtain ⟨⟨i3', s3'⟩, v3'⟩ := pd
                obtain ⟨⟨i4', s4'⟩, v4'⟩ := pe
                obtain ⟨⟨i5', s5'⟩, v5'⟩ := pf
                have hne := Wider.some z0.heap.size z0
                obtain ⟨V, hV⟩ : ∃ V, V = decide ([(i0, s0), (i1, s1), (i2, s2), (i3, s3), (i4, s4), (i5, s5)] = [(i0', s0'), (i1', s1'), (i2', s2'), (i3', s3'), (i4', s4'), (i5', s5')]) := ⟨_, rfl⟩
                have hE : ∀ z, (Op.equalIn 10000 30 (.agg #[.bool i0, .string s0, .bool i1, .string s1, .bool i2, .string s2, .bool i3, .string s3, .bool i4, .string s4, .bool i5, .string s5]) (.agg #[.bool i0', .string s0', .bool i1', .string s1', .bool i2', .string s2', .bool i3', .string s3', .bool i4', .string s4', .bool i5', .string s5'])).run Try.prog z = .ok V z := fun z => by
                  rw [hV]
                  exact eq_six (i0, s0) (i1, s1) (i2, s2) (i3, s3) (i4, s4) (i5, s5) (i0', s0') (i1', s1') (i2', s2') (i3', s3') (i4', s4') (i5', s5') z
                have HV := Hid.mk hV
                clear hV
                refine wp_region_wider (B := z0.heap.size) (w0 := z0) (by kernel_rfl) (by kernel_rfl) (Below.refl _ z0) ?_
                repeat (go_big_quiet_step ((first
                  | (go_at_call_of 18 (Value.pointer (some (Addr.mk t3 0 none))); refine (CS1.out _).mono ?_; rintro e w6 ⟨rfl, hb6⟩; exact ⟨rfl, ⟨w6, by rename_i g; exact farther (Nat.le_refl _) g.h hb6⟩, rfl⟩)
                  | (go_at_call_of 18 (Value.pointer (some (Addr.mk t2 0 none))); refine (CS2.out _).mono ?_; rintro e w6 ⟨rfl, hb6⟩; exact ⟨rfl, ⟨w6, by rename_i g; exact farther (Nat.le_refl _) g.h hb6⟩, rfl⟩))))
                refine wpQuiet_nil ?_
                rintro z ⟨⟨z', hz'⟩, hzz⟩
                have hz : Below z0.heap.size z0 z := by rw [hzz]; exact hz'
                clear hzz hz'
                have HZZ : Hid (Below w.heap.size w z) := Hid.mk (by
                  have hb : Below w8.heap.size w8 z := by rw [← HZ.out]; exact hz
                  exact HF8.out.bel.trans (hb.mono HF8.out.bel.size))
                have HDV : Hid ((D == V) = true) := Hid.mk (by
                  rw [HDD.out, HV.out, HRQ.out, HSP.out, HQE.out, HPE.out]
                  exact beq_self_eq_true _)
                clear hz hne hE m0 m1 m2 m3 m4 m5 m6 m7 m8 m9 m10 m11 n0 n1 n2 n3 n4 n5 n6 n7 n8 n9 n10 n11
                go_wp2
                go_ret
                exact ⟨by rw [← HDV.out]; rfl, HZZ.out⟩
              · exact absurd (by rw [HBS.out]) (hno (filesOf R) HF7.out.ts.six)

set_option maxRecDepth 100000 in
theorem lifted (os : Os) (started : os.Started) (H : Type) (enc : TypeId × Value → H) :
    ReturnsInHanded {} Try.checked os 5 .any (Rows.tomeReturnsSpec.pre6 enc Try.prog Try.f5 Rows.tomeReturnsRow.domain false) (Rows.tomeReturnsSpec.post enc Try.prog Try.f5 false true false false) := by
  refine returnsInHanded_of_change (C := Try.checked) own started (by kernel_rfl) Try.func5
    (ChangeSpec.witness6 (enc := enc) (C := Try.checked) false ⟨#[], #[.slice none 0 0, .slice none 0 0], []⟩ 8 (by kernel_rfl) (by kernel_rfl) (by kernel_rfl) (by kernel_rfl)) ?_
  intro W base args ds gs before hval0 hW hcnd _
  have hval : ∀ (j : Nat) t v, Try.f5.params[j]? = some t → args[j]? = some v → Value.okWide Try.prog W .any base t v := hval0
  have hW' := hW
  obtain ⟨p, q, hA0, hV, rfl, hfz, hnd⟩ := hW
  have hA : DataW.TrodAll enc Try.prog W 0 (fun _ => true) true Try.f5.params.toList args.toList ds p := hA0
  rw [Try.params5] at hA hval
  obtain ⟨v0, vs0, d0, ds0, p0, q0, hargs, rfl, rfl, h0, r0⟩ := trodAll_cons hA
  obtain ⟨v1, vs1, d1, ds1, p1, q1, rfl, rfl, rfl, h1, r1⟩ := trodAll_cons r0
  obtain ⟨rfl, rfl, rfl⟩ := trodAll_nil r1
  obtain rfl : args = #[v0, v1] := by cases args; simp_all
  obtain ⟨rfl, rfl⟩ := trodVars_none hV
  obtain ⟨a0, len0, cap0, rfl⟩ := okWide_slice Try.underlying22 (hval 0 22 v0 rfl rfl)
  have k0 := h0
  have lt0 : ∀ x ∈ p0, x.block < W.heap.size := by obtain ⟨m, hm⟩ := k0; exact DataW.trod_lt m _ _ _ hm
  obtain ⟨ts0, w0⟩ : ∃ ts, IsSx W a0 len0 cap0 ts := by
    obtain ⟨fuel, hf⟩ := h0
    exact open_sxs hf
  obtain ⟨a1, len1, cap1, rfl⟩ := okWide_slice Try.underlying22 (hval 1 22 v1 rfl rfl)
  have k1 := h1
  have lt1 : ∀ x ∈ p1, x.block < W.heap.size := by obtain ⟨m, hm⟩ := k1; exact DataW.trod_lt m _ _ _ hm
  obtain ⟨ts1, w1⟩ : ∃ ts, IsSx W a1 len1 cap1 ts := by
    obtain ⟨fuel, hf⟩ := h1
    exact open_sxs hf
  clear hA0 hval0
  refine (walk a0 len0 cap0 ts0 a1 len1 cap1 ts1 W w0 w1).mono fun e W' ⟨he, bel⟩ => ?_
  subst he
  exact ⟨_, rfl, _, _, _, [], _, [], hW', trodAll_mk1 (shut_bool Try.underlying4 _), (trodAll_cons_mk (Below.trod laidOut (by kernel_rfl) (of_decide_eq_true (by kernel_rfl)) k0 bel lt0) (trodAll_cons_mk (Below.trod laidOut (by kernel_rfl) (of_decide_eq_true (by kernel_rfl)) k1 bel lt1) trodAll_mk0)), rfl, bel.frame _, fun h => by cases h⟩

set_option maxRecDepth 100000 in
theorem over : Rows.tomeReturnsRow.holds Try.pinned (OpenSpec.ofChange Rows.tomeReturnsSpec) :=
  OpenClaim.holds_of_wide 5 Try.f5 rfl rfl rfl rfl rfl rfl rfl ⟨rfl, rfl, rfl, rfl, rfl⟩ rfl rfl rfl rfl rfl (by kernel_rfl) Try.func5 (by kernel_rfl)
    (of_decide_eq_true (by kernel_rfl)) (by unfold Func.isWrapper; first | (rw [if_pos (by decide +kernel)]; kernel_rfl) | (rw [if_neg (by decide +kernel)]; exact ⟨rfl, rfl⟩))
    (fun os started H enc _ => lifted os started H enc)

end Go.Proofs.Ytabjjjbopbjbeaa.tomeReturns

namespace Go.Proofs.Ytabjjjbopbjbeaa
/-- The statement. -/
theorem tomeReturns_holds : Rows.TomeReturnsSaid := tomeReturns.over
#print axioms tomeReturns_holds
end Go.Proofs.Ytabjjjbopbjbeaa
