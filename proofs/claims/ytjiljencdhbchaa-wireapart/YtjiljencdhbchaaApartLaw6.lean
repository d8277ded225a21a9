/-
  WireApart: for every script of calls and every socket the law returns true: what is done with one socket plays no part at another one. No condition.
-/
import Derived.Test.YtjiljencdhbchaaXTwo
namespace Go.Proofs.Ytjiljencdhbchaa.wireApart
open Go.ChangeShapes Go.WideShapes Go.ChangeAt Go.RowKit Go.Deep
open Go.ChangeMaps (open_string shut_string)

/-- The law's state ahead of a call. -/
structure St (w wr : World) (a b N : Nat) (s : Int) (fa fb : Nat → Wy) : Prop where
  two : Two w.heap.size w wr a fa b fb
  fitA : Fits N fa
  fitB : Fits N fb
  same : fa s.toNat = fb s.toNat

/-- Its state within a call: the call's box, and the row of both wires, lie in memory. -/
structure Inn (w wi : World) (a b bx rx : Nat) (c : Cl) (ga gb : Nat → Wy) : Prop where
  two : Two w.heap.size w wi a ga b gb
  box : Box wi bx c
  row : wi.heap[rx]? = some (.cells #[.pointer (some ⟨a, 0, none⟩), .pointer (some ⟨b, 0, none⟩)] 25 (0, 0))

section
variable {w wi wj : World} {a b bx rx : Nat} {c : Cl} {ga gb ga' gb' : Nat → Wy}
theorem Inn.r0 (h : Inn w wi a b bx rx c ga gb) : wi.cell? ⟨rx, 0, none⟩ = some (.pointer (some ⟨a, 0, none⟩)) := by simp [World.cell?, h.row]
theorem Inn.r1 (h : Inn w wi a b bx rx c ga gb) : wi.cell? ⟨rx, 1, none⟩ = some (.pointer (some ⟨b, 0, none⟩)) := by simp [World.cell?, h.row]
theorem Inn.stepA (h : Inn w wi a b bx rx c ga gb) (k : Two w.heap.size w wj a ga' b gb) (hk : Keeps wi wj) : Inn w wj a b bx rx c ga' gb := ⟨k, h.box.keep hk, hk _ _ _ _ h.row (by decide) (by decide)⟩
theorem Inn.stepB (h : Inn w wi a b bx rx c ga gb) (k : Two w.heap.size w wj b gb' a ga) (hk : Keeps wi wj) : Inn w wj a b bx rx c ga gb' := ⟨k.symm, h.box.keep hk, hk _ _ _ _ h.row (by decide) (by decide)⟩
end

theorem told {w wr : World} {a b N : Nat} {s : Int} {fa fb : Nat → Wy} (h : St w wr a b N s fa fb) : anAll fa s = anAll fb s ∧ anTrace fa s = anTrace fb s := by
  unfold anAll anTrace
  rw [h.same]
  exact ⟨rfl, rfl⟩

set_option maxHeartbeats 1600000 in
set_option maxRecDepth 100000 in
theorem walk (a : Option Addr) (len cap : Nat) (cs : List Cl) (s : Int) (w : World) (ha : IsCls w a len cap cs) (_hs : (Lit.int .i64 s).wf = true) :
    Calls Try.prog 6 #[.slice a len cap, .int .i64 s] w fun e w' => e = .returned (.bool true) ∧ Below w.heap.size w w' := by
  clear _hs
  go_enter Try.func6, Try.ntmps6
  go_wp2_with fail
  refine (alive_any w).mono ?_
  rintro e w1 ⟨rfl, hb1⟩
  go_wp2_with fail
  refine (great_any (ha.carry hb1)).mono ?_
  rintro e w2 ⟨hb2, rfl | ⟨rfl, hl80, hsum⟩⟩
  · go_wp2
    go_ret
    exact ⟨rfl, hb1.trans (hb2.mono hb1.size)⟩
  have hb := hb1.trans (hb2.mono hb1.size)
  clear hb1 hb2
  go_wp2_with fail
  refine (is_any s _).mono ?_
  rintro e w3 ⟨rfl, hw3⟩
  rw [hw3]
  clear hw3 w3
  cases hs : isS s with
  | false =>
    clear hs
    go_wp2
    go_ret
    exact ⟨rfl, hb⟩
  | true =>
  have HS := Hid.mk hs
  have HSUM := Hid.mk hsum
  clear hs hsum
  have h0 := Two.new hb hb.size
  go_wp2_with fail
  refine (new_any w2).mono ?_
  rintro e w3 ⟨rfl, hw3⟩
  rw [← hw3] at h0
  have hs3 : w3.heap.size = w2.heap.size + 1 := by rw [hw3]; simp
  rw [← hs3] at h0
  clear hw3 hs3
  obtain ⟨aa, haa⟩ : ∃ aa, aa = w2.heap.size := ⟨_, rfl⟩
  rw [← haa] at h0 ⊢
  have HAA := Hid.mk haa
  clear haa
  go_wp2_with fail
  refine (new_any w3).mono ?_
  rintro e w4 ⟨rfl, hw4⟩
  rw [← hw4] at h0
  obtain ⟨bb, hbb⟩ : ∃ bb, bb = w3.heap.size := ⟨_, rfl⟩
  rw [← hbb] at h0 ⊢
  have HBB := Hid.mk hbb
  clear hw4 hbb
  have st0 : St w w4 aa bb (sumS (cs.take 0)) s nones nones := ⟨h0, Fits.nones _, Fits.nones _, rfl⟩
  clear h0 hb
  go_wp2
  go_loopw [8, 9, 10, 24] (fun _ _ _ i wr => ∃ (k : Nat) (fa fb : Nat → Wy), k ≤ len ∧ i = .int .i64 k ∧ St w wr aa bb (sumS (cs.take k)) s fa fb) (fun _ _ _ i _ => len - (intOf i).toNat)
  case atStart => exact ⟨0, _, _, Nat.zero_le _, rfl, st0⟩
  case round =>
    clear st0
    obtain ⟨k, fa, fb, hk, rfl, st⟩ := hrel
    by_cases hlt : k < len
    · obtain ⟨g, off, rfl, hat⟩ := ha.at_ k hlt
      obtain ⟨c, c0, c1, c2, c3, hsz, hsu⟩ := round_facts hat ha.1 st.two.below HSUM.out k hlt
      have HK := Hid.mk hlt
      have hbx := Box.new wr c
      obtain ⟨q, so, x, n⟩ := c
      dsimp only at c0 c1 c2 c3 hsz hsu hbx
      obtain ⟨c, hc⟩ : ∃ c : Cl, c = ⟨q, so, x, n⟩ := ⟨_, rfl⟩
      have hin : Inn w ((wr.alloc (.cells #[.int .i64 q, .int .i64 so, .string x, .int .i64 n] 34)).alloc (.cells #[.pointer (some ⟨aa, 0, none⟩), .pointer (some ⟨bb, 0, none⟩)] 25)) aa bb wr.heap.size (wr.heap.size + 1) ⟨q, so, x, n⟩ fa fb := by
        refine ⟨(st.two.alloc _).alloc _, hbx.keep (Keeps.of_below ((Below.refl _ _).alloc (Nat.le_refl _) _)), ?_⟩
        have := heap_alloc_new (wr.alloc (.cells #[.int .i64 q, .int .i64 so, .string x, .int .i64 n] 34)) (.cells #[.pointer (some ⟨aa, 0, none⟩), .pointer (some ⟨bb, 0, none⟩)] 25 (0, 0))
        simpa using this
      obtain ⟨N, hN⟩ : ∃ N, N = sumS (cs.take k) := ⟨_, rfl⟩
      obtain ⟨M, hM⟩ : ∃ M, M = sumS (cs.take (k + 1)) := ⟨_, rfl⟩
      rw [← hN] at hsz hsu st
      rw [← hM] at hsu
      have HM := Hid.mk hM
      have hx : N + x.size ≤ 4398046511104 := by omega
      have fA := st.fitA
      have fB := st.fitB
      have hN4 : N ≤ 4398046511104 := by omega
      have hsame := st.same
      have fA2 : Fits M (stDo ⟨q, so, x, n⟩ fa) := by rw [hsu]; exact fA.does _
      have fB2 : Fits M (stDo ⟨q, so, x, n⟩ fb) := by rw [hsu]; exact fB.does _
      have fB3 : Fits M fb := fB.mono (by omega)
      have sm1 : stDo ⟨q, so, x, n⟩ fa s.toNat = stDo ⟨q, so, x, n⟩ fb s.toNat := stDo_same HS.out hsame
      have sm2 : so ≠ s → q < 3 → stDo ⟨q, so, x, n⟩ fa s.toNat = fb s.toNat := fun h1 h2 => (stDo_skip (c := ⟨q, so, x, n⟩) HS.out h1 h2).trans hsame
      have SM1 := Hid.mk sm1
      have SM2 := Hid.mk sm2
      have FA2 := Hid.mk fA2
      have FB2 := Hid.mk fB2
      have FB3 := Hid.mk fB3
      clear hat st hsu hM hN hc c hbx hsz hsame sm1 sm2 fA2 fB2 fB3
      go_wp2
      go_loopw [9, 10, 32] (fun _ _ i wi => (i = .int .i64 0 ∧ Inn w wi aa bb wr.heap.size (wr.heap.size + 1) ⟨q, so, x, n⟩ fa fb) ∨ (i = .int .i64 1 ∧ Inn w wi aa bb wr.heap.size (wr.heap.size + 1) ⟨q, so, x, n⟩ (stDo ⟨q, so, x, n⟩ fa) fb) ∨
        (i = .int .i64 2 ∧ ∃ gb, Inn w wi aa bb wr.heap.size (wr.heap.size + 1) ⟨q, so, x, n⟩ (stDo ⟨q, so, x, n⟩ fa) gb ∧ Fits M gb ∧ stDo ⟨q, so, x, n⟩ fa s.toNat = gb s.toNat)) (fun _ _ i _ => 2 - (intOf i).toNat)
      case atStart => exact .inl ⟨rfl, hin⟩
      case round =>
        clear hin c0 c1 c2 c3
        rcases hrel with ⟨rfl, hi⟩ | ⟨rfl, hi⟩ | ⟨rfl, gb, hi, hfg, hsg⟩
        · have r0 := hi.r0
          have d0 := hi.box.c0
          have d1 := hi.box.c1
          have d2 := hi.box.c2
          have d3 := hi.box.c3
          dsimp only at d0 d1 d2 d3
          by_cases q0 : q = 0
          · have z0 : (q == 0) = true := by simp [q0]
            have ed : stDo ⟨q, so, x, n⟩ fa = stPush fa so x := by simp [stDo, q0]
            have ED := Hid.mk ed
            clear ed q0
            go_wp2_with fail
            refine (twoPush hi.two so x fA hx).mono ?_
            rintro e wj ⟨rfl, h4, hk4⟩
            rw [← ED.out] at h4
            have R := Hid.mk (hi.stepA h4 hk4)
            clear h4 hk4 hi d0 d1 d2 d3 ED
            go_wp2
            go_roundw
            case rel => exact .inr (.inl ⟨rfl, R.out⟩)
            case measure => simp [intOf]
          have z0 : (q == 0) = false := by simp [q0]
          by_cases q1 : q = 1
          · have z1 : (q == 1) = true := by simp [q1]
            have ed : stDo ⟨q, so, x, n⟩ fa = stPump fa so := by simp [stDo, q1]
            have ED := Hid.mk ed
            clear ed q0 q1
            go_wp2_with fail
            refine (twoPump hi.two so (fA.mono hN4)).mono ?_
            rintro e wj ⟨rfl, h4, hk4⟩
            rw [← ED.out] at h4
            have R := Hid.mk (hi.stepA h4 hk4)
            clear h4 hk4 hi d0 d1 d2 d3 ED
            go_wp2
            go_roundw
            case rel => exact .inr (.inl ⟨rfl, R.out⟩)
            case measure => simp [intOf]
          have z1 : (q == 1) = false := by simp [q1]
          by_cases q2 : q = 2
          · have z2 : (q == 2) = true := by simp [q2]
            have ed : stDo ⟨q, so, x, n⟩ fa = stTake fa so n := by simp [stDo, q2]
            have ED := Hid.mk ed
            clear ed q0 q1 q2
            go_wp2_with fail
            refine (twoTake hi.two so n (fA.mono hN4)).mono ?_
            rintro e wj ⟨rfl, h4, hk4⟩
            rw [← ED.out] at h4
            have R := Hid.mk (hi.stepA h4 hk4)
            clear h4 hk4 hi d0 d1 d2 d3 ED
            go_wp2
            go_roundw
            case rel => exact .inr (.inl ⟨rfl, R.out⟩)
            case measure => simp [intOf]
          have z2 : (q == 2) = false := by simp [q2]
          by_cases q3 : q = 3
          · have z3 : (q == 3) = true := by simp [q3]
            have ed : stDo ⟨q, so, x, n⟩ fa = cutF fa 3 := by simp [stDo, q3]
            have ED := Hid.mk ed
            clear ed q0 q1 q2 q3
            go_wp2_with fail
            refine (twoCrash hi.two).mono ?_
            rintro e wj ⟨rfl, h4, hk4⟩
            rw [← ED.out] at h4
            have R := Hid.mk (hi.stepA h4 hk4)
            clear h4 hk4 hi d0 d1 d2 d3 ED
            go_wp2
            go_roundw
            case rel => exact .inr (.inl ⟨rfl, R.out⟩)
            case measure => simp [intOf]
          have z3 : (q == 3) = false := by simp [q3]
          have ed : stDo ⟨q, so, x, n⟩ fa = fa := by simp [stDo, q0, q1, q2, q3]
          have hi2 := hi
          rw [← ed] at hi2
          have R := Hid.mk hi2
          clear ed q0 q1 q2 q3 hi hi2
          go_wp2
          go_roundw
          case rel => exact .inr (.inl ⟨rfl, R.out⟩)
          case measure => simp [intOf]
        · have r1 := hi.r1
          have d0 := hi.box.c0
          have d1 := hi.box.c1
          have d2 := hi.box.c2
          have d3 := hi.box.c3
          dsimp only at d0 d1 d2 d3
          by_cases hso : so = s
          · have y1 : (so != s) = false := by simp [hso]
            clear hso
            by_cases q0 : q = 0
            · have z0 : (q == 0) = true := by simp [q0]
              have ed : stDo ⟨q, so, x, n⟩ fb = stPush fb so x := by simp [stDo, q0]
              have ED := Hid.mk ed
              clear ed q0
              go_wp2_with fail
              refine (twoPush hi.two.symm so x fB hx).mono ?_
              rintro e wj ⟨rfl, h4, hk4⟩
              rw [← ED.out] at h4
              have R := Hid.mk (hi.stepB h4 hk4)
              clear h4 hk4 hi d0 d1 d2 d3 ED
              go_wp2
              go_roundw
              case rel => exact .inr (.inr ⟨rfl, _, R.out, FB2.out, SM1.out⟩)
              case measure => simp [intOf]
            have z0 : (q == 0) = false := by simp [q0]
            by_cases q1 : q = 1
            · have z1 : (q == 1) = true := by simp [q1]
              have ed : stDo ⟨q, so, x, n⟩ fb = stPump fb so := by simp [stDo, q1]
              have ED := Hid.mk ed
              clear ed q0 q1
              go_wp2_with fail
              refine (twoPump hi.two.symm so (fB.mono hN4)).mono ?_
              rintro e wj ⟨rfl, h4, hk4⟩
              rw [← ED.out] at h4
              have R := Hid.mk (hi.stepB h4 hk4)
              clear h4 hk4 hi d0 d1 d2 d3 ED
              go_wp2
              go_roundw
              case rel => exact .inr (.inr ⟨rfl, _, R.out, FB2.out, SM1.out⟩)
              case measure => simp [intOf]
            have z1 : (q == 1) = false := by simp [q1]
            by_cases q2 : q = 2
            · have z2 : (q == 2) = true := by simp [q2]
              have ed : stDo ⟨q, so, x, n⟩ fb = stTake fb so n := by simp [stDo, q2]
              have ED := Hid.mk ed
              clear ed q0 q1 q2
              go_wp2_with fail
              refine (twoTake hi.two.symm so n (fB.mono hN4)).mono ?_
              rintro e wj ⟨rfl, h4, hk4⟩
              rw [← ED.out] at h4
              have R := Hid.mk (hi.stepB h4 hk4)
              clear h4 hk4 hi d0 d1 d2 d3 ED
              go_wp2
              go_roundw
              case rel => exact .inr (.inr ⟨rfl, _, R.out, FB2.out, SM1.out⟩)
              case measure => simp [intOf]
            have z2 : (q == 2) = false := by simp [q2]
            by_cases q3 : q = 3
            · have z3 : (q == 3) = true := by simp [q3]
              have ed : stDo ⟨q, so, x, n⟩ fb = cutF fb 3 := by simp [stDo, q3]
              have ED := Hid.mk ed
              clear ed q0 q1 q2 q3
              go_wp2_with fail
              refine (twoCrash hi.two.symm).mono ?_
              rintro e wj ⟨rfl, h4, hk4⟩
              rw [← ED.out] at h4
              have R := Hid.mk (hi.stepB h4 hk4)
              clear h4 hk4 hi d0 d1 d2 d3 ED
              go_wp2
              go_roundw
              case rel => exact .inr (.inr ⟨rfl, _, R.out, FB2.out, SM1.out⟩)
              case measure => simp [intOf]
            have z3 : (q == 3) = false := by simp [q3]
            have ed : stDo ⟨q, so, x, n⟩ fb = fb := by simp [stDo, q0, q1, q2, q3]
            have hi2 := hi
            rw [← ed] at hi2
            have R := Hid.mk hi2
            clear ed q0 q1 q2 q3 hi hi2
            go_wp2
            go_roundw
            case rel => exact .inr (.inr ⟨rfl, _, R.out, FB2.out, SM1.out⟩)
            case measure => simp [intOf]
          have y1 : (so != s) = true := by simp [hso]
          by_cases hq3 : q < 3
          · have R := Hid.mk (And.intro hi (And.intro FB3.out (SM2.out hso hq3)))
            clear hso hi
            go_wp2
            go_roundw
            case rel => exact .inr (.inr ⟨rfl, _, R.out⟩)
            case measure => simp [intOf]
          · have q0 : q ≠ 0 := by omega
            have q1 : q ≠ 1 := by omega
            have q2 : q ≠ 2 := by omega
            have z0 : (q == 0) = false := by simp [q0]
            have z1 : (q == 1) = false := by simp [q1]
            have z2 : (q == 2) = false := by simp [q2]
            clear hso
            by_cases q3 : q = 3
            · have z3 : (q == 3) = true := by simp [q3]
              have ed : stDo ⟨q, so, x, n⟩ fb = cutF fb 3 := by simp [stDo, q3]
              have ED := Hid.mk ed
              clear ed q0 q1 q2 q3
              go_wp2_with fail
              refine (twoCrash hi.two.symm).mono ?_
              rintro e wj ⟨rfl, h4, hk4⟩
              rw [← ED.out] at h4
              have R := Hid.mk (hi.stepB h4 hk4)
              clear h4 hk4 hi d0 d1 d2 d3 ED
              go_wp2
              go_roundw
              case rel => exact .inr (.inr ⟨rfl, _, R.out, FB2.out, SM1.out⟩)
              case measure => simp [intOf]
            have z3 : (q == 3) = false := by simp [q3]
            have ed : stDo ⟨q, so, x, n⟩ fb = fb := by simp [stDo, q0, q1, q2, q3]
            have hi2 := hi
            rw [← ed] at hi2
            have R := Hid.mk hi2
            clear ed q0 q1 q2 q3 hi hi2
            go_wp2
            go_roundw
            case rel => exact .inr (.inr ⟨rfl, _, R.out, FB2.out, SM1.out⟩)
            case measure => simp [intOf]
        · have hbl := Hid.mk (St.mk hi.two FA2.out hfg hsg)
          rw [HM.out] at hbl
          clear hi hfg hsg
          go_wp2
          go_roundw
          case rel => exact ⟨k + 1, _, _, HK.out, by go_num, hbl.out⟩
          case measure => have := HK.out; simp [intOf]; omega
    · obtain ⟨e1, e2⟩ := told st
      have E1 := Hid.mk e1
      have E2 := Hid.mk e2
      clear e1 e2
      have t0 := st.two
      clear st
      go_wp2_with fail
      refine (mxAll t0.mx s).mono ?_
      rintro e w5 ⟨rfl, n5, hw5⟩
      have t1 := t0.drewN n5
      rw [← hw5] at t1
      clear hw5 t0
      go_wp2_with fail
      refine (mxAll t1.symm.mx s).mono ?_
      rintro e w6 ⟨rfl, n6, hw6⟩
      have t2 := t1.drewN n6
      rw [← hw6] at t2
      clear hw6 t1
      rw [E1.out]
      go_wp2_with fail
      refine (mxTrace t2.mx s).mono ?_
      rintro e w7 ⟨rfl, n7, hw7⟩
      have t3 := t2.drewN n7
      rw [← hw7] at t3
      clear hw7 t2
      go_wp2_with fail
      refine (mxTrace t3.symm.mx s).mono ?_
      rintro e w8 ⟨rfl, n8, hw8⟩
      have t4 := t3.drewN n8
      rw [← hw8] at t4
      clear hw8 t3
      rw [E2.out]
      have hbl := Hid.mk t4.below
      clear t4
      go_wp2
      go_ret
      exact ⟨rfl, hbl.out⟩

set_option maxRecDepth 100000 in
theorem lifted (os : Os) (started : os.Started) (H : Type) (enc : TypeId × Value → H) :
    ReturnsInHanded {} Try.checked os 6 .any (Rows.wireApartSpec.pre6 enc Try.prog Try.f6 Rows.wireApartRow.domain false) (Rows.wireApartSpec.post enc Try.prog Try.f6 false true false false) := by
  refine returnsInHanded_of_change (C := Try.checked) own started (by kernel_rfl) Try.func6
    (ChangeSpec.witness6 (enc := enc) (C := Try.checked) false ⟨#[], #[.slice none 0 0, .int .i64 0], []⟩ 8 (by kernel_rfl) (by kernel_rfl) (by kernel_rfl) (by kernel_rfl)) ?_
  intro W base args ds gs before hval0 hW hcnd _
  have hval : ∀ (j : Nat) t v, Try.f6.params[j]? = some t → args[j]? = some v → Value.okWide Try.prog W .any base t v := hval0
  have hW' := hW
  obtain ⟨p, q, hA0, hV, rfl, hfz, hnd⟩ := hW
  have hA : DataW.TrodAll enc Try.prog W 0 (fun _ => true) true Try.f6.params.toList args.toList ds p := hA0
  rw [Try.params6] at hA hval
  obtain ⟨v0, vs0, d0, ds0, p0, q0, hargs, rfl, rfl, h0, r0⟩ := trodAll_cons hA
  obtain ⟨v1, vs1, d1, ds1, p1, q1, rfl, rfl, rfl, h1, r1⟩ := trodAll_cons r0
  obtain ⟨rfl, rfl, rfl⟩ := trodAll_nil r1
  obtain rfl : args = #[v0, v1] := by cases args; simp_all
  obtain ⟨rfl, rfl⟩ := trodVars_none hV
  obtain ⟨a0, len0, cap0, rfl⟩ := okWide_slice Try.underlying22 (hval 0 22 v0 rfl rfl)
  have k0 := h0
  have lt0 : ∀ x ∈ p0, x.block < W.heap.size := by obtain ⟨m, hm⟩ := k0; exact DataW.trod_lt m _ _ _ hm
  obtain ⟨ts0, w0⟩ : ∃ ts, IsCls W a0 len0 cap0 ts := by
    obtain ⟨fuel, hf⟩ := h0
    exact open_cls hf
  obtain ⟨a1, rfl, rfl, rfl, w1⟩ := open_int Try.underlying3 (hval 1 3 v1 rfl rfl) h1
  clear hA0 hval0
  refine (walk a0 len0 cap0 ts0 a1 W w0 w1).mono fun e W' ⟨he, bel⟩ => ?_
  subst he
  exact ⟨_, rfl, _, _, _, [], _, [], hW', trodAll_mk1 (shut_bool Try.underlying4 _), (trodAll_cons_mk (Below.trod laidOut (by kernel_rfl) (of_decide_eq_true (by kernel_rfl)) k0 bel lt0) (trodAll_cons_mk (shut_int Try.underlying3 w1) trodAll_mk0)), rfl, bel.frame _, fun h => by cases h⟩

set_option maxRecDepth 100000 in
theorem over : Rows.wireApartRow.holds Try.pinned (OpenSpec.ofChange Rows.wireApartSpec) :=
  OpenClaim.holds_of_wide 6 Try.f6 rfl rfl rfl rfl rfl rfl rfl ⟨rfl, rfl, rfl, rfl, rfl⟩ rfl rfl rfl rfl rfl (by kernel_rfl) Try.func6 (by kernel_rfl)
    (of_decide_eq_true (by kernel_rfl)) (by unfold Func.isWrapper; first | (rw [if_pos (by decide +kernel)]; kernel_rfl) | (rw [if_neg (by decide +kernel)]; exact ⟨rfl, rfl⟩))
    (fun os started H enc _ => lifted os started H enc)

end Go.Proofs.Ytjiljencdhbchaa.wireApart

namespace Go.Proofs.Ytjiljencdhbchaa
/-- The statement. -/
theorem wireApart_holds : Rows.WireApartSaid := wireApart.over
#print axioms wireApart_holds
end Go.Proofs.Ytjiljencdhbchaa
