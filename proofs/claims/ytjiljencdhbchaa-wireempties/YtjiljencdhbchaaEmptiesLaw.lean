/-
  WireEmpties: for every text, socket and number the law returns true: with pumps and takes, as often as there are bytes, all came there. No condition.
-/
import Derived.Test.YtjiljencdhbchaaXScript
namespace Go.Proofs.Ytjiljencdhbchaa.wireEmpties
open Go.ChangeShapes Go.WideShapes Go.ChangeAt Go.RowKit Go.Deep
open Go.ChangeMaps (open_string shut_string)

/-- One round more: one byte more came, as long as there are any. -/
theorem round {y : Wy} (h : y.Good) {k : Nat} {n : Int} (hn : 1 ≤ n) (hk : k ≤ y.came) (hlt : k < y.bs.length) : k + 1 ≤ (y.pump.take n).came := by
  have h1 := h.cl
  simp only [Wy.take, Wy.pump]
  omega

/-- The law's state behind k rounds. -/
structure St (w wr : World) (b k : Nat) (s : Int) (x : ByteArray) (f : Nat → Wy) : Prop where
  m : MX w.heap.size w wr b f
  fits : Fits 1024 f
  bs : (f s.toNat).bs = x.data.toList
  came : k ≤ (f s.toNat).came

theorem trace_full {f : Nat → Wy} {s : Int} {x : ByteArray} (hs : isS s = true) (hb : (f s.toNat).bs = x.data.toList) (hc : x.size ≤ (f s.toNat).came) : anTrace f s = x ∧ anLeft f s = 0 := by
  have hl : (f s.toNat).bs.length = x.size := by rw [hb]; simp
  constructor
  · unfold anTrace Wy.trace
    rw [hs, if_pos rfl, List.take_of_length_le (by omega), hb]
  · unfold anLeft
    rw [hs, if_pos rfl]
    omega

theorem St.next {w wr wr2 : World} {b k : Nat} {s n : Int} {x : ByteArray} {f : Nat → Wy} (h : St w wr b k s x f) (hs : isS s = true) (hn : 1 ≤ n) (hk : k < x.size) (hm : MX w.heap.size w wr2 b (stTake (stPump f s) s n)) :
    St w wr2 b (k + 1) s x (stTake (stPump f s) s n) := by
  obtain ⟨i, hi, rfl⟩ := isS_yes hs
  have e : stTake (stPump f (i : Int)) (i : Int) n ((i : Int)).toNat = (f i).pump.take n := by
    simp [stTake, stPump, hs, upd]
  refine ⟨hm, (h.fits.pump _).take _ _, ?_, ?_⟩
  · rw [e]; exact h.bs
  · rw [e]
    refine round (h.m.good i hi) hn h.came ?_
    have := h.bs
    simp at this
    rw [this]
    simpa using hk

set_option maxHeartbeats 1600000 in
set_option maxRecDepth 100000 in
theorem walk (x : ByteArray) (s n : Int) (w : World) (_hs : (Lit.int .i64 s).wf = true) (_hn : (Lit.int .i64 n).wf = true) :
    Calls Try.prog 5 #[.string x, .int .i64 s, .int .i64 n] w fun e w' => e = .returned (.bool true) ∧ Below w.heap.size w w' := by
  clear _hs _hn
  go_enter Try.func5, Try.ntmps5
  go_wp2_with fail
  refine (alive_any w).mono ?_
  rintro e w1 ⟨rfl, hb1⟩
  by_cases hx : 1024 < x.size
  · go_wp2
    go_ret
    exact ⟨rfl, hb1⟩
  by_cases hn : n < 1
  · go_wp2
    go_ret
    exact ⟨rfl, hb1⟩
  go_wp2_with fail
  refine (is_any s _).mono ?_
  rintro e w2 ⟨rfl, hw2⟩
  rw [hw2]
  clear hw2 w2
  cases hs : isS s with
  | false =>
    clear hs
    go_wp2
    go_ret
    exact ⟨rfl, hb1⟩
  | true =>
  have HS := Hid.mk hs
  have HN := Hid.mk (show 1 ≤ n by omega)
  clear hs hn
  have h0 := MX.new hb1 hb1.size
  go_wp2_with fail
  refine (new_any w1).mono ?_
  rintro e w2 ⟨rfl, hw2⟩
  rw [← hw2] at h0
  clear hw2
  have hx2 : 0 + x.size ≤ 4398046511104 := by omega
  go_wp2_with fail
  refine (mxPush h0 s x (Fits.nones 0) hx2).mono ?_
  rintro e w3 ⟨rfl, h1, _⟩
  have st0 : St w w3 w1.heap.size 0 s x (stPush nones s x) := by
    refine ⟨h1, ((Fits.nones 0).push s x).mono (by omega), ?_, Nat.zero_le _⟩
    simp [stPush, HS.out, upd, Wy.push, nones, Wy.none]
  rw [HS.out]
  clear h0 h1 hx2 hb1
  have HX := Hid.mk hx
  clear hx
  obtain ⟨L, hL⟩ : ∃ L, L = x.size := ⟨_, rfl⟩
  have HL := Hid.mk hL
  clear hL
  go_wp2
  go_loopw [29] (fun i wr => ∃ (k : Nat) (f : Nat → Wy), k ≤ x.size ∧ i = .int .i64 k ∧ St w wr w1.heap.size k s x f) (fun i _ => x.size - (intOf i).toNat)
  case atStart => exact ⟨0, _, Nat.zero_le _, rfl, st0⟩
  case round =>
    obtain ⟨k, f, hk, rfl, st⟩ := hrel
    by_cases hlt : k < x.size
    · have HLT := Hid.mk hlt
      go_wp2_with fail
      refine (mxPump st.m s (st.fits.mono (by omega))).mono ?_
      rintro e w4 ⟨rfl, h4, _⟩
      go_wp2_with fail
      refine (mxTake h4 s n ((st.fits.pump s).mono (by omega))).mono ?_
      rintro e w5 ⟨rfl, h5, _⟩
      have st2 := st.next HS.out HN.out HLT.out h5
      clear h4 h5 st
      go_wp2
      go_roundw
      case rel => exact ⟨k + 1, _, HLT.out, by go_num, st2⟩
      case measure => have := HLT.out; simp [intOf]; omega
    · have hkx : x.size ≤ k := by omega
      obtain ⟨t1, t2⟩ := trace_full HS.out st.bs (Nat.le_trans hkx st.came)
      have T1 := Hid.mk t1
      have T2 := Hid.mk t2
      clear t1 t2 hkx
      go_wp2_with fail
      refine (mxTrace st.m s).mono ?_
      rintro e w4 ⟨rfl, n4, hw4⟩
      have m4 := st.m.drewN n4
      rw [← hw4] at m4
      rw [T1.out]
      clear hw4 st
      go_wp2_with fail
      refine (mxLeft m4 s).mono ?_
      rintro e w5 ⟨rfl, n5, hw5⟩
      have m5 := m4.drewN n5
      rw [← hw5] at m5
      rw [T2.out]
      clear hw5 m4
      go_wp2
      go_ret
      exact ⟨rfl, m5.below⟩

set_option maxRecDepth 100000 in
theorem lifted (os : Os) (started : os.Started) (H : Type) (enc : TypeId × Value → H) :
    ReturnsInHanded {} Try.checked os 5 .any (Rows.wireEmptiesSpec.pre6 enc Try.prog Try.f5 Rows.wireEmptiesRow.domain false) (Rows.wireEmptiesSpec.post enc Try.prog Try.f5 false true false false) := by
  refine returnsInHanded_of_change (C := Try.checked) own started (by kernel_rfl) Try.func5
    (ChangeSpec.witness6 (enc := enc) (C := Try.checked) false ⟨#[], #[.string .empty, .int .i64 0, .int .i64 0], []⟩ 8 (by kernel_rfl) (by kernel_rfl) (by kernel_rfl) (by kernel_rfl)) ?_
  intro W base args ds gs before hval0 hW hcnd _
  have hval : ∀ (j : Nat) t v, Try.f5.params[j]? = some t → args[j]? = some v → Value.okWide Try.prog W .any base t v := hval0
  have hW' := hW
  obtain ⟨p, q, hA0, hV, rfl, hfz, hnd⟩ := hW
  have hA : DataW.TrodAll enc Try.prog W 0 (fun _ => true) true Try.f5.params.toList args.toList ds p := hA0
  rw [Try.params5] at hA hval
  obtain ⟨v0, vs0, d0, ds0, p0, q0, hargs, rfl, rfl, h0, r0⟩ := trodAll_cons hA
  obtain ⟨v1, vs1, d1, ds1, p1, q1, rfl, rfl, rfl, h1, r1⟩ := trodAll_cons r0
  obtain ⟨v2, vs2, d2, ds2, p2, q2, rfl, rfl, rfl, h2, r2⟩ := trodAll_cons r1
  obtain ⟨rfl, rfl, rfl⟩ := trodAll_nil r2
  obtain rfl : args = #[v0, v1, v2] := by cases args; simp_all
  obtain ⟨rfl, rfl⟩ := trodVars_none hV
  obtain ⟨s0, rfl, rfl, rfl, w0⟩ := open_string Try.underlying9 (hval 0 9 v0 rfl rfl) h0
  obtain ⟨a1, rfl, rfl, rfl, w1⟩ := open_int Try.underlying3 (hval 1 3 v1 rfl rfl) h1
  obtain ⟨a2, rfl, rfl, rfl, w2⟩ := open_int Try.underlying3 (hval 2 3 v2 rfl rfl) h2
  clear hA0 hval0
  refine (walk s0 a1 a2 W w1 w2).mono fun e W' ⟨he, bel⟩ => ?_
  subst he
  exact ⟨_, rfl, _, _, _, [], _, [], hW', trodAll_mk1 (shut_bool Try.underlying4 _), (trodAll_cons_mk (shut_string Try.underlying9 w0) (trodAll_cons_mk (shut_int Try.underlying3 w1) (trodAll_cons_mk (shut_int Try.underlying3 w2) trodAll_mk0))), rfl, bel.frame _, fun h => by cases h⟩

set_option maxRecDepth 100000 in
theorem over : Rows.wireEmptiesRow.holds Try.pinned (OpenSpec.ofChange Rows.wireEmptiesSpec) :=
  OpenClaim.holds_of_wide 5 Try.f5 rfl rfl rfl rfl rfl rfl rfl ⟨rfl, rfl, rfl, rfl, rfl⟩ rfl rfl rfl rfl rfl (by kernel_rfl) Try.func5 (by kernel_rfl)
    (of_decide_eq_true (by kernel_rfl)) (by unfold Func.isWrapper; first | (rw [if_pos (by decide +kernel)]; kernel_rfl) | (rw [if_neg (by decide +kernel)]; exact ⟨rfl, rfl⟩))
    (fun os started H enc _ => lifted os started H enc)

end Go.Proofs.Ytjiljencdhbchaa.wireEmpties

namespace Go.Proofs.Ytjiljencdhbchaa
/-- The statement. -/
theorem wireEmpties_holds : Rows.WireEmptiesSaid := wireEmpties.over
#print axioms wireEmpties_holds
end Go.Proofs.Ytjiljencdhbchaa
