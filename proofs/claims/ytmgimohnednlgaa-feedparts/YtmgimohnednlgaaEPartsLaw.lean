/-
  FeedParts: for every list of texts, every socket and every place the law returns true: what arrives in parts, or at once, is the same, as far as there is room for all. No condition.
-/
import Derived.Test.YtmgimohnednlgaaETexts
import Derived.Test.YtmgimohnednlgaaETwo
namespace Go.Proofs.Ytmgimohnednlgaa.feedParts
open Go.ChangeShapes Go.WideShapes Go.ChangeAt Go.RowKit Go.Deep Go.Proofs.Ytmgimohnednlgaa.Cel Go.Proofs.Ytmgimohnednlgaa.Fee
open Go.ChangeMaps (open_string shut_string)

/-- All texts, one behind the other. -/
def joinB : List ByteArray → List UInt8
  | [] => []
  | s :: r => s.data.toList ++ joinB r

theorem joinB_append (a b : List ByteArray) : joinB (a ++ b) = joinB a ++ joinB b := by
  induction a with
  | nil => rfl
  | cons s r ih => simp [joinB, ih]
theorem joinB_succ (l : List ByteArray) (k : Nat) (h : k < l.length) : joinB (l.take (k + 1)) = joinB (l.take k) ++ l[k].data.toList := by
  rw [List.take_succ_eq_append_getElem h, joinB_append]
  simp [joinB]
theorem joinB_le (l : List ByteArray) (k : Nat) : (joinB (l.take k)).length ≤ (joinB l).length := by
  have h := congrArg List.length (congrArg joinB (List.take_append_drop k l))
  rw [joinB_append, List.length_append] at h
  omega

/-- A feed at whose socket these bytes arrived. -/
def got (s : Int) (l : List UInt8) : Nat → Sk := upd nones s.toNat ⟨l, 0, 0⟩

theorem got_nil (s : Int) : got s [] = nones := by
  funext j
  unfold got upd nones Sk.none
  split <;> rfl
theorem got_more {s : Int} (hs : isS s = true) (l : List UInt8) (x : ByteArray) (h : l.length + x.size ≤ 64) : stArr (got s l) s x = got s (l ++ x.data.toList) ∧ anArr (got s l) s x = 0 := by
  have hf : fitS (got s l) s x = true := by
    unfold fitS got
    rw [upd_same]
    simpa using h
  unfold stArr anArr
  rw [hs, hf]
  refine ⟨?_, rfl⟩
  simp only [Bool.and_self, if_true]
  funext j
  unfold got upd
  simp only [if_true]
  split <;> rfl
theorem got_text {s : Int} (hs : isS s = true) (b : ByteArray) : anText (got s b.data.toList) s = b ∧ anLeft (got s b.data.toList) s = b := by
  unfold anText anLeft got
  rw [hs, upd_same]
  constructor <;> simp [Sk.text, Sk.left]

set_option maxHeartbeats 1600000 in
set_option maxRecDepth 100000 in
theorem walk (a : Option Addr) (len cap : Nat) (ts : List ByteArray) (s p : Int) (w : World) (ha : IsTexts w a len cap ts) (_hs : (Lit.int .i64 s).wf = true) (_hp : (Lit.int .i64 p).wf = true) :
    Calls Try.prog 5 #[.slice a len cap, .int .i64 s, .int .i64 p] w fun e w' => e = .returned (.bool true) ∧ Below w.heap.size w w' := by
  clear _hs _hp
  go_enter Try.func5, Try.ntmps5
  go_wp2_with fail
  refine (alive_any w).mono ?_
  rintro e w1 ⟨rfl, hb⟩
  by_cases h30 : 30 < len
  · go_wp2
    go_ret
    exact ⟨rfl, hb⟩
  go_wp2_with fail
  refine (is_any s _).mono ?_
  rintro e w2 ⟨rfl, hw2⟩
  rw [hw2]
  clear hw2 w2
  cases hs : isS s with
  | false =>
    clear hs
    go_wp2
    go_ret
    exact ⟨rfl, hb⟩
  | true =>
  have HS := Hid.mk hs
  have HA := Hid.mk ha
  have HB := Hid.mk hb
  clear hs hb ha
  go_wp2
  go_loopw [7, 9, 26] (fun al _ i wr => ∃ (k : Nat) (b : ByteArray), k ≤ len ∧ i = .int .i64 k ∧ al = .string b ∧ b.data.toList = joinB (ts.take k) ∧ b.size ≤ 64 ∧ wr = w1) (fun _ _ i _ => len - (intOf i).toNat)
  case atStart => exact ⟨0, ⟨#[]⟩, Nat.zero_le _, rfl, rfl, rfl, by decide, rfl⟩
  case round =>
    obtain ⟨k, b, hk, rfl, rfl, hj, hbz, hwr⟩ := hrel
    rw [hwr]
    clear hwr wr
    by_cases hlt : k < len
    · obtain ⟨g, off, rfl, hkt, hc⟩ := HA.out.at_ HB.out k hlt
      have hst := joinB_succ ts k hkt
      obtain ⟨x, hx⟩ : ∃ x, x = ts[k] := ⟨_, rfl⟩
      rw [← hx] at hst hc
      rw [← hj] at hst
      have HST := Hid.mk hst
      have HK := Hid.mk hlt
      clear hx hst hj hkt
      by_cases hx : 64 < x.size
      · go_wp2
        go_ret
        exact ⟨rfl, HB.out⟩
      have hx2 : x.size ≤ 64 := by omega
      have hcat : b.size + x.size ≤ 4096 := by omega
      by_cases hbx : 64 < b.size + x.size
      · have hbx2 : (64 : Int) < (b.size : Int) + (x.size : Int) := by omega
        have hbx3 : 64 < (b ++ x).size := by rw [ByteArray.size_append]; exact hbx
        have hbx4 : (64 : Int) < ((b ++ x).size : Int) := by omega
        go_wp2
        go_ret
        exact ⟨rfl, HB.out⟩
      · have hbx2 : ¬ (64 : Int) < (b.size : Int) + (x.size : Int) := by omega
        have hbx3 : ¬ 64 < (b ++ x).size := by rw [ByteArray.size_append]; exact hbx
        have hbx4 : ¬ (64 : Int) < ((b ++ x).size : Int) := by omega
        have hbx5 : (b ++ x).size ≤ 64 := by omega
        go_wp2
        go_roundw
        case rel => exact ⟨k + 1, b ++ x, HK.out, by go_num, rfl, by rw [HST.out]; simp, hbx5, by first | rfl | trivial⟩
        case measure => have := HK.out; simp [intOf]; omega
    · have hkl : k = len := by omega
      have hall : b.data.toList = joinB ts := by
        rw [hj, hkl, List.take_of_length_le (by rw [HA.out.1]; exact Nat.le_refl _)]
      have HJ := Hid.mk hall
      clear hj hall hkl
      have hnk : ¬ (k : Int) < (len : Int) := by omega
      clear hlt
      go_wp2_with fail
      refine (mfNew HB.out HB.out.size).mono ?_
      rintro e w2 ⟨rfl, h2, _, _⟩
      obtain ⟨na, hna⟩ : ∃ na, na = w1.heap.size + 2 := ⟨_, rfl⟩
      rw [← hna] at h2
      rw [← hna]
      clear hna
      go_wp2_with fail
      refine (mfNew2 h2).mono ?_
      rintro e w3 ⟨rfl, h3, _⟩
      obtain ⟨nb, hnb⟩ : ∃ nb, nb = w2.heap.size + 2 := ⟨_, rfl⟩
      rw [← hnb] at h3
      rw [← hnb]
      clear hnb h2
      have st0 : Two w.heap.size w w3 na (got s (joinB (ts.take 0))) nb nones := by
        have e : got s (joinB (ts.take 0)) = nones := got_nil s
        rw [e]
        exact h3
      have HBZ := Hid.mk hbz
      clear h3 hbz
      go_wp2
      go_loopw [13, 44] (fun _ i wr => ∃ q : Nat, q ≤ len ∧ i = .int .i64 q ∧ Two w.heap.size w wr na (got s (joinB (ts.take q))) nb nones) (fun _ i _ => len - (intOf i).toNat)
      case atStart => exact ⟨0, Nat.zero_le _, rfl, st0⟩
      case round =>
        clear st0
        obtain ⟨q, hq, rfl, st⟩ := hrel
        by_cases hlq : q < len
        · obtain ⟨g, off, rfl, hkt, hc⟩ := HA.out.at_ st.below q hlq
          have hst := joinB_succ ts q hkt
          have hle := joinB_le ts (q + 1)
          rw [← HJ.out] at hle
          obtain ⟨x, hx⟩ : ∃ x, x = ts[q] := ⟨_, rfl⟩
          rw [← hx] at hst hc
          rw [hst, List.length_append] at hle
          have hbz := HBZ.out
          have hb2 : b.data.toList.length = b.size := by simp
          have hx2 : x.data.toList.length = x.size := by simp
          have hm := got_more HS.out (joinB (ts.take q)) x (by omega)
          rw [← hst] at hm
          have HM := Hid.mk hm
          have HK := Hid.mk hlq
          have hxs : x.size ≤ 4398046511104 := by omega
          clear hx hst hle hm hbz hb2 hx2 hkt
          go_wp2_with fail
          refine (twoArr st s x hxs).mono ?_
          rintro e w4 ⟨rfl, h4, _⟩
          rw [HM.out.1] at h4
          rw [HM.out.2]
          have H4 := Hid.mk h4
          clear st h4 hc
          go_wp2
          go_roundw
          case rel => exact ⟨q + 1, HK.out, by go_num, H4.out⟩
          case measure => have := HK.out; simp [intOf]; omega
        · have hkl : q = len := by omega
          have hnq : ¬ (q : Int) < (len : Int) := by omega
          rw [show joinB (ts.take q) = b.data.toList by rw [HJ.out, hkl, List.take_of_length_le (by rw [HA.out.1]; exact Nat.le_refl _)]] at st
          have hbz := HBZ.out
          have hm := got_more HS.out [] b (by simpa using hbz)
          rw [got_nil, List.nil_append] at hm
          have HM := Hid.mk hm
          have HT := Hid.mk (got_text HS.out b)
          have hbs : b.size ≤ 4398046511104 := by omega
          have hsy := st.symm
          clear hm hkl hlq st hbz
          go_wp2_with fail
          refine (twoArr hsy s b hbs).mono ?_
          rintro e w4 ⟨rfl, h4, _⟩
          rw [HM.out.1] at h4
          rw [HM.out.2]
          clear hsy
          go_wp2_with fail
          refine (mfText h4.symm.mf s).mono ?_
          rintro e w5 ⟨rfl, n5, hw5⟩
          have h5 := h4.drewN n5
          rw [← hw5] at h5
          rw [HT.out.1]
          clear hw5 h4
          go_wp2_with fail
          refine (mfLeft h5.mf s).mono ?_
          rintro e w6 ⟨rfl, n6, hw6⟩
          have h6 := h5.drewN n6
          rw [← hw6] at h6
          rw [HT.out.2]
          clear hw6 h5
          go_wp2_with fail
          refine (mfAt h6.symm.mf s p).mono ?_
          rintro e w7 ⟨rfl, n7, hw7⟩
          have h7 := h6.drewN n7
          rw [← hw7] at h7
          clear hw7 h6
          go_wp2_with fail
          refine (mfAt h7.mf s p).mono ?_
          rintro e w8 ⟨rfl, n8, hw8⟩
          have h8 := Hid.mk (h7.drewN n8).below
          rw [← hw8] at h8
          clear hw8 h7
          go_wp2
          go_ret
          exact ⟨rfl, h8.out⟩

set_option maxRecDepth 100000 in
theorem lifted (os : Os) (started : os.Started) (H : Type) (enc : TypeId × Value → H) :
    ReturnsInHanded {} Try.checked os 5 .any (Rows.feedPartsSpec.pre6 enc Try.prog Try.f5 Rows.feedPartsRow.domain false) (Rows.feedPartsSpec.post enc Try.prog Try.f5 false true false false) := by
  refine returnsInHanded_of_change (C := Try.checked) own started (by kernel_rfl) Try.func5
    (ChangeSpec.witness6 (enc := enc) (C := Try.checked) false ⟨#[], #[.slice none 0 0, .int .i64 0, .int .i64 0], []⟩ 8 (by kernel_rfl) (by kernel_rfl) (by kernel_rfl) (by kernel_rfl)) ?_
  intro W base args ds gs before hval0 hW hcnd _
  have hval : ∀ (j : Nat) t v, Try.f5.params[j]? = some t → args[j]? = some v → Value.okWide Try.prog W .any base t v := hval0
  have hW' := hW
  obtain ⟨p, q, hA0, hV, rfl, hfz, hnd⟩ := hW
  have hA : DataW.TrodAll enc Try.prog W 0 (fun _ => true) true Try.f5.params.toList args.toList ds p := hA0
  rw [Try.params5] at hA hval
  obtain ⟨v0, vs0, d0, ds0, p0, q0, hargs, rfl, rfl, h0, r0⟩ := trodAll_cons hA
  obtain ⟨v1, vs1, d1, ds1, p1, q1, rfl, rfl, rfl, h1, r1⟩ := trodAll_cons r0
  obtain ⟨v2, vs2, d2, ds2, p2, q2, rfl, rfl, rfl, h2, r2⟩ := trodAll_cons r1
  obtain ⟨rfl, rfl, rfl⟩ := trodAll_nil r2
  obtain rfl : args = #[v0, v1, v2] := by cases args; simp_all
  obtain ⟨rfl, rfl⟩ := trodVars_none hV
  obtain ⟨a0, len0, cap0, rfl⟩ := okWide_slice Try.underlying43 (hval 0 43 v0 rfl rfl)
  have k0 := h0
  have lt0 : ∀ x ∈ p0, x.block < W.heap.size := by obtain ⟨m, hm⟩ := k0; exact DataW.trod_lt m _ _ _ hm
  obtain ⟨ts0, w0⟩ : ∃ ts, IsTexts W a0 len0 cap0 ts := by
    obtain ⟨fuel, hf⟩ := h0
    exact open_texts hf
  obtain ⟨a1, rfl, rfl, rfl, w1⟩ := open_int Try.underlying3 (hval 1 3 v1 rfl rfl) h1
  obtain ⟨a2, rfl, rfl, rfl, w2⟩ := open_int Try.underlying3 (hval 2 3 v2 rfl rfl) h2
  clear hA0 hval0
  refine (walk a0 len0 cap0 ts0 a1 a2 W w0 w1 w2).mono fun e W' ⟨he, bel⟩ => ?_
  subst he
  exact ⟨_, rfl, _, _, _, [], _, [], hW', trodAll_mk1 (shut_bool Try.underlying4 _), (trodAll_cons_mk (Below.trod laidOut (by kernel_rfl) (of_decide_eq_true (by kernel_rfl)) k0 bel lt0) (trodAll_cons_mk (shut_int Try.underlying3 w1) (trodAll_cons_mk (shut_int Try.underlying3 w2) trodAll_mk0))), rfl, bel.frame _, fun h => by cases h⟩

set_option maxRecDepth 100000 in
theorem over : Rows.feedPartsRow.holds Try.pinned (OpenSpec.ofChange Rows.feedPartsSpec) :=
  OpenClaim.holds_of_wide 5 Try.f5 rfl rfl rfl rfl rfl rfl rfl ⟨rfl, rfl, rfl, rfl, rfl⟩ rfl rfl rfl rfl rfl (by kernel_rfl) Try.func5 (by kernel_rfl)
    (of_decide_eq_true (by kernel_rfl)) (by unfold Func.isWrapper; first | (rw [if_pos (by decide +kernel)]; kernel_rfl) | (rw [if_neg (by decide +kernel)]; exact ⟨rfl, rfl⟩))
    (fun os started H enc _ => lifted os started H enc)

end Go.Proofs.Ytmgimohnednlgaa.feedParts

namespace Go.Proofs.Ytmgimohnednlgaa
/-- The statement. -/
theorem feedParts_holds : Rows.FeedPartsSaid := feedParts.over
#print axioms feedParts_holds
end Go.Proofs.Ytmgimohnednlgaa
