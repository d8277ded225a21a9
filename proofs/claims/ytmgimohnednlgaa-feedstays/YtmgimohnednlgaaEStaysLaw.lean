/-
  FeedStays: for every script of calls and every socket the law returns true: Text never shrinks, nor changes; places never go back, nor beyond what arrived. No condition.
-/
import Derived.Test.YtmgimohnednlgaaEScript
namespace Go.Proofs.Ytmgimohnednlgaa.feedStays
open Go.ChangeShapes Go.WideShapes Go.ChangeAt Go.RowKit Go.Deep Go.Proofs.Ytmgimohnednlgaa.Cel Go.Proofs.Ytmgimohnednlgaa.Fee
open Go.ChangeMaps (open_string shut_string)

/-- What a call leaves of a socket: a text that begins as it did, and a place no less. -/
theorem does_at {f : Nat → Sk} (i : Nat) (c : Cl) : (∃ l, (stDo c f i).bs = (f i).bs ++ l) ∧ (f i).place ≤ (stDo c f i).place := by
  unfold stDo
  split
  · unfold stArr
    split
    · unfold upd
      split
      · next e => subst e; exact ⟨⟨c.s.data.toList, rfl⟩, Nat.le_refl _⟩
      · exact ⟨⟨[], by simp⟩, Nat.le_refl _⟩
    · exact ⟨⟨[], by simp⟩, Nat.le_refl _⟩
  · unfold stTake
    split
    · next h =>
      unfold upd
      split
      · next e =>
        subst e
        refine ⟨⟨[], by simp [Sk.took]⟩, ?_⟩
        simp only [anTake, Bool.and_eq_true] at h
        have h2 := h.2
        simp [okT] at h2
        simp only [Sk.took]
        omega
      · exact ⟨⟨[], by simp⟩, Nat.le_refl _⟩
    · exact ⟨⟨[], by simp⟩, Nat.le_refl _⟩

theorem told {f : Nat → Sk} {s : Int} (hs : isS s = true) (c : Cl) (hg : ∀ i, i < 3 → (stDo c f i).Good) :
    ∃ t C t2 C2, anText f s = t ∧ anPlace f s = C ∧ anText (stDo c f) s = t2 ∧ anPlace (stDo c f) s = C2 ∧ t.size ≤ t2.size ∧ t2.extract 0 t.size = t ∧ C ≤ C2 ∧ C2 ≤ (t2.size : Int) := by
  obtain ⟨i, hi, rfl⟩ := isS_yes hs
  obtain ⟨⟨l, hl⟩, hp⟩ := does_at (f := f) i c
  have hle := (hg i hi).le
  refine ⟨_, _, _, _, rfl, rfl, rfl, rfl, ?_⟩
  unfold anText anPlace
  rw [hs]
  simp only [if_true, Int.toNat_natCast]
  rw [Sk.text_size, Sk.text_size, hl, List.length_append]
  rw [hl, List.length_append] at hle
  refine ⟨by omega, ?_, by omega, by omega⟩
  unfold Sk.text
  rw [hl]
  apply ByteArray.ext
  rw [ByteArray.data_extract]
  apply Array.toList_inj.1
  simp

set_option maxHeartbeats 1600000 in
set_option maxRecDepth 100000 in
theorem walk (a : Option Addr) (len cap : Nat) (cs : List Cl) (s : Int) (w : World) (ha : IsCls w a len cap cs) (_hs : (Lit.int .i64 s).wf = true) :
    Calls Try.prog 4 #[.slice a len cap, .int .i64 s] w fun e w' => e = .returned (.bool true) ∧ Below w.heap.size w w' := by
  clear _hs
  go_enter Try.func4, Try.ntmps4
  go_wp2_with fail
  refine (alive_any w).mono ?_
  rintro e w1 ⟨rfl, hb⟩
  by_cases h60 : 60 < len
  · go_wp2
    go_ret
    exact ⟨rfl, hb⟩
  go_wp2_with fail
  refine (is_any s _).mono ?_
  rintro e w2 ⟨rfl, hw2⟩
  rw [hw2]
  clear hw2 w2
  cases hs : isS s with
  | false =>
    clear hs
    go_wp2
    go_ret
    exact ⟨rfl, hb⟩
  | true =>
  have HS := Hid.mk hs
  have HA := Hid.mk ha
  have HB := Hid.mk hb
  have hs0 : anText nones s = ⟨#[]⟩ := by unfold anText; rw [hs]; rfl
  have hp0 : anPlace nones s = 0 := by unfold anPlace; rw [hs]; rfl
  have HS0 := Hid.mk hs0
  have HP0 := Hid.mk hp0
  clear hs hb ha hs0 hp0
  go_wp2_with fail
  refine (mfNew HB.out HB.out.size).mono ?_
  rintro e w2 ⟨rfl, h2, _, _⟩
  obtain ⟨nb, hnb⟩ : ∃ nb, nb = w1.heap.size + 2 := ⟨_, rfl⟩
  rw [← hnb] at h2
  rw [← hnb]
  clear hnb
  go_wp2
  go_loopw [6, 7, 9, 10, 11, 12, 26] (fun al cm _ _ _ _ i wr => ∃ (k : Nat) (f : Nat → Sk), k ≤ len ∧ i = .int .i64 k ∧ al = .string (anText f s) ∧ cm = .int .i64 (anPlace f s) ∧ MF w.heap.size w wr nb f) (fun _ _ _ _ _ _ i _ => len - (intOf i).toNat)
  case atStart => exact ⟨0, nones, Nat.zero_le _, rfl, by rw [HS0.out], by rw [HP0.out], h2⟩
  case round =>
    clear h2
    obtain ⟨k, f, hk, rfl, rfl, rfl, st⟩ := hrel
    by_cases hlt : k < len
    · obtain ⟨g, off, rfl, c, c0, c1, c2, c3, c4⟩ := HA.out.at_ st.below k hlt
      have hbx := Box.new wr c
      have stA := st.alloc (.cells #[.int .i64 c.kind, .int .i64 c.sock, .string c.s, .int .i64 c.place, .int .i64 c.ver] 32)
      obtain ⟨W, hW⟩ : ∃ W, W = wr.alloc (.cells #[.int .i64 c.kind, .int .i64 c.sock, .string c.s, .int .i64 c.place, .int .i64 c.ver] 32) := ⟨_, rfl⟩
      have hT := fun hg => told (f := f) HS.out c hg
      obtain ⟨q, so, x, pl, vr⟩ := c
      dsimp only at c0 c1 c2 c3 c4 hbx stA hW
      have HK := Hid.mk hlt
      have HBX := Hid.mk hbx
      have HST := Hid.mk stA
      have HT := Hid.mk hT
      clear st hbx stA hT hW W
      by_cases hx : 100 < x.size
      · have hx2 : (100 : Int) < (x.size : Int) := by omega
        have hbl := Hid.mk HST.out.below
        go_wp2
        go_ret
        exact ⟨rfl, hbl.out⟩
      have hx2 : ¬ (100 : Int) < (x.size : Int) := by omega
      have hxs : x.size ≤ 4398046511104 := by omega
      by_cases q0 : q = 0
      · have z0 : (q == 0) = true := by simp [q0]
        have ed : stDo ⟨q, so, x, pl, vr⟩ f = stArr f so x := by simp [stDo, q0]
        have ED := Hid.mk ed
        clear q0 ed
        go_wp2_with fail
        refine (mfArr HST.out so x hxs).mono ?_
        rintro e w4 ⟨rfl, h4, _, _⟩
        rw [← ED.out] at h4
        obtain ⟨t, C, t2, C2, e1, e2, e3, e4, k1, k2, k3, k4⟩ := HT.out h4.good
        have H4 := Hid.mk h4
        have E3 := Hid.mk e3
        have E4 := Hid.mk e4
        rw [e1, e2]
        have y1 : ¬ (t2.size : Int) < (t.size : Int) := by omega
        have y2 : ¬ t2.size < t.size := by omega
        have y4 : (t.size : Int) ≤ (t2.size : Int) := by omega
        have y5 : ¬ C2 < C := by omega
        have y6 : ¬ (t2.size : Int) < C2 := by omega
        clear h4 e1 e2 e3 e4 k3 k4 c0 c1 c2 c3 c4 HT HST HBX
        go_wp2_with fail
        refine (mfText H4.out s).mono ?_
        rintro e w5 ⟨rfl, n5, hw5⟩
        have H5 := Hid.mk (H4.out.drewN n5)
        rw [← hw5] at H5
        rw [E3.out]
        clear hw5
        go_wp2_with fail
        refine (mfPlace H5.out s).mono ?_
        rintro e w6 ⟨rfl, n6, hw6⟩
        have H6 := Hid.mk (H5.out.drewN n6)
        rw [← hw6] at H6
        rw [E4.out]
        clear hw6
        go_wp2
        go_roundw
        case rel => exact ⟨k + 1, _, HK.out, by go_num, by rw [E3.out], by rw [E4.out], H6.out⟩
        case measure => have := HK.out; simp [intOf]; omega
      · have z0 : (q == 0) = false := by simp [q0]
        have ed : stDo ⟨q, so, x, pl, vr⟩ f = stTake f so pl vr := by simp [stDo, q0]
        have ED := Hid.mk ed
        clear q0 ed
        go_wp2_with fail
        refine (mfTake HST.out so pl vr).mono ?_
        rintro e w4 ⟨rfl, h4, _, _⟩
        rw [← ED.out] at h4
        obtain ⟨t, C, t2, C2, e1, e2, e3, e4, k1, k2, k3, k4⟩ := HT.out h4.good
        have H4 := Hid.mk h4
        have E3 := Hid.mk e3
        have E4 := Hid.mk e4
        rw [e1, e2]
        have y1 : ¬ (t2.size : Int) < (t.size : Int) := by omega
        have y2 : ¬ t2.size < t.size := by omega
        have y4 : (t.size : Int) ≤ (t2.size : Int) := by omega
        have y5 : ¬ C2 < C := by omega
        have y6 : ¬ (t2.size : Int) < C2 := by omega
        clear h4 e1 e2 e3 e4 k3 k4 c0 c1 c2 c3 c4 HT HST HBX
        go_wp2_with fail
        refine (mfText H4.out s).mono ?_
        rintro e w5 ⟨rfl, n5, hw5⟩
        have H5 := Hid.mk (H4.out.drewN n5)
        rw [← hw5] at H5
        rw [E3.out]
        clear hw5
        go_wp2_with fail
        refine (mfPlace H5.out s).mono ?_
        rintro e w6 ⟨rfl, n6, hw6⟩
        have H6 := Hid.mk (H5.out.drewN n6)
        rw [← hw6] at H6
        rw [E4.out]
        clear hw6
        go_wp2
        go_roundw
        case rel => exact ⟨k + 1, _, HK.out, by go_num, by rw [E3.out], by rw [E4.out], H6.out⟩
        case measure => have := HK.out; simp [intOf]; omega
    · have hbl := Hid.mk st.below
      clear st
      go_wp2
      go_ret
      exact ⟨rfl, hbl.out⟩

set_option maxRecDepth 100000 in
theorem lifted (os : Os) (started : os.Started) (H : Type) (enc : TypeId × Value → H) :
    ReturnsInHanded {} Try.checked os 4 .any (Rows.feedStaysSpec.pre6 enc Try.prog Try.f4 Rows.feedStaysRow.domain false) (Rows.feedStaysSpec.post enc Try.prog Try.f4 false true false false) := by
  refine returnsInHanded_of_change (C := Try.checked) own started (by kernel_rfl) Try.func4
    (ChangeSpec.witness6 (enc := enc) (C := Try.checked) false ⟨#[], #[.slice none 0 0, .int .i64 0], []⟩ 8 (by kernel_rfl) (by kernel_rfl) (by kernel_rfl) (by kernel_rfl)) ?_
  intro W base args ds gs before hval0 hW hcnd _
  have hval : ∀ (j : Nat) t v, Try.f4.params[j]? = some t → args[j]? = some v → Value.okWide Try.prog W .any base t v := hval0
  have hW' := hW
  obtain ⟨p, q, hA0, hV, rfl, hfz, hnd⟩ := hW
  have hA : DataW.TrodAll enc Try.prog W 0 (fun _ => true) true Try.f4.params.toList args.toList ds p := hA0
  rw [Try.params4] at hA hval
  obtain ⟨v0, vs0, d0, ds0, p0, q0, hargs, rfl, rfl, h0, r0⟩ := trodAll_cons hA
  obtain ⟨v1, vs1, d1, ds1, p1, q1, rfl, rfl, rfl, h1, r1⟩ := trodAll_cons r0
  obtain ⟨rfl, rfl, rfl⟩ := trodAll_nil r1
  obtain rfl : args = #[v0, v1] := by cases args; simp_all
  obtain ⟨rfl, rfl⟩ := trodVars_none hV
  obtain ⟨a0, len0, cap0, rfl⟩ := okWide_slice Try.underlying22 (hval 0 22 v0 rfl rfl)
  have k0 := h0
  have lt0 : ∀ x ∈ p0, x.block < W.heap.size := by obtain ⟨m, hm⟩ := k0; exact DataW.trod_lt m _ _ _ hm
  obtain ⟨ts0, w0⟩ : ∃ ts, IsCls W a0 len0 cap0 ts := by
    obtain ⟨fuel, hf⟩ := h0
    exact open_cls hf
  obtain ⟨a1, rfl, rfl, rfl, w1⟩ := open_int Try.underlying3 (hval 1 3 v1 rfl rfl) h1
  clear hA0 hval0
  refine (walk a0 len0 cap0 ts0 a1 W w0 w1).mono fun e W' ⟨he, bel⟩ => ?_
  subst he
  exact ⟨_, rfl, _, _, _, [], _, [], hW', trodAll_mk1 (shut_bool Try.underlying4 _), (trodAll_cons_mk (Below.trod laidOut (by kernel_rfl) (of_decide_eq_true (by kernel_rfl)) k0 bel lt0) (trodAll_cons_mk (shut_int Try.underlying3 w1) trodAll_mk0)), rfl, bel.frame _, fun h => by cases h⟩

set_option maxRecDepth 100000 in
theorem over : Rows.feedStaysRow.holds Try.pinned (OpenSpec.ofChange Rows.feedStaysSpec) :=
  OpenClaim.holds_of_wide 4 Try.f4 rfl rfl rfl rfl rfl rfl rfl ⟨rfl, rfl, rfl, rfl, rfl⟩ rfl rfl rfl rfl rfl (by kernel_rfl) Try.func4 (by kernel_rfl)
    (of_decide_eq_true (by kernel_rfl)) (by unfold Func.isWrapper; first | (rw [if_pos (by decide +kernel)]; kernel_rfl) | (rw [if_neg (by decide +kernel)]; exact ⟨rfl, rfl⟩))
    (fun os started H enc _ => lifted os started H enc)

end Go.Proofs.Ytmgimohnednlgaa.feedStays

namespace Go.Proofs.Ytmgimohnednlgaa
/-- The statement. -/
theorem feedStays_holds : Rows.FeedStaysSaid := feedStays.over
#print axioms feedStays_holds
end Go.Proofs.Ytmgimohnednlgaa
