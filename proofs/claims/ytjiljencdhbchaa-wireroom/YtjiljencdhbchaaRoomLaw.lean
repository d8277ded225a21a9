/-
  WireRoom: for every text, socket and number of pumps the law returns true: no more than eight bytes are on their way, and that many come there without another pump. No condition.
-/
import Derived.Test.YtjiljencdhbchaaXScript
namespace Go.Proofs.Ytjiljencdhbchaa.wireRoom
open Go.ChangeShapes Go.WideShapes Go.ChangeAt Go.RowKit Go.Deep
open Go.ChangeMaps (open_string shut_string)

/-- The law's state behind k pumps. -/
structure St (w wr : World) (b k : Nat) (s : Int) (x : ByteArray) (f : Nat → Wy) (G : Nat) : Prop where
  m : MX w.heap.size w wr b f
  fits : Fits 1024 f
  y : f s.toNat = ⟨x.data.toList, 0, G⟩
  g0 : k = 0 → G = 0
  g1 : 0 < k → G = min 8 x.size

theorem St.le {w wr : World} {b k : Nat} {s : Int} {x : ByteArray} {f : Nat → Wy} {G : Nat} (h : St w wr b k s x f G) : G ≤ 8 ∧ G ≤ x.size := by
  by_cases hk : k = 0
  · have := h.g0 hk; omega
  · have := h.g1 (by omega); omega

theorem St.next {w wr wr2 : World} {b k : Nat} {s : Int} {x : ByteArray} {f : Nat → Wy} {G : Nat} (h : St w wr b k s x f G) (hs : isS s = true) (hm : MX w.heap.size w wr2 b (stPump f s)) :
    St w wr2 b (k + 1) s x (stPump f s) (G + anPump f s) := by
  have hle := h.le
  have e : G + anPump f s = min 8 x.size := by
    unfold anPump
    rw [hs, if_pos rfl, h.y]
    simp [Wy.pump]
    omega
  refine ⟨hm, h.fits.pump _, ?_, fun e => by omega, fun _ => e⟩
  rw [e]
  simp [stPump, hs, upd, h.y, Wy.pump]

theorem extract_take (x : ByteArray) (G : Nat) : (⟨(x.data.toList.take G).toArray⟩ : ByteArray) = x.extract 0 G := by
  apply ByteArray.ext
  rw [ByteArray.data_extract]
  apply Array.toList_inj.1
  simp

theorem ends {w wr : World} {b k : Nat} {s : Int} {x : ByteArray} {f : Nat → Wy} {G : Nat} (h : St w wr b k s x f G) (hs : isS s = true) :
    (anTake f s 1048576).size = G ∧ anTrace (stTake f s 1048576) s = x.extract 0 G := by
  have hle := h.le
  have e : (f s.toNat).take 1048576 = ⟨x.data.toList, G, G⟩ := by
    rw [h.y]
    simp [Wy.take]
    omega
  constructor
  · unfold anTake
    rw [hs, if_pos rfl, e, h.y]
    show ((x.data.toList.take G).drop 0).toArray.size = G
    simp
    omega
  · unfold anTrace stTake
    rw [hs, if_pos rfl, if_pos rfl, upd_same, e]
    exact extract_take x G

set_option maxHeartbeats 3200000 in
set_option maxRecDepth 100000 in
theorem walk (x : ByteArray) (s p : Int) (w : World) (_hs : (Lit.int .i64 s).wf = true) (_hn : (Lit.int .i64 p).wf = true) :
    Calls Try.prog 7 #[.string x, .int .i64 s, .int .i64 p] w fun e w' => e = .returned (.bool true) ∧ Below w.heap.size w w' := by
  clear _hs _hn
  go_enter Try.func7, Try.ntmps7
  go_wp2_with fail
  refine (alive_any w).mono ?_
  rintro e w1 ⟨rfl, hb1⟩
  by_cases hx : 1024 < x.size
  · go_wp2
    go_ret
    exact ⟨rfl, hb1⟩
  go_wp2_with fail
  refine (is_any s _).mono ?_
  rintro e w2 ⟨rfl, hw2⟩
  rw [hw2]
  clear hw2 w2
  cases hs : isS s with
  | false =>
    clear hs
    go_wp2
    go_ret
    exact ⟨rfl, hb1⟩
  | true =>
  by_cases hp0 : p < 0
  · clear hs
    go_wp2
    go_ret
    exact ⟨rfl, hb1⟩
  by_cases hp1 : 20 < p
  · clear hs
    go_wp2
    go_ret
    exact ⟨rfl, hb1⟩
  obtain ⟨pn, hpn⟩ : ∃ pn : Nat, p = (pn : Int) := ⟨p.toNat, by omega⟩
  subst hpn
  have HS := Hid.mk hs
  have h20 : pn ≤ 20 := by omega
  clear hs hp0
  have h0 := MX.new hb1 hb1.size
  go_wp2_with fail
  refine (new_any w1).mono ?_
  rintro e w2 ⟨rfl, hw2⟩
  rw [← hw2] at h0
  clear hw2
  have hx2 : 0 + x.size ≤ 4398046511104 := by omega
  go_wp2_with fail
  refine (mxPush h0 s x (Fits.nones 0) hx2).mono ?_
  rintro e w3 ⟨rfl, h1, _⟩
  have st0 : St w w3 w1.heap.size 0 s x (stPush nones s x) 0 := by
    refine ⟨h1, ((Fits.nones 0).push s x).mono (by omega), ?_, fun _ => rfl, fun h => by omega⟩
    simp [stPush, HS.out, upd, Wy.push, nones, Wy.none]
  rw [HS.out]
  clear h0 h1 hx2 hb1
  have HX := Hid.mk hx
  clear hx
  go_wp2
  go_loopw [8, 34] (fun n i wr => ∃ (k : Nat) (f : Nat → Wy) (G : Nat), k ≤ pn ∧ i = .int .i64 k ∧ n = .int .i64 G ∧ St w wr w1.heap.size k s x f G) (fun _ i _ => pn - (intOf i).toNat)
  case atStart => exact ⟨0, _, 0, Nat.zero_le _, rfl, rfl, st0⟩
  case round =>
    obtain ⟨k, f, G, hk, rfl, rfl, st⟩ := hrel
    have hle := st.le
    by_cases hlt : k < pn
    · have HLT := Hid.mk hlt
      go_wp2_with fail
      refine (mxPump st.m s (st.fits.mono (by omega))).mono ?_
      rintro e w4 ⟨rfl, h4, _⟩
      have st2 := st.next HS.out h4
      have hle2 := st2.le
      obtain ⟨A, hA⟩ : ∃ A, A = anPump f s := ⟨_, rfl⟩
      rw [← hA] at st2 hle2 ⊢
      clear h4 st hA
      go_wp2
      go_roundw
      case rel => exact ⟨k + 1, _, G + A, HLT.out, by go_num, by go_num, st2⟩
      case measure => have := HLT.out; simp [intOf]; omega
    · have hkp : k = pn := by omega
      have HKP := Hid.mk hkp
      obtain ⟨t1, t2⟩ := ends st HS.out
      have T1 := Hid.mk t1
      have T2 := Hid.mk t2
      have hle := st.le
      have HG0 := Hid.mk st.g0
      have HG1 := Hid.mk st.g1
      clear t1 t2 hkp
      go_wp2_with fail
      refine (mxTake st.m s 1048576 (st.fits.mono (by omega))).mono ?_
      rintro e w4 ⟨rfl, h4, _⟩
      obtain ⟨got, hgot⟩ : ∃ got, got = anTake f s 1048576 := ⟨_, rfl⟩
      obtain ⟨f4, hf4⟩ : ∃ f4, f4 = stTake f s 1048576 := ⟨_, rfl⟩
      have hsz : (got.size : Int) = (G : Int) := by rw [hgot, T1.out]
      rw [← hf4] at h4
      rw [← hf4] at T2
      have q1 : (G : Int) ≤ (x.size : Int) := by omega
      have q0 : (0 : Int) ≤ (G : Int) := by omega
      have HT := Hid.mk (fun n => mxTrace (h4.drewN n) s)
      rw [T2.out] at HT
      rw [← hgot]
      clear T1 T2 hf4 hgot st
      by_cases hp : pn = 0
      · have hG : G = 0 := HG0.out (by rw [HKP.out]; exact hp)
        subst hG
        subst hp
        clear HG0 HG1 HKP
        go_wp2_with fail
        go_quiet ((go_at_call 19; exact Calls.quiet_of (HT.out _)))
        go_wp2
        go_ret
        exact ⟨rfl, (h4.drewN _).below⟩
      · have hG : G = min 8 x.size := HG1.out (by rw [HKP.out]; omega)
        have m1 : (if (8 : Int) < (x.size : Int) then (8 : Int) else (x.size : Int)) = (G : Int) := by split <;> omega
        have z1 : ((pn : Int) == 0) = false := by simp; omega
        have z2 : (0 : Int) < (pn : Int) := by omega
        have z3 : 0 < pn := by omega
        have m2 : (if 8 < x.size then (8 : Int) else (x.size : Int)) = (G : Int) := by split <;> omega
        clear HG0 HG1 HKP hG hp hk hlt hle
        go_wp2_with fail
        go_quiet ((go_at_call 19; exact Calls.quiet_of (HT.out _)))
        go_wp2
        go_ret
        exact ⟨rfl, (h4.drewN _).below⟩

set_option maxRecDepth 100000 in
theorem lifted (os : Os) (started : os.Started) (H : Type) (enc : TypeId × Value → H) :
    ReturnsInHanded {} Try.checked os 7 .any (Rows.wireRoomSpec.pre6 enc Try.prog Try.f7 Rows.wireRoomRow.domain false) (Rows.wireRoomSpec.post enc Try.prog Try.f7 false true false false) := by
  refine returnsInHanded_of_change (C := Try.checked) own started (by kernel_rfl) Try.func7
    (ChangeSpec.witness6 (enc := enc) (C := Try.checked) false ⟨#[], #[.string .empty, .int .i64 0, .int .i64 0], []⟩ 8 (by kernel_rfl) (by kernel_rfl) (by kernel_rfl) (by kernel_rfl)) ?_
  intro W base args ds gs before hval0 hW hcnd _
  have hval : ∀ (j : Nat) t v, Try.f7.params[j]? = some t → args[j]? = some v → Value.okWide Try.prog W .any base t v := hval0
  have hW' := hW
  obtain ⟨p, q, hA0, hV, rfl, hfz, hnd⟩ := hW
  have hA : DataW.TrodAll enc Try.prog W 0 (fun _ => true) true Try.f7.params.toList args.toList ds p := hA0
  rw [Try.params7] at hA hval
  obtain ⟨v0, vs0, d0, ds0, p0, q0, hargs, rfl, rfl, h0, r0⟩ := trodAll_cons hA
  obtain ⟨v1, vs1, d1, ds1, p1, q1, rfl, rfl, rfl, h1, r1⟩ := trodAll_cons r0
  obtain ⟨v2, vs2, d2, ds2, p2, q2, rfl, rfl, rfl, h2, r2⟩ := trodAll_cons r1
  obtain ⟨rfl, rfl, rfl⟩ := trodAll_nil r2
  obtain rfl : args = #[v0, v1, v2] := by cases args; simp_all
  obtain ⟨rfl, rfl⟩ := trodVars_none hV
  obtain ⟨s0, rfl, rfl, rfl, w0⟩ := open_string Try.underlying9 (hval 0 9 v0 rfl rfl) h0
  obtain ⟨a1, rfl, rfl, rfl, w1⟩ := open_int Try.underlying3 (hval 1 3 v1 rfl rfl) h1
  obtain ⟨a2, rfl, rfl, rfl, w2⟩ := open_int Try.underlying3 (hval 2 3 v2 rfl rfl) h2
  clear hA0 hval0
  refine (walk s0 a1 a2 W w1 w2).mono fun e W' ⟨he, bel⟩ => ?_
  subst he
  exact ⟨_, rfl, _, _, _, [], _, [], hW', trodAll_mk1 (shut_bool Try.underlying4 _), (trodAll_cons_mk (shut_string Try.underlying9 w0) (trodAll_cons_mk (shut_int Try.underlying3 w1) (trodAll_cons_mk (shut_int Try.underlying3 w2) trodAll_mk0))), rfl, bel.frame _, fun h => by cases h⟩

set_option maxRecDepth 100000 in
theorem over : Rows.wireRoomRow.holds Try.pinned (OpenSpec.ofChange Rows.wireRoomSpec) :=
  OpenClaim.holds_of_wide 7 Try.f7 rfl rfl rfl rfl rfl rfl rfl ⟨rfl, rfl, rfl, rfl, rfl⟩ rfl rfl rfl rfl rfl (by kernel_rfl) Try.func7 (by kernel_rfl)
    (of_decide_eq_true (by kernel_rfl)) (by unfold Func.isWrapper; first | (rw [if_pos (by decide +kernel)]; kernel_rfl) | (rw [if_neg (by decide +kernel)]; exact ⟨rfl, rfl⟩))
    (fun os started H enc _ => lifted os started H enc)

end Go.Proofs.Ytjiljencdhbchaa.wireRoom

namespace Go.Proofs.Ytjiljencdhbchaa
/-- The statement. -/
theorem wireRoom_holds : Rows.WireRoomSaid := wireRoom.over
#print axioms wireRoom_holds
end Go.Proofs.Ytjiljencdhbchaa
