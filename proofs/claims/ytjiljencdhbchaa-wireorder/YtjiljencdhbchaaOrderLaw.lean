/-
  WireOrder: for every script of calls and every socket the law returns true: without a crash All is all that was pushed to a socket, in order, and Trace its beginning, that never shrinks. No condition.
-/
import Derived.Test.YtjiljencdhbchaaXScript
namespace Go.Proofs.Ytjiljencdhbchaa.wireOrder
open Go.ChangeShapes Go.WideShapes Go.ChangeAt Go.RowKit Go.Deep
open Go.ChangeMaps (open_string shut_string)

/-- The law's state within a round: so much came at least. -/
structure St (w wr : World) (b N : Nat) (s : Int) (f : Nat → Wy) (all : ByteArray) (C : Nat) : Prop where
  m : MX w.heap.size w wr b f
  fits : Fits N f
  bs : (f s.toNat).bs = all.data.toList
  came : C ≤ (f s.toNat).came

section
variable {w wr wr2 : World} {b N M : Nat} {s : Int} {f : Nat → Wy} {all : ByteArray} {C : Nat}

theorem St.size (h : St w wr b N s f all C) (hs : isS s = true) : all.size ≤ N := by
  obtain ⟨i, hi, rfl⟩ := isS_yes hs
  have h1 := h.fits i hi
  have h2 := h.bs
  simp only [Int.toNat_natCast] at h2
  rw [h2] at h1
  simpa using h1

theorem St.grow (h : St w wr b N s f all C) (o : Obj) : St w (wr.alloc o) b N s f all C := ⟨h.m.alloc o, h.fits, h.bs, h.came⟩

theorem St.push_at (h : St w wr b N s f all C) (hs : isS s = true) (x : ByteArray) (hm : MX w.heap.size w wr2 b (stPush f s x)) (hM : M = N + x.size) : St w wr2 b M s (stPush f s x) (all ++ x) C :=
  ⟨hm, by rw [hM]; exact h.fits.push s x, by rw [stPush_at hs]; simp [Wy.push, h.bs], by rw [stPush_at hs]; exact h.came⟩
theorem St.push_far (h : St w wr b N s f all C) (hs : isS s = true) {t : Int} (ht : t ≠ s) (x : ByteArray) (hm : MX w.heap.size w wr2 b (stPush f t x)) (hM : M = N + x.size) : St w wr2 b M s (stPush f t x) all C :=
  ⟨hm, by rw [hM]; exact h.fits.push t x, by rw [stPush_far hs ht]; exact h.bs, by rw [stPush_far hs ht]; exact h.came⟩
theorem St.pump (h : St w wr b N s f all C) (hs : isS s = true) (t : Int) (hm : MX w.heap.size w wr2 b (stPump f t)) (hM : N ≤ M) : St w wr2 b M s (stPump f t) all C := by
  by_cases ht : t = s
  · subst ht
    exact ⟨hm, (h.fits.pump t).mono hM, by rw [stPump_at hs]; exact h.bs, by rw [stPump_at hs]; exact h.came⟩
  · exact ⟨hm, (h.fits.pump t).mono hM, by rw [stPump_far hs ht]; exact h.bs, by rw [stPump_far hs ht]; exact h.came⟩
theorem St.take (h : St w wr b N s f all C) (hs : isS s = true) (t n : Int) (hm : MX w.heap.size w wr2 b (stTake f t n)) (hM : N ≤ M) : St w wr2 b M s (stTake f t n) all C := by
  by_cases ht : t = s
  · subst ht
    exact ⟨hm, (h.fits.take t n).mono hM, by rw [stTake_at hs]; exact h.bs, by rw [stTake_at hs]; exact Nat.le_trans h.came (Nat.le_add_right _ _)⟩
  · exact ⟨hm, (h.fits.take t n).mono hM, by rw [stTake_far hs ht]; exact h.bs, by rw [stTake_far hs ht]; exact h.came⟩
theorem St.idle (h : St w wr b N s f all C) (hM : N ≤ M) : St w wr b M s f all C := ⟨h.m, h.fits.mono hM, h.bs, h.came⟩

/-- What is told of the socket. -/
theorem St.told (h : St w wr b N s f all C) (hs : isS s = true) : anAll f s = all ∧ ∃ t : ByteArray, anTrace f s = t ∧ C ≤ t.size ∧ t.size ≤ all.size ∧ t = all.extract 0 t.size ∧ t.size = (f s.toNat).came := by
  have hg := h.m.good
  have hsn : s.toNat < 3 := by simp [isS] at hs; omega
  have hcl := (hg _ hsn).cl
  have hb := h.bs
  have hl : (f s.toNat).bs.length = all.size := by rw [hb]; simp
  have hsz : (anTrace f s).size = (f s.toNat).came := by
    unfold anTrace Wy.trace
    rw [hs, if_pos rfl]
    show ((f s.toNat).bs.take (f s.toNat).came).toArray.size = _
    simp
    omega
  refine ⟨?_, anTrace f s, rfl, by rw [hsz]; exact h.came, by omega, ?_, hsz⟩
  · unfold anAll Wy.all
    rw [hs, if_pos rfl, hb]
  · rw [hsz]
    unfold anTrace Wy.trace
    rw [hs, if_pos rfl, hb]
    apply ByteArray.ext
    rw [ByteArray.data_extract]
    apply Array.toList_inj.1
    simp

theorem St.next {t : ByteArray} (h : St w wr b N s f all C) (ht : t.size = (f s.toNat).came) (n : Nat) : St w (wr.drewN n) b N s f all t.size := ⟨h.m.drewN n, h.fits, h.bs, by rw [ht]; exact Nat.le_refl _⟩

end

set_option maxHeartbeats 1600000 in
set_option maxRecDepth 100000 in
theorem walk (a : Option Addr) (len cap : Nat) (cs : List Cl) (s : Int) (w : World) (ha : IsCls w a len cap cs) (_hs : (Lit.int .i64 s).wf = true) :
    Calls Try.prog 4 #[.slice a len cap, .int .i64 s] w fun e w' => e = .returned (.bool true) ∧ Below w.heap.size w w' := by
  clear _hs
  go_enter Try.func4, Try.ntmps4
  go_wp2_with fail
  refine (alive_any w).mono ?_
  rintro e w1 ⟨rfl, hb1⟩
  go_wp2_with fail
  refine (great_any (ha.carry hb1)).mono ?_
  rintro e w2 ⟨hb2, rfl | ⟨rfl, hl80, hsum⟩⟩
  · go_wp2
    go_ret
    exact ⟨rfl, hb1.trans (hb2.mono hb1.size)⟩
  have hb := hb1.trans (hb2.mono hb1.size)
  clear hb1 hb2
  go_wp2_with fail
  refine (is_any s _).mono ?_
  rintro e w3 ⟨rfl, hw3⟩
  rw [hw3]
  clear hw3 w3
  cases hs : isS s with
  | false =>
    clear hs
    go_wp2
    go_ret
    exact ⟨rfl, hb⟩
  | true =>
  have HS := Hid.mk hs
  have HSUM := Hid.mk hsum
  clear hs hsum
  have h0 := MX.new hb hb.size
  go_wp2_with fail
  refine (new_any w2).mono ?_
  rintro e w3 ⟨rfl, hw3⟩
  rw [← hw3] at h0
  clear hw3
  have st0 : St w w3 w2.heap.size (sumS (cs.take 0)) s nones ⟨#[]⟩ 0 := ⟨h0, Fits.nones _, rfl, Nat.zero_le _⟩
  clear h0 hb
  go_wp2
  go_loopw [6, 7, 9, 10, 23] (fun al cm _ _ i wr => ∃ (k : Nat) (f : Nat → Wy) (all : ByteArray) (C : Nat), k ≤ len ∧ i = .int .i64 k ∧ al = .string all ∧ cm = .int .i64 C ∧ St w wr w2.heap.size (sumS (cs.take k)) s f all C) (fun _ _ _ _ i _ => len - (intOf i).toNat)
  case atStart => exact ⟨0, _, _, 0, Nat.zero_le _, rfl, rfl, rfl, st0⟩
  case round =>
    clear st0
    obtain ⟨k, f, all, C, hk, rfl, rfl, rfl, st⟩ := hrel
    by_cases hlt : k < len
    · obtain ⟨g, off, rfl, hat⟩ := ha.at_ k hlt
      obtain ⟨c, c0, c1, c2, c3, hsz, hsu⟩ := round_facts hat ha.1 st.m.below HSUM.out k hlt
      have HK := Hid.mk hlt
      have hbx := Box.new wr c
      obtain ⟨q, so, x, n⟩ := c
      dsimp only at c0 c1 c2 c3 hsz hsu hbx
      have stA := st.grow (.cells #[.int .i64 q, .int .i64 so, .string x, .int .i64 n] 34)
      have hall := stA.size HS.out
      obtain ⟨N, hN⟩ : ∃ N, N = sumS (cs.take k) := ⟨_, rfl⟩
      obtain ⟨M, hM⟩ : ∃ M, M = sumS (cs.take (k + 1)) := ⟨_, rfl⟩
      rw [← hN] at hsz hsu stA hall
      rw [← hM] at hsu
      have HSU := Hid.mk hsu
      have HM := Hid.mk hM
      have hNM : N ≤ M := by omega
      clear hat st hsu hM hN
      by_cases q0 : q = 0
      · have z0 : (q == 0) = true := by simp [q0]
        clear q0
        have hfit : N + x.size ≤ 4398046511104 := by omega
        go_wp2_with fail
        refine (mxPush stA.m so x stA.fits hfit).mono ?_
        rintro e w4 ⟨rfl, h4, hk4⟩
        have bx := hbx.keep hk4
        have d1 := bx.c1
        have d2 := bx.c2
        dsimp only at d1 d2
        clear hbx hk4 c0 c1 c2 c3
        by_cases hso : so = s
        · obtain rfl : s = so := hso.symm
          clear hso
          have st4 := stA.push_at HS.out x h4 HSU.out
          have hcat : all.size + x.size ≤ 4096 := by omega
          obtain ⟨all2, hall2⟩ : ∃ all2, all ++ x = all2 := ⟨_, rfl⟩
          rw [hall2] at st4
          clear stA h4 bx
          obtain ⟨ea, t, et, k1, k2, k3, k4⟩ := st4.told HS.out
          have EA := Hid.mk ea
          have ET := Hid.mk et
          have K4 := Hid.mk k4
          have y1 : ¬ (t.size : Int) < (C : Int) := by omega
          have y2 : ¬ t.size < C := by omega
          have y3 : (all2).extract 0 t.size = t := k3.symm
          have y4 : (t.size : Int) ≤ ((all2).size : Int) := by omega
          clear ea et k1 k2 k3 k4
          go_wp2_with fail
          refine (mxTrace st4.m s).mono ?_
          rintro e w5 ⟨rfl, n5, hw5⟩
          have st5 := st4.next K4.out n5
          rw [← hw5] at st5
          rw [ET.out]
          clear hw5 st4
          go_wp2_with fail
          refine (mxAll st5.m s).mono ?_
          rintro e w6 ⟨rfl, n6, hw6⟩
          have st6 := st5.next K4.out n6
          rw [← hw6] at st6
          rw [EA.out]
          clear hw6 st5
          rw [HM.out] at st6
          go_wp2
          go_roundw
          case rel => exact ⟨k + 1, _, _, _, HK.out, by go_num, rfl, rfl, st6⟩
          case measure => have := HK.out; simp [intOf]; omega
        · have z1 : (so == s) = false := by simp [hso]
          have st4 := stA.push_far HS.out hso x h4 HSU.out
          clear stA h4 bx hso
          obtain ⟨ea, t, et, k1, k2, k3, k4⟩ := st4.told HS.out
          have EA := Hid.mk ea
          have ET := Hid.mk et
          have K4 := Hid.mk k4
          have y1 : ¬ (t.size : Int) < (C : Int) := by omega
          have y2 : ¬ t.size < C := by omega
          have y3 : (all).extract 0 t.size = t := k3.symm
          have y4 : (t.size : Int) ≤ ((all).size : Int) := by omega
          clear ea et k1 k2 k3 k4
          go_wp2_with fail
          refine (mxTrace st4.m s).mono ?_
          rintro e w5 ⟨rfl, n5, hw5⟩
          have st5 := st4.next K4.out n5
          rw [← hw5] at st5
          rw [ET.out]
          clear hw5 st4
          go_wp2_with fail
          refine (mxAll st5.m s).mono ?_
          rintro e w6 ⟨rfl, n6, hw6⟩
          have st6 := st5.next K4.out n6
          rw [← hw6] at st6
          rw [EA.out]
          clear hw6 st5
          rw [HM.out] at st6
          go_wp2
          go_roundw
          case rel => exact ⟨k + 1, _, _, _, HK.out, by go_num, rfl, rfl, st6⟩
          case measure => have := HK.out; simp [intOf]; omega
      have z0 : (q == 0) = false := by simp [q0]
      by_cases q1 : q = 1
      · have z1 : (q == 1) = true := by simp [q1]
        clear q0 q1
        go_wp2_with fail
        refine (mxPump stA.m so (stA.fits.mono (by omega))).mono ?_
        rintro e w4 ⟨rfl, h4, _⟩
        have st4 := stA.pump HS.out so h4 hNM
        clear stA h4 hbx c0 c1 c2 c3
        obtain ⟨ea, t, et, k1, k2, k3, k4⟩ := st4.told HS.out
        have EA := Hid.mk ea
        have ET := Hid.mk et
        have K4 := Hid.mk k4
        have y1 : ¬ (t.size : Int) < (C : Int) := by omega
        have y2 : ¬ t.size < C := by omega
        have y3 : (all).extract 0 t.size = t := k3.symm
        have y4 : (t.size : Int) ≤ ((all).size : Int) := by omega
        clear ea et k1 k2 k3 k4
        go_wp2_with fail
        refine (mxTrace st4.m s).mono ?_
        rintro e w5 ⟨rfl, n5, hw5⟩
        have st5 := st4.next K4.out n5
        rw [← hw5] at st5
        rw [ET.out]
        clear hw5 st4
        go_wp2_with fail
        refine (mxAll st5.m s).mono ?_
        rintro e w6 ⟨rfl, n6, hw6⟩
        have st6 := st5.next K4.out n6
        rw [← hw6] at st6
        rw [EA.out]
        clear hw6 st5
        rw [HM.out] at st6
        go_wp2
        go_roundw
        case rel => exact ⟨k + 1, _, _, _, HK.out, by go_num, rfl, rfl, st6⟩
        case measure => have := HK.out; simp [intOf]; omega
      have z1 : (q == 1) = false := by simp [q1]
      by_cases q2 : q = 2
      · have z2 : (q == 2) = true := by simp [q2]
        clear q0 q1 q2
        go_wp2_with fail
        refine (mxTake stA.m so n (stA.fits.mono (by omega))).mono ?_
        rintro e w4 ⟨rfl, h4, _⟩
        have st4 := stA.take HS.out so n h4 hNM
        clear stA h4 hbx c0 c1 c2 c3
        obtain ⟨ea, t, et, k1, k2, k3, k4⟩ := st4.told HS.out
        have EA := Hid.mk ea
        have ET := Hid.mk et
        have K4 := Hid.mk k4
        have y1 : ¬ (t.size : Int) < (C : Int) := by omega
        have y2 : ¬ t.size < C := by omega
        have y3 : (all).extract 0 t.size = t := k3.symm
        have y4 : (t.size : Int) ≤ ((all).size : Int) := by omega
        clear ea et k1 k2 k3 k4
        go_wp2_with fail
        refine (mxTrace st4.m s).mono ?_
        rintro e w5 ⟨rfl, n5, hw5⟩
        have st5 := st4.next K4.out n5
        rw [← hw5] at st5
        rw [ET.out]
        clear hw5 st4
        go_wp2_with fail
        refine (mxAll st5.m s).mono ?_
        rintro e w6 ⟨rfl, n6, hw6⟩
        have st6 := st5.next K4.out n6
        rw [← hw6] at st6
        rw [EA.out]
        clear hw6 st5
        rw [HM.out] at st6
        go_wp2
        go_roundw
        case rel => exact ⟨k + 1, _, _, _, HK.out, by go_num, rfl, rfl, st6⟩
        case measure => have := HK.out; simp [intOf]; omega
      have z2 : (q == 2) = false := by simp [q2]
      · clear q0 q1 q2
        have st4 := stA.idle hNM
        clear stA hbx
        obtain ⟨ea, t, et, k1, k2, k3, k4⟩ := st4.told HS.out
        have EA := Hid.mk ea
        have ET := Hid.mk et
        have K4 := Hid.mk k4
        have y1 : ¬ (t.size : Int) < (C : Int) := by omega
        have y2 : ¬ t.size < C := by omega
        have y3 : (all).extract 0 t.size = t := k3.symm
        have y4 : (t.size : Int) ≤ ((all).size : Int) := by omega
        clear ea et k1 k2 k3 k4
        go_wp2_with fail
        refine (mxTrace st4.m s).mono ?_
        rintro e w5 ⟨rfl, n5, hw5⟩
        have st5 := st4.next K4.out n5
        rw [← hw5] at st5
        rw [ET.out]
        clear hw5 st4
        go_wp2_with fail
        refine (mxAll st5.m s).mono ?_
        rintro e w6 ⟨rfl, n6, hw6⟩
        have st6 := st5.next K4.out n6
        rw [← hw6] at st6
        rw [EA.out]
        clear hw6 st5
        rw [HM.out] at st6
        go_wp2
        go_roundw
        case rel => exact ⟨k + 1, _, _, _, HK.out, by go_num, rfl, rfl, st6⟩
        case measure => have := HK.out; simp [intOf]; omega
    · have hbl := Hid.mk st.m.below
      clear st
      go_wp2
      go_ret
      exact ⟨rfl, hbl.out⟩

set_option maxRecDepth 100000 in
theorem lifted (os : Os) (started : os.Started) (H : Type) (enc : TypeId × Value → H) :
    ReturnsInHanded {} Try.checked os 4 .any (Rows.wireOrderSpec.pre6 enc Try.prog Try.f4 Rows.wireOrderRow.domain false) (Rows.wireOrderSpec.post enc Try.prog Try.f4 false true false false) := by
  refine returnsInHanded_of_change (C := Try.checked) own started (by kernel_rfl) Try.func4
    (ChangeSpec.witness6 (enc := enc) (C := Try.checked) false ⟨#[], #[.slice none 0 0, .int .i64 0], []⟩ 8 (by kernel_rfl) (by kernel_rfl) (by kernel_rfl) (by kernel_rfl)) ?_
  intro W base args ds gs before hval0 hW hcnd _
  have hval : ∀ (j : Nat) t v, Try.f4.params[j]? = some t → args[j]? = some v → Value.okWide Try.prog W .any base t v := hval0
  have hW' := hW
  obtain ⟨p, q, hA0, hV, rfl, hfz, hnd⟩ := hW
  have hA : DataW.TrodAll enc Try.prog W 0 (fun _ => true) true Try.f4.params.toList args.toList ds p := hA0
  rw [Try.params4] at hA hval
  obtain ⟨v0, vs0, d0, ds0, p0, q0, hargs, rfl, rfl, h0, r0⟩ := trodAll_cons hA
  obtain ⟨v1, vs1, d1, ds1, p1, q1, rfl, rfl, rfl, h1, r1⟩ := trodAll_cons r0
  obtain ⟨rfl, rfl, rfl⟩ := trodAll_nil r1
  obtain rfl : args = #[v0, v1] := by cases args; simp_all
  obtain ⟨rfl, rfl⟩ := trodVars_none hV
  obtain ⟨a0, len0, cap0, rfl⟩ := okWide_slice Try.underlying22 (hval 0 22 v0 rfl rfl)
  have k0 := h0
  have lt0 : ∀ x ∈ p0, x.block < W.heap.size := by obtain ⟨m, hm⟩ := k0; exact DataW.trod_lt m _ _ _ hm
  obtain ⟨ts0, w0⟩ : ∃ ts, IsCls W a0 len0 cap0 ts := by
    obtain ⟨fuel, hf⟩ := h0
    exact open_cls hf
  obtain ⟨a1, rfl, rfl, rfl, w1⟩ := open_int Try.underlying3 (hval 1 3 v1 rfl rfl) h1
  clear hA0 hval0
  refine (walk a0 len0 cap0 ts0 a1 W w0 w1).mono fun e W' ⟨he, bel⟩ => ?_
  subst he
  exact ⟨_, rfl, _, _, _, [], _, [], hW', trodAll_mk1 (shut_bool Try.underlying4 _), (trodAll_cons_mk (Below.trod laidOut (by kernel_rfl) (of_decide_eq_true (by kernel_rfl)) k0 bel lt0) (trodAll_cons_mk (shut_int Try.underlying3 w1) trodAll_mk0)), rfl, bel.frame _, fun h => by cases h⟩

set_option maxRecDepth 100000 in
theorem over : Rows.wireOrderRow.holds Try.pinned (OpenSpec.ofChange Rows.wireOrderSpec) :=
  OpenClaim.holds_of_wide 4 Try.f4 rfl rfl rfl rfl rfl rfl rfl ⟨rfl, rfl, rfl, rfl, rfl⟩ rfl rfl rfl rfl rfl (by kernel_rfl) Try.func4 (by kernel_rfl)
    (of_decide_eq_true (by kernel_rfl)) (by unfold Func.isWrapper; first | (rw [if_pos (by decide +kernel)]; kernel_rfl) | (rw [if_neg (by decide +kernel)]; exact ⟨rfl, rfl⟩))
    (fun os started H enc _ => lifted os started H enc)

end Go.Proofs.Ytjiljencdhbchaa.wireOrder

namespace Go.Proofs.Ytjiljencdhbchaa
/-- The statement. -/
theorem wireOrder_holds : Rows.WireOrderSaid := wireOrder.over
#print axioms wireOrder_holds
end Go.Proofs.Ytjiljencdhbchaa
