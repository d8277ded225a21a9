/-
  DiskDoes: for every script and every number the law returns true: in every script each answer, what the areas have, and what of it is safe, are the document's; a nil disk. No condition.
-/
import Derived.Deep.CutRange
import Derived.Deep.CutBlock
import Derived.Test.YtofnnoghnmhlnaaDBoth
import Derived.Test.YtofnnoghnmhlnaaDNil
namespace Go.Proofs.Ytofnnoghnmhlnaa.diskDoes
open Go.ChangeShapes Go.WideShapes Go.ChangeAt Go.RowKit

set_option maxHeartbeats 6400000 in
set_option maxRecDepth 100000 in
theorem walk (a : Option Addr) (len cap : Nat) (cs : List Cl) (ot : Int) (w : World) (h : IsCls w a len cap cs) :
    Calls Try.prog 3 #[.slice a len cap, .int .i64 ot] w fun e w' => e = .returned (.bool true) ∧ Below w.heap.size w w' := by
  go_enter Try.func3, Try.ntmps3
  go_wp2_with fail
  refine (alive_any _).mono ?_
  rintro e w1 ⟨rfl, hb1⟩
  go_wp2_with fail
  refine (great_any (h.carry hb1)).mono ?_
  rintro e w2 ⟨hb2, rfl | ⟨rfl, h60, hsum⟩⟩
  · have hb := hb1.trans (hb2.mono hb1.size)
    go_wp2
    go_ret
    exact ⟨rfl, hb⟩
  have hb := hb1.trans (hb2.mono hb1.size)
  clear hb1 hb2
  go_wp2_with fail
  refine (new_any _).mono ?_
  rintro e w3 ⟨rfl, rfl⟩
  have hm := Mine.new hb hb.size
  obtain ⟨b, hbd⟩ : ∃ b, b = w2.heap.size := ⟨_, rfl⟩
  rw [← hbd] at hm ⊢
  obtain ⟨w3, hw3⟩ : ∃ w3, w3 = (w2.alloc (.cells #[.string ⟨#[]⟩, .string ⟨#[]⟩, .string ⟨#[]⟩, .string ⟨#[]⟩, .slice none 0 0] 52)) := ⟨_, rfl⟩
  rw [← hw3] at hm ⊢
  have hr := Ref.new w3
  have hap : Apart b (.slice none 0 0) w3.heap.size (.slice none 0 0) := hm.apart_new (Nat.le_refl _) (by simp [Value.ownBlock])
  have hB := Hid.mk (Both.mk (k := 0) (hm.alloc (.cells #[.slice none 0 0, .int .i64 0] 30)) hr hm.lo (by simp [Value.ownBlock]) hap (by simp))
  obtain ⟨m, hmd⟩ : ∃ m, m = w3.heap.size := ⟨_, rfl⟩
  rw [← hmd] at hB
  have HMD := Hid.mk hmd
  have HL := Hid.mk h.1
  have HS := Hid.mk hsum
  clear hbd hb hw3 hm hr hap hmd hsum
  go_wp2_with fail
  rw [← HMD.out]
  clear HMD
  go_loopw [8, 9, 10, 21] (fun _ _ _ i wr => ∃ (k : Nat) (v vm : Value) (dn ws : List Ch), k ≤ len ∧ i = .int .i64 k ∧ Both w wr b m k v vm dn ws) (fun _ _ _ i _ => len - (intOf i).toNat)
  case atStart => exact ⟨0, _, _, _, _, Nat.zero_le _, rfl, hB.out⟩
  case round =>
    obtain ⟨k, v, vm, dn, ws, hk, rfl, ht⟩ := hrel
    clear hB
    by_cases hlt : k < len
    · obtain ⟨g, off, rfl, hat⟩ := h.at_ k hlt
      obtain ⟨c, c0, c1, c2, c3, c4, hcs, -, -, -⟩ := round_facts hat HL.out ht.d.below HS.out k hlt
      have HK := Hid.mk hlt
      have hlen := ht.len
      obtain ⟨va, vcap, rfl⟩ := ht.r.slice
      have hA := ht.alloc (.cells #[.int .i64 c.kind, .int .i64 c.area, .string c.s, .int .i64 c.keep, .int .i64 c.part] 32)
      obtain ⟨q, ar', s, kp, pt⟩ := c
      dsimp only at c0 c1 c2 c3 c4 hcs hA
      obtain ⟨st, hst⟩ : ∃ st, st = step ⟨q, ar', s, kp, pt⟩ dn ws := ⟨_, rfl⟩
      have HST := Hid.mk hst
      have hsl := step_len ⟨q, ar', s, kp, pt⟩ dn ws
      rw [← hst] at hsl
      have HT := Hid.mk ht
      have hbw := ht.d.has.lt
      have HVW := Hid.mk ht.d.has.own_lt
      clear hat ht hst
      go_upto_block 2 with fail
      go_cut [9] from 25 to 58 (fun e wx => ∃ vm' : Value, e = .int .i64 st.e ∧ Half w wx b m v vm' dn ws st.dn st.ws ∧ Box wr.heap.size ⟨q, ar', s, kp, pt⟩ wx)
      case first =>
        have e0 := hA.r.c0
        have e1 := hA.r.c1
        have fz1 := hA.r.fz 1
        by_cases q0 : q = 0
        · have z0 : (q == 0) = true := by simp [q0]
          have hs0 : st = stepA ar' s dn ws := by rw [HST.out]; unfold step; rw [if_pos q0]
          have HS0 := Hid.mk hs0
          clear hs0 q0
          go_wp2_with fail
          refine (refA ar' s hA.r hA.d.has.fits (by omega) (by omega)).mono ?_
          rintro e w4 ⟨rfl, v4, h4, hw4⟩
          have hh := hA.turn h4 hw4
          have hbx := box_ref HT.out hw4
          rw [← HS0.out] at hh ⊢
          have HH := Hid.mk hh
          have HB := Hid.mk hbx
          clear hh hbx h4 hw4
          go_wp2
          go_meet
          case rel => exact ⟨v4, rfl, HH.out, HB.out⟩
        have z0 : (q == 0) = false := by simp [q0]
        by_cases q1 : q = 1
        · have z1 : (q == 1) = true := by simp [q1]
          have hs0 : st = stepR ar' dn ws := by rw [HST.out]; unfold step; rw [if_neg q0, if_pos q1]
          have HS0 := Hid.mk hs0
          clear hs0 q0 q1
          go_wp2_with fail
          refine (refR ar' hA.r (by omega)).mono ?_
          rintro e w4 ⟨rfl, v4, h4, hw4⟩
          have hh := hA.turn h4 hw4
          have hbx := box_ref HT.out hw4
          rw [← HS0.out] at hh ⊢
          have HH := Hid.mk hh
          have HB := Hid.mk hbx
          clear hh hbx h4 hw4
          go_wp2
          go_meet
          case rel => exact ⟨v4, rfl, HH.out, HB.out⟩
        have z1 : (q == 1) = false := by simp [q1]
        by_cases q2 : q = 2
        · have z2 : (q == 2) = true := by simp [q2]
          have hs0 : st = ⟨0, dn ++ ws, []⟩ := by rw [HST.out]; unfold step; rw [if_neg q0, if_neg q1, if_pos q2]
          have hw4 : Wrote m (.slice va (dn ++ ws).length vcap) (wr.alloc (.cells #[.int .i64 q, .int .i64 ar', .string s, .int .i64 kp, .int .i64 pt] 32)) (.slice va (dn ++ ws).length vcap) ((wr.alloc (.cells #[.int .i64 q, .int .i64 ar', .string s, .int .i64 kp, .int .i64 pt] 32)).setCell ⟨m, 1, none⟩ (.int .i64 ((dn ++ ws).length : Nat))) := (Wrote.refl _ _ _).set 1 _
          have hh := hA.turn hA.r.sync hw4
          have hbx := box_ref HT.out hw4
          have hs1 : st.dn = dn ++ ws := by rw [hs0]
          have hs2 : st.ws = [] := by rw [hs0]
          have hs3 : st.e = 0 := by rw [hs0]
          rw [← hs1] at hh
          have HH : Hid (Half w ((wr.alloc (.cells #[.int .i64 q, .int .i64 ar', .string s, .int .i64 kp, .int .i64 pt] 32)).setCell ⟨m, 1, none⟩ (.int .i64 ((dn ++ ws).length : Nat))) b m v (.slice va (dn ++ ws).length vcap) dn ws st.dn st.ws) := by
            rw [hs2]
            rw [hs1] at hh ⊢
            exact Hid.mk hh
          have HB := Hid.mk hbx
          have HS3 := Hid.mk hs3
          clear hh hbx hw4 hs0 hs1 hs2 hs3
          obtain ⟨N, hN⟩ : ∃ N, N = (dn ++ ws).length := ⟨_, rfl⟩
          rw [← hN] at e0 HH HB
          clear hN q0 q1 q2
          go_wp2
          go_meet
          case rel => exact ⟨_, by rw [HS3.out], HH.out, HB.out⟩
        have z2 : (q == 2) = false := by simp [q2]
        by_cases q3 : q = 3
        · have z3 : (q == 3) = true := by simp [q3]
          have hs0 : st = ⟨0, dn ++ kept ws kp pt, []⟩ := by rw [HST.out]; unfold step; rw [if_neg q0, if_neg q1, if_neg q2, if_pos q3]
          have hs1 : st.dn = dn ++ kept ws kp pt := by rw [hs0]
          have hs2 : st.ws = [] := by rw [hs0]
          have HS1 := Hid.mk hs1
          have HS2 := Hid.mk hs2
          have HS3 : Hid (st.e = 0) := Hid.mk (by rw [hs0])
          clear hs0 hs1 hs2 q0 q1 q2 q3
          go_wp2_with fail
          refine (refCrash_any hA.r (by omega) kp pt).mono ?_
          rintro e w4 ⟨rfl, v4, h4, hw4⟩
          have h5 : Ref w4 m v4 (st.dn ++ st.ws) st.dn.length := by
            rw [HS1.out, HS2.out, List.append_nil]
            exact h4
          have HH := Hid.mk (hA.turn h5 hw4)
          have HB := Hid.mk (box_ref HT.out hw4)
          clear h4 h5 hw4
          go_wp2
          go_meet
          case rel => exact ⟨v4, by rw [HS3.out], HH.out, HB.out⟩
        · have z3 : (q == 3) = false := by simp [q3]
          have hs0 : st = ⟨0, dn, ws⟩ := by rw [HST.out]; unfold step; rw [if_neg q0, if_neg q1, if_neg q2, if_neg q3]
          have HS0 := Hid.mk hs0
          have HH := Hid.mk hA.half
          clear hs0 q0 q1 q2 q3
          go_wp2
          go_meet
          case rel => exact ⟨_, by rw [HS0.out], by rw [HS0.out]; exact HH.out, heap_alloc_new wr _⟩
      case rest =>
        obtain ⟨vm', rfl, hh, hbx⟩ := hcut
        have hh2 := hh.drew
        obtain ⟨va2, vcap2, rfl⟩ := hh.r.slice
        obtain ⟨x0, x1, x2, x3, x4⟩ := hbx.cells
        have y0 := hh.r.c0
        have y1 := hh.r.c1
        obtain ⟨N, hN⟩ : ∃ N, N = (st.dn ++ st.ws).length := ⟨_, rfl⟩
        obtain ⟨SF, hSF⟩ : ∃ SF, SF = st.dn.length := ⟨_, rfl⟩
        obtain ⟨L, hL⟩ : ∃ L, L = st.ws.length := ⟨_, rfl⟩
        have hNL : N = SF + L := by rw [hN, hSF, hL, List.length_append]
        have hN60 : N ≤ 61 := by rw [hN]; omega
        have wsub : IntKind.i64.wrap ((N : Int) - (SF : Int)) = (L : Int) := by
          rw [hNL]
          simp [IntKind.wrap, IntKind.bits, IntKind.signed]
          omega
        dsimp only at x0 x1 x2 x3 x4
        rw [← hN] at y0
        rw [← hSF] at y1
        have HB := Hid.mk hbx
        have HSF := Hid.mk hSF
        have HN := Hid.mk hN
        have HL2 := Hid.mk hL
        have HNL := Hid.mk hNL
        have hlw : ws.length ≤ 1000000 := by rw [List.length_append] at hlen; omega
        have hd := does_any ⟨q, ar', s, kp, pt⟩ hh2.d.has (by dsimp only; omega) hlw
        rw [← HST.out] at hd
        have HD := Hid.mk hd
        have HH2 := Hid.mk hh2
        clear hh hh2 hbx hSF hN hL hNL hd hA c0 c1 c2 c3 c4 HT
        go_wp2_with fail
        go_region_held3 (fun wx => (wx.cell? ⟨wr.heap.size, 0, none⟩ = some (.int .i64 q) ∧ wx.cell? ⟨wr.heap.size, 1, none⟩ = some (.int .i64 ar') ∧ wx.cell? ⟨wr.heap.size, 2, none⟩ = some (.string s) ∧ wx.cell? ⟨wr.heap.size, 3, none⟩ = some (.int .i64 kp) ∧ wx.cell? ⟨wr.heap.size, 4, none⟩ = some (.int .i64 pt)) ∧
            wx.cell? ⟨m, 0, none⟩ = some (.slice va2 N vcap2) ∧ wx.cell? ⟨m, 1, none⟩ = some (.int .i64 SF))
          (first
            | exact hS5
            | exact ⟨⟨x0, x1, x2, x3, x4⟩, y0, y1⟩)
          ((first
            | (have := hwt; go_at_call 16; refine hwt.mono ?_; rintro e w6 ⟨rfl, rfl⟩)
            | (go_at_call 15; refine HD.out.mono ?_; rintro e w5 ⟨rfl, v5, h5, hw5⟩; have hb5 := HH2.out.turn (k := k + 1) h5 hw5 (by omega); have hbx5 := HB.out.keep hw5 (by omega) (fun e => Nat.lt_irrefl _ (HVW.out _ e)); have hr0 := hb5.r.c0; have hr1 := hb5.r.c1; rw [← HN.out] at hr0; rw [← HSF.out] at hr1; have hS5 := And.intro hbx5.cells (And.intro hr0 hr1); have hwt := waits_any hb5.d.has; rw [← HL2.out] at hwt; clear h5 hw5 hbx5 hr0 hr1)))
        have HB5 := Hid.mk hb5
        have HK1 : Hid (k + 1 ≤ len) := HK
        clear hb5 hS5 hwt HD HH2 HB x0 x1 x2 x3 x4 y0 y1 wsub HNL hcs hlw
        go_wp2_with fail
        go_loopw [10] (fun i wx => (i = .int .i64 0 ∨ i = .int .i64 1 ∨ i = .int .i64 2) ∧ Both w wx b m (k + 1) v5 (.slice va2 (st.dn ++ st.ws).length vcap2) st.dn st.ws) (fun i _ => 2 - (intOf i).toNat)
        case atStart => exact ⟨.inl rfl, HB5.out⟩
        case round =>
          obtain ⟨hi, hbx⟩ := hrel
          clear HB5
          rcases hi with rfl | rfl | rfl
          · have hbd := hbx.drew
            have z0 := hbx.r.c0
            have z1 := hbx.r.c1
            have t1 := hbd.text (by omega) false
            have t2 := hbd.text2 (by omega) false
            have r1 := read_yes false hbd.d.has
            have r2 := safe_yes false hbd.d.has
            rw [← HN.out] at z0 t1
            rw [← HSF.out] at z1 t2
            have T1 := Hid.mk t1
            have T2 := Hid.mk t2
            have R1 := Hid.mk r1
            have R2 := Hid.mk r2
            have HBD := Hid.mk hbd
            clear hbx hbd t1 t2 r1 r2
            go_wp2_with fail
            go_region_held3 (fun wy => wy.cell? ⟨m, 0, none⟩ = some (.slice va2 N vcap2) ∧ wy.cell? ⟨m, 1, none⟩ = some (.int .i64 SF))
              (exact ⟨z0, z1⟩)
              ((first
                | (have := m3; go_at_call 18; refine T2.out.mono ?_; rintro e w9 ⟨rfl, rfl⟩; have m4 := Hid.mk trivial)
                | (have := m2; go_at_call 19; refine R2.out.mono ?_; rintro e w9 ⟨rfl, rfl⟩; have m3 := Hid.mk trivial)
                | (have := m1; go_at_call 18; refine T1.out.mono ?_; rintro e w9 ⟨rfl, rfl⟩; have m2 := Hid.mk trivial)
                | (go_at_call 17; refine R1.out.mono ?_; rintro e w9 ⟨rfl, rfl⟩; have m1 := Hid.mk trivial)))
            clear z0 z1 T1 T2 R1 R2 m1 m2 m3 m4
            go_wp2
            go_roundw
            case rel => exact ⟨.inr (.inl rfl), HBD.out⟩
            case measure => simp [intOf]
          · have hbd := hbx.drew
            have z0 := hbx.r.c0
            have z1 := hbx.r.c1
            have t1 := hbd.text (by omega) true
            have t2 := hbd.text2 (by omega) true
            have r1 := read_yes true hbd.d.has
            have r2 := safe_yes true hbd.d.has
            rw [← HN.out] at z0 t1
            rw [← HSF.out] at z1 t2
            have T1 := Hid.mk t1
            have T2 := Hid.mk t2
            have R1 := Hid.mk r1
            have R2 := Hid.mk r2
            have HBD := Hid.mk hbd
            clear hbx hbd t1 t2 r1 r2
            go_wp2_with fail
            go_region_held3 (fun wy => wy.cell? ⟨m, 0, none⟩ = some (.slice va2 N vcap2) ∧ wy.cell? ⟨m, 1, none⟩ = some (.int .i64 SF))
              (exact ⟨z0, z1⟩)
              ((first
                | (have := m3; go_at_call 18; refine T2.out.mono ?_; rintro e w9 ⟨rfl, rfl⟩; have m4 := Hid.mk trivial)
                | (have := m2; go_at_call 19; refine R2.out.mono ?_; rintro e w9 ⟨rfl, rfl⟩; have m3 := Hid.mk trivial)
                | (have := m1; go_at_call 18; refine T1.out.mono ?_; rintro e w9 ⟨rfl, rfl⟩; have m2 := Hid.mk trivial)
                | (go_at_call 17; refine R1.out.mono ?_; rintro e w9 ⟨rfl, rfl⟩; have m1 := Hid.mk trivial)))
            clear z0 z1 T1 T2 R1 R2 m1 m2 m3 m4
            go_wp2
            go_roundw
            case rel => exact ⟨.inr (.inr rfl), HBD.out⟩
            case measure => simp [intOf]
          · have HBX := Hid.mk hbx
            clear hbx
            go_wp2
            go_roundw
            case rel => exact ⟨k + 1, _, _, _, _, HK1.out, by go_num, HBX.out⟩
            case measure =>
              have := HK1.out
              simp [intOf]
              omega
    · have HB := Hid.mk ht.d.below
      have ej : (⟨#[]⟩ : ByteArray) ++ (⟨#[]⟩ : ByteArray) = ⟨#[]⟩ := by decide +kernel
      clear ht
      by_cases o0 : ot = 0
      · have z0 : (ot != 0) = false := by simp [o0]
        clear o0
        go_wp2_with fail
        refine (nil_sync _).mono ?_
        rintro e w10 ⟨rfl, hw10⟩
        rw [hw10]
        clear hw10
        go_wp2_with fail
        refine (nil_crash 1 1 _).mono ?_
        rintro e w11 ⟨rfl, hw11⟩
        rw [hw11]
        clear hw11
        go_wp2_with fail
        refine (nil_append 0 _ _).mono ?_
        rintro e w12 ⟨rfl, hw12⟩
        rw [hw12]
        clear hw12
        go_wp2_with fail
        refine (nil_reset 0 _).mono ?_
        rintro e w13 ⟨rfl, hw13⟩
        rw [hw13]
        clear hw13
        go_wp2_with fail
        refine (nil_read 0 _).mono ?_
        rintro e w14 ⟨rfl, hw14⟩
        rw [hw14]
        clear hw14
        go_wp2_with fail
        refine (nil_safe 0 _).mono ?_
        rintro e w15 ⟨rfl, hw15⟩
        rw [hw15]
        clear hw15
        go_wp2_with fail
        refine (nil_waits _).mono ?_
        rintro e w16 ⟨rfl, hw16⟩
        rw [hw16]
        clear hw16
        go_wp2_with fail
        refine (nil_copy _).mono ?_
        rintro e w17 ⟨rfl, hw17⟩
        rw [hw17]
        clear hw17
        go_wp2
        go_ret
        exact ⟨rfl, HB.out⟩
      have z0 : (ot != 0) = true := by simp [o0]
      by_cases o1 : ot = 1
      · have z1 : (ot != 1) = false := by simp [o1]
        clear o0 o1
        go_wp2_with fail
        refine (nil_sync _).mono ?_
        rintro e w10 ⟨rfl, hw10⟩
        rw [hw10]
        clear hw10
        go_wp2_with fail
        refine (nil_crash 1 1 _).mono ?_
        rintro e w11 ⟨rfl, hw11⟩
        rw [hw11]
        clear hw11
        go_wp2_with fail
        refine (nil_append 0 _ _).mono ?_
        rintro e w12 ⟨rfl, hw12⟩
        rw [hw12]
        clear hw12
        go_wp2_with fail
        refine (nil_reset 0 _).mono ?_
        rintro e w13 ⟨rfl, hw13⟩
        rw [hw13]
        clear hw13
        go_wp2_with fail
        refine (nil_read 0 _).mono ?_
        rintro e w14 ⟨rfl, hw14⟩
        rw [hw14]
        clear hw14
        go_wp2_with fail
        refine (nil_safe 0 _).mono ?_
        rintro e w15 ⟨rfl, hw15⟩
        rw [hw15]
        clear hw15
        go_wp2_with fail
        refine (nil_waits _).mono ?_
        rintro e w16 ⟨rfl, hw16⟩
        rw [hw16]
        clear hw16
        go_wp2_with fail
        refine (nil_copy _).mono ?_
        rintro e w17 ⟨rfl, hw17⟩
        rw [hw17]
        clear hw17
        go_wp2
        go_ret
        exact ⟨rfl, HB.out⟩
      have z1 : (ot != 1) = true := by simp [o1]
      have HO0 := Hid.mk o0
      have HO1 := Hid.mk o1
      clear o0 o1
      go_wp2_with fail
      refine (read_no ot HO0.out HO1.out _).mono ?_
      rintro e w8 ⟨rfl, hw8⟩
      rw [hw8]
      clear hw8
      go_wp2_with fail
      refine (safe_no ot HO0.out HO1.out _).mono ?_
      rintro e w9 ⟨rfl, hw9⟩
      rw [hw9]
      clear hw9
      go_wp2_with fail
      refine (nil_sync _).mono ?_
      rintro e w10 ⟨rfl, hw10⟩
      rw [hw10]
      clear hw10
      go_wp2_with fail
      refine (nil_crash 1 1 _).mono ?_
      rintro e w11 ⟨rfl, hw11⟩
      rw [hw11]
      clear hw11
      go_wp2_with fail
      refine (nil_append 0 _ _).mono ?_
      rintro e w12 ⟨rfl, hw12⟩
      rw [hw12]
      clear hw12
      go_wp2_with fail
      refine (nil_reset 0 _).mono ?_
      rintro e w13 ⟨rfl, hw13⟩
      rw [hw13]
      clear hw13
      go_wp2_with fail
      refine (nil_read 0 _).mono ?_
      rintro e w14 ⟨rfl, hw14⟩
      rw [hw14]
      clear hw14
      go_wp2_with fail
      refine (nil_safe 0 _).mono ?_
      rintro e w15 ⟨rfl, hw15⟩
      rw [hw15]
      clear hw15
      go_wp2_with fail
      refine (nil_waits _).mono ?_
      rintro e w16 ⟨rfl, hw16⟩
      rw [hw16]
      clear hw16
      go_wp2_with fail
      refine (nil_copy _).mono ?_
      rintro e w17 ⟨rfl, hw17⟩
      rw [hw17]
      clear hw17
      go_wp2
      go_ret
      exact ⟨rfl, HB.out⟩

set_option maxRecDepth 100000 in
theorem lifted (os : Os) (started : os.Started) (H : Type) (enc : TypeId × Value → H) :
    ReturnsInHanded {} Try.checked os 3 .any (Rows.diskDoesSpec.pre6 enc Try.prog Try.f3 Rows.diskDoesRow.domain false) (Rows.diskDoesSpec.post enc Try.prog Try.f3 false true false false) := by
  refine returnsInHanded_of_change (C := Try.checked) own started (by kernel_rfl) Try.func3
    (ChangeSpec.witness6 (enc := enc) (C := Try.checked) false ⟨#[], #[.slice none 0 0, .int .i64 0], []⟩ 8 (by kernel_rfl) (by kernel_rfl) (by kernel_rfl) (by kernel_rfl)) ?_
  intro W base args ds gs before hval0 hW hcnd _
  have hval : ∀ (j : Nat) t v, Try.f3.params[j]? = some t → args[j]? = some v → Value.okWide Try.prog W .any base t v := hval0
  have hW' := hW
  obtain ⟨p, q, hA0, hV, rfl, hfz, hnd⟩ := hW
  have hA : DataW.TrodAll enc Try.prog W 0 (fun _ => true) true Try.f3.params.toList args.toList ds p := hA0
  rw [Try.params3] at hA hval
  obtain ⟨v0, vs0, d0, ds0, p0, q0, hargs, rfl, rfl, h0, r0⟩ := trodAll_cons hA
  obtain ⟨v1, vs1, d1, ds1, p1, q1, rfl, rfl, rfl, h1, r1⟩ := trodAll_cons r0
  obtain ⟨rfl, rfl, rfl⟩ := trodAll_nil r1
  obtain rfl : args = #[v0, v1] := by cases args; simp_all
  obtain ⟨rfl, rfl⟩ := trodVars_none hV
  obtain ⟨a0, len0, cap0, rfl⟩ := okWide_slice Try.underlying22 (hval 0 22 v0 rfl rfl)
  have k0 := h0
  have lt0 : ∀ x ∈ p0, x.block < W.heap.size := by obtain ⟨m, hm⟩ := k0; exact DataW.trod_lt m _ _ _ hm
  obtain ⟨ts0, w0⟩ : ∃ ts, IsCls W a0 len0 cap0 ts := by
    obtain ⟨fuel, hf⟩ := h0
    exact open_cls hf
  obtain ⟨a1, rfl, rfl, rfl, w1⟩ := open_int Try.underlying3 (hval 1 3 v1 rfl rfl) h1
  clear hA0 hval0
  refine (walk a0 len0 cap0 ts0 a1 W w0).mono fun e W' ⟨he, bel⟩ => ?_
  subst he
  exact ⟨_, rfl, _, _, _, [], _, [], hW', trodAll_mk1 (shut_bool Try.underlying4 _), (trodAll_cons_mk (Below.trod laidOut (by kernel_rfl) (of_decide_eq_true (by kernel_rfl)) k0 bel lt0) (trodAll_cons_mk (shut_int Try.underlying3 w1) trodAll_mk0)), rfl, bel.frame _, fun h => by cases h⟩

theorem over : Rows.diskDoesRow.holds Try.pinned (OpenSpec.ofChange Rows.diskDoesSpec) :=
  OpenClaim.holds_of_wide 3 Try.f3 rfl rfl rfl rfl rfl rfl rfl ⟨rfl, rfl, rfl, rfl, rfl⟩ rfl rfl rfl rfl rfl (by kernel_rfl) Try.func3 (by kernel_rfl)
    (of_decide_eq_true (by kernel_rfl)) (by unfold Func.isWrapper; first | (rw [if_pos (by decide +kernel)]; kernel_rfl) | (rw [if_neg (by decide +kernel)]; exact ⟨rfl, rfl⟩))
    (fun os started H enc _ => lifted os started H enc)

end Go.Proofs.Ytofnnoghnmhlnaa.diskDoes

namespace Go.Proofs.Ytofnnoghnmhlnaa
/-- The statement. -/
theorem does_holds : Rows.DiskDoesSaid := diskDoes.over
#print axioms does_holds
end Go.Proofs.Ytofnnoghnmhlnaa
