/-
  FeedDoes: for every script of calls and every place the law returns true: each answer, all texts, places and versions are the document's; a nil feed. No condition.
-/
import Derived.Deep.CutRange
import Derived.Deep.CutBlock
import Derived.Deep.RegionHeld3
import Derived.Test.YtmgimohnednlgaaEBoth
namespace Go.Proofs.Ytmgimohnednlgaa.feedDoes
open Go.ChangeShapes Go.WideShapes Go.ChangeAt Go.RowKit Go.Deep Go.Proofs.Ytmgimohnednlgaa.Cel Go.Proofs.Ytmgimohnednlgaa.Fee
open Go.ChangeMaps (open_string shut_string)

theorem wrap_byte {Y : Int} (h0 : 0 ≤ Y) (h1 : Y < 256) : wrap64 Y = Y := by
  unfold wrap64
  omega

set_option maxHeartbeats 1600000 in
set_option maxRecDepth 100000 in
theorem walk (a : Option Addr) (len cap : Nat) (cs : List Cl) (p : Int) (w : World) (ha : IsCls w a len cap cs) (_hp : (Lit.int .i64 p).wf = true) :
    Calls Try.prog 3 #[.slice a len cap, .int .i64 p] w fun e w' => e = .returned (.bool true) ∧ Below w.heap.size w w' := by
  clear _hp
  go_enter Try.func3, Try.ntmps3
  go_wp2_with fail
  refine (alive_any w).mono ?_
  rintro e w1 ⟨rfl, hb⟩
  by_cases h60 : 60 < len
  · go_wp2
    go_ret
    exact ⟨rfl, hb⟩
  have HA := Hid.mk ha
  have HB := Hid.mk hb
  clear hb ha
  go_wp2_with fail
  refine (mfNew HB.out HB.out.size).mono ?_
  rintro e w2 ⟨rfl, h2, _, _⟩
  obtain ⟨nb, hnb⟩ : ∃ nb, nb = w1.heap.size + 2 := ⟨_, rfl⟩
  rw [← hnb] at h2
  rw [← hnb]
  clear hnb
  have st0 : D2 w (w2.alloc (.cells #[.string ⟨#[]⟩, .string ⟨#[]⟩, .string ⟨#[]⟩, .int .i64 0, .int .i64 0, .int .i64 0, .int .i64 0, .int .i64 0, .int .i64 0] 30)) nb w2.heap.size nones nones :=
    ⟨h2.alloc _, ⟨heap_new w2 _⟩, h2.lo⟩
  have ST0 := Hid.mk st0
  clear st0 h2
  go_wp2
  go_loopw [8, 9, 10, 11, 12, 13, 27] (fun _ _ _ _ _ _ i wr => ∃ (k : Nat) (f : Nat → Sk), k ≤ len ∧ i = .int .i64 k ∧ D2 w wr nb w2.heap.size f f) (fun _ _ _ _ _ _ i _ => len - (intOf i).toNat)
  case atStart => exact ⟨0, nones, Nat.zero_le _, rfl, ST0.out⟩
  case round =>
    clear ST0
    obtain ⟨mm, hmm⟩ : ∃ mm, mm = w2.heap.size := ⟨_, rfl⟩
    rw [← hmm] at hrel ⊢
    have HMM := Hid.mk hmm
    clear hmm
    obtain ⟨k, f, hk, rfl, st⟩ := hrel
    by_cases hlt : k < len
    · obtain ⟨g, off, rfl, c, c0, c1, c2, c3, c4⟩ := HA.out.at_ st.mf.below k hlt
      have hbx := Box.new wr c
      have stA := st.alloc (.cells #[.int .i64 c.kind, .int .i64 c.sock, .string c.s, .int .i64 c.place, .int .i64 c.ver] 32)
      have hgd := st.mf.good
      obtain ⟨q, so, x, pl, vr⟩ := c
      dsimp only at c0 c1 c2 c3 c4 hbx stA
      have HK := Hid.mk hlt
      have HBX := Hid.mk hbx
      have HST := Hid.mk stA
      have HG := Hid.mk hgd
      clear st hbx stA hgd
      by_cases hx : 100 < x.size
      · have hx2 : (100 : Int) < (x.size : Int) := by omega
        have hbl := Hid.mk HST.out.mf.below
        go_wp2
        go_ret
        exact ⟨rfl, hbl.out⟩
      have hx2 : ¬ (100 : Int) < (x.size : Int) := by omega
      have hxs : x.size ≤ 1000000 := by omega
      obtain ⟨C, hC⟩ : ∃ C, C = wr.heap.size := ⟨_, rfl⟩
      obtain ⟨W, hW⟩ : ∃ W, W = wr.alloc (.cells #[.int .i64 q, .int .i64 so, .string x, .int .i64 pl, .int .i64 vr] 32) := ⟨_, rfl⟩
      rw [← hC, ← hW] at HBX
      rw [← hW] at HST
      have HC := Hid.mk hC
      have HW := Hid.mk hW
      clear hC hW
      go_upto_if 37 with fail
      rw [← HC.out, ← HW.out]
      clear c0 c1 c2 c3 c4
      have k1 : W.cell? ⟨C, 1, none⟩ = some (.int .i64 so) := HBX.out.c1
      have k2 : W.cell? ⟨C, 2, none⟩ = some (.string x) := HBX.out.c2
      have k3 : W.cell? ⟨C, 3, none⟩ = some (.int .i64 pl) := HBX.out.c3
      have k4 : W.cell? ⟨C, 4, none⟩ = some (.int .i64 vr) := HBX.out.c4
      go_cut [9] from 28 to 179 (fun ok wx => ok = .bool true ∧ D2 w wx nb mm (stDo ⟨q, so, x, pl, vr⟩ f) (stDo ⟨q, so, x, pl, vr⟩ f) ∧ Box wx C ⟨q, so, x, pl, vr⟩)
      case first =>
        by_cases q0 : q = 0
        · have z0 : (q == 0) = true := by simp [q0]
          have ED := Hid.mk (show stDo ⟨q, so, x, pl, vr⟩ f = stArr f so x by simp [stDo, q0])
          clear q0
          obtain ⟨N, hN⟩ : ∃ N, N = anArr f so x := ⟨_, rfl⟩
          have hp := mfArr HST.out.drew.mf so x (by omega)
          have hq := fun (z : World) (hr : Ref z mm f) => refArr hr HG.out so x hxs
          rw [← hN, ← ED.out] at hp
          rw [← hN, ← ED.out] at hq
          have HP := Hid.mk hp
          have HQ := Hid.mk hq
          clear hp hq hN
          go_wp2_with fail
          go_region_held3 (fun wx => wx.cell? ⟨C, 1, none⟩ = some (.int .i64 so) ∧ wx.cell? ⟨C, 2, none⟩ = some (.string x))
            (first
              | exact ⟨k1, k2⟩
              | exact hS2
              | exact hS1)
            (first
              | (go_at_call 9; have m2 := d4; refine (HQ.out _ d4.out.ref).mono ?_; rintro e w5 ⟨rfl, h5, ho5⟩; have d5 := Hid.mk (d4.out.refr h5 ho5); have bx5 := Hid.mk (bx4.out.only d4.out.ref ho5); have hS2 := And.intro (show w5.cell? ⟨C, 1, none⟩ = some (.int .i64 so) from bx5.out.c1) (show w5.cell? ⟨C, 2, none⟩ = some (.string x) from bx5.out.c2); clear h5 ho5)
              | (go_at_call 8; refine HP.out.mono ?_; rintro e w4 ⟨rfl, h4, hk4, _⟩; have d4 := Hid.mk (HST.out.drew.feed h4 hk4); have bx4 := Hid.mk (HBX.out.drew.keep hk4); have hS1 := And.intro (show w4.cell? ⟨C, 1, none⟩ = some (.int .i64 so) from bx4.out.c1) (show w4.cell? ⟨C, 2, none⟩ = some (.string x) from bx4.out.c2); clear h4 hk4))
          all_goals
            clear hS1 hS2
            go_wp2
            go_meet
            case rel => exact ⟨rfl, d5.out, bx5.out⟩
        · have z0 : (q == 0) = false := by simp [q0]
          have ED := Hid.mk (show stDo ⟨q, so, x, pl, vr⟩ f = stTake f so pl vr by simp [stDo, q0])
          clear q0
          obtain ⟨N, hN⟩ : ∃ N, N = anTake f so pl := ⟨_, rfl⟩
          have hp := mfTake HST.out.drew.mf so pl vr
          have hq := fun (z : World) (hr : Ref z mm f) => refTake hr so pl vr
          rw [← hN, ← ED.out] at hp
          rw [← hN, ← ED.out] at hq
          have HP := Hid.mk hp
          have HQ := Hid.mk hq
          clear hp hq hN
          go_wp2_with fail
          go_region_held3 (fun wx => wx.cell? ⟨C, 1, none⟩ = some (.int .i64 so) ∧ wx.cell? ⟨C, 3, none⟩ = some (.int .i64 pl) ∧ wx.cell? ⟨C, 4, none⟩ = some (.int .i64 vr))
            (first
              | exact ⟨k1, k3, k4⟩
              | exact hS2
              | exact hS1)
            (first
              | (go_at_call 11; have m2 := d4; refine (HQ.out _ d4.out.ref).mono ?_; rintro e w5 ⟨rfl, h5, ho5⟩; have d5 := Hid.mk (d4.out.refr h5 ho5); have bx5 := Hid.mk (bx4.out.only d4.out.ref ho5); have hS2 := And.intro (show w5.cell? ⟨C, 1, none⟩ = some (.int .i64 so) from bx5.out.c1) (And.intro (show w5.cell? ⟨C, 3, none⟩ = some (.int .i64 pl) from bx5.out.c3) (show w5.cell? ⟨C, 4, none⟩ = some (.int .i64 vr) from bx5.out.c4)); clear h5 ho5)
              | (go_at_call 10; refine HP.out.mono ?_; rintro e w4 ⟨rfl, h4, hk4, _⟩; have d4 := Hid.mk (HST.out.drew.feed h4 hk4); have bx4 := Hid.mk (HBX.out.drew.keep hk4); have hS1 := And.intro (show w4.cell? ⟨C, 1, none⟩ = some (.int .i64 so) from bx4.out.c1) (And.intro (show w4.cell? ⟨C, 3, none⟩ = some (.int .i64 pl) from bx4.out.c3) (show w4.cell? ⟨C, 4, none⟩ = some (.int .i64 vr) from bx4.out.c4)); clear h4 hk4))
          all_goals
            clear hS1 hS2
            go_wp2
            go_meet
            case rel => exact ⟨rfl, d5.out, bx5.out⟩
      case rest =>
        obtain ⟨rfl, hd, bx⟩ := hcut
        have hgd : ∀ i, i < 3 → (stDo ⟨q, so, x, pl, vr⟩ f i).Good := hd.mf.good
        obtain ⟨f2, hf2⟩ : ∃ f2, f2 = stDo ⟨q, so, x, pl, vr⟩ f := ⟨_, rfl⟩
        rw [← hf2] at hd hgd
        have d1 : wc.cell? ⟨C, 1, none⟩ = some (.int .i64 so) := bx.c1
        have HGD := Hid.mk hgd
        have HD := Hid.mk hd
        have his : ∀ n, Calls Try.prog 12 #[.int .i64 so] (wc.drewN n) fun e w' => e = .returned (.bool (isS so)) ∧ ∃ n', w' = (wc.drewN n).drewN n' := fun n => (is_any so _).mono fun e w' ⟨he, hw⟩ => ⟨he, 0, hw⟩
        have HIS := Hid.mk his
        clear hf2 bx HBX HST HG k1 k2 k3 k4 HW hgd his
        cases hs : isS so with
        | false =>
          have t1 : anText f2 so = ⟨#[]⟩ := by unfold anText; rw [hs]; rfl
          have t2 : anLeft f2 so = ⟨#[]⟩ := by unfold anLeft; rw [hs]; rfl
          have t3 : anAt f2 so 0 = -1 := by unfold anAt; rw [hs]; rfl
          have X1 := fun n => mfText (hd.mf.drewN n) so
          have X2 := fun n => mfLeft (hd.mf.drewN n) so
          have X3 := fun n => mfAt (hd.mf.drewN n) so 0
          rw [t1] at X1
          rw [t2] at X2
          rw [t3] at X3
          rw [hs] at HIS
          have HX1 := Hid.mk X1
          have HX2 := Hid.mk X2
          have HX3 := Hid.mk X3
          have ee : (⟨#[]⟩ : ByteArray) ++ ⟨#[]⟩ = ⟨#[]⟩ := rfl
          clear t1 t2 t3 X1 X2 X3 hd hs
          go_wp2_with fail
          go_quiet (first | (go_at_call 12; exact Calls.quiet_of (HIS.out _)) | (go_at_call 13; exact Calls.quiet_of (HX1.out _)) | (go_at_call 14; exact Calls.quiet_of (HX2.out _)) | (go_at_call 15; exact Calls.quiet_of (HX3.out _)))
          go_wp2
          go_loopw [10, 11, 12, 13] (fun i _ _ _ wi => ∃ j : Nat, j ≤ 3 ∧ i = .int .i64 j ∧ D2 w wi nb mm f2 f2) (fun i _ _ _ _ => 3 - (intOf i).toNat)
          case atStart => exact ⟨0, Nat.zero_le _, rfl, HD.out.drewN _⟩
          case round =>
            obtain ⟨j, hj, rfl, hd⟩ := hrel
            clear HD d1 HIS
            by_cases hj3 : j < 3
            · obtain ⟨t1, t2, t3, t4, t5⟩ := told_at HGD.out j hj3
              have hpl := mfPlace hd.mf (j : Int)
              rw [t3, t4] at hpl
              have HPL := Hid.mk hpl
              have HD0 := Hid.mk hd
              clear hd hpl t3 t4
              go_wp2_with fail
              refine HPL.out.mono ?_
              rintro e w5 ⟨rfl, n5, hw5⟩
              have h5 := HD0.out.drewN n5
              rw [← hw5] at h5
              have ct := h5.ref.ct j hj3
              have cp := h5.ref.cp j hj3
              have cw := h5.ref.cw j hj3
              have X1 := fun n => mfText (h5.mf.drewN n) (j : Int)
              have X2 := fun n => mfLeft (h5.mf.drewN n) (j : Int)
              have X3 := fun n => mfAt (h5.mf.drewN n) (j : Int) p
              rw [t1] at X1
              rw [t2] at X2
              obtain ⟨T, hT⟩ : ∃ T, T = (f2 j).text := ⟨_, rfl⟩
              rw [← hT] at X1 X2 ct t5
              have ht6 := at_textT j hj3 hT
              have ht7 := at_noneT j hj3 hT
              obtain ⟨P, hP⟩ : ∃ P, P = (f2 j).place := ⟨_, rfl⟩
              rw [← hP] at X2 cp t5 ⊢
              obtain ⟨V, hV⟩ : ∃ V, V = (f2 j).ver := ⟨_, rfl⟩
              rw [← hV] at cw ⊢
              obtain ⟨E, hE⟩ : ∃ E, E = T.extract P T.size := ⟨_, rfl⟩
              rw [← hE] at X2
              have HX1 := Hid.mk X1
              have HX2 := Hid.mk X2
              have H5 := Hid.mk h5
              have hE2 := hE.symm
              have u0 : (0 : Int) ≤ (P : Int) := Int.natCast_nonneg _
              have u1 : (P : Int) ≤ (T.size : Int) := by omega
              have v0 : ¬ (j : Int) < 0 := by omega
              have v1 : (j : Int) < 3 := by omega
              clear hw5 X1 X2 h5 t1 t2 HPL HD0 hT hP hV hE
              by_cases hin : 0 ≤ p ∧ p < (T.size : Int)
              · obtain ⟨n, rfl⟩ : ∃ n : Nat, p = (n : Int) := ⟨p.toNat, by omega⟩
                have v2 : (0 : Int) ≤ (n : Int) := hin.1
                have v3 : (n : Int) < (T.size : Int) := hin.2
                have hn2 : n < T.size := by omega
                have h6 := ht6 n hn2
                have hy0 : (0 : Int) ≤ (T[n].toNat : Int) := Int.natCast_nonneg _
                have hy1 : (T[n].toNat : Int) < 256 := by have := T[n].toNat_lt; omega
                obtain ⟨Y, hY⟩ : ∃ Y : Int, (T[n].toNat : Int) = Y := ⟨_, rfl⟩
                rw [h6, hY] at X3
                rw [hY] at hy0 hy1
                have hyw := wrap_byte hy0 hy1
                have HX3 := Hid.mk X3
                clear hin X3 ht6 ht7 h6 hy0 hy1
                go_wp2_with fail
                go_quiet (first | (go_at_call 13; exact Calls.quiet_of (HX1.out _)) | (go_at_call 14; exact Calls.quiet_of (HX2.out _)) | (go_at_call 15; exact Calls.quiet_of (HX3.out _)))
                go_wp2
                go_roundw
                case rel => exact ⟨j + 1, by omega, by go_num, H5.out.drewN _⟩
                case measure => simp [intOf]; omega
              · have h7 := ht7 p hin
                rw [h7] at X3
                have HX3 := Hid.mk X3
                clear X3 ht6 ht7 h7
                by_cases hp0 : 0 ≤ p
                · have hp1 : (T.size : Int) ≤ p := by omega
                  clear hin
                  go_wp2_with fail
                  go_quiet (first | (go_at_call 13; exact Calls.quiet_of (HX1.out _)) | (go_at_call 14; exact Calls.quiet_of (HX2.out _)) | (go_at_call 15; exact Calls.quiet_of (HX3.out _)))
                  go_wp2
                  go_roundw
                  case rel => exact ⟨j + 1, by omega, by go_num, H5.out.drewN _⟩
                  case measure => simp [intOf]; omega
                · clear hin
                  go_wp2_with fail
                  go_quiet (first | (go_at_call 13; exact Calls.quiet_of (HX1.out _)) | (go_at_call 14; exact Calls.quiet_of (HX2.out _)) | (go_at_call 15; exact Calls.quiet_of (HX3.out _)))
                  go_wp2
                  go_roundw
                  case rel => exact ⟨j + 1, by omega, by go_num, H5.out.drewN _⟩
                  case measure => simp [intOf]; omega
            · have hj4 : j = 3 := by omega
              have HE := Hid.mk hd
              have hnj : ¬ (j : Int) < 3 := by omega
              clear hd hj4 hj3
              go_wp2
              go_roundw
              case rel => exact ⟨k + 1, _, HK.out, by go_num, HE.out⟩
              case measure => have := HK.out; simp [intOf]; omega
        | true =>
          rw [hs] at HIS
          clear hd hs
          go_wp2_with fail
          go_quiet (first | (go_at_call 12; exact Calls.quiet_of (HIS.out _)))
          go_wp2
          go_loopw [10, 11, 12, 13] (fun i _ _ _ wi => ∃ j : Nat, j ≤ 3 ∧ i = .int .i64 j ∧ D2 w wi nb mm f2 f2) (fun i _ _ _ _ => 3 - (intOf i).toNat)
          case atStart => exact ⟨0, Nat.zero_le _, rfl, HD.out.drewN _⟩
          case round =>
            obtain ⟨j, hj, rfl, hd⟩ := hrel
            clear HD d1 HIS
            by_cases hj3 : j < 3
            · obtain ⟨t1, t2, t3, t4, t5⟩ := told_at HGD.out j hj3
              have hpl := mfPlace hd.mf (j : Int)
              rw [t3, t4] at hpl
              have HPL := Hid.mk hpl
              have HD0 := Hid.mk hd
              clear hd hpl t3 t4
              go_wp2_with fail
              refine HPL.out.mono ?_
              rintro e w5 ⟨rfl, n5, hw5⟩
              have h5 := HD0.out.drewN n5
              rw [← hw5] at h5
              have ct := h5.ref.ct j hj3
              have cp := h5.ref.cp j hj3
              have cw := h5.ref.cw j hj3
              have X1 := fun n => mfText (h5.mf.drewN n) (j : Int)
              have X2 := fun n => mfLeft (h5.mf.drewN n) (j : Int)
              have X3 := fun n => mfAt (h5.mf.drewN n) (j : Int) p
              rw [t1] at X1
              rw [t2] at X2
              obtain ⟨T, hT⟩ : ∃ T, T = (f2 j).text := ⟨_, rfl⟩
              rw [← hT] at X1 X2 ct t5
              have ht6 := at_textT j hj3 hT
              have ht7 := at_noneT j hj3 hT
              obtain ⟨P, hP⟩ : ∃ P, P = (f2 j).place := ⟨_, rfl⟩
              rw [← hP] at X2 cp t5 ⊢
              obtain ⟨V, hV⟩ : ∃ V, V = (f2 j).ver := ⟨_, rfl⟩
              rw [← hV] at cw ⊢
              obtain ⟨E, hE⟩ : ∃ E, E = T.extract P T.size := ⟨_, rfl⟩
              rw [← hE] at X2
              have HX1 := Hid.mk X1
              have HX2 := Hid.mk X2
              have H5 := Hid.mk h5
              have hE2 := hE.symm
              have u0 : (0 : Int) ≤ (P : Int) := Int.natCast_nonneg _
              have u1 : (P : Int) ≤ (T.size : Int) := by omega
              have v0 : ¬ (j : Int) < 0 := by omega
              have v1 : (j : Int) < 3 := by omega
              clear hw5 X1 X2 h5 t1 t2 HPL HD0 hT hP hV hE
              by_cases hin : 0 ≤ p ∧ p < (T.size : Int)
              · obtain ⟨n, rfl⟩ : ∃ n : Nat, p = (n : Int) := ⟨p.toNat, by omega⟩
                have v2 : (0 : Int) ≤ (n : Int) := hin.1
                have v3 : (n : Int) < (T.size : Int) := hin.2
                have hn2 : n < T.size := by omega
                have h6 := ht6 n hn2
                have hy0 : (0 : Int) ≤ (T[n].toNat : Int) := Int.natCast_nonneg _
                have hy1 : (T[n].toNat : Int) < 256 := by have := T[n].toNat_lt; omega
                obtain ⟨Y, hY⟩ : ∃ Y : Int, (T[n].toNat : Int) = Y := ⟨_, rfl⟩
                rw [h6, hY] at X3
                rw [hY] at hy0 hy1
                have hyw := wrap_byte hy0 hy1
                have HX3 := Hid.mk X3
                clear hin X3 ht6 ht7 h6 hy0 hy1
                go_wp2_with fail
                go_quiet (first | (go_at_call 13; exact Calls.quiet_of (HX1.out _)) | (go_at_call 14; exact Calls.quiet_of (HX2.out _)) | (go_at_call 15; exact Calls.quiet_of (HX3.out _)))
                go_wp2
                go_roundw
                case rel => exact ⟨j + 1, by omega, by go_num, H5.out.drewN _⟩
                case measure => simp [intOf]; omega
              · have h7 := ht7 p hin
                rw [h7] at X3
                have HX3 := Hid.mk X3
                clear X3 ht6 ht7 h7
                by_cases hp0 : 0 ≤ p
                · have hp1 : (T.size : Int) ≤ p := by omega
                  clear hin
                  go_wp2_with fail
                  go_quiet (first | (go_at_call 13; exact Calls.quiet_of (HX1.out _)) | (go_at_call 14; exact Calls.quiet_of (HX2.out _)) | (go_at_call 15; exact Calls.quiet_of (HX3.out _)))
                  go_wp2
                  go_roundw
                  case rel => exact ⟨j + 1, by omega, by go_num, H5.out.drewN _⟩
                  case measure => simp [intOf]; omega
                · clear hin
                  go_wp2_with fail
                  go_quiet (first | (go_at_call 13; exact Calls.quiet_of (HX1.out _)) | (go_at_call 14; exact Calls.quiet_of (HX2.out _)) | (go_at_call 15; exact Calls.quiet_of (HX3.out _)))
                  go_wp2
                  go_roundw
                  case rel => exact ⟨j + 1, by omega, by go_num, H5.out.drewN _⟩
                  case measure => simp [intOf]; omega
            · have hj4 : j = 3 := by omega
              have HE := Hid.mk hd
              have hnj : ¬ (j : Int) < 3 := by omega
              clear hd hj4 hj3
              go_wp2
              go_roundw
              case rel => exact ⟨k + 1, _, HK.out, by go_num, HE.out⟩
              case measure => have := HK.out; simp [intOf]; omega
    · have hbl := Hid.mk st.mf.below
      clear st
      go_wp2_with fail
      refine (place_nil 0 _).mono ?_
      rintro e w4 ⟨rfl, hw4⟩
      rw [hw4]
      clear hw4 w4
      go_wp2_with fail
      refine (arrive_nil 0 _ _).mono ?_
      rintro e w5 ⟨rfl, hw5⟩
      rw [hw5]
      clear hw5 w5
      go_wp2_with fail
      refine (at_nil 0 0 _).mono ?_
      rintro e w5 ⟨rfl, hw5⟩
      rw [hw5]
      clear hw5 w5
      go_wp2_with fail
      refine (take_nil 0 0 0 _).mono ?_
      rintro e w5 ⟨rfl, hw5⟩
      rw [hw5]
      clear hw5 w5
      go_wp2_with fail
      refine (text_nil 0 _).mono ?_
      rintro e w5 ⟨rfl, hw5⟩
      rw [hw5]
      clear hw5 w5
      go_wp2_with fail
      refine (left_nil 0 _).mono ?_
      rintro e w5 ⟨rfl, hw5⟩
      rw [hw5]
      clear hw5 w5
      have ee : (⟨#[]⟩ : ByteArray) ++ ⟨#[]⟩ = ⟨#[]⟩ := rfl
      go_wp2
      go_ret
      exact ⟨rfl, hbl.out⟩

set_option maxRecDepth 100000 in
theorem lifted (os : Os) (started : os.Started) (H : Type) (enc : TypeId × Value → H) :
    ReturnsInHanded {} Try.checked os 3 .any (Rows.feedDoesSpec.pre6 enc Try.prog Try.f3 Rows.feedDoesRow.domain false) (Rows.feedDoesSpec.post enc Try.prog Try.f3 false true false false) := by
  refine returnsInHanded_of_change (C := Try.checked) own started (by kernel_rfl) Try.func3
    (ChangeSpec.witness6 (enc := enc) (C := Try.checked) false ⟨#[], #[.slice none 0 0, .int .i64 0], []⟩ 8 (by kernel_rfl) (by kernel_rfl) (by kernel_rfl) (by kernel_rfl)) ?_
  intro W base args ds gs before hval0 hW hcnd _
  have hval : ∀ (j : Nat) t v, Try.f3.params[j]? = some t → args[j]? = some v → Value.okWide Try.prog W .any base t v := hval0
  have hW' := hW
  obtain ⟨p, q, hA0, hV, rfl, hfz, hnd⟩ := hW
  have hA : DataW.TrodAll enc Try.prog W 0 (fun _ => true) true Try.f3.params.toList args.toList ds p := hA0
  rw [Try.params3] at hA hval
  obtain ⟨v0, vs0, d0, ds0, p0, q0, hargs, rfl, rfl, h0, r0⟩ := trodAll_cons hA
  obtain ⟨v1, vs1, d1, ds1, p1, q1, rfl, rfl, rfl, h1, r1⟩ := trodAll_cons r0
  obtain ⟨rfl, rfl, rfl⟩ := trodAll_nil r1
  obtain rfl : args = #[v0, v1] := by cases args; simp_all
  obtain ⟨rfl, rfl⟩ := trodVars_none hV
  obtain ⟨a0, len0, cap0, rfl⟩ := okWide_slice Try.underlying22 (hval 0 22 v0 rfl rfl)
  have k0 := h0
  have lt0 : ∀ x ∈ p0, x.block < W.heap.size := by obtain ⟨m, hm⟩ := k0; exact DataW.trod_lt m _ _ _ hm
  obtain ⟨ts0, w0⟩ : ∃ ts, IsCls W a0 len0 cap0 ts := by
    obtain ⟨fuel, hf⟩ := h0
    exact open_cls hf
  obtain ⟨a1, rfl, rfl, rfl, w1⟩ := open_int Try.underlying3 (hval 1 3 v1 rfl rfl) h1
  clear hA0 hval0
  refine (walk a0 len0 cap0 ts0 a1 W w0 w1).mono fun e W' ⟨he, bel⟩ => ?_
  subst he
  exact ⟨_, rfl, _, _, _, [], _, [], hW', trodAll_mk1 (shut_bool Try.underlying4 _), (trodAll_cons_mk (Below.trod laidOut (by kernel_rfl) (of_decide_eq_true (by kernel_rfl)) k0 bel lt0) (trodAll_cons_mk (shut_int Try.underlying3 w1) trodAll_mk0)), rfl, bel.frame _, fun h => by cases h⟩

set_option maxRecDepth 100000 in
theorem over : Rows.feedDoesRow.holds Try.pinned (OpenSpec.ofChange Rows.feedDoesSpec) :=
  OpenClaim.holds_of_wide 3 Try.f3 rfl rfl rfl rfl rfl rfl rfl ⟨rfl, rfl, rfl, rfl, rfl⟩ rfl rfl rfl rfl rfl (by kernel_rfl) Try.func3 (by kernel_rfl)
    (of_decide_eq_true (by kernel_rfl)) (by unfold Func.isWrapper; first | (rw [if_pos (by decide +kernel)]; kernel_rfl) | (rw [if_neg (by decide +kernel)]; exact ⟨rfl, rfl⟩))
    (fun os started H enc _ => lifted os started H enc)

end Go.Proofs.Ytmgimohnednlgaa.feedDoes

namespace Go.Proofs.Ytmgimohnednlgaa
/-- The statement. -/
theorem feedDoes_holds : Rows.FeedDoesSaid := feedDoes.over
#print axioms feedDoes_holds
end Go.Proofs.Ytmgimohnednlgaa
