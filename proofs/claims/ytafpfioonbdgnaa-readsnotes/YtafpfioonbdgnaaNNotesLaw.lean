/-
  ReadsNotes: for every list of changes ahead, every list of steps and every further thing, the law returns true: each answer, what was read and the stamp are the document's; Of tells each thing's version; a nil set. No condition.
-/
import Derived.Test.YtafpfioonbdgnaaNPair
import Derived.Test.YtafpfioonbdgnaaNOnce
namespace Go.Proofs.Ytafpfioonbdgnaa.readsNotes
open Go.ChangeShapes Go.WideShapes Go.ChangeAt Go.RowKit Go.Deep Go.Shelf Go.Proofs.Ytafpfioonbdgnaa.Cel Go.Proofs.Ytafpfioonbdgnaa.Rng Go.Proofs.Ytafpfioonbdgnaa.Rds
attribute [local go_sem] Oper.semAt_some

set_option maxRecDepth 100000 in
set_option maxHeartbeats 16000000 in
theorem walk (a : Option Addr) (la ca : Nat) (xs : List Th) (c : Option Addr) (lc cc : Nat) (ss : List Sp) (kk ii : Int) (w : World) (h1 : IsThs w a la ca xs) (h2 : IsSps w c lc cc ss) :
    Calls Try.prog 3 #[.slice a la ca, .slice c lc cc, .int .i64 kk, .int .i64 ii] w fun e w' => e = .returned (.bool true) ∧ Below w.heap.size w w' := by
  have H1 := Hid.mk h1
  have H2 := Hid.mk h2
  clear h1 h2
  refine (callsIn_wide (n := 6)).1 ?_
  refine callsIn_of_wp_marks Try.func3 rfl trivial ?_ rfl
  simp only [Try.ntmps3, List.size_toArray, List.length_cons, List.length_nil, Nat.reduceAdd, Nat.reduceSub, Array.replicate_succ, Array.replicate_zero, List.push_toArray, List.append_toArray, List.nil_append, List.cons_append]
  gi_wp2_with fail
  refine ⟨trivial, (callsIn_wide.2 (alive_any _)).mono ?_⟩
  rintro e w1 ⟨rfl, hb1⟩
  have hb0 : Below w.heap.size w (w.alloc (.cells #[.bool false] 4)) := (Below.refl _ w).alloc (Nat.le_refl _) _
  have kr : (w.alloc (.cells #[.bool false] 4)).heap[w.heap.size]? = some (.cells #[.bool false] 4 (0, 0)) := heap_new _ _
  have kr1 := (hb1.block _ (Array.getElem?_eq_some_iff.1 kr).1).trans kr
  have HB1 := Hid.mk (hb0.trans (hb1.mono hb0.size))
  have HR1 := Hid.mk kr1
  clear hb0 kr kr1 hb1
  gi_wp2_with fail
  refine ⟨trivial, (callsIn_wide.2 (great_any (H1.out.carry HB1.out) (H2.out.carry HB1.out))).mono ?_⟩
  rintro e w3 ⟨hg, hb3⟩
  have HB3 := Hid.mk (HB1.out.trans (hb3.mono HB1.out.size))
  have hr3 := (hb3.block _ (Array.getElem?_eq_some_iff.1 HR1.out).1).trans HR1.out
  have HR3 := Hid.mk hr3
  have cr : w3.cell? ⟨w.heap.size, 0, none⟩ = some (.bool false) := cell_at hr3 rfl
  have fr : w3.frozen? ⟨w.heap.size, 0, none⟩ = false := free_at hr3
  clear hb3 hr3
  rcases hg with rfl | ⟨rfl, hsm⟩
  · gi_wp2
    have hc5 := World.cell?_setCell_same' w3 ⟨w.heap.size, 0, none⟩ (.bool true) (by rw [cr]; rfl)
    refine ⟨.bool true, ?_, rfl, HB3.out.setCell (p := ⟨w.heap.size, 0, none⟩) (Nat.le_refl _) _⟩
    simp [results, Try.f3, go_sem, hc5]
  have HSM := Hid.mk hsm
  have hla : la ≤ 40 := by have := HSM.out.ahead; have := H1.out.1; omega
  clear hsm cr fr
  obtain ⟨C, hC⟩ : ∃ C, C = w3.heap.size := ⟨_, rfl⟩
  have hrow := World.ownsRow_lit (base := w3.heap.size) (e := 36) (size := 2) w3 #[] 0 (Nat.le_refl _) (by decide) rfl
  have HR := Hid.mk hrow
  have HH := Hid.mk ((H1.out.carry HB3.out).carry ((Below.refl _ _).alloc (Nat.le_refl _) (.cells #[] 36)))
  clear hrow
  gi_upto_region 5 with fail
  refine Code.wpIn_mono NoPanic.imp ?_
  refine wpIn_wide.2 ?_
  go_wp2_with ((refine wpList_append_ths rfl _ _ rfl w3.heap.size (.slice (some ⟨w3.heap.size, 0, none⟩) 0 0) 0 [] rfl HR.out a la ca xs rfl HH.out (by omega) (by simp) ?_; intro v1 w4 hown hgrow; obtain ⟨va, vc, rfl⟩ := row_shape hown; rw [Nat.zero_add] at hown))
  refine NoPanic.normal ?_
  gi_wp2_with fail
  obtain ⟨w5, hw5⟩ : ∃ w5, w5 = w4.alloc (.cells #[.slice va la vc] 28) := ⟨_, rfl⟩
  rw [← hw5]
  refine ⟨trivial, (callsIn_wide.2 (new_any (la : Nat) w5)).mono ?_⟩
  rintro e w6 ⟨rfl, hs6, hw6⟩
  have hxl := H1.out.1
  have hb4 : Below w3.heap.size w3 w4 := ((Below.refl _ _).alloc (Nat.le_refl _) _).grown hgrow (by simp) (fun k e => by
    have e' : w3.heap.size = k := by simpa [Value.ownBlock] using e
    omega)
  have hb5 : Below w3.heap.size w3 w5 := by rw [hw5]; exact hb4.alloc hb4.size _
  have hz5 : w5.heap.size = w4.heap.size + 1 := by rw [hw5]; simp
  have hwo5 : WoAt w5 w4.heap.size (.slice va la vc) xs := by
    refine ⟨by rw [hw5]; exact heap_new _ _, ?_⟩
    rw [hxl, hw5]
    exact ownsRow_carry (ownsRow_low hown) fun k hk => Below.heap_alloc _ _ _ (hown.lt k hk).2
  have hf5 : ∀ q, Foot w4.heap.size [.slice va la vc] q → w3.heap.size ≤ q := fun q hq => by
    rcases hq with e | ⟨x, hx, e⟩
    · rw [e]; exact hb4.size
    · simp at hx
      subst hx
      exact (hown.lt q e).1
  rw [hz5]
  rw [hz5] at hs6
  obtain ⟨mw, hmw⟩ : ∃ mw, mw = w4.heap.size := ⟨_, rfl⟩
  rw [← hmw] at hs6 hwo5 hf5 hz5
  rw [← hmw]
  have hb56 : Below w5.heap.size w5 w6 := by rw [hw6]; exact (Below.refl _ _).alloc (Nat.le_refl _) _
  have hz6 : w6.heap.size = mw + 2 := by rw [hw6]; simp; omega
  have hb36 : Below w3.heap.size w3 w6 := hb5.trans (hb56.mono hb5.size)
  have hCm : w3.heap.size ≤ mw := by rw [hmw]; exact hb4.size
  have HWO6 := Hid.mk (hwo5.grown hb56)
  have hal6 : ∀ q, Foot mw [.slice va la vc] q → q < mw + 1 := fun q hq => by have := hwo5.foot_lt q hq; omega
  have HS6 := Hid.mk hs6
  have HZ6 := Hid.mk hz6
  have HF6 := Hid.mk hf5
  have HAL := Hid.mk hal6
  have HCM := Hid.mk hCm
  have HXL := Hid.mk hxl
  have HB36 := Hid.mk hb36
  have hlc := H2.out.1
  have HLC := Hid.mk hlc
  clear hs6 hw6 hwo5 hf5 hz5 hmw hb4 hb5 hw5 hown hgrow hxl HR HH hb56 hz6 hb36 hCm hal6 hlc HB1 HR1
  gi_wp2
  obtain ⟨m, hm⟩ : ∃ m, m = w6.heap.size := ⟨_, rfl⟩
  have hL0 : LN w.heap.size w (((w6.alloc (.cells #[.slice none 0 0, .slice none 0 0, .int .i64 la] 34)).alloc (.cells #[.pointer (some ⟨mw + 1, 0, none⟩)] 29)).alloc (.cells #[.pointer (some ⟨m, 0, none⟩)] 31)) C mw (mw + 1) m (m + 1) (m + 1 + 1) 0 xs (la : Nat) [] (.slice none 0 0) (.slice va la vc) (.slice none 0 0) (.slice none 0 0) := by
    obtain ⟨o1, ho1⟩ : ∃ o1, o1 = Obj.cells #[.slice none 0 0, .slice none 0 0, .int .i64 la] 34 := ⟨_, rfl⟩
    obtain ⟨o2, ho2⟩ : ∃ o2, o2 = Obj.cells #[.pointer (some ⟨mw + 1, 0, none⟩)] 29 := ⟨_, rfl⟩
    rw [← ho1, ← ho2]
    have g1 : (w6.alloc o1).heap[m]? = some o1 := by rw [hm]; exact heap_new _ _
    have z1 : (w6.alloc o1).heap.size = m + 1 := by rw [hm]; simp
    have g2 : ((w6.alloc o1).alloc o2).heap[m + 1]? = some o2 := by rw [← z1]; exact heap_new _ _
    have z2 : ((w6.alloc o1).alloc o2).heap.size = m + 1 + 1 := by rw [World.size_alloc, z1]
    obtain ⟨w7, hw7⟩ : ∃ w7, w7 = ((w6.alloc o1).alloc o2).alloc (.cells #[.pointer (some ⟨m, 0, none⟩)] 31) := ⟨_, rfl⟩
    have g3 : w7.heap[m + 1 + 1]? = some (.cells #[.pointer (some ⟨m, 0, none⟩)] 31 (0, 0)) := by rw [hw7, ← z2]; exact heap_new _ _
    have f2 : w7.heap[m + 1]? = some o2 := by rw [hw7, Below.heap_alloc _ _ _ (by omega)]; exact g2
    have f1 : w7.heap[m]? = some o1 := by rw [hw7, Below.heap_alloc _ _ _ (by omega), Below.heap_alloc _ _ _ (by omega)]; exact g1
    have hb7 : Below w6.heap.size w6 w7 := by rw [hw7]; exact (((Below.refl _ _).alloc (Nat.le_refl _) _).alloc (by simp) _).alloc (by simp; omega) _
    rw [← hw7]
    have hz6 := HZ6.out
    have hcm := HCM.out
    have hb37 := HB36.out.trans (hb7.mono HB36.out.size)
    have hrl := (Array.getElem?_eq_some_iff.1 HR3.out).1
    refine ⟨HS6.out.grown hb7, HWO6.out.grown hb7, ⟨by rw [f1, ho1], ⟨rfl, .inl ⟨rfl, rfl⟩⟩, ⟨rfl, .inl ⟨rfl, rfl⟩⟩⟩, fun q hq => ?_, fun q hq => by rw [hC]; exact HF6.out q hq, fun q hq => ?_, fun q hq hq2 => ?_,
      (hb37.block _ hrl).trans HR3.out, by rw [f2, ho2], g3, HB3.out.trans (hb37.mono HB3.out.size), by rw [hC]; exact hrl, (fun e he => by cases he), by rw [HXL.out]; omega, Nat.le_refl _⟩
    · rcases hq with e | ⟨y, hy, e⟩
      · omega
      · simp at hy; subst hy; cases e
    · rcases hq with e | ⟨y, hy, e⟩
      · omega
      · simp at hy; subst hy; cases e
    · have h1 := HAL.out q hq
      rcases hq2 with e | ⟨y, hy, e⟩
      · omega
      · simp at hy; subst hy; cases e
  rw [← hm]
  have HL0 := Hid.mk hL0
  clear hm hL0 HS6 HWO6 HZ6 HF6 HAL HXL HB36 HR3 hla
  gi_loopw [13, 38] (fun _ idx wr => ∃ (k : Nat) (A : List Th) (st : Int) (E : List En) (v u vt vv : Value), k ≤ lc ∧ idx = .int .i64 k ∧ LN w.heap.size w wr C mw (mw + 1) m (m + 1) (m + 1 + 1) k A st E v u vt vv) (fun _ idx _ => lc - (intOf idx).toNat)
  case atStart => exact ⟨0, xs, (la : Nat), [], _, _, _, _, Nat.zero_le _, rfl, HL0.out⟩
  case round =>
    clear HL0
    obtain ⟨k, A, st, E, v, u, vt, vv, hk, rfl, hst⟩ := hrel
    by_cases hlt : k < lc
    · have hkl : k < ss.length := by have := HLC.out; omega
      have hk80 : k < 80 := by have := HSM.out.steps; omega
      obtain ⟨g, off, rfl, hat⟩ := (H2.out.carry hst.below).at_ (by omega)
      have c0 := hat.k k hkl
      have c1 := hat.i k hkl
      have c2 := hat.c k hkl
      have his := HSM.out.ss k hkl
      obtain ⟨y, hy⟩ : ∃ y, y = ss[k]! := ⟨_, rfl⟩
      rw [← hy] at c0 c1 c2 his
      obtain ⟨y0, y1, y2⟩ := y
      dsimp only at c0 c1 c2 his
      have HIS := Hid.mk his
      have hgl := World.block_lt_of_cell? _ _ c0
      obtain ⟨X, hX⟩ : ∃ X, X = wr.heap.size := ⟨_, rfl⟩
      obtain ⟨W, hW⟩ : ∃ W, W = wr.alloc (.cells #[.int .i64 y0, .int .i64 y1, .bool y2] 38) := ⟨_, rfl⟩
      have hbW : Below wr.heap.size wr W := by rw [hW]; exact (Below.refl _ _).alloc (Nat.le_refl _) _
      have hxW : W.heap[X]? = some (.cells #[.int .i64 y0, .int .i64 y1, .bool y2] 38 (0, 0)) := by rw [hW, hX]; exact heap_new _ _
      have hstW := hst.grown hbW
      have HST := Hid.mk hstW
      have HXW := Hid.mk hxW
      have x0 : W.cell? ⟨X, 0, none⟩ = some (.int .i64 y0) := cell_at hxW rfl
      have x1 : W.cell? ⟨X, 1, none⟩ = some (.int .i64 y1) := cell_at hxW rfl
      have x2 : W.cell? ⟨X, 2, none⟩ = some (.bool y2) := cell_at hxW rfl
      have p0 : W.cell? ⟨m + 1, 0, none⟩ = some (.pointer (some ⟨mw + 1, 0, none⟩)) := cell_at hstW.ps rfl
      have p1 : W.cell? ⟨m + 1 + 1, 0, none⟩ = some (.pointer (some ⟨m, 0, none⟩)) := cell_at hstW.pm rfl
      have hXl : X < W.heap.size := (Array.getElem?_eq_some_iff.1 hxW).1
      gi_upto_region 10 with fail
      rw [← hX, ← hW]
      clear hX hW hbW hxW hstW hst hat c0 c1 c2 hy his
      cases y2 with
      | true =>
        have hwo := HST.out.w
        obtain ⟨ua, uc, rfl⟩ := row_shape hwo.owns
        obtain ⟨NA, hNA⟩ : ∃ NA, NA = A.length := ⟨_, rfl⟩
        have hlt5 := hwo.lt
        have ag := hwo.own_b
        have hown := hwo.owns
        have d0 := hwo.c0
        have f0 := hwo.fz 0
        have hal := HST.out.alen
        rw [← hNA] at ag hown d0 hal
        have HNA := Hid.mk hNA
        clear hNA hwo p0 p1
        obtain ⟨i0, hi, hz0, hz1, hz2⟩ := info_parts Try.info36
        gi_wp2_with fail
        refine Code.wpIn_mono NoPanic.imp ?_
        refine wpIn_wide.2 ?_
        go_region_law
          ((refine step_append_lies _ (by rfl) _ _ _ (by rfl) 0 36 i0 _ 2 16 Try.underlying22 hi hz0 hz1 hz2 rfl (by omega) (.slice ua NA uc) NA (thC A) (by rfl) ((hown.alloc _).drew) ⟨W.heap.size, 0, none⟩ 1 1 [.int .i64 y0, .int .i64 y1] (by rfl) (by rfl) (World.news_of_block (cs := #[.int .i64 y0, .int .i64 y1]) (t := 36) (fr := (0, 0)) (heap_alloc_new W _)) (by simp [Value.oneCell']) (by omega) (by unfold maxLen; omega) (by omega) (Nat.zero_le _) (W.heap.size + 1) (by simp) ?_; intro gg cap w5 hown1 hgrow hat hlt2; have c5 : w5.cell? ⟨mw, 0, none⟩ = some (.slice ua NA uc) := (hgrow.cell_far ⟨mw, 0, none⟩ (by simp; omega) (Ne.symm ag)).trans (by simp [World.cell?_alloc_some, d0]); have f5 : w5.frozen? ⟨mw, 0, none⟩ = false := (hgrow.frozen_far ⟨mw, 0, none⟩ (by simp; omega) (Ne.symm ag)).trans (by simp [World.frozen?_alloc_past, hlt5, f0])))
        all_goals
          refine NoPanic.normal ?_
          have hY1 : Below W.heap.size W ((W.alloc (.cells #[.int .i64 y0, .int .i64 y1] 36)).drew) := ((Below.refl _ _).alloc (Nat.le_refl _) _).drew
          have hg2 := hgrow
          have hat2 := hat
          rw [HNA.out] at hown1 hg2 hat2
          have R := HST.out.w.more (y0, y1) hown1 hY1 hg2 (by rcases hat2 with e | e; exact .inl e; exact .inr (by omega))
          have hn := HST.out.change R.1 R.2
          rw [← HNA.out] at hn
          obtain ⟨Y, hY⟩ : ∃ Y, Y = w5.setCell ⟨mw, 0, none⟩ (.slice (some ⟨gg, 0, none⟩) (NA + 1) cap) := ⟨_, rfl⟩
          obtain ⟨A2, hA2⟩ : ∃ A2, A2 = A ++ [(y0, y1)] := ⟨_, rfl⟩
          rw [← hY] at hn ⊢
          rw [← hA2] at hn
          have HN2 := Hid.mk hn
          clear R hn hY1 hown1 hgrow hg2 hat hat2 hlt2 c5 f5 hown hlt5 ag d0 f0 x0 x1 x2 hal hi hz0 hz1 hz2 hY hA2
          obtain ⟨ta, tc, htv⟩ := row_shape HN2.out.r.th
          obtain ⟨LE, hLE⟩ : ∃ LE, LE = (E).length := ⟨_, rfl⟩
          obtain ⟨N2, hN2⟩ : ∃ N2 : Int, N2 = ((A2).length : Nat) := ⟨_, rfl⟩
          obtain ⟨VB, hVB⟩ : ∃ VB, VB = validB (vfN (A2)) (E) := ⟨_, rfl⟩
          have hal := HN2.out.alen
          have hel := HN2.out.elen
          have hnow := fun (g : Wider Y.heap.size Y) => now_any (HN2.out.w.grown g.h) (by omega)
          have hval := fun (g : Wider Y.heap.size Y) => valid_any (verF (A2)) ((A2).length : Nat) g.z (HN2.out.s.grown g.h) (by omega)
          have href := fun (g : Wider Y.heap.size Y) => refValid_any (HN2.out.w.grown g.h) (by omega) (HN2.out.r.grown g.h) (by omega)
          have hsta := fun (g : Wider Y.heap.size Y) => stamp_any (HN2.out.s.grown g.h)
          have hlen := fun (g : Wider Y.heap.size Y) => len_any (HN2.out.s.grown g.h)
          rw [validB_now HN2.out.is, ← hVB] at hval
          rw [← hVB] at href
          rw [← hN2] at hnow hval
          rw [← hLE] at hlen htv
          have HNOW2 := Hid.mk hnow
          have HVAL2 := Hid.mk hval
          have HREF2 := Hid.mk href
          have HSTA2 := Hid.mk hsta
          have HLEN2 := Hid.mk hlen
          have kp : ∀ g : Wider Y.heap.size Y, g.z.cell? ⟨m + 1, 0, none⟩ = some (.pointer (some ⟨mw + 1, 0, none⟩)) := fun g => cell_at (HN2.out.grown g.h).ps rfl
          have kq : ∀ g : Wider Y.heap.size Y, g.z.cell? ⟨m + 1 + 1, 0, none⟩ = some (.pointer (some ⟨m, 0, none⟩)) := fun g => cell_at (HN2.out.grown g.h).pm rfl
          have k0 : ∀ g : Wider Y.heap.size Y, g.z.cell? ⟨m, 0, none⟩ = some (.slice ta LE tc) := fun g => by rw [← htv]; exact (HN2.out.r.grown g.h).c0
          have k2 : ∀ g : Wider Y.heap.size Y, g.z.cell? ⟨m, 2, none⟩ = some (.int .i64 (st)) := fun g => (HN2.out.r.grown g.h).c2
          have hne := Wider.some Y.heap.size Y
          clear hnow hval href hsta hlen htv hLE hN2 hVB hal hel 
          gi_wp2_with fail
          refine wpIn_wide.2 ?_
          refine wp_region_wider (B := Y.heap.size) (w0 := Y) (by kernel_rfl) (by kernel_rfl) (Below.refl _ Y) ?_
          repeat (go_big_quiet_step ((first
            | (go_at_call 11; refine (HNOW2.out _).mono ?_; rintro e w6 ⟨rfl, hb6⟩; exact ⟨rfl, ⟨w6, by rename_i g; exact farther (Nat.le_refl _) g.h hb6⟩, rfl⟩)
            | (go_at_call 13; refine (HVAL2.out _).mono ?_; rintro e w6 ⟨rfl, hb6⟩; exact ⟨rfl, ⟨w6, by rename_i g; exact farther (Nat.le_refl _) g.h hb6⟩, rfl⟩)
            | (go_at_call 14; refine (HREF2.out _).mono ?_; rintro e w6 ⟨rfl, hb6⟩; exact ⟨rfl, ⟨w6, by rename_i g; exact farther (Nat.le_refl _) g.h hb6⟩, rfl⟩)
            | (go_at_call 15; refine (HSTA2.out _).mono ?_; rintro e w6 ⟨rfl, hb6⟩; rw [hb6]; exact ⟨rfl, ⟨_, rfl⟩⟩)
            | (go_at_call 16; refine (HLEN2.out _).mono ?_; rintro e w6 ⟨rfl, hb6⟩; rw [hb6]; exact ⟨rfl, ⟨_, rfl⟩⟩))))
          refine wpQuiet_nil ?_
          rintro z ⟨g, hg⟩
          have hz : Below Y.heap.size Y z := by rw [hg]; exact g.h
          have HNz := Hid.mk (HN2.out.grown hz)
          clear hg g hz kp kq k0 k2 hne
          gi_wp2
          go_roundw
          case rel => exact ⟨k + 1, A2, st, E, v, _, vt, vv, by omega, by go_num, HNz.out⟩
          case measure => simp [intOf]; omega
      | false =>
        have hel := HST.out.elen
        have hal := HST.out.alen
        obtain ⟨NB, hNB⟩ : ∃ NB, NB = noteB (vfN A) st E y0 y1 := ⟨_, rfl⟩
        obtain ⟨T, hT⟩ : ∃ T, T = noteT (vfN A) (A.length : Nat) st E y0 y1 := ⟨_, rfl⟩
        obtain ⟨E2, hE2⟩ : ∃ E2, E2 = noteE (vfN A) st E y0 y1 := ⟨_, rfl⟩
        obtain ⟨q1, q2, q3⟩ := note_same (l := A) (cl := (A.length : Nat)) (st := st) HST.out.is HIS.out
        have hi2 : IsE E2 := by rw [hE2]; exact noteE_is HST.out.is HIS.out
        have hl2 : E2.length ≤ E.length + 1 := by rw [hE2]; exact noteE_length _ _ _ _ _
        have hnow := now_any HST.out.w.drew (by omega)
        have hnote := fun (z : World) (hz : SetAt z (mw + 1) v st E) => note_any (verF A) (A.length : Nat) y0 y1 hz (by omega)
        have href := fun (z : World) (hw : WoAt z mw u A) (hz : RefAt z m vt vv st E) => refNote_any hw (by omega) hz (by omega) y0 y1
        rw [q1, q2, q3, ← hNB, ← hT, ← hE2] at hnote
        rw [← hNB, ← hT, ← hE2] at href
        obtain ⟨N1, hN1⟩ : ∃ N1 : Int, N1 = (A.length : Nat) := ⟨_, rfl⟩
        rw [← hN1] at hnow hnote
        have HNOW := Hid.mk hnow
        have HNOTE := Hid.mk hnote
        have HREF := Hid.mk href
        have HI2 := Hid.mk hi2
        have HL2 := Hid.mk hl2
        clear hnow hnote href hNB hT hE2 q1 q2 q3 hi2 hl2 hN1 hel hal
        gi_wp2_with fail
        refine Code.wpIn_mono NoPanic.imp ?_
        refine wpIn_wide.2 ?_
        go_region_held3 (fun wx => (wx.cell? ⟨m + 1, 0, none⟩ = some (.pointer (some ⟨mw + 1, 0, none⟩)) ∧ wx.cell? ⟨m + 1 + 1, 0, none⟩ = some (.pointer (some ⟨m, 0, none⟩)) ∧ wx.cell? ⟨X, 0, none⟩ = some (.int .i64 y0) ∧ wx.cell? ⟨X, 1, none⟩ = some (.int .i64 y1)))
          (first
            | exact ⟨p0, p1, x0, x1⟩
            | exact hS3
            | exact hS2
            | exact hS1)
          (first
            | (go_at_call 12; have m9 := mid8; refine (HREF.out _ mid8.out.1 mid8.out.2.1).mono ?_; rintro e w9 ⟨rfl, vt9, vv9, hm9, hr9⟩; have hn9 := Hid.mk (l4.out.notes d8.out r8.out hm9 hr9 HI2.out HL2.out); have hx9 := (hr9.block X (Array.getElem?_eq_some_iff.1 xx8.out).1 (ref_free mid8.out.2.1 xx8.out (by decide) (by decide) (by decide))).trans xx8.out; have hS3 : (w9.cell? ⟨m + 1, 0, none⟩ = some (.pointer (some ⟨mw + 1, 0, none⟩)) ∧ w9.cell? ⟨m + 1 + 1, 0, none⟩ = some (.pointer (some ⟨m, 0, none⟩)) ∧ w9.cell? ⟨X, 0, none⟩ = some (.int .i64 y0) ∧ w9.cell? ⟨X, 1, none⟩ = some (.int .i64 y1)) := ⟨cell_at hn9.out.ps rfl, cell_at hn9.out.pm rfl, cell_at hx9 rfl, cell_at hx9 rfl⟩; clear hm9 hr9 hx9)
            | (go_at_call 10; have m8 := l4; refine (HNOTE.out _ l4.out.s).mono ?_; rintro e w8 ⟨rfl, v8, hs8, hr8⟩; have d8 := Hid.mk hs8; have r8 := Hid.mk hr8; have mid8 := Hid.mk (l4.out.mid hr8); have hx8 := (hr8.block X (Array.getElem?_eq_some_iff.1 xx4.out).1 (box_free l4.out.s xx4.out (by decide) (by decide))).trans xx4.out; have xx8 := Hid.mk hx8; have hS2 : (w8.cell? ⟨m + 1, 0, none⟩ = some (.pointer (some ⟨mw + 1, 0, none⟩)) ∧ w8.cell? ⟨m + 1 + 1, 0, none⟩ = some (.pointer (some ⟨m, 0, none⟩)) ∧ w8.cell? ⟨X, 0, none⟩ = some (.int .i64 y0) ∧ w8.cell? ⟨X, 1, none⟩ = some (.int .i64 y1)) := ⟨cell_at mid8.out.2.2.2.1 rfl, cell_at mid8.out.2.2.2.2 rfl, cell_at hx8 rfl, cell_at hx8 rfl⟩; clear hs8 hr8 hx8)
            | (go_at_call 11; refine HNOW.out.mono ?_; rintro e w7 ⟨rfl, hb7⟩; have l4 := Hid.mk (LN.grown (W := W.drew) (HST.out.grown (Below.refl W.heap.size W).drew) hb7); have hx4 := (hb7.block X (Array.getElem?_eq_some_iff.1 (show W.drew.heap[X]? = _ from HXW.out)).1).trans (show W.drew.heap[X]? = _ from HXW.out); have xx4 := Hid.mk hx4; have hS1 : (w7.cell? ⟨m + 1, 0, none⟩ = some (.pointer (some ⟨mw + 1, 0, none⟩)) ∧ w7.cell? ⟨m + 1 + 1, 0, none⟩ = some (.pointer (some ⟨m, 0, none⟩)) ∧ w7.cell? ⟨X, 0, none⟩ = some (.int .i64 y0) ∧ w7.cell? ⟨X, 1, none⟩ = some (.int .i64 y1)) := ⟨cell_at l4.out.ps rfl, cell_at l4.out.pm rfl, cell_at hx4 rfl, cell_at hx4 rfl⟩; clear hb7 hx4))
        all_goals
          refine NoPanic.normal ?_
          have HN2 := hn9
          clear hS1 hS2 hS3 x0 x1 x2 p0 p1 hn9
          obtain ⟨ta, tc, htv⟩ := row_shape HN2.out.r.th
          obtain ⟨LE, hLE⟩ : ∃ LE, LE = (E2).length := ⟨_, rfl⟩
          obtain ⟨N2, hN2⟩ : ∃ N2 : Int, N2 = ((A).length : Nat) := ⟨_, rfl⟩
          obtain ⟨VB, hVB⟩ : ∃ VB, VB = validB (vfN (A)) (E2) := ⟨_, rfl⟩
          have hal := HN2.out.alen
          have hel := HN2.out.elen
          have hnow := fun (g : Wider w9.heap.size w9) => now_any (HN2.out.w.grown g.h) (by omega)
          have hval := fun (g : Wider w9.heap.size w9) => valid_any (verF (A)) ((A).length : Nat) g.z (HN2.out.s.grown g.h) (by omega)
          have href := fun (g : Wider w9.heap.size w9) => refValid_any (HN2.out.w.grown g.h) (by omega) (HN2.out.r.grown g.h) (by omega)
          have hsta := fun (g : Wider w9.heap.size w9) => stamp_any (HN2.out.s.grown g.h)
          have hlen := fun (g : Wider w9.heap.size w9) => len_any (HN2.out.s.grown g.h)
          rw [validB_now HN2.out.is, ← hVB] at hval
          rw [← hVB] at href
          rw [← hN2] at hnow hval
          rw [← hLE] at hlen htv
          have HNOW2 := Hid.mk hnow
          have HVAL2 := Hid.mk hval
          have HREF2 := Hid.mk href
          have HSTA2 := Hid.mk hsta
          have HLEN2 := Hid.mk hlen
          have kp : ∀ g : Wider w9.heap.size w9, g.z.cell? ⟨m + 1, 0, none⟩ = some (.pointer (some ⟨mw + 1, 0, none⟩)) := fun g => cell_at (HN2.out.grown g.h).ps rfl
          have kq : ∀ g : Wider w9.heap.size w9, g.z.cell? ⟨m + 1 + 1, 0, none⟩ = some (.pointer (some ⟨m, 0, none⟩)) := fun g => cell_at (HN2.out.grown g.h).pm rfl
          have k0 : ∀ g : Wider w9.heap.size w9, g.z.cell? ⟨m, 0, none⟩ = some (.slice ta LE tc) := fun g => by rw [← htv]; exact (HN2.out.r.grown g.h).c0
          have k2 : ∀ g : Wider w9.heap.size w9, g.z.cell? ⟨m, 2, none⟩ = some (.int .i64 (T)) := fun g => (HN2.out.r.grown g.h).c2
          have hne := Wider.some w9.heap.size w9
          clear hnow hval href hsta hlen htv hLE hN2 hVB hal hel 
          gi_wp2_with fail
          refine wpIn_wide.2 ?_
          refine wp_region_wider (B := w9.heap.size) (w0 := w9) (by kernel_rfl) (by kernel_rfl) (Below.refl _ w9) ?_
          repeat (go_big_quiet_step ((first
            | (go_at_call 11; refine (HNOW2.out _).mono ?_; rintro e w6 ⟨rfl, hb6⟩; exact ⟨rfl, ⟨w6, by rename_i g; exact farther (Nat.le_refl _) g.h hb6⟩, rfl⟩)
            | (go_at_call 13; refine (HVAL2.out _).mono ?_; rintro e w6 ⟨rfl, hb6⟩; exact ⟨rfl, ⟨w6, by rename_i g; exact farther (Nat.le_refl _) g.h hb6⟩, rfl⟩)
            | (go_at_call 14; refine (HREF2.out _).mono ?_; rintro e w6 ⟨rfl, hb6⟩; exact ⟨rfl, ⟨w6, by rename_i g; exact farther (Nat.le_refl _) g.h hb6⟩, rfl⟩)
            | (go_at_call 15; refine (HSTA2.out _).mono ?_; rintro e w6 ⟨rfl, hb6⟩; rw [hb6]; exact ⟨rfl, ⟨_, rfl⟩⟩)
            | (go_at_call 16; refine (HLEN2.out _).mono ?_; rintro e w6 ⟨rfl, hb6⟩; rw [hb6]; exact ⟨rfl, ⟨_, rfl⟩⟩))))
          refine wpQuiet_nil ?_
          rintro z ⟨g, hg⟩
          have hz : Below w9.heap.size w9 z := by rw [hg]; exact g.h
          have HNz := Hid.mk (HN2.out.grown hz)
          clear hg g hz kp kq k0 k2 hne
          gi_wp2
          go_roundw
          case rel => exact ⟨k + 1, A, T, E2, v8, u, vt9, vv9, by omega, by go_num, HNz.out⟩
          case measure => simp [intOf]; omega
    · have hle : (lc : Int) ≤ (k : Int) := by omega
      have hk80 : k ≤ 80 := by have := HSM.out.steps; have := H2.out.1; omega
      obtain ⟨N, hN⟩ : ∃ N, N = wr.heap.size := ⟨_, rfl⟩
      obtain ⟨w10, hw10⟩ : ∃ w10, w10 = wr.alloc (.cells #[.int .i64 0] 3) := ⟨_, rfl⟩
      have hLA : LA w.heap.size w w10 C mw (mw + 1) m (m + 1) (m + 1 + 1) k A st E v u vt vv N 0 := by
        rw [hw10, hN]
        exact ⟨hst.grown ((Below.refl _ _).alloc (Nat.le_refl _) _), heap_new _ _, fun q hq => hst.r.foot_lt q hq, hst.size⟩
      have HLA := Hid.mk hLA
      have HK80 := Hid.mk hk80
      clear hst hLA hk80
      gi_upto_region 18 with fail
      rw [← hN, ← hw10]
      clear hN hw10 hle hk hlt
      have p0 : w10.cell? ⟨m + 1, 0, none⟩ = some (.pointer (some ⟨mw + 1, 0, none⟩)) := cell_at HLA.out.ln.ps rfl
      gi_wp2_with fail
      refine ⟨trivial, (all_in _ _ _).mono ?_⟩
      rintro e w8 ⟨rfl, hw8⟩
      obtain ⟨ZS, hZS⟩ : ∃ ZS, ZS = w10.heap.size := ⟨_, rfl⟩
      rw [← hZS]
      have hb8 : Below w10.heap.size w10 w8 := by rw [hw8]; exact (Below.refl _ _).alloc (Nat.le_refl _) _
      have hc8 : w8.cell? ⟨ZS, 0, none⟩ = some (.pointer (some ⟨mw + 1, 0, none⟩)) := by rw [hw8, hZS]; exact cell_at (heap_new _ _) rfl
      have hl8 := HLA.out.grown hb8
      have HL8 := Hid.mk hl8
      have HC8 := Hid.mk hc8
      obtain ⟨LE, hLE⟩ : ∃ LE, LE = E.length := ⟨_, rfl⟩
      have HLE := Hid.mk hLE
      clear hw8 hZS hb8 hc8 hl8 p0 HLA hLE
      gi_wp2
      refine range_over2 (gf := 24) (lb := #[.pointer (some ⟨ZS, 0, none⟩)]) rfl (enters_of Try.func24 (by kernel_rfl) rfl)
        (all_gives 5 (by omega) _ (mw + 1) v st E w8 HC8.out HL8.out.ln.s (by have := HL8.out.ln.elen; have := HK80.out; omega)) (Below.refl _ _) (fun _ _ _ h k => h.trans k) (fun W l r r' hl hr => Kp.put W l _ (fun k hk => by have := HL8.out.ln.s.own_lt k hk; omega)) (fun _ => rfl)
        (fun (pre : List (Ix E.length)) X => LA w.heap.size w X C mw (mw + 1) m (m + 1) (m + 1 + 1) k A st E v u vt vv N (pre.length : Nat)) (fun _ _ => False)
        (fun s X Y row hs hg hr => hs.kept hg hr HL8.out.ln.sizeB) (fun _ _ _ _ h _ _ => h) HL8.out ?round ?done ?stop
      case stop => intro D pre X hD hS hF; exact hF.elim
      case round =>
        intro l pre x X r hl hr hI hgood
        have hlX : l < X.heap.size := (Array.getElem?_eq_some_iff.1 hr).1
        unfold encE
        obtain ⟨K, hK⟩ : ∃ K, K = pre.length := ⟨_, rfl⟩
        have hxK : x.1 = K := by rw [hK]; exact hgood
        have hKE : K < E.length := by rw [← hxK]; exact x.2
        rw [← hK] at hI
        rw [hxK]
        have hhs := find_some K hKE
        obtain ⟨y0, hy0⟩ : ∃ y, y = E[K]!.1 := ⟨_, rfl⟩
        obtain ⟨y1, hy1⟩ : ∃ y, y = E[K]!.2.1 := ⟨_, rfl⟩
        obtain ⟨y2, hy2⟩ : ∃ y, y = E[K]!.2.2 := ⟨_, rfl⟩
        rw [← hy0, ← hy1] at hhs
        rw [← hy0, ← hy1, ← hy2]
        have HY : Hid ((thE E)[K]! = (y0, y1)) := Hid.mk (by rw [thE_at E K hKE, hy0, hy1])
        have HV : Hid ((veE E)[K]! = y2) := Hid.mk (by rw [veE_at E K hKE, hy2])
        have HI := Hid.mk hI
        have HHS := Hid.mk hhs
        have HKP : Hid (K = pre.length) := Hid.mk hK
        have HKE := Hid.mk hKE
        have hr1 : (X.alloc (.cells #[.int .i64 y0, .int .i64 y1, .int .i64 y2] 54)).heap[l]? = some (.loop r) := (Below.heap_alloc _ _ _ hlX).trans hr
        have HR := Hid.mk hr1
        have hl0 : w8.heap.size ≤ l := hl
        clear hy0 hy1 hy2 hgood hI hr hr1 hK hxK hhs hKE
        gi_wp2
        refine ⟨others_below ((Below.refl _ _).alloc (Nat.le_refl _) _) _, Kp.of_below (B := X.heap.size) (fun k hk => by have := HL8.out.ln.s.own_lt k hk; omega) ((Below.refl _ _).alloc (Nat.le_refl _) _), fun r' => ?_⟩
        obtain ⟨M, hM⟩ : ∃ M, M = X.heap.size := ⟨_, rfl⟩
        obtain ⟨Z, hZ⟩ : ∃ Z, Z = (X.alloc (.cells #[.int .i64 y0, .int .i64 y1, .int .i64 y2] 54)).putObj l (.loop r') := ⟨_, rfl⟩
        have hzZ : Z.heap.size = X.heap.size + 1 := by rw [hZ]; simp
        have hg1 : (X.alloc (.cells #[.int .i64 y0, .int .i64 y1, .int .i64 y2] 54)).grownBy Z (some l) := by rw [hZ]; exact grownBy_putObj' _ _ _
        have hrow : ∀ q, some l = some q → w8.heap.size ≤ q ∧ ∃ o : Obj, (X.alloc (.cells #[.int .i64 y0, .int .i64 y1, .int .i64 y2] 54)).heap[q]? = some o ∧ o.isCells = false := fun q e => by cases e; exact ⟨hl0, _, HR.out, rfl⟩
        have hLZ := (HI.out.grown ((Below.refl _ _).alloc (Nat.le_refl _) (.cells #[.int .i64 y0, .int .i64 y1, .int .i64 y2] 54))).kept hg1 hrow HL8.out.ln.sizeB
        have heZ : Z.heap[M]? = some (.cells #[.int .i64 y0, .int .i64 y1, .int .i64 y2] 54 (0, 0)) := block_kept (by rw [hM]; exact heap_new _ _) hg1 (fun q e => (hrow q e).2)
        rw [← hZ, ← hM]
        have hne := Wider.some Z.heap.size Z
        have hKT : K < LE := by rw [HLE.out]; exact HKE.out
        obtain ⟨g2, c2, hu2⟩ := row_full hLZ.ln.r.th (by have := HKE.out; omega)
        obtain ⟨g3, c3, hu3⟩ := row_full hLZ.ln.r.ve (by have := HKE.out; omega)
        rw [← HLE.out] at hu2 hu3
        have HU2 := Hid.mk hu2
        have HU3 := Hid.mk hu3
        have HLZ := Hid.mk hLZ
        have HEZ := Hid.mk heZ
        have k0 : ∀ g : Wider Z.heap.size Z, g.z.cell? ⟨M, 0, none⟩ = some (.int .i64 y0) := fun g => cell_at ((g.h.block M (Array.getElem?_eq_some_iff.1 HEZ.out).1).trans HEZ.out) rfl
        have k1 : ∀ g : Wider Z.heap.size Z, g.z.cell? ⟨M, 1, none⟩ = some (.int .i64 y1) := fun g => cell_at ((g.h.block M (Array.getElem?_eq_some_iff.1 HEZ.out).1).trans HEZ.out) rfl
        have k2 : ∀ g : Wider Z.heap.size Z, g.z.cell? ⟨M, 2, none⟩ = some (.int .i64 y2) := fun g => cell_at ((g.h.block M (Array.getElem?_eq_some_iff.1 HEZ.out).1).trans HEZ.out) rfl
        have k3 : ∀ g : Wider Z.heap.size Z, g.z.cell? ⟨N, 0, none⟩ = some (.int .i64 (K : Nat)) := fun g => cell_at (HLZ.out.grown g.h).n rfl
        have kp : ∀ g : Wider Z.heap.size Z, g.z.cell? ⟨m + 1, 0, none⟩ = some (.pointer (some ⟨mw + 1, 0, none⟩)) := fun g => cell_at (HLZ.out.grown g.h).ln.ps rfl
        have kq : ∀ g : Wider Z.heap.size Z, g.z.cell? ⟨m + 1 + 1, 0, none⟩ = some (.pointer (some ⟨m, 0, none⟩)) := fun g => cell_at (HLZ.out.grown g.h).ln.pm rfl
        have kt : ∀ g : Wider Z.heap.size Z, g.z.cell? ⟨m, 0, none⟩ = some (.slice (some ⟨g2, 0, none⟩) LE c2) := fun g => by rw [← HU2.out]; exact (HLZ.out.grown g.h).ln.r.c0
        have kv : ∀ g : Wider Z.heap.size Z, g.z.cell? ⟨m, 1, none⟩ = some (.slice (some ⟨g3, 0, none⟩) LE c3) := fun g => by rw [← HU3.out]; exact (HLZ.out.grown g.h).ln.r.c1
        have k45 : ∀ g : Wider Z.heap.size Z, g.z.cell? ⟨g2, K * 2, none⟩ = some (.int .i64 y0) ∧ g.z.cell? ⟨g2, K * 2 + 1, none⟩ = some (.int .i64 y1) := fun g => by
          have h0 := (HLZ.out.grown g.h).ln.r.th
          rw [HU2.out, ← HLE.out] at h0
          have h := row_th h0 K (by rw [thE_length]; exact HKE.out)
          rw [HY.out] at h
          exact h
        have k4 := fun g => (k45 g).1
        have k5 := fun g => (k45 g).2
        have k6 : ∀ g : Wider Z.heap.size Z, g.z.cell? ⟨g3, K, none⟩ = some (.int .i64 y2) := fun g => by
          have h0 := (HLZ.out.grown g.h).ln.r.ve
          rw [HU3.out, ← HLE.out] at h0
          have h := row_nu h0 K (by rw [veE_length]; exact HKE.out)
          rw [HV.out] at h
          exact h
        have hhas := fun (g : Wider Z.heap.size Z) => has_any (HLZ.out.grown g.h).ln.s (by have := HLZ.out.ln.elen; have := HK80.out; omega) y0 y1
        rw [HHS.out] at hhas
        have HHAS := Hid.mk hhas
        have hge1 : ¬ LE ≤ K := by omega
        have hK80 : (K : Int) < 1000 := by have := HLZ.out.ln.elen; have := HK80.out; have := HKE.out; omega
        have HLV : Hid (w8.heap.size ≤ Z.heap.size) := Hid.mk (by omega)
        clear hZ hM hzZ hg1 hrow hLZ heZ k45 hhas hu2 hu3
        gi_wp2_with fail
        refine wpIn_wider_round (B := Z.heap.size) (w0 := Z) _ (by kernel_rfl) (by kernel_rfl) (by kernel_rfl) (Below.refl _ Z) ?_
        repeat (go_big_quiet_step ((go_at_call 18; refine (HHAS.out _).mono ?_; rintro e w6 ⟨rfl, hb6⟩; exact ⟨rfl, ⟨w6, by rename_i g; exact farther (Nat.le_refl _) g.h hb6⟩, rfl⟩)))
        refine wpQuiet_nil ?_
        rintro z2 ⟨g, hg⟩
        have hz2 : Below Z.heap.size Z z2 := by rw [hg]; exact g.h
        have HLz := Hid.mk (HLZ.out.grown hz2)
        have hkf := Hid.mk (others_below hz2 w8.heap.size)
        have hkp : Hid (Kp v Z z2) := Hid.mk (Kp.of_below (B := Z.heap.size) (fun k hk => by have := HL8.out.ln.s.own_lt k hk; have := HLV.out; omega) hz2)
        have m0 : z2.cell? ⟨N, 0, none⟩ = some (.int .i64 (K : Nat)) := cell_at HLz.out.n rfl
        have m1 : z2.frozen? ⟨N, 0, none⟩ = false := free_at HLz.out.n
        clear hg g hz2 k0 k1 k2 k3 k4 k5 k6 kp kq kt kv hne hge1
        gi_wp2
        refine ⟨hkf.out.trans (others_set _ _ _ _), hkp.out.trans (fun q hq => Below.heap_setCell _ _ _ _ (fun e => ?_)), ?_⟩
        · obtain ⟨cs, hcs⟩ := own_at HL8.out.ln.s.owns hq
          exact absurd (show Foot (mw + 1) [v] N from .inr ⟨v, by simp, by rw [hq]; exact congrArg some e⟩) (box_free HLz.out.ln.s HLz.out.n (by decide) (by decide))
        · have e1 : (pre ++ [x]).length = K + 1 := by simp; exact HKP.out.symm
          have h := HLz.out.number ((K + 1 : Nat) : Int)
          dsimp only
          rw [e1]
          simpa using h
      case done =>
        intro D ys W hD hys hI hK
        have hyl : ys.length = LE := by have h := congrArg List.length hys; rw [HLE.out]; simpa using h
        rw [hyl] at hI
        have HI := Hid.mk hI
        have HK := Hid.mk hK
        have HDB : Hid (w8.heap.size ≤ D) := Hid.mk hD
        clear hys hI hK hyl hD
        obtain ⟨X, hX⟩ : ∃ X, X = W.heap.size := ⟨_, rfl⟩
        obtain ⟨W1, hW1⟩ : ∃ W1, W1 = W.alloc (.cells #[.int .i64 kk, .int .i64 ii] 36) := ⟨_, rfl⟩
        have hbW : Below W.heap.size W W1 := by rw [hW1]; exact (Below.refl _ _).alloc (Nat.le_refl _) _
        have hxW : W1.heap[X]? = some (.cells #[.int .i64 kk, .int .i64 ii] 36 (0, 0)) := by rw [hW1, hX]; exact heap_new _ _
        have HL1 := Hid.mk (HI.out.grown hbW)
        have HK1 := Hid.mk ((hbW.block _ (Array.getElem?_eq_some_iff.1 HK.out).1).trans HK.out)
        have HX1 := Hid.mk hxW
        clear hbW hxW HI HK
        gi_upto_region 24 with fail
        rw [← hX, ← hW1]
        clear hX hW1
        gi_wp2_with fail
        obtain ⟨NA, hNA⟩ : ∃ NA, NA = A.length := ⟨_, rfl⟩
        have HNA := Hid.mk hNA
        clear hNA
        refine ⟨trivial, (callsIn_wide.2 (now_any HL1.out.ln.w (by have := HL1.out.ln.alen; have := HK80.out; omega))).mono ?_⟩
        rintro e w9 ⟨rfl, hb9⟩
        have HL9 := Hid.mk (HL1.out.grown hb9)
        have HX9 := Hid.mk ((hb9.block _ (Array.getElem?_eq_some_iff.1 HX1.out).1).trans HX1.out)
        have HK9 := Hid.mk ((hb9.block _ (Array.getElem?_eq_some_iff.1 HK1.out).1).trans HK1.out)
        clear hb9 HL1 HX1 HK1
        gi_wp2_with fail
        refine ⟨trivial, (callsIn_wide.2 (of_any (verF A) (A.length : Nat) kk ii w9)).mono ?_⟩
        rintro e wa ⟨rfl, hba⟩
        obtain ⟨V, hV⟩ : ∃ V, V = ofF (verF A) kk ii := ⟨_, rfl⟩
        rw [← hV]
        have hla := HL9.out.grown hba
        have hka := (hba.block _ (Array.getElem?_eq_some_iff.1 HK9.out).1).trans HK9.out
        have hxa := (hba.block _ (Array.getElem?_eq_some_iff.1 HX9.out).1).trans HX9.out
        obtain ⟨ua, uc, htu⟩ := row_shape hla.ln.w.owns
        obtain ⟨VA, hVA⟩ : ∃ VA : Int, VA = (atN A (kk, ii) (A.length : Nat) : Nat) := ⟨_, rfl⟩
        have hat := fun (g : Wider wa.heap.size wa) => at_any (hla.grown g.h).ln.w (by have := hla.ln.alen; have := HK80.out; omega) (kk, ii) (A.length : Nat)
        rw [← hVA] at hat
        rw [← HNA.out] at hat htu
        have his := fun (g : Wider wa.heap.size wa) => is_any kk ii g.z
        have HLa := Hid.mk hla
        have HKa := Hid.mk hka
        have HXa := Hid.mk hxa
        have HTU := Hid.mk htu
        have HAT := Hid.mk hat
        have kx0 : ∀ g : Wider wa.heap.size wa, g.z.cell? ⟨X, 0, none⟩ = some (.int .i64 kk) := fun g => cell_at ((g.h.block X (Array.getElem?_eq_some_iff.1 HXa.out).1).trans HXa.out) rfl
        have kx1 : ∀ g : Wider wa.heap.size wa, g.z.cell? ⟨X, 1, none⟩ = some (.int .i64 ii) := fun g => cell_at ((g.h.block X (Array.getElem?_eq_some_iff.1 HXa.out).1).trans HXa.out) rfl
        have kw : ∀ g : Wider wa.heap.size wa, g.z.cell? ⟨mw, 0, none⟩ = some (.slice ua NA uc) := fun g => by rw [← HTU.out]; exact (HLa.out.grown g.h).ln.w.c0
        have hne := Wider.some wa.heap.size wa
        clear hba hla hka hxa htu hat HL9 HX9 HK9
        cases hB : isB kk ii with
        | true =>
          rw [hB] at his
          have HIS := Hid.mk his
          obtain rfl : VA = V := by
            rw [hVA, hV]
            exact (ofF_is A kk ii hB).symm
          clear his hB hV hVA
          gi_wp2_with fail
          refine wpIn_wide.2 ?_
          refine wp_region_wider (B := wa.heap.size) (w0 := wa) (by kernel_rfl) (by kernel_rfl) (Below.refl _ wa) ?_
          repeat (go_big_quiet_step ((first
            | (go_at_call 20; refine (HIS.out _).mono ?_; rintro e w6 ⟨rfl, hb6⟩; exact ⟨rfl, ⟨w6, by rename_i g; exact farther (Nat.le_refl _) g.h hb6⟩, rfl⟩)
            | (go_at_call 21; refine (HAT.out _).mono ?_; rintro e w6 ⟨rfl, hb6⟩; exact ⟨rfl, ⟨w6, by rename_i g; exact farther (Nat.le_refl _) g.h hb6⟩, rfl⟩))))
          refine wpQuiet_nil ?_
          rintro z ⟨g, hg⟩
          have hz : Below wa.heap.size wa z := by rw [hg]; exact g.h
          have HLz := Hid.mk (HLa.out.grown hz)
          have HKz := Hid.mk ((hz.block _ (Array.getElem?_eq_some_iff.1 HKa.out).1).trans HKa.out)
          clear hg g hz kx0 kx1 kw hne
          gi_wp2_with fail
          refine ⟨trivial, (all_in _ _ _).mono ?_⟩
          rintro e wb ⟨rfl, hwb⟩
          obtain ⟨ZT, hZT⟩ : ∃ ZT, ZT = z.heap.size := ⟨_, rfl⟩
          rw [← hZT]
          have hbb : Below z.heap.size z wb := by rw [hwb]; exact (Below.refl _ _).alloc (Nat.le_refl _) _
          have hcb : wb.cell? ⟨ZT, 0, none⟩ = some (.pointer none) := by rw [hwb, hZT]; exact cell_at (heap_new _ _) rfl
          have hlb := HLz.out.grown hbb
          have hkb := (hbb.block _ (Array.getElem?_eq_some_iff.1 HKz.out).1).trans HKz.out
          have HLb := Hid.mk hlb
          have HKb := Hid.mk hkb
          have HCb := Hid.mk hcb
          have HDb : Hid (D < wb.heap.size) := Hid.mk (Array.getElem?_eq_some_iff.1 hkb).1
          clear hwb hZT hbb hcb hlb hkb HLz HKz HLa HKa
          gi_wp2
          refine range_over2 (gf := 24) (lb := #[.pointer (some ⟨ZT, 0, none⟩)]) rfl (enters_of Try.func24 (by kernel_rfl) rfl)
            (nil_gives 5 _ wb HCb.out) (Below.refl _ _) (fun _ _ _ _ _ => trivial) (fun _ _ _ _ _ _ => trivial) (fun _ => rfl)
            (fun (pre : List Unit) X => LA w.heap.size w X C mw (mw + 1) m (m + 1) (m + 1 + 1) k A st E v u vt vv N (LE : Nat) ∧ X.heap[D]? = some (.deferred (some []))) (fun _ _ => False)
            (fun s X Y row hs hg hr => ⟨hs.1.kept hg hr HLb.out.ln.sizeB, (hg.block D (Array.getElem?_eq_some_iff.1 hs.2).1 (fun e => by have := (hr D e.symm).1; have := HDb.out; omega)).trans hs.2⟩) (fun _ _ _ _ h _ _ => h) ⟨HLb.out, HKb.out⟩ ?round ?done ?stop
          case stop => intro D pre X hD hS hF; exact hF.elim
          case round => intro l pre x X r hl hr hI hgood; exact hgood.elim
          case done =>
            rintro D2 ys W2 hD2 hys ⟨hI, hkD⟩ hK2
            obtain ⟨ta, tc, htv⟩ := row_shape hI.ln.r.th
            rw [← HLE.out] at htv
            have hsof := fun (z : World) (h : LA w.heap.size w z C mw (mw + 1) m (m + 1) (m + 1 + 1) k A st E v u vt vv N (LE : Nat)) => (show (z.cell? ⟨N, 0, none⟩ = some (.int .i64 (LE : Nat)) ∧ z.cell? ⟨m + 1 + 1, 0, none⟩ = some (.pointer (some ⟨m, 0, none⟩)) ∧ z.cell? ⟨m, 0, none⟩ = some (.slice ta LE tc)) from ⟨cell_at h.n rfl, cell_at h.ln.pm rfl, by rw [← htv]; exact h.ln.r.c0⟩)
            have hnow := fun (z : World) (hz : Below W2.heap.size W2 z) => now_any (hI.ln.w.grown hz) (by have := hI.ln.alen; have := HK80.out; omega)
            have HSOF := Hid.mk hsof
            have HNOW3 := Hid.mk hnow
            have HI2 := Hid.mk hI
            have HKD := Hid.mk hkD
            have HK2 := Hid.mk hK2
            have HD2 := Hid.mk hD2
            have HY0 := Hid.mk (Below.refl W2.heap.size W2).drew
            obtain ⟨d1, d2, d3⟩ := hsof W2 hI
            clear hys hI hkD hK2 hD2 hsof hnow htv
            gi_wp2_with fail
            refine Code.wpIn_mono NoPanic.imp ?_
            refine wpIn_wide.2 ?_
            go_region_held3 (fun wx => (wx.cell? ⟨N, 0, none⟩ = some (.int .i64 (LE : Nat)) ∧ wx.cell? ⟨m + 1 + 1, 0, none⟩ = some (.pointer (some ⟨m, 0, none⟩)) ∧ wx.cell? ⟨m, 0, none⟩ = some (.slice ta LE tc)))
              (first
                | exact ⟨d1, d2, d3⟩
                | exact hS8
                | exact hS7
                | exact hS6
                | exact hS5
                | exact hS4
                | exact hS3
                | exact hS2
                | exact hS1)
              (first
                | (go_at_call 18; have m99 := m6; refine (has_nil _ _ _).mono ?_; rintro e z7 ⟨rfl, hbz7⟩; have m7 := Hid.mk (m6.out.trans (hbz7.mono m6.out.size)); have hS7 := HSOF.out _ (HI2.out.grown m7.out); clear hbz7; have hlo := HI2.out.lo; have hfa := HI2.out.ln.far; have hfm := HI2.out.ln.fr m (.inl rfl); have cr7 : z7.cell? ⟨w.heap.size, 0, none⟩ = some (.bool false) := cell_at (HI2.out.grown m7.out).ln.res rfl; have fr7 : z7.frozen? ⟨w.heap.size, 0, none⟩ = false := free_at (HI2.out.grown m7.out).ln.res; have hS8 : ((z7.setCell ⟨w.heap.size, 0, none⟩ (.bool true)).cell? ⟨N, 0, none⟩ = some (.int .i64 (LE : Nat)) ∧ (z7.setCell ⟨w.heap.size, 0, none⟩ (.bool true)).cell? ⟨m + 1 + 1, 0, none⟩ = some (.pointer (some ⟨m, 0, none⟩)) ∧ (z7.setCell ⟨w.heap.size, 0, none⟩ (.bool true)).cell? ⟨m, 0, none⟩ = some (.slice ta LE tc)) := ⟨(World.cell?_setCell_far _ _ _ _ (show w.heap.size ≠ N by omega)).trans hS7.1, (World.cell?_setCell_far _ _ _ _ (show w.heap.size ≠ m + 1 + 1 by omega)).trans hS7.2.1, (World.cell?_setCell_far _ _ _ _ (show w.heap.size ≠ m by omega)).trans hS7.2.2⟩; clear hlo hfa hfm)
                | (go_at_call 16; have m99 := m5; refine (len_nil _).mono ?_; rintro e z6 ⟨rfl, hbz6⟩; have m6 : Hid (Below W2.heap.size W2 z6) := Hid.mk (by rw [hbz6]; exact m5.out); have hS6 := HSOF.out _ (HI2.out.grown m6.out); clear hbz6)
                | (go_at_call 15; have m99 := m4; refine (stamp_nil _).mono ?_; rintro e z5 ⟨rfl, hbz5⟩; have m5 : Hid (Below W2.heap.size W2 z5) := Hid.mk (by rw [hbz5]; exact m4.out); have hS5 := HSOF.out _ (HI2.out.grown m5.out); clear hbz5)
                | (go_at_call 10; have m99 := m3; refine (note_nil _ _ _ _ _).mono ?_; rintro e z4 ⟨rfl, hbz4⟩; have m4 := Hid.mk (m3.out.trans (hbz4.mono m3.out.size)); have hS4 := HSOF.out _ (HI2.out.grown m4.out); clear hbz4)
                | (go_at_call 11; have m99 := m2; refine (HNOW3.out _ m2.out).mono ?_; rintro e z3 ⟨rfl, hbz3⟩; have m3 := Hid.mk (m2.out.trans (hbz3.mono m2.out.size)); have hS3 := HSOF.out _ (HI2.out.grown m3.out); clear hbz3)
                | (go_at_call 13; have m99 := m1; refine (valid_nil _ _ _).mono ?_; rintro e z2 ⟨rfl, hbz2⟩; have m2 := Hid.mk (m1.out.trans (hbz2.mono m1.out.size)); have hS2 := HSOF.out _ (HI2.out.grown m2.out); clear hbz2)
                | (go_at_call 11; refine (HNOW3.out _ HY0.out).mono ?_; rintro e z1 ⟨rfl, hbz1⟩; have m1 := Hid.mk (HY0.out.trans (hbz1.mono HY0.out.size)); have hS1 := HSOF.out _ (HI2.out.grown m1.out); clear hbz1))
            all_goals
              refine NoPanic.normal ?_
              have HK7 : Hid (z7.heap[D2]? = some (.deferred (some []))) := Hid.mk ((m7.out.block _ (Array.getElem?_eq_some_iff.1 HK2.out).1).trans HK2.out)
              have HD7 : Hid (z7.heap[D]? = some (.deferred (some []))) := Hid.mk ((m7.out.block _ (Array.getElem?_eq_some_iff.1 HKD.out).1).trans HKD.out)
              have HB7 := Hid.mk (HI2.out.grown m7.out).ln.below
              have CR7 := Hid.mk cr7
              clear hS1 hS2 hS3 hS4 hS5 hS6 hS7 hS8 cr7 fr7 d1 d2 d3
              gi_wp2
              have hK' := (KeepsOthers.setCell z7 ⟨w.heap.size, 0, none⟩ (.bool true)).same D2 _ HK7.out rfl
              refine ⟨by simp, .inl ⟨_, _, rfl, run_takeDeferred hK', ?_⟩⟩
              have hc5 := cell_kept (World.cell?_setCell_same' z7 ⟨w.heap.size, 0, none⟩ (.bool true) (by rw [CR7.out]; rfl)) (grownBy_putObj' _ D2 (.deferred none)) (fun r e => by cases e; exact ⟨_, hK', rfl⟩)
              have hb5 := (HB7.out.setCell (p := ⟨w.heap.size, 0, none⟩) (Nat.le_refl _) (.bool true)).trans (belowK_b (w := w) (Nat.le_refl _) _ D2 _ (.deferred none) (Nat.le_trans HLb.out.ln.sizeB HD2.out) hK' rfl rfl)
              have hK6 : ((z7.setCell ⟨w.heap.size, 0, none⟩ (.bool true)).putObj D2 (.deferred none)).heap[D]? = some (.deferred (some [])) := by
                have h1 := (KeepsOthers.setCell z7 ⟨w.heap.size, 0, none⟩ (.bool true)).same D _ HD7.out rfl
                have hne : D2 ≠ D := by have := HDb.out; have := HD2.out; omega
                simp only [World.putObj]
                rw [Array.getElem?_setIfInBounds_ne hne]
                exact h1
              refine ⟨by simp, .inl ⟨_, _, rfl, run_takeDeferred hK6, ?_⟩⟩
              have hc6 := cell_kept hc5 (grownBy_putObj' _ D (.deferred none)) (fun r e => by cases e; exact ⟨_, hK6, rfl⟩)
              refine ⟨.bool true, ?_, rfl, hb5.trans (belowK_b (w := w) (Nat.le_refl _) _ D _ _ (Nat.le_trans HL8.out.ln.sizeB HDB.out) hK6 rfl rfl)⟩
              simp [results, Try.f3, go_sem, hc6]
        | false =>
          rw [hB] at his
          have HIS := Hid.mk his
          obtain rfl : V = 0 := by rw [hV]; exact ofF_no _ kk ii hB
          clear his hB hV hVA
          gi_wp2_with fail
          refine wpIn_wide.2 ?_
          refine wp_region_wider (B := wa.heap.size) (w0 := wa) (by kernel_rfl) (by kernel_rfl) (Below.refl _ wa) ?_
          repeat (go_big_quiet_step ((first
            | (go_at_call 20; refine (HIS.out _).mono ?_; rintro e w6 ⟨rfl, hb6⟩; exact ⟨rfl, ⟨w6, by rename_i g; exact farther (Nat.le_refl _) g.h hb6⟩, rfl⟩)
            | (go_at_call 21; refine (HAT.out _).mono ?_; rintro e w6 ⟨rfl, hb6⟩; exact ⟨rfl, ⟨w6, by rename_i g; exact farther (Nat.le_refl _) g.h hb6⟩, rfl⟩))))
          refine wpQuiet_nil ?_
          rintro z ⟨g, hg⟩
          have hz : Below wa.heap.size wa z := by rw [hg]; exact g.h
          have HLz := Hid.mk (HLa.out.grown hz)
          have HKz := Hid.mk ((hz.block _ (Array.getElem?_eq_some_iff.1 HKa.out).1).trans HKa.out)
          clear hg g hz kx0 kx1 kw hne
          gi_wp2_with fail
          refine ⟨trivial, (all_in _ _ _).mono ?_⟩
          rintro e wb ⟨rfl, hwb⟩
          obtain ⟨ZT, hZT⟩ : ∃ ZT, ZT = z.heap.size := ⟨_, rfl⟩
          rw [← hZT]
          have hbb : Below z.heap.size z wb := by rw [hwb]; exact (Below.refl _ _).alloc (Nat.le_refl _) _
          have hcb : wb.cell? ⟨ZT, 0, none⟩ = some (.pointer none) := by rw [hwb, hZT]; exact cell_at (heap_new _ _) rfl
          have hlb := HLz.out.grown hbb
          have hkb := (hbb.block _ (Array.getElem?_eq_some_iff.1 HKz.out).1).trans HKz.out
          have HLb := Hid.mk hlb
          have HKb := Hid.mk hkb
          have HCb := Hid.mk hcb
          have HDb : Hid (D < wb.heap.size) := Hid.mk (Array.getElem?_eq_some_iff.1 hkb).1
          clear hwb hZT hbb hcb hlb hkb HLz HKz HLa HKa
          gi_wp2
          refine range_over2 (gf := 24) (lb := #[.pointer (some ⟨ZT, 0, none⟩)]) rfl (enters_of Try.func24 (by kernel_rfl) rfl)
            (nil_gives 5 _ wb HCb.out) (Below.refl _ _) (fun _ _ _ _ _ => trivial) (fun _ _ _ _ _ _ => trivial) (fun _ => rfl)
            (fun (pre : List Unit) X => LA w.heap.size w X C mw (mw + 1) m (m + 1) (m + 1 + 1) k A st E v u vt vv N (LE : Nat) ∧ X.heap[D]? = some (.deferred (some []))) (fun _ _ => False)
            (fun s X Y row hs hg hr => ⟨hs.1.kept hg hr HLb.out.ln.sizeB, (hg.block D (Array.getElem?_eq_some_iff.1 hs.2).1 (fun e => by have := (hr D e.symm).1; have := HDb.out; omega)).trans hs.2⟩) (fun _ _ _ _ h _ _ => h) ⟨HLb.out, HKb.out⟩ ?round ?done ?stop
          case stop => intro D pre X hD hS hF; exact hF.elim
          case round => intro l pre x X r hl hr hI hgood; exact hgood.elim
          case done =>
            rintro D2 ys W2 hD2 hys ⟨hI, hkD⟩ hK2
            obtain ⟨ta, tc, htv⟩ := row_shape hI.ln.r.th
            rw [← HLE.out] at htv
            have hsof := fun (z : World) (h : LA w.heap.size w z C mw (mw + 1) m (m + 1) (m + 1 + 1) k A st E v u vt vv N (LE : Nat)) => (show (z.cell? ⟨N, 0, none⟩ = some (.int .i64 (LE : Nat)) ∧ z.cell? ⟨m + 1 + 1, 0, none⟩ = some (.pointer (some ⟨m, 0, none⟩)) ∧ z.cell? ⟨m, 0, none⟩ = some (.slice ta LE tc)) from ⟨cell_at h.n rfl, cell_at h.ln.pm rfl, by rw [← htv]; exact h.ln.r.c0⟩)
            have hnow := fun (z : World) (hz : Below W2.heap.size W2 z) => now_any (hI.ln.w.grown hz) (by have := hI.ln.alen; have := HK80.out; omega)
            have HSOF := Hid.mk hsof
            have HNOW3 := Hid.mk hnow
            have HI2 := Hid.mk hI
            have HKD := Hid.mk hkD
            have HK2 := Hid.mk hK2
            have HD2 := Hid.mk hD2
            have HY0 := Hid.mk (Below.refl W2.heap.size W2).drew
            obtain ⟨d1, d2, d3⟩ := hsof W2 hI
            clear hys hI hkD hK2 hD2 hsof hnow htv
            gi_wp2_with fail
            refine Code.wpIn_mono NoPanic.imp ?_
            refine wpIn_wide.2 ?_
            go_region_held3 (fun wx => (wx.cell? ⟨N, 0, none⟩ = some (.int .i64 (LE : Nat)) ∧ wx.cell? ⟨m + 1 + 1, 0, none⟩ = some (.pointer (some ⟨m, 0, none⟩)) ∧ wx.cell? ⟨m, 0, none⟩ = some (.slice ta LE tc)))
              (first
                | exact ⟨d1, d2, d3⟩
                | exact hS8
                | exact hS7
                | exact hS6
                | exact hS5
                | exact hS4
                | exact hS3
                | exact hS2
                | exact hS1)
              (first
                | (go_at_call 18; have m99 := m6; refine (has_nil _ _ _).mono ?_; rintro e z7 ⟨rfl, hbz7⟩; have m7 := Hid.mk (m6.out.trans (hbz7.mono m6.out.size)); have hS7 := HSOF.out _ (HI2.out.grown m7.out); clear hbz7; have hlo := HI2.out.lo; have hfa := HI2.out.ln.far; have hfm := HI2.out.ln.fr m (.inl rfl); have cr7 : z7.cell? ⟨w.heap.size, 0, none⟩ = some (.bool false) := cell_at (HI2.out.grown m7.out).ln.res rfl; have fr7 : z7.frozen? ⟨w.heap.size, 0, none⟩ = false := free_at (HI2.out.grown m7.out).ln.res; have hS8 : ((z7.setCell ⟨w.heap.size, 0, none⟩ (.bool true)).cell? ⟨N, 0, none⟩ = some (.int .i64 (LE : Nat)) ∧ (z7.setCell ⟨w.heap.size, 0, none⟩ (.bool true)).cell? ⟨m + 1 + 1, 0, none⟩ = some (.pointer (some ⟨m, 0, none⟩)) ∧ (z7.setCell ⟨w.heap.size, 0, none⟩ (.bool true)).cell? ⟨m, 0, none⟩ = some (.slice ta LE tc)) := ⟨(World.cell?_setCell_far _ _ _ _ (show w.heap.size ≠ N by omega)).trans hS7.1, (World.cell?_setCell_far _ _ _ _ (show w.heap.size ≠ m + 1 + 1 by omega)).trans hS7.2.1, (World.cell?_setCell_far _ _ _ _ (show w.heap.size ≠ m by omega)).trans hS7.2.2⟩; clear hlo hfa hfm)
                | (go_at_call 16; have m99 := m5; refine (len_nil _).mono ?_; rintro e z6 ⟨rfl, hbz6⟩; have m6 : Hid (Below W2.heap.size W2 z6) := Hid.mk (by rw [hbz6]; exact m5.out); have hS6 := HSOF.out _ (HI2.out.grown m6.out); clear hbz6)
                | (go_at_call 15; have m99 := m4; refine (stamp_nil _).mono ?_; rintro e z5 ⟨rfl, hbz5⟩; have m5 : Hid (Below W2.heap.size W2 z5) := Hid.mk (by rw [hbz5]; exact m4.out); have hS5 := HSOF.out _ (HI2.out.grown m5.out); clear hbz5)
                | (go_at_call 10; have m99 := m3; refine (note_nil _ _ _ _ _).mono ?_; rintro e z4 ⟨rfl, hbz4⟩; have m4 := Hid.mk (m3.out.trans (hbz4.mono m3.out.size)); have hS4 := HSOF.out _ (HI2.out.grown m4.out); clear hbz4)
                | (go_at_call 11; have m99 := m2; refine (HNOW3.out _ m2.out).mono ?_; rintro e z3 ⟨rfl, hbz3⟩; have m3 := Hid.mk (m2.out.trans (hbz3.mono m2.out.size)); have hS3 := HSOF.out _ (HI2.out.grown m3.out); clear hbz3)
                | (go_at_call 13; have m99 := m1; refine (valid_nil _ _ _).mono ?_; rintro e z2 ⟨rfl, hbz2⟩; have m2 := Hid.mk (m1.out.trans (hbz2.mono m1.out.size)); have hS2 := HSOF.out _ (HI2.out.grown m2.out); clear hbz2)
                | (go_at_call 11; refine (HNOW3.out _ HY0.out).mono ?_; rintro e z1 ⟨rfl, hbz1⟩; have m1 := Hid.mk (HY0.out.trans (hbz1.mono HY0.out.size)); have hS1 := HSOF.out _ (HI2.out.grown m1.out); clear hbz1))
            all_goals
              refine NoPanic.normal ?_
              have HK7 : Hid (z7.heap[D2]? = some (.deferred (some []))) := Hid.mk ((m7.out.block _ (Array.getElem?_eq_some_iff.1 HK2.out).1).trans HK2.out)
              have HD7 : Hid (z7.heap[D]? = some (.deferred (some []))) := Hid.mk ((m7.out.block _ (Array.getElem?_eq_some_iff.1 HKD.out).1).trans HKD.out)
              have HB7 := Hid.mk (HI2.out.grown m7.out).ln.below
              have CR7 := Hid.mk cr7
              clear hS1 hS2 hS3 hS4 hS5 hS6 hS7 hS8 cr7 fr7 d1 d2 d3
              gi_wp2
              have hK' := (KeepsOthers.setCell z7 ⟨w.heap.size, 0, none⟩ (.bool true)).same D2 _ HK7.out rfl
              refine ⟨by simp, .inl ⟨_, _, rfl, run_takeDeferred hK', ?_⟩⟩
              have hc5 := cell_kept (World.cell?_setCell_same' z7 ⟨w.heap.size, 0, none⟩ (.bool true) (by rw [CR7.out]; rfl)) (grownBy_putObj' _ D2 (.deferred none)) (fun r e => by cases e; exact ⟨_, hK', rfl⟩)
              have hb5 := (HB7.out.setCell (p := ⟨w.heap.size, 0, none⟩) (Nat.le_refl _) (.bool true)).trans (belowK_b (w := w) (Nat.le_refl _) _ D2 _ (.deferred none) (Nat.le_trans HLb.out.ln.sizeB HD2.out) hK' rfl rfl)
              have hK6 : ((z7.setCell ⟨w.heap.size, 0, none⟩ (.bool true)).putObj D2 (.deferred none)).heap[D]? = some (.deferred (some [])) := by
                have h1 := (KeepsOthers.setCell z7 ⟨w.heap.size, 0, none⟩ (.bool true)).same D _ HD7.out rfl
                have hne : D2 ≠ D := by have := HDb.out; have := HD2.out; omega
                simp only [World.putObj]
                rw [Array.getElem?_setIfInBounds_ne hne]
                exact h1
              refine ⟨by simp, .inl ⟨_, _, rfl, run_takeDeferred hK6, ?_⟩⟩
              have hc6 := cell_kept hc5 (grownBy_putObj' _ D (.deferred none)) (fun r e => by cases e; exact ⟨_, hK6, rfl⟩)
              refine ⟨.bool true, ?_, rfl, hb5.trans (belowK_b (w := w) (Nat.le_refl _) _ D _ _ (Nat.le_trans HL8.out.ln.sizeB HDB.out) hK6 rfl rfl)⟩
              simp [results, Try.f3, go_sem, hc6]
set_option maxRecDepth 100000 in
theorem lifted (os : Os) (started : os.Started) (H : Type) (enc : TypeId × Value → H) :
    ReturnsInHanded {} Try.checked os 3 .any (Rows.readsNotesSpec.pre6 enc Try.prog Try.f3 Rows.readsNotesRow.domain false) (Rows.readsNotesSpec.post enc Try.prog Try.f3 false true false false) := by
  refine returnsInHanded_of_change (C := Try.checked) own started (by kernel_rfl) Try.func3
    (ChangeSpec.witness6 (enc := enc) (C := Try.checked) false ⟨#[], #[.slice none 0 0, .slice none 0 0, .int .i64 0, .int .i64 0], []⟩ 8 (by kernel_rfl) (by kernel_rfl) (by kernel_rfl) (by kernel_rfl)) ?_
  intro W base args ds gs before hval0 hW hcnd _
  have hval : ∀ (j : Nat) t v, Try.f3.params[j]? = some t → args[j]? = some v → Value.okWide Try.prog W .any base t v := hval0
  have hW' := hW
  obtain ⟨p, q, hA0, hV, rfl, hfz, hnd⟩ := hW
  have hA : DataW.TrodAll enc Try.prog W 0 (fun _ => true) true Try.f3.params.toList args.toList ds p := hA0
  rw [Try.params3] at hA hval
  obtain ⟨v0, vs0, d0, ds0, p0, q0, hargs, rfl, rfl, h0, r0⟩ := trodAll_cons hA
  obtain ⟨v1, vs1, d1, ds1, p1, q1, rfl, rfl, rfl, h1, r1⟩ := trodAll_cons r0
  obtain ⟨v2, vs2, d2, ds2, p2, q2, rfl, rfl, rfl, h2, r2⟩ := trodAll_cons r1
  obtain ⟨v3, vs3, d3, ds3, p3, q3, rfl, rfl, rfl, h3, r3⟩ := trodAll_cons r2
  obtain ⟨rfl, rfl, rfl⟩ := trodAll_nil r3
  obtain rfl : args = #[v0, v1, v2, v3] := by cases args; simp_all
  obtain ⟨rfl, rfl⟩ := trodVars_none hV
  obtain ⟨a0, len0, cap0, rfl⟩ := okWide_slice Try.underlying22 (hval 0 22 v0 rfl rfl)
  have k0 := h0
  have lt0 : ∀ x ∈ p0, x.block < W.heap.size := by obtain ⟨m, hm⟩ := k0; exact DataW.trod_lt m _ _ _ hm
  obtain ⟨ts0, w0⟩ : ∃ ts, IsThs W a0 len0 cap0 ts := by
    obtain ⟨fuel, hf⟩ := h0
    exact open_ths hf
  obtain ⟨a1, len1, cap1, rfl⟩ := okWide_slice Try.underlying23 (hval 1 23 v1 rfl rfl)
  have k1 := h1
  have lt1 : ∀ x ∈ p1, x.block < W.heap.size := by obtain ⟨m, hm⟩ := k1; exact DataW.trod_lt m _ _ _ hm
  obtain ⟨ts1, w1⟩ : ∃ ts, IsSps W a1 len1 cap1 ts := by
    obtain ⟨fuel, hf⟩ := h1
    exact open_sps hf
  obtain ⟨a2, rfl, rfl, rfl, w2⟩ := open_int Try.underlying3 (hval 2 3 v2 rfl rfl) h2
  obtain ⟨a3, rfl, rfl, rfl, w3⟩ := open_int Try.underlying3 (hval 3 3 v3 rfl rfl) h3
  clear hA0 hval0
  refine (walk a0 len0 cap0 ts0 a1 len1 cap1 ts1 a2 a3 W w0 w1).mono fun e W' ⟨he, bel⟩ => ?_
  subst he
  exact ⟨_, rfl, _, _, _, [], _, [], hW', trodAll_mk1 (shut_bool Try.underlying4 _), (trodAll_cons_mk (Below.trod laidOut (by kernel_rfl) (of_decide_eq_true (by kernel_rfl)) k0 bel lt0) (trodAll_cons_mk (Below.trod laidOut (by kernel_rfl) (of_decide_eq_true (by kernel_rfl)) k1 bel lt1) (trodAll_cons_mk (shut_int Try.underlying3 w2) (trodAll_cons_mk (shut_int Try.underlying3 w3) trodAll_mk0)))), rfl, bel.frame _, fun h => by cases h⟩

set_option maxRecDepth 100000 in
theorem over : Rows.readsNotesRow.holds Try.pinned (OpenSpec.ofChange Rows.readsNotesSpec) :=
  OpenClaim.holds_of_wide 3 Try.f3 rfl rfl rfl rfl rfl rfl rfl ⟨rfl, rfl, rfl, rfl, rfl⟩ rfl rfl rfl rfl rfl (by kernel_rfl) Try.func3 (by kernel_rfl)
    (of_decide_eq_true (by kernel_rfl)) (by unfold Func.isWrapper; first | (rw [if_pos (by decide +kernel)]; kernel_rfl) | (rw [if_neg (by decide +kernel)]; exact ⟨rfl, rfl⟩))
    (fun os started H enc _ => lifted os started H enc)

end Go.Proofs.Ytafpfioonbdgnaa.readsNotes

namespace Go.Proofs.Ytafpfioonbdgnaa
/-- The statement. -/
theorem readsNotes_holds : Rows.ReadsNotesSaid := readsNotes.over
#print axioms readsNotes_holds
end Go.Proofs.Ytafpfioonbdgnaa
