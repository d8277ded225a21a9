/-
  ReadsOnce: for every list of changes ahead and every list of steps, the law returns true: as long as Note answers true, all that was read was so at one time: at the stamp. No condition.
-/
import Derived.Deep.CutRange
import Derived.Deep.CutBlock
import Derived.Deep.RegionLaw
import Derived.Test.YtafpfioonbdgnaaNStart
namespace Go.Proofs.Ytafpfioonbdgnaa.readsOnce
open Go.ChangeShapes Go.WideShapes Go.ChangeAt Go.RowKit Go.Deep Go.Shelf Go.Proofs.Ytafpfioonbdgnaa.Cel Go.Proofs.Ytafpfioonbdgnaa.Rng Go.Proofs.Ytafpfioonbdgnaa.Rds

/-- What lies between two steps. -/
structure St (B : Nat) (w0 W : World) (lo k : Nat) (b m : Nat) (A : List Th) (st : Int) (E : List En) : Prop where
  ex : ∃ v u, SetAt W b v st E ∧ WoAt W m u A ∧ (∀ q, Foot b [v] q → B ≤ q) ∧ ∀ q, Foot m [u] q → B ≤ q
  below : Below B w0 W
  is : IsE E
  lo : (lo : Int) ≤ st
  hi : st ≤ (A.length : Nat)
  once : thenB A st E = true
  alen : A.length ≤ 40 + k
  elen : E.length ≤ k

section
variable {B lo k b m : Nat} {w0 W W' : World} {A : List Th} {st : Int} {E : List En}

theorem St.size (h : St B w0 W lo k b m A st E) : B ≤ W.heap.size := by
  obtain ⟨v, u, h1, _, h3, _⟩ := h.ex
  have := h3 b (.inl rfl)
  have := h1.lt
  omega

theorem St.grown (h : St B w0 W lo k b m A st E) (hb : Below W.heap.size W W') : St B w0 W' lo k b m A st E := by
  obtain ⟨v, u, h1, h2, h3, h4⟩ := h.ex
  exact ⟨⟨v, u, h1.grown hb, h2.grown hb, h3, h4⟩, h.below.trans (hb.mono h.size), h.is, h.lo, h.hi, h.once, h.alen, h.elen⟩

theorem St.next (h : St B w0 W lo k b m A st E) : St B w0 W lo (k + 1) b m A st E := ⟨h.ex, h.below, h.is, h.lo, h.hi, h.once, by have := h.alen; omega, by have := h.elen; omega⟩

/-- A change. -/
theorem St.change {u u' : Value} {x : Th} (h : St B w0 W lo k b m A st E) (hw : WoAt W m u A) (hu : ∀ q, Foot m [u] q → B ≤ q) (hw2 : WoAt W' m u' (A ++ [x])) (hr : Wrote (Foot m [u]) (Foot m [u']) W W') : St B w0 W' lo (k + 1) b m (A ++ [x]) st E := by
  obtain ⟨v, _, h1, _, h3, _⟩ := h.ex
  have hs := h.size
  refine ⟨⟨v, u', h1.keep fun q hq => hr.block q (h1.foot_lt q hq) (fun e => set_wo h1 hw q e hq), hw2, h3, hr.lo hs hu⟩, h.below.trans (hr.below hs hu), h.is, h.lo, ?_, thenB_snoc h.hi x h.once, ?_, by have := h.elen; omega⟩
  · have := h.hi
    simp
    omega
  · have := h.alen
    simp
    omega

/-- A thing is read, and Note answers true. -/
theorem St.note {v v' : Value} {c i : Int} (h : St B w0 W lo k b m A st E) (hs : SetAt W b v st E) (hv : ∀ q, Foot b [v] q → B ≤ q) (hs2 : SetAt W' b v' (noteT (ofF (verF A)) (A.length : Nat) st E c i) (noteE (ofF (verF A)) st E c i))
    (hr : Wrote (Foot b [v]) (Foot b [v']) W W') (hk : isB c i = true) (hn : noteB (ofF (verF A)) st E c i = true) :
    St B w0 W' lo (k + 1) b m A (noteT (ofF (verF A)) (A.length : Nat) st E c i) (noteE (ofF (verF A)) st E c i) := by
  obtain ⟨_, u, _, h2, _, h4⟩ := h.ex
  have hz := h.size
  have hl := noteT_lo (vf := ofF (verF A)) (E := E) (k := c) (i := i) h.lo h.hi
  refine ⟨⟨v', u, hs2, h2.keep fun q hq => hr.block q (h2.foot_lt q hq) (fun e => set_wo hs h2 q hq e), hr.lo hz hv, h4⟩, h.below.trans (hr.below hz hv), noteE_is h.is hk, hl.1, hl.2, note_once h.hi h.is hk h.once hn, by have := h.alen; omega, ?_⟩
  have := noteE_length (ofF (verF A)) st E c i
  have := h.elen
  omega

end

set_option maxRecDepth 100000 in
set_option maxHeartbeats 8000000 in
theorem walk (a : Option Addr) (la ca : Nat) (xs : List Th) (c : Option Addr) (lc cc : Nat) (ss : List Sp) (w : World) (h1 : IsThs w a la ca xs) (h2 : IsSps w c lc cc ss) :
    Calls Try.prog 4 #[.slice a la ca, .slice c lc cc] w fun e w' => e = .returned (.bool true) ∧ Below w.heap.size w w' := by
  have H1 := Hid.mk h1
  have H2 := Hid.mk h2
  clear h1 h2
  go_enter Try.func4, Try.ntmps4
  go_wp2_with fail
  refine (alive_any w).mono ?_
  rintro e w1 ⟨rfl, hb1⟩
  have HB1 := Hid.mk hb1
  have H11 := Hid.mk (H1.out.carry hb1)
  have H21 := Hid.mk (H2.out.carry hb1)
  clear hb1
  go_wp2_with fail
  refine (great_any H11.out H21.out).mono ?_
  rintro e w2 ⟨rfl | ⟨rfl, hsm⟩, hb2⟩
  · have HB2 := Hid.mk (HB1.out.trans (hb2.mono HB1.out.size))
    clear hb2
    go_wp2
    go_ret
    exact ⟨rfl, HB2.out⟩
  have HSM := Hid.mk hsm
  have HB2 := Hid.mk (HB1.out.trans (hb2.mono HB1.out.size))
  have H12 := Hid.mk (H11.out.carry hb2)
  have H22 := Hid.mk (H21.out.carry hb2)
  clear hb2 hsm H11 H21 HB1
  have hla : la ≤ 40 := by have := HSM.out.ahead; have := H1.out.1; omega
  go_upto_region 5 with fail
  go_cut [5] from 14 to 18 (fun p wx => ∃ m u, p = .pointer (some ⟨m, 0, none⟩) ∧ WoAt wx m u xs ∧ (∀ q, Foot m [u] q → w.heap.size ≤ q) ∧ Below w.heap.size w wx)
  case first =>
    have hrow := World.ownsRow_lit (base := w.heap.size) (e := 36) (size := 2) w2 #[] 0 HB2.out.size (by decide) rfl
    have HR := Hid.mk hrow
    have HH := Hid.mk (H12.out.carry ((Below.refl _ _).alloc (Nat.le_refl _) (.cells #[] 36)))
    have hbz : w.heap.size ≤ w2.heap.size := HB2.out.size
    clear hrow
    go_wp2_with ((refine wpList_append_ths rfl _ _ rfl w.heap.size (.slice (some ⟨w2.heap.size, 0, none⟩) 0 0) 0 [] rfl HR.out a la ca xs rfl HH.out (by omega) (by simp; omega) ?_; intro v1 w3 hown hgrow; obtain ⟨va, vc, rfl⟩ := row_shape hown))
    have HOWN := Hid.mk hown
    have HG := Hid.mk hgrow
    clear hown hgrow
    go_meet
    case rel =>
      have hxl := H1.out.1
      have ho := HOWN.out
      rw [Nat.zero_add] at ho
      have hb3 : Below w.heap.size w w3 := (HB2.out.alloc HB2.out.size _).grown HG.out (by have := HB2.out.size; simp; omega) (fun k e => by
        have e' : w2.heap.size = k := by simpa [Value.ownBlock] using e
        have := HB2.out.size
        omega)
      refine ⟨w3.heap.size, .slice va la vc, rfl, ⟨heap_new _ _, ?_⟩, fun q hq => ?_, hb3.alloc hb3.size _⟩
      · rw [hxl]
        exact ownsRow_carry (ownsRow_low ho) fun k hk => Below.heap_alloc _ _ _ (ho.lt k hk).2
      · rcases hq with e | ⟨x, hx, e⟩
        · rw [e]; exact hb3.size
        · simp at hx
          subst hx
          exact (ho.lt q e).1
  case rest =>
    obtain ⟨m, u, rfl, hwo, hfo, hbw⟩ := hcut
    have HWO := Hid.mk hwo
    have HFO := Hid.mk hfo
    have HBW := Hid.mk hbw
    clear hwo hfo hbw H12 H22
    go_wp2_with fail
    refine (new_any (la : Nat) wc).mono ?_
    rintro e w5 ⟨rfl, hs5, hw5⟩
    have hxl := H1.out.1
    have hlc := H2.out.1
    have hb5 : Below wc.heap.size wc w5 := by rw [hw5]; exact (Below.refl _ _).alloc (Nat.le_refl _) _
    have hS0 : St w.heap.size w w5 la 0 wc.heap.size m xs (la : Nat) [] := by
      refine ⟨⟨_, u, hs5, HWO.out.grown hb5, fun q hq => ?_, HFO.out⟩, HBW.out.trans (hb5.mono HBW.out.size), fun e he => (by cases he), Int.le_refl _, by rw [hxl]; exact Int.le_refl _, rfl, by rw [hxl]; omega, Nat.le_refl _⟩
      rcases hq with e | ⟨x, hx, e⟩
      · rw [e]; exact HBW.out.size
      · simp at hx
        subst hx
        cases e
    obtain ⟨b, hb⟩ : ∃ b, b = wc.heap.size := ⟨_, rfl⟩
    rw [← hb] at hS0
    rw [← hb]
    have HS0 := Hid.mk hS0
    have HLC := Hid.mk hlc
    clear hS0 hs5 hw5 hb5 hxl hb HWO HFO HBW hlc
    go_wp2
    go_loopw [8, 24] (fun _ idx wr => ∃ (k : Nat) (A : List Th) (st : Int) (E : List En), k ≤ lc ∧ idx = .int .i64 k ∧ St w.heap.size w wr la k b m A st E) (fun _ idx _ => lc - (intOf idx).toNat)
    case atStart => exact ⟨0, xs, (la : Nat), [], Nat.zero_le _, rfl, HS0.out⟩
    case round =>
      clear HS0
      obtain ⟨k, A, st, E, hk, rfl, hst⟩ := hrel
      by_cases hlt : k < lc
      · have hkl : k < ss.length := by have := HLC.out; omega
        have hk80 : k < 80 := by have := HSM.out.steps; omega
        obtain ⟨g, off, rfl, hat⟩ := (H2.out.carry hst.below).at_ (by omega)
        have c0 := hat.k k hkl
        have c1 := hat.i k hkl
        have c2 := hat.c k hkl
        have his := HSM.out.ss k hkl
        obtain ⟨y, hy⟩ : ∃ y, y = ss[k]! := ⟨_, rfl⟩
        rw [← hy] at c0 c1 c2 his
        obtain ⟨y0, y1, y2⟩ := y
        dsimp only at c0 c1 c2 his
        have HIS := Hid.mk his
        have hgl := World.block_lt_of_cell? _ _ c0
        obtain ⟨X, hX⟩ : ∃ X, X = wr.heap.size := ⟨_, rfl⟩
        obtain ⟨W, hW⟩ : ∃ W, W = wr.alloc (.cells #[.int .i64 y0, .int .i64 y1, .bool y2] 38) := ⟨_, rfl⟩
        have hbW : Below wr.heap.size wr W := by rw [hW]; exact (Below.refl _ _).alloc (Nat.le_refl _) _
        have hxW : W.heap[X]? = some (.cells #[.int .i64 y0, .int .i64 y1, .bool y2] 38 (0, 0)) := by rw [hW, hX]; exact heap_new _ _
        have hstW := hst.grown hbW
        have HST := Hid.mk hstW
        have HXW := Hid.mk hxW
        have x0 : W.cell? ⟨X, 0, none⟩ = some (.int .i64 y0) := cell_at hxW rfl
        have x1 : W.cell? ⟨X, 1, none⟩ = some (.int .i64 y1) := cell_at hxW rfl
        have x2 : W.cell? ⟨X, 2, none⟩ = some (.bool y2) := cell_at hxW rfl
        have hXl : X < W.heap.size := (Array.getElem?_eq_some_iff.1 hxW).1
        obtain ⟨v, u, hs, hwo, hf1, hf2⟩ := hstW.ex
        have HS := Hid.mk hs
        have HWO := Hid.mk hwo
        have HF1 := Hid.mk hf1
        have HF2 := Hid.mk hf2
        go_upto_region 10 with fail
        rw [← hX, ← hW]
        clear hX hW hbW hxW hstW hst hat hs hwo hf1 hf2 c0 c1 c2 hy his
        cases y2 with
        | true =>
          obtain ⟨ua, uc, rfl⟩ := row_shape HWO.out.owns
          obtain ⟨NA, hNA⟩ : ∃ NA, NA = A.length := ⟨_, rfl⟩
          have hlt5 := HWO.out.lt
          have ag := HWO.out.own_b
          have hown := HWO.out.owns
          have d0 := HWO.out.c0
          have f0 := HWO.out.fz 0
          have hal := HST.out.alen
          rw [← hNA] at ag hown d0 hal
          have HNA := Hid.mk hNA
          clear hNA
          obtain ⟨i0, hi, hz0, hz1, hz2⟩ := info_parts Try.info36
          go_wp2_with fail
          go_region_law
            ((refine step_append_lies _ (by rfl) _ _ _ (by rfl) 0 36 i0 _ 2 16 Try.underlying22 hi hz0 hz1 hz2 rfl (by omega) (.slice ua NA uc) NA (thC A) (by rfl) ((hown.alloc _).drew) ⟨W.heap.size, 0, none⟩ 1 1 [.int .i64 y0, .int .i64 y1] (by rfl) (by rfl) (World.news_of_block (cs := #[.int .i64 y0, .int .i64 y1]) (t := 36) (fr := (0, 0)) (heap_alloc_new W _)) (by simp [Value.oneCell']) (by omega) (by unfold maxLen; omega) (by omega) (Nat.zero_le _) (W.heap.size + 1) (by simp) ?_; intro gg cap w5 hown1 hgrow hat hlt2; have c5 : w5.cell? ⟨m, 0, none⟩ = some (.slice ua NA uc) := (hgrow.cell_far ⟨m, 0, none⟩ (by simp; omega) (Ne.symm ag)).trans (by simp [World.cell?_alloc_some, d0]); have f5 : w5.frozen? ⟨m, 0, none⟩ = false := (hgrow.frozen_far ⟨m, 0, none⟩ (by simp; omega) (Ne.symm ag)).trans (by simp [World.frozen?_alloc_past, hlt5, f0])))
          all_goals
            have hY1 : Below W.heap.size W ((W.alloc (.cells #[.int .i64 y0, .int .i64 y1] 36)).drew) := ((Below.refl _ _).alloc (Nat.le_refl _) _).drew
            have hg2 := hgrow
            have hat2 := hat
            rw [HNA.out] at hown1 hg2 hat2
            have R := HWO.out.more (y0, y1) hown1 hY1 hg2 (by rcases hat2 with e | e; exact .inl e; exact .inr (by omega))
            have hn := HST.out.change HWO.out HF2.out R.1 R.2
            rw [← HNA.out] at hn
            have HN2 := Hid.mk hn
            clear R hn hY1 hown1 hgrow hg2 hat hat2 hlt2 c5 f5 hown hlt5 ag d0 f0 x0 x1 x2 hal hi hz0 hz1 hz2
            go_wp2
            go_roundw
            case rel => exact ⟨k + 1, _, st, E, by omega, by go_num, HN2.out⟩
            case measure => simp [intOf]; omega
        | false =>
          obtain ⟨NB, hNB⟩ : ∃ NB, NB = noteB (ofF (verF A)) st E y0 y1 := ⟨_, rfl⟩
          have hel := HST.out.elen
          have hnow := now_any HWO.out.drew (by have := HST.out.alen; omega)
          have hnote := fun (z : World) (hz : SetAt z b v st E) => note_any (verF A) (A.length : Nat) y0 y1 hz (by omega)
          rw [← hNB] at hnote
          have HNOW := Hid.mk hnow
          have HNOTE := Hid.mk hnote
          have HNB := Hid.mk hNB
          clear hnow hnote hNB hel
          go_wp2_with fail
          go_region_held3 (fun wx => wx.cell? ⟨X, 0, none⟩ = some (.int .i64 y0) ∧ wx.cell? ⟨X, 1, none⟩ = some (.int .i64 y1))
            (first
              | exact ⟨x0, x1⟩
              | exact hS2
              | exact hS1)
            (first
              | (go_at_call 10; have m2 := m1; refine (HNOTE.out _ d4.out).mono ?_; rintro e w6 ⟨rfl, v6, hs6, hr6⟩; have d6 := Hid.mk hs6; have r6 := Hid.mk hr6; have hx6 := (hr6.block X (Array.getElem?_eq_some_iff.1 xx4.out).1 (box_free d4.out xx4.out (by decide) (by decide))).trans xx4.out; have hS2 : w6.cell? ⟨X, 0, none⟩ = some (.int .i64 y0) ∧ w6.cell? ⟨X, 1, none⟩ = some (.int .i64 y1) := ⟨cell_at hx6 rfl, cell_at hx6 rfl⟩; clear hs6 hr6 hx6)
              | (go_at_call 11; refine HNOW.out.mono ?_; rintro e w4 ⟨rfl, hb4⟩; have m1 := Hid.mk hb4; have d4 := Hid.mk (HS.out.drew.grown hb4); have hx4 := (hb4.block X (Array.getElem?_eq_some_iff.1 (show W.drew.heap[X]? = _ from HXW.out)).1).trans (show W.drew.heap[X]? = _ from HXW.out); have xx4 := Hid.mk hx4; have hS1 : w4.cell? ⟨X, 0, none⟩ = some (.int .i64 y0) ∧ w4.cell? ⟨X, 1, none⟩ = some (.int .i64 y1) := ⟨cell_at hx4 rfl, cell_at hx4 rfl⟩; clear hb4 hx4))
          all_goals
            have hb4 : Below W.heap.size W w4 := (Below.refl W.heap.size W).drew.trans m1.out
            have hr := (Wrote.of_below (F := Foot b [v]) hb4).trans r6.out
            have HB6 := Hid.mk (HST.out.below.trans (hr.below HST.out.size HF1.out))
            cases NB with
            | false =>
              clear hb4 hr hS1 hS2 x0 x1 x2
              go_wp2
              go_ret
              exact ⟨rfl, HB6.out⟩
            | true =>
              have hn := HST.out.note HS.out HF1.out d6.out hr HIS.out HNB.out.symm
              obtain ⟨T, hT⟩ : ∃ T, T = noteT (ofF (verF A)) (A.length : Nat) st E y0 y1 := ⟨_, rfl⟩
              obtain ⟨E2, hE2⟩ : ∃ E2, E2 = noteE (ofF (verF A)) st E y0 y1 := ⟨_, rfl⟩
              rw [← hT, ← hE2] at hn
              have h6 := d6.out
              rw [← hT, ← hE2] at h6
              obtain ⟨_, u2, _, hwo2, _, _⟩ := hn.ex
              obtain ⟨NA, hNA⟩ : ∃ NA, NA = A.length := ⟨_, rfl⟩
              have hlo := hn.lo
              have hhi := hn.hi
              obtain ⟨ua, uc, rfl⟩ := row_shape hwo2.owns
              have d0 : ∀ n, (w6.drewN n).cell? ⟨m, 0, none⟩ = some (.slice ua NA uc) := fun n => by rw [hNA]; exact (hwo2.drewN n).c0
              rw [← hNA] at hhi
              have hsta := fun n => stamp_any (h6.drewN n)
              have hth := fun n => then_any (w6.drewN n) (hwo2.drewN n) (by have := hn.alen; omega) (h6.drewN n) (by have := hn.elen; omega)
              have HSTA := Hid.mk hsta
              have HTH := Hid.mk (show ∀ n, Calls Try.prog 22 #[.pointer (some ⟨m, 0, none⟩), .pointer (some ⟨b, 0, none⟩)] (w6.drewN n) fun e w' => e = .returned (.bool true) ∧ Below (w6.drewN n).heap.size (w6.drewN n) w' from fun n => by have h := hth n; rw [hn.once] at h; exact h)
              have HN2 := Hid.mk hn
              have t1 : ¬ ((NA : Nat) : Int) < T := by omega
              have t2 : ¬ T < ((la : Nat) : Int) := by omega
              have t3 : decide (((NA : Nat) : Int) < T) = false := by simpa using t1
              have t4 : decide (T < ((la : Nat) : Int)) = false := by simpa using t2
              clear hb4 hr hS1 hS2 x0 x1 x2 hn hT hE2 h6 hwo2 hNA hlo hhi hsta hth
              go_wp2_with fail
              go_quiet ((go_at_call 15; exact Calls.quiet_of_same (HSTA.out _)))
              clear d0
              go_wp2_with fail
              refine (HTH.out _).mono ?_
              rintro e w7 ⟨rfl, hb7⟩
              have HN7 := Hid.mk ((HN2.out.grown (below_drewN (Below.refl _ _) _)).grown hb7)
              clear hb7
              go_wp2
              go_roundw
              case rel => exact ⟨k + 1, A, T, E2, by omega, by go_num, HN7.out⟩
              case measure => simp [intOf]; omega
      · have hle : (lc : Int) ≤ (k : Int) := by omega
        have HBE := Hid.mk hst.below
        clear hst
        go_wp2
        go_ret
        exact ⟨rfl, HBE.out⟩
set_option maxRecDepth 100000 in
theorem lifted (os : Os) (started : os.Started) (H : Type) (enc : TypeId × Value → H) :
    ReturnsInHanded {} Try.checked os 4 .any (Rows.readsOnceSpec.pre6 enc Try.prog Try.f4 Rows.readsOnceRow.domain false) (Rows.readsOnceSpec.post enc Try.prog Try.f4 false true false false) := by
  refine returnsInHanded_of_change (C := Try.checked) own started (by kernel_rfl) Try.func4
    (ChangeSpec.witness6 (enc := enc) (C := Try.checked) false ⟨#[], #[.slice none 0 0, .slice none 0 0], []⟩ 8 (by kernel_rfl) (by kernel_rfl) (by kernel_rfl) (by kernel_rfl)) ?_
  intro W base args ds gs before hval0 hW hcnd _
  have hval : ∀ (j : Nat) t v, Try.f4.params[j]? = some t → args[j]? = some v → Value.okWide Try.prog W .any base t v := hval0
  have hW' := hW
  obtain ⟨p, q, hA0, hV, rfl, hfz, hnd⟩ := hW
  have hA : DataW.TrodAll enc Try.prog W 0 (fun _ => true) true Try.f4.params.toList args.toList ds p := hA0
  rw [Try.params4] at hA hval
  obtain ⟨v0, vs0, d0, ds0, p0, q0, hargs, rfl, rfl, h0, r0⟩ := trodAll_cons hA
  obtain ⟨v1, vs1, d1, ds1, p1, q1, rfl, rfl, rfl, h1, r1⟩ := trodAll_cons r0
  obtain ⟨rfl, rfl, rfl⟩ := trodAll_nil r1
  obtain rfl : args = #[v0, v1] := by cases args; simp_all
  obtain ⟨rfl, rfl⟩ := trodVars_none hV
  obtain ⟨a0, len0, cap0, rfl⟩ := okWide_slice Try.underlying22 (hval 0 22 v0 rfl rfl)
  have k0 := h0
  have lt0 : ∀ x ∈ p0, x.block < W.heap.size := by obtain ⟨m, hm⟩ := k0; exact DataW.trod_lt m _ _ _ hm
  obtain ⟨ts0, w0⟩ : ∃ ts, IsThs W a0 len0 cap0 ts := by
    obtain ⟨fuel, hf⟩ := h0
    exact open_ths hf
  obtain ⟨a1, len1, cap1, rfl⟩ := okWide_slice Try.underlying23 (hval 1 23 v1 rfl rfl)
  have k1 := h1
  have lt1 : ∀ x ∈ p1, x.block < W.heap.size := by obtain ⟨m, hm⟩ := k1; exact DataW.trod_lt m _ _ _ hm
  obtain ⟨ts1, w1⟩ : ∃ ts, IsSps W a1 len1 cap1 ts := by
    obtain ⟨fuel, hf⟩ := h1
    exact open_sps hf
  clear hA0 hval0
  refine (walk a0 len0 cap0 ts0 a1 len1 cap1 ts1 W w0 w1).mono fun e W' ⟨he, bel⟩ => ?_
  subst he
  exact ⟨_, rfl, _, _, _, [], _, [], hW', trodAll_mk1 (shut_bool Try.underlying4 _), (trodAll_cons_mk (Below.trod laidOut (by kernel_rfl) (of_decide_eq_true (by kernel_rfl)) k0 bel lt0) (trodAll_cons_mk (Below.trod laidOut (by kernel_rfl) (of_decide_eq_true (by kernel_rfl)) k1 bel lt1) trodAll_mk0)), rfl, bel.frame _, fun h => by cases h⟩

set_option maxRecDepth 100000 in
theorem over : Rows.readsOnceRow.holds Try.pinned (OpenSpec.ofChange Rows.readsOnceSpec) :=
  OpenClaim.holds_of_wide 4 Try.f4 rfl rfl rfl rfl rfl rfl rfl ⟨rfl, rfl, rfl, rfl, rfl⟩ rfl rfl rfl rfl rfl (by kernel_rfl) Try.func4 (by kernel_rfl)
    (of_decide_eq_true (by kernel_rfl)) (by unfold Func.isWrapper; first | (rw [if_pos (by decide +kernel)]; kernel_rfl) | (rw [if_neg (by decide +kernel)]; exact ⟨rfl, rfl⟩))
    (fun os started H enc _ => lifted os started H enc)

end Go.Proofs.Ytafpfioonbdgnaa.readsOnce

namespace Go.Proofs.Ytafpfioonbdgnaa
/-- The statement. -/
theorem readsOnce_holds : Rows.ReadsOnceSaid := readsOnce.over
#print axioms readsOnce_holds
end Go.Proofs.Ytafpfioonbdgnaa
